/- The reference's Made, for all pairs; the laws' made. -/
import Derived.Test.YtgaehhapjnbieaaGreatqWq
import Derived.Test.YtgaehhapjnbieaaGreatqWr
set_option linter.unusedSectionVars false
set_option linter.unusedVariables false
set_option linter.unusedSimpArgs false
namespace Go.Proofs.YtgaehhapjnbieaaGreat
open Go.RowKit
section
variable {l : List Rat}
def md_V (l:List Rat):VL:=⟨fun k=>match k with | 20=>((l.length / 2:Nat):Int) | _=>0,fun k=>match k with | 3=>l | _=>[],fun _=>0,fun _=>[]⟩
theorem md_qD (i:Nat):qD (md_V l) (md_q i)=numOf (l.getD (2*i) 0).num (l.getD (2*i+1) 0).num:=by
 have e:qD (md_V l) (md_q i)=if zD (md_V l) (.ap 2 (.v 3) (.lit ((2*i+1:Nat):Int)))=0 then (zD (md_V l) (.ap 2 (.v 3) (.lit ((2*i:Nat):Int))):Rat) else Rat.divInt (zD (md_V l) (.ap 2 (.v 3) (.lit ((2*i:Nat):Int)))) (zD (md_V l) (.ap 2 (.v 3) (.lit ((2*i+1:Nat):Int)))):=by
  unfold md_q
  simp only [qD]
 rw [e]
 rfl
theorem madeR_len (m:Nat):(madeR l m).length=m:=by simp [madeR]
theorem madeR_cf {m i:Nat} (h:i<m):cf (madeR l m) i=qD (md_V l) (md_q i):=by
 rw [md_qD,cf_in (by rw [madeR_len]; exact h)]
 simp [madeR]
theorem md_fa (hl:l.length≤1000000000000000) {lo m k:Nat} {ex:Bool} (h1:if ex then l.length / 2=lo else lo+1≤l.length / 2) (hm:m=lo) (hk:k≤m) (hz:∀ i,k≤i→cf (madeR l m) i=0) (ht:k=0 ∨ cf (madeR l m) (k - 1)≠0):FaOK (md_V l) (md_F lo ex m k):=by
 refine ⟨rfl,fun j=>?_,?_,?_,fun _ h=>(by cases h),?_,fun _ h=>(by cases h),fun _ h=>(by cases h),fun _ h=>(by cases h)⟩
 ·show -1152921504606846976≤(match j with | 20=>((l.length / 2:Nat):Int) | _=>0)∧(match j with | 20=>((l.length / 2:Nat):Int) | _=>0)≤(1152921504606846976:Int)
  split <;> omega
 ·intro x hx
  cases ex with
  | true =>
   have h1:l.length / 2=lo:=by simpa using h1
   simp only [md_F,if_true,List.mem_cons,List.not_mem_nil,or_false] at hx
   rcases hx with rfl | rfl
   ·show (0:Int)≤((l.length / 2:Nat):Int) + -(lo:Int)
    omega
   ·show ((l.length / 2:Nat):Int)≤0+(lo:Int)
    omega
  | false =>
   have h1:lo+1≤l.length / 2:=by simpa using h1
   simp only [md_F,Bool.false_eq_true,if_false,List.mem_cons,List.not_mem_nil,or_false] at hx
   subst hx
   show (0:Int)≤((l.length / 2:Nat):Int)+(-(lo:Int) - 1)
   omega
 ·intro x hx
  simp only [md_F,List.mem_singleton] at hx
  subst hx
  simp only [lD,List.length_take]
  show ((min (l.length / 2) l.length:Nat):Int)=((l.length / 2:Nat):Int)+0
  omega
 ·intro x hx
  simp only [md_F] at hx
  rcases List.mem_append.1 hx with hx | hx
  ·obtain ⟨i,hi,rfl⟩:=List.mem_map.1 hx
   have hi:i<m - k:=by simpa using hi
   refine decide_eq_true ?_
   show qD (md_V l) (md_q (k+i))=0
   rw [← madeR_cf (m:=m) (by omega)]
   exact hz _ (by omega)
  ·split at hx
   ·cases hx
   ·rename_i h0
    rw [List.mem_singleton] at hx
    subst hx
    refine decide_eq_false ?_
    show ¬ qD (md_V l) (md_q (k - 1))=0
    rw [← madeR_cf (m:=m) (by omega)]
    rcases ht with ht | ht
    ·exact absurd ht h0
    ·exact ht
theorem kMade {n:Nat} (hn:md_ok n=true) (hl:l.length≤1000000000000000) {M:Nat→Prop} {w:World} {v:Value} (hm0:∀ b,M b→b<w.heap.size) (hv:(XP.prs l).p M w [v]) :
  LCall 53 M w [v,.int .i64 (n:Int)] (madeC l n):=by
 have hvs:@RVs (envD (md_V l)) noR M w (md_xs n) [v,.int .i64 (n:Int)]:=by
  refine ⟨v,_,rfl,?_,_,_,rfl,rfl,rfl⟩
  show @Rp (envD (md_V l)) noR M w _ [v]
  unfold Rp
  exact ⟨rfl,hv⟩
 generalize hm:min (l.length / 2) n=m
 obtain ⟨k,hk,hz,ht⟩:=trim_at (madeR l m) (madeR l m).length (Nat.le_refl _) fun i hi=>cf_out hi
 rw [madeR_len] at hk
 have he:madeC l n=((List.range k).map fun i=>qD (md_V l) (md_q i)):=by
  unfold madeC
  rw [hm,← trimC_take (by rw [madeR_len]; exact hk) hz ht]
  apply List.ext_getElem
  ·simp [madeR,hk]
  ·intro i h1 h2
   have h3:i<k:=by simpa using h2
   rw [List.getElem_take,← cf_in (by rw [madeR_len]; omega),madeR_cf (by omega)]
   simp
 have main:∀ lo ex,(if ex then l.length / 2=lo else lo+1≤l.length / 2)→m=lo→md_t n lo ex m k=true→LCall 53 M w [v,.int .i64 (n:Int)] (madeC l n):=fun lo ex h1 h2 h3=>by
  unfold md_t at h3
  split at h3
  ·rename_i qs hq
   have:=sameQ_eq h3
   subst this
   have hc:=vm_fresh (md_fa hl h1 h2 hk hz ht) (fun e he=>by rw [List.mem_singleton] at he; subst he; exact pMadeC_ok) hq hm0 hvs
   rw [List.map_map] at hc
   rw [he]
   exact hc
  ·cases h3
 unfold md_ok at hn
 have hmn:m≤n:=by omega
 have h1:=List.all_eq_true.1 (List.all_eq_true.1 hn m (by simp; omega)) k (by simp; omega)
 rw [Bool.and_eq_true] at h1
 by_cases hlt:l.length / 2≤n
 ·exact main m true (by simp; omega) rfl h1.1
 ·have hmn:m=n:=by omega
  subst hmn
  have h2:=h1.2
  rw [if_pos (Nat.beq_refl m)] at h2
  exact main m false (by simp; omega) rfl h2
end
end Go.Proofs.YtgaehhapjnbieaaGreat
namespace Go.Proofs.YtgaehhapjnbieaaGreat
open Go.RowKit
section
variable {l : List Rat} {n : Nat}
theorem madeC_len:(madeC l n).length≤n:=by
 have:=trimC_len (madeR l (min (l.length / 2) n))
 rw [madeR_len] at this
 unfold madeC
 omega
theorem madeC_tr:Trimmed (madeC l n):=(trimC_cf _).1
theorem getD_i8 (hb:∀ q∈l,-128≤q.num∧q.num≤127) (i:Nat) : -128≤(l.getD i 0).num∧(l.getD i 0).num≤127:=by
 rw [List.getD_eq_getElem?_getD]
 cases hg:l[i]? with
 | none=>decide
 | some x=>exact hb x (List.mem_of_getElem? hg)
theorem madeC_sm (hb:∀ q∈l,-128≤q.num∧q.num≤127):∀ y∈madeC l n,RSm y 1:=RSm_of_cf fun k=>by
 unfold madeC
 rw [(trimC_cf _).2]
 by_cases hk:k<min (l.length / 2) n
 ·rw [cf_in (by rw [madeR_len]; exact hk)]
  simp only [madeR,List.getElem_map,List.getElem_range]
  exact numOf_sm (getD_i8 hb _) (getD_i8 hb _)
 ·rw [cf_out (by rw [madeR_len]; omega)]
  exact rsm0
end
def mk_P:List (AV × AV):=(.val (.int .i64 5),.val (.int .i64 5)) :: (.val (.int .i64 3),.val (.int .i64 3)) :: pd_P
noncomputable def mk_q (k:Nat) (n:Int) (r:Nat):PE:=peOf 53 mk_P [.ext 1 false (.ap 56 (.v k) (.lit 0)),.val (.int .i64 n)] (aL (.v r))
noncomputable def mk_pe:PE:=⟨53,orG (mk_q 3 5 0).g (orG (mk_q 4 5 1).g (mk_q 5 3 2).g)⟩
noncomputable def mk_f:Func:=Tryz.f11
noncomputable def mk_c:Code:=bodyOf mk_f
noncomputable def mk_r:=runF (tbF fa0 [mk_pe]) plainL 100 100 (.run mk_c) [] (begS mk_f.ntmps [.agg pd_X])
set_option maxRecDepth 100000
theorem mk_e:mk_r=some (.done .ret (stopS mk_r)):=by kernel_rfl
theorem mk_x:endA mk_f (stopS mk_r)=some (.tup [aL (.v 0),aL (.v 1),aL (.v 2)]):=by kernel_rfl
theorem mk_b:mk_f.body=some mk_c:=by kernel_rfl
theorem mk_l:Nat.ble 1 mk_f.ntmps=true:=by kernel_rfl
theorem mk_Le {V:VL}:∀ p∈mk_P,Le V V p:=by
 intro p hp
 rcases List.mem_cons.1 hp with rfl | hp
 ·intro ρ ρ' M w cs r
  unfold Rp at r ⊢
  exact r
 rcases List.mem_cons.1 hp with rfl | hp
 ·intro ρ ρ' M w cs r
  unfold Rp at r ⊢
  exact r
 ·exact pd_Le p hp
section
variable {V : VL}
theorem mk_q_ok {k n r:Nat} (hn:md_ok n=true) (hl:(V.l k).length≤1000000000000000) (hr:V.l r=madeC (V.l k) n):@PE.ok (envD V) (mk_q k n r):=by
 refine peOf_ok (fun _ _=>by simp [go_sem]) rfl rfl mk_Le fun M w vs hm0 hv=>?_
 obtain ⟨va,_,rfl,q1,vb,_,rfl,q2,q3⟩:=hv
 have q3:_=[]:=q3
 subst q3
 have q2:vb = .int .i64 (n:Int):=q2
 subst q2
 have q1:@Rp (envD V) noR M w (.ext 1 false (.ap 56 (.v k) (.lit 0))) [va]:=q1
 unfold Rp at q1
 exact (kMade hn hl hm0 q1.2).rv (by simp only [lD]; exact hr)
theorem mk_pe_ok (h3:(V.l 3).length≤1000000000000000) (h4:(V.l 4).length≤1000000000000000) (h5:(V.l 5).length≤1000000000000000) (r0:V.l 0=madeC (V.l 3) 5) (r1:V.l 1=madeC (V.l 4) 5) (r2:V.l 2=madeC (V.l 5) 3):@PE.ok (envD V) mk_pe:=
 orG_ok (mk_q_ok (n:=5) md_ok5 h3 r0) (orG_ok (mk_q_ok (n:=5) md_ok5 h4 r1) (mk_q_ok (n:=3) md_ok3 h5 r2))
theorem made3_ok (z0:V.z 0=0) (sm:∀ k,-1152921504606846976≤V.z k∧V.z k≤1152921504606846976) (h3:(V.l 3).length≤1000000000000000) (h4:(V.l 4).length≤1000000000000000) (h5:(V.l 5).length≤1000000000000000) (r0:V.l 0=madeC (V.l 3) 5) (r1:V.l 1=madeC (V.l 4) 5) (r2:V.l 2=madeC (V.l 5) 3):@PE.ok (envD V) pd_made:=by
 refine peOf_ok (fun _ _=>by simp [go_sem]) rfl rfl pd_Le fun M w vs hm0 hv=>?_
 refine Calls.mono (am_flat .ret (.inr rfl) (fa0_ok z0 sm) (fun e he=>?_) Tryz.func11 mk_b (by rfl) rfl (show [AV.agg pd_X].length≤mk_f.ntmps from Nat.le_of_ble_eq_true mk_l) mk_e mk_x hm0 hv) fun e w' ⟨u,e1,e2,e3⟩=>⟨u,e1,e2,e3⟩
 rw [List.mem_singleton] at he
 subst he
 exact mk_pe_ok h3 h4 h5 r0 r1 r2
end
end Go.Proofs.YtgaehhapjnbieaaGreat
