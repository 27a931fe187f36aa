/- The reference's Made, for all pairs; the laws' made. -/
import Derived.Test.YtgaehhapjnbieaaGreatqWr
set_option linter.unusedSectionVars false
set_option linter.unusedVariables false
set_option linter.unusedSimpArgs false
set_option maxRecDepth 100000
namespace Go.Proofs.YtgaehhapjnbieaaGreat
open Go.RowKit
section
variable {l : List Rat}
def LM(l:List Rat):VL:=⟨λk=>match k with | 20=>((l.length / 2:Nat):Int) | _=>0,λk=>match k with | 3=>l | _=>[],λ_=>0,λ_=>[]⟩
theorem AnQ(i:Nat):qD (LM l) (Ql i)=O1 (l.getD (2*i) 0).num (l.getD (2*i+1) 0).num:=by
 have e:qD (LM l) (Ql i)=if zD (LM l) (.ap 2 (.v 3) (.lit ((2*i+1:Nat):Int)))=0 then (zD (LM l) (.ap 2 (.v 3) (.lit ((2*i:Nat):Int))):Rat) else Rat.divInt (zD (LM l) (.ap 2 (.v 3) (.lit ((2*i:Nat):Int)))) (zD (LM l) (.ap 2 (.v 3) (.lit ((2*i+1:Nat):Int)))):=by
  unfold Ql;simp only [qD]
 rw [e];rfl
theorem E_(m:Nat):(H8 l m).length=m:=by simp [H8]
theorem Oq{m i:Nat}(h:i<m):cf (H8 l m) i=qD (LM l) (Ql i):=by
 rw [AnQ,C6 (by rw [E_]; exact h)];simp [H8]
theorem AoV(hl:l.length≤1000000000000000){lo m k:Nat}{ex:Bool}(h1:if ex then l.length / 2=lo else lo+1≤l.length / 2)(hm:m=lo)(hk:k≤m)(hz:∀ i,k≤i→cf (H8 l m) i=0)(ht:k=0 ∨ cf (H8 l m) (k - 1)≠0):AP (LM l) (nG lo ex m k):=by
 refine ⟨rfl,λj=>?_,?_,?_,λ_ h=>(by cases h),?_,λ_ h=>(by cases h),λ_ h=>(by cases h),λ_ h=>(by cases h)⟩
 ·show -1152921504606846976≤(match j with | 20=>((l.length / 2:Nat):Int) | _=>0)∧(match j with | 20=>((l.length / 2:Nat):Int) | _=>0)≤(1152921504606846976:Int)
  split <;> omega
 ·intro x hx
  cases ex with
  | true =>
   have h1:l.length / 2=lo:=by simpa using h1
   simp only [nG,if_true,List.mem_cons,List.not_mem_nil,or_false] at hx
   rcases hx with rfl | rfl
   ·show (0:Int)≤((l.length / 2:Nat):Int) + -(lo:Int)
    omega
   ·show ((l.length / 2:Nat):Int)≤0+(lo:Int)
    omega
  | false =>
   have h1:lo+1≤l.length / 2:=by simpa using h1
   simp only [nG,Bool.false_eq_true,if_false,List.mem_cons,List.not_mem_nil,or_false] at hx;subst hx;show (0:Int)≤((l.length / 2:Nat):Int)+(-(lo:Int) - 1);omega
 ·intro x hx
  simp only [nG,List.mem_singleton] at hx;subst hx;simp only [lD,List.length_take];show ((min (l.length / 2) l.length:Nat):Int)=((l.length / 2:Nat):Int)+0;omega
 ·intro x hx
  simp only [nG] at hx
  rcases List.mem_append.1 hx with hx | hx
  ·obtain ⟨i,hi,rfl⟩:=List.mem_map.1 hx
   have hi:i<m - k:=by simpa using hi
   refine decide_eq_true ?_;show qD (LM l) (Ql (k+i))=0;rw [← Oq (m:=m) (by omega)];exact hz _ (by omega)
  ·split at hx
   ·cases hx
   ·rename_i h0
    rw [List.mem_singleton] at hx;subst hx;refine decide_eq_false ?_;show ¬ qD (LM l) (Ql (k - 1))=0;rw [← Oq (m:=m) (by omega)]
    rcases ht with ht | ht
    ·exact absurd ht h0
    ·exact ht
theorem ArG{n:Nat}(hn:Xi n=true)(hl:l.length≤1000000000000000){M:Nat→Prop}{w:World}{v:Value}(hm0:∀ b,M b→b<w.heap.size)(hv:(XP.prs l).p M w [v]) :
  Bv 53 M w [v,.int .i64 (n:Int)] (Fo l n):=by
 have hvs:@Cz (Ae (LM l)) B4 M w (AgC n) [v,.int .i64 (n:Int)]:=by
  refine ⟨v,_,rfl,?_,_,_,rfl,rfl,rfl⟩;show @Rp (Ae (LM l)) B4 M w _ [v];unfold Rp;exact ⟨rfl,hv⟩
 generalize hm:min (l.length / 2) n=m;obtain ⟨k,hk,hz,ht⟩:=I5 (H8 l m) (H8 l m).length (Nat.le_refl _) λi hi=>A9 hi
 rw [E_] at hk;have he:Fo l n=((List.range k).map λi=>qD (LM l) (Ql i)):=by
  unfold Fo;rw [hm,← Eg (by rw [E_]; exact hk) hz ht];apply List.ext_getElem
  ·simp [H8,hk]
  ·intro i h1 h2
   have h3:i<k:=by simpa using h2
   rw [List.getElem_take,← C6 (by rw [E_]; omega),Oq (by omega)];simp
 have main:∀ lo ex,(if ex then l.length / 2=lo else lo+1≤l.length / 2)→m=lo→Afl n lo ex m k=true→Bv 53 M w [v,.int .i64 (n:Int)] (Fo l n):=λlo ex h1 h2 h3=>by
  unfold Afl at h3;split at h3
  ·rename_i qs hq
   have:=WJ h3;subst this;have hc:=Oz (AoV hl h1 h2 hk hz ht) (λe he=>by rw [List.mem_singleton] at he; subst he; exact Q4) hq hm0 hvs;rw [List.map_map] at hc;rw [he];exact hc
  ·cases h3
 unfold Xi at hn;have hmn:m≤n:=by omega
 have h1:=List.all_eq_true.1 (List.all_eq_true.1 hn m (by simp; omega)) k (by simp; omega);rw [Bool.and_eq_true] at h1
 by_cases hlt:l.length / 2≤n
 ·exact main m true (by simp; omega) rfl h1.1
 ·have hmn:m=n:=by omega
  subst hmn;have h2:=h1.2;rw [if_pos (Nat.beq_refl m)] at h2;exact main m false (by simp; omega) rfl h2
end
section
variable {l : List Rat} {n : Nat}
theorem RJ:(Fo l n).length≤n:=by
 have:=By (H8 l (min (l.length / 2) n));rw [E_] at this;unfold Fo;omega
theorem Wm:Ai (Fo l n):=(Bj _).1
theorem lE(hb:∀ q∈l,-128≤q.num∧q.num≤127)(i:Nat) : -128≤(l.getD i 0).num∧(l.getD i 0).num≤127:=by
 rw [List.getD_eq_getElem?_getD]
 cases hg:l[i]? with
 | none=>decide
 | some x=>exact hb x (List.mem_of_getElem? hg)
theorem WB(hb:∀ q∈l,-128≤q.num∧q.num≤127):∀ y∈Fo l n,At y 1:=C2 λk=>by
 unfold Fo;rw [(Bj _).2]
 by_cases hk:k<min (l.length / 2) n
 ·rw [C6 (by rw [E_]; exact hk)]
  simp only [H8,List.getElem_map,List.getElem_range];exact U6 (lE hb _) (lE hb _)
 ·rw [A9 (by rw [E_]; omega)]
  exact Ih
end
def Am3:List (AV × AV):=(.val (.int .i64 5),.val (.int .i64 5)) :: (.val (.int .i64 3),.val (.int .i64 3)) :: pU
noncomputable def AfN(k:Nat)(n:Int)(r:Nat):PE:=BE 53 Am3 [.ext 1 false (.ap 56 (.v k) (.lit 0)),.val (.int .i64 n)] (aL (.v r))
noncomputable def Af5:PE:=⟨53,UW (AfN 3 5 0).g (UW (AfN 4 5 1).g (AfN 5 3 2).g)⟩
noncomputable def lW:Func:=Tryz.f11
noncomputable def ApC:=Bw lW
noncomputable def AkZ:=AQ (BT Il [Af5]) Am 100 100 (.run ApC) [] (B5 lW.ntmps [.agg P7])
theorem AsF:AkZ=some (.done .ret (Af AkZ)):=by kernel_rfl
theorem Asv:Dz lW (Af AkZ)=some (.tup [aL (.v 0),aL (.v 1),aL (.v 2)]):=by kernel_rfl
theorem As3:lW.body=some ApC:=by kernel_rfl
theorem AsJ:Nat.ble 1 lW.ntmps=true:=by kernel_rfl
theorem Am0{V:VL}:∀ p∈Am3,Le V V p:=by
 intro p hp
 rcases List.mem_cons.1 hp with rfl | hp
 ·intro ρ ρ' M w cs r
  unfold Rp at r ⊢;exact r
 rcases List.mem_cons.1 hp with rfl | hp
 ·intro ρ ρ' M w cs r
  unfold Rp at r ⊢;exact r
 ·exact AbF p hp
section
variable {V : VL}
theorem S9{k n r:Nat}(hn:Xi n=true)(hl:(V.l k).length≤1000000000000000)(hr:V.l r=Fo (V.l k) n):@PE.ok (Ae V) (AfN k n r):=by
 refine AO (λ_ _=>by simp [go_sem]) rfl rfl Am0 λM w vs hm0 hv=>?_
 obtain ⟨va,_,rfl,q1,vb,_,rfl,q2,q3⟩:=hv;have q3:_=[]:=q3;subst q3;have q2:vb = .int .i64 (n:Int):=q2;subst q2;have q1:@Rp (Ae V) B4 M w (.ext 1 false (.ap 56 (.v k) (.lit 0))) [va]:=q1;unfold Rp at q1;exact (ArG hn hl hm0 q1.2).rv (by simp only [lD]; exact hr)
theorem tJ(h3:(V.l 3).length≤1000000000000000)(h4:(V.l 4).length≤1000000000000000)(h5:(V.l 5).length≤1000000000000000)(r0:V.l 0=Fo (V.l 3) 5)(r1:V.l 1=Fo (V.l 4) 5)(r2:V.l 2=Fo (V.l 5) 3):@PE.ok (Ae V) Af5:=
 Ed (S9 (n:=5) Abu h3 r0) (Ed (S9 (n:=5) Abu h4 r1) (S9 (n:=3) AkO h5 r2))
theorem Acm(z0:V.z 0=0)(sm:∀ k,-1152921504606846976≤V.z k∧V.z k≤1152921504606846976)(h3:(V.l 3).length≤1000000000000000)(h4:(V.l 4).length≤1000000000000000)(h5:(V.l 5).length≤1000000000000000)(r0:V.l 0=Fo (V.l 3) 5)(r1:V.l 1=Fo (V.l 4) 5)(r2:V.l 2=Fo (V.l 5) 3):@PE.ok (Ae V) Tc:=by
 refine AO (λ_ _=>by simp [go_sem]) rfl rfl AbF λM w vs hm0 hv=>?_
 refine Calls.mono (CP .ret (.inr rfl) (CS z0 sm) (λe he=>?_) Tryz.func11 As3 (by rfl) rfl (show [AV.agg P7].length≤lW.ntmps from Nat.le_of_ble_eq_true AsJ) AsF Asv hm0 hv) λe w' ⟨u,e1,e2,e3⟩=>⟨u,e1,e2,e3⟩
 rw [List.mem_singleton] at he;subst he;exact tJ h3 h4 h5 r0 r1 r2
theorem Afo(z0:V.z 0=0)(sm:∀ k,-1152921504606846976≤V.z k∧V.z k≤1152921504606846976)(hq:V.q 0=O1 (V.z 6) (V.z 7)):@PE.ok (Ae V) X7:=by
 refine AO (λ_ _=>by simp [go_sem]) rfl rfl AbF λM w vs hm0 hv=>?_
 refine Calls.mono (CP .ret (.inr rfl) (CS z0 sm) (λe he=>?_) Tryz.func12 Atk (by rfl) AsH (by decide) Atc Ath hm0 hv) λe w' ⟨u,e1,e2,e3⟩=>⟨u,e1,?_,e3⟩
 ·rw [List.mem_singleton] at he
  subst he;exact Q4
 ·obtain ⟨q1,q2⟩:=BN (V:=V) (ρ:=B4) e2
  have h:qD V (.ap 39 (.i 6 0) (.i 7 0))=V.q 0:=by
   rw [hq];simp only [qD,zD,O1,Int.add_zero]
  rw [h] at q1 q2;exact @Co.rv (Ae V) B4 M w' _ _ (Cp (q:=.v 0) q1 q2)
end
end Go.Proofs.YtgaehhapjnbieaaGreat
