/- PolyDivides: quotients and remainders satisfy their definition; the greatest common divisor divides both polynomials, is a combination of them, and that of multiples is the multiple. No condition. -/
import Derived.Test.YtgaehhapjnbieaaGreatqYj
import Derived.Test.YtgaehhapjnbieaaGreatqYd
import Derived.Test.YtgaehhapjnbieaaGreatRows
set_option linter.unusedSectionVars false
set_option linter.unusedVariables false
set_option linter.unusedSimpArgs false
namespace Go.Proofs.YtgaehhapjnbieaaGreat
open Go.RowKit
section
variable {V : VL} {P : List (AV × AV)} {e e' : CE} {r r' r'' : Nat}
theorem zAdd_ok (hP:∀ p∈P,Le V V p) (sa:∀ y∈lD V e,RSm y 99000000) (ha:(lD V e).length≤1000000) (sb:∀ y∈lD V e',RSm y 99000000) (hb:(lD V e').length≤1000000) (hr:V.l r=addC (lD V e) (lD V e')):@PE.ok (envD V) (peOf 20 P [aL e,aL e'] (aL (.v r))):=by
 refine peOf_ok (fun _ _=>by simp [go_sem]) rfl rfl hP fun M w vs hm0 hv=>?_
 obtain ⟨va,_,rfl,h1,vb,_,rfl,h2,h3⟩:=hv
 have h3:_=[]:=h3
 subst h3
 exact (kAddL sa sb ha hb hm0 (aL_out h1) (aL_out h2)).rv hr
theorem zEq_ok (hP:∀ p∈P,Le V V p) (sa:∀ y∈lD V e,RSm y 140000000) (ha:(lD V e).length≤1000000):@PE.ok (envD V) (peOf 17 P [aL e,aL e] (.val (.bool true))):=by
 refine peOf_ok (fun _ _=>by simp [go_sem]) rfl rfl hP fun M w vs hm0 hv=>?_
 obtain ⟨va,_,rfl,h1,vb,_,rfl,h2,h3⟩:=hv
 have h3:_=[]:=h3
 subst h3
 refine Calls.mono (kEqualL sa sa ha ha hm0 (aL_out h1) (aL_out h2)) fun e' w' ⟨q1,q2⟩=>⟨.bool true,?_,rfl,q2⟩
 rw [q1,decide_eq_true rfl]
theorem zGcd_ok (hP:∀ p∈P,Le V V p) {g:List Rat} (h:∀ (M:Nat→Prop) (w:World) (va vb:Value),(∀ b,M b→b<w.heap.size)→(XP.rats (lD V e)).p M w [va]→(XP.rats (lD V e')).p M w [vb]→LCall 18 M w [va,vb] g) (hr:V.l r=g):@PE.ok (envD V) (peOf 18 P [aL e,aL e'] (aL (.v r))):=by
 refine peOf_ok (fun _ _=>by simp [go_sem]) rfl rfl hP fun M w vs hm0 hv=>?_
 obtain ⟨va,_,rfl,h1,vb,_,rfl,h2,h3⟩:=hv
 have h3:_=[]:=h3
 subst h3
 exact (h _ _ _ _ hm0 (aL_out h1) (aL_out h2)).rv hr
theorem zExt_ok (hP:∀ p∈P,Le V V p) {g s t:List Rat} (h:∀ (M:Nat→Prop) (w:World) (va vb:Value),(∀ b,M b→b<w.heap.size)→(XP.rats (lD V e)).p M w [va]→(XP.rats (lD V e')).p M w [vb]→XCall M w [va,vb] (g,s,t)) (hr:V.l r=g) (hr':V.l r'=s) (hr'':V.l r''=t):@PE.ok (envD V) (peOf 15 P [aL e,aL e'] (.tup [aL (.v r),aL (.v r'),aL (.v r'')])):=by
 refine peOf_ok (fun _ _=>by simp [go_sem]) rfl rfl hP fun M w vs hm0 hv=>?_
 obtain ⟨va,_,rfl,h1,vb,_,rfl,h2,h3⟩:=hv
 have h3:_=[]:=h3
 subst h3
 refine Calls.mono (h _ _ _ _ hm0 (aL_out h1) (aL_out h2)) fun e w' ⟨v,q1,⟨u1,u2,u3,q2,q3,q4,q5⟩,q6⟩=>⟨v,q1,?_,q6⟩
 rw [q2]
 refine ⟨_,rfl,u1,_,rfl,aL_in (e:=.v r) ?_,u2,_,rfl,aL_in (e:=.v r') ?_,u3,_,rfl,aL_in (e:=.v r'') ?_,rfl⟩
 ·show (XP.rats (V.l r)).p M w' [u1]
  rw [hr]
  exact q3
 ·show (XP.rats (V.l r')).p M w' [u2]
  rw [hr']
  exact q4
 ·show (XP.rats (V.l r'')).p M w' [u3]
  rw [hr'']
  exact q5
theorem zDiv_ok (hP:∀ p∈P,Le V V p) {q s:List Rat} {n:Int} (h:∀ (M:Nat→Prop) (w:World) (va vb:Value),(∀ b,M b→b<w.heap.size)→(XP.rats (lD V e)).p M w [va]→(XP.rats (lD V e')).p M w [vb]→DCall M w [va,vb] q s n) (hr:V.l r=q) (hr':V.l r'=s):@PE.ok (envD V) (peOf 13 P [aL e,aL e'] (.tup [aL (.v r),aL (.v r'),.val (.int .i64 n)])):=by
 refine peOf_ok (fun _ _=>by simp [go_sem]) rfl rfl hP fun M w vs hm0 hv=>?_
 obtain ⟨va,_,rfl,h1,vb,_,rfl,h2,h3⟩:=hv
 have h3:_=[]:=h3
 subst h3
 refine Calls.mono (h _ _ _ _ hm0 (aL_out h1) (aL_out h2)) fun e w' ⟨v,q1,⟨u1,u2,q2,q3,q4⟩,q5⟩=>⟨v,q1,?_,q5⟩
 rw [q2]
 refine ⟨_,rfl,u1,_,rfl,aL_in (e:=.v r) ?_,u2,_,rfl,aL_in (e:=.v r') ?_,_,_,rfl,rfl,rfl⟩
 ·show (XP.rats (V.l r)).p M w' [u1]
  rw [hr]
  exact q3
 ·show (XP.rats (V.l r')).p M w' [u2]
  rw [hr']
  exact q4
end
structure DL where
 a:List Rat
 b:List Rat
 c:List Rat
 A:List Rat
 B:List Rat
 C:List Rat
 g:List Rat
 s:List Rat
 t:List Rat
 m:List Rat
 q1:List Rat
 q2:List Rat
 q:List Rat
 r:List Rat
def DL.V (D:DL) (x:Rat) (x0 x1:Int):VL:=⟨fun k=>match k with | 1=>(D.b.length:Int) | 2=>(D.g.length:Int) | 3=>(D.r.length:Int) | 6=>x0 | 7=>x1 | _=>0,
 fun k=>match k with | 0=>D.a | 1=>D.b | 2=>D.c | 3=>D.A | 4=>D.B | 5=>D.C | 10=>D.g | 11=>D.s | 12=>D.t | 13=>mulL D.s D.a | 14=>mulL D.t D.b | 16=>mulL D.a D.c | 17=>mulL D.b D.c | 18=>D.m | 19=>mulL D.g D.c | 20=>D.q1 | 22=>D.q2 | 23=>D.q | 24=>D.r | 25=>mulL D.q D.b | _=>[],
 fun k=>match k with | 0=>x | _=>0,fun _=>[]⟩
def dv_P:List (AV × AV):=([sp_L 0,sp_L 1,sp_L 2,sp_L 10,sp_L 11,sp_L 12,sp_L 13,sp_L 14,sp_L 16,sp_L 17,sp_L 18,sp_L 19,sp_L 23,sp_L 24,sp_L 25]).map fun a=>(a,a)
def dv_F (bz gz:Bool):Fa:=⟨(bif bz then [(1,0,0),(0,1,0)] else [(0,1,-1),(3,1,-1)]) ++ (bif gz then [(2,0,0)] else [(0,2,-1)]),[(.v 1,1,0),(.v 10,2,0),(.v 24,3,0),(.v 21,0,0)],[],[],[],[],[]⟩
noncomputable def dv_ext:PE:=peOf 15 dv_P [sp_L 0,sp_L 1] (.tup [sp_L 10,sp_L 11,sp_L 12])
noncomputable def dv_mu1 (i j k:Nat):PE:=peOf 24 dv_P [sp_L i,sp_L j] (sp_L k)
noncomputable def dv_mu:PE:=or2 (dv_mu1 11 0 13) (or2 (dv_mu1 12 1 14) (or2 (dv_mu1 0 2 16) (or2 (dv_mu1 1 2 17) (or2 (dv_mu1 10 2 19) (dv_mu1 23 1 25)))))
noncomputable def dv_ad1 (i j k:Nat):PE:=peOf 20 dv_P [sp_L i,sp_L j] (sp_L k)
noncomputable def dv_ad:Bool→PE
 | true=>dv_ad1 13 14 10
 | false=>or2 (dv_ad1 13 14 10) (dv_ad1 25 24 0)
noncomputable def dv_eq1 (i:Nat):PE:=peOf 17 dv_P [sp_L i,sp_L i] (.val (.bool true))
noncomputable def dv_eq:PE:=or2 (dv_eq1 10) (or2 (dv_eq1 18) (dv_eq1 0))
noncomputable def dv_gc1 (i j k:Nat):PE:=peOf 18 dv_P [sp_L i,sp_L j] (sp_L k)
noncomputable def dv_gc:PE:=or2 (dv_gc1 16 17 18) (dv_gc1 0 1 10)
noncomputable def dv_mo1 (i k:Nat):PE:=peOf 28 dv_P [sp_L i] (sp_L k)
noncomputable def dv_mo:PE:=or2 (dv_mo1 19 18) (dv_mo1 10 10)
noncomputable def dv_dm1 (i j q r:Nat) (n:Int):PE:=peOf 13 dv_P [sp_L i,sp_L j] (.tup [sp_L q,sp_L r,.val (.int .i64 n)])
noncomputable def dv_db:Bool→PE
 | true=>dv_dm1 0 1 21 21 3
 | false=>dv_dm1 0 1 23 24 0
noncomputable def dv_dm (bz:Bool):Bool→PE
 | true=>dv_db bz
 | false=>or2 (dv_db bz) (or2 (dv_dm1 0 10 20 21 0) (dv_dm1 1 10 22 21 0))
noncomputable def dv_L (bz gz:Bool):List PE:=[pd_san,pd_made,dv_ext,dv_mu,dv_ad bz,dv_eq,dv_gc,dv_mo,dv_dm bz gz]
noncomputable def dv_f:Func:=Tryz.f5
noncomputable def dv_c:Code:=bodyOf dv_f
noncomputable def dv_r (bz gz:Bool):=runF (tbF (dv_F bz gz) (dv_L bz gz)) plainL 100 100 (.run dv_c) [] (begS dv_f.ntmps [.agg pd_X])
set_option maxRecDepth 100000
theorem dv_e:∀ bz gz,dv_r bz gz=some (.done .ret (stopS (dv_r bz gz)))
 | true,true=>by kernel_rfl
 | true,false=>by kernel_rfl
 | false,true=>by kernel_rfl
 | false,false=>by kernel_rfl
theorem dv_x:∀ bz gz,endA dv_f (stopS (dv_r bz gz))=some (.val (.bool true))
 | true,true=>by kernel_rfl
 | true,false=>by kernel_rfl
 | false,true=>by kernel_rfl
 | false,false=>by kernel_rfl
theorem dv_b:dv_f.body=some dv_c:=by kernel_rfl
theorem dv_n:Nat.ble 1 dv_f.ntmps=true:=by kernel_rfl
end Go.Proofs.YtgaehhapjnbieaaGreat
namespace Go.Proofs.YtgaehhapjnbieaaGreat
open Go.RowKit
section
variable {D : DL} {x : Rat} {x0 x1 : Int} {bz gz : Bool}
theorem dv_ok (h1:bif bz then D.b=[] else D.b≠[]∧D.r.length<D.b.length) (h2:bif gz then D.g=[] else D.g≠[]) (lb:D.b.length≤1000000) (lg:D.g.length≤1000000) (lr:D.r.length≤1000000) (k0 : -128≤x0∧x0≤127) (k1 : -128≤x1∧x1≤127):FaOK (D.V x x0 x1) (dv_F bz gz):=by
 have hsm:∀ k,-1152921504606846976≤(D.V x x0 x1).z k∧(D.V x x0 x1).z k≤1152921504606846976:=fun k=>by
  unfold DL.V
  dsimp only
  split <;> omega
 have e1:∀ y∈(bif bz then [(1,0,(0:Int)),(0,1,0)] else [(0,1,-1),(3,1,-1)]),(D.V x x0 x1).z y.1≤(D.V x x0 x1).z y.2.1+y.2.2:=by
  cases bz
  ·have h1:D.b≠[]∧D.r.length<D.b.length:=h1
   have hp:=List.length_pos_iff.2 h1.1
   intro y hy
   simp only [cond_false,List.mem_cons,List.not_mem_nil,or_false] at hy
   rcases hy with rfl | rfl
   ·show (0:Int)≤(D.b.length:Int) + -1
    omega
   ·show (D.r.length:Int)≤(D.b.length:Int) + -1
    omega
  ·have h1:D.b=[]:=h1
   intro y hy
   simp only [cond_true,List.mem_cons,List.not_mem_nil,or_false] at hy
   rcases hy with rfl | rfl
   ·show (D.b.length:Int)≤0+0
    rw [h1]
    exact Int.le_refl _
   ·show (0:Int)≤(D.b.length:Int)+0
    omega
 have e2:∀ y∈(bif gz then [(2,0,(0:Int))] else [(0,2,-1)]),(D.V x x0 x1).z y.1≤(D.V x x0 x1).z y.2.1+y.2.2:=by
  cases gz
  ·have h2:D.g≠[]:=h2
   have hp:=List.length_pos_iff.2 h2
   intro y hy
   simp only [cond_false,List.mem_cons,List.not_mem_nil,or_false] at hy
   subst hy
   show (0:Int)≤(D.g.length:Int) + -1
   omega
  ·have h2:D.g=[]:=h2
   intro y hy
   simp only [cond_true,List.mem_cons,List.not_mem_nil,or_false] at hy
   subst hy
   show (D.g.length:Int)≤0+0
   rw [h2]
   exact Int.le_refl _
 refine ⟨rfl,hsm,fun y hy=>(List.mem_append.1 hy).elim (e1 y) (e2 y),?_,fun _ h=>(by cases h),fun _ h=>(by cases h),fun _ h=>(by cases h),fun _ h=>(by cases h),fun _ h=>(by cases h)⟩
 intro y hy
 simp only [dv_F,List.mem_cons,List.not_mem_nil,or_false] at hy
 rcases hy with rfl | rfl | rfl | rfl <;> exact (Int.add_zero _).symm
theorem dv_run (hF:FaOK (D.V x x0 x1) (dv_F bz gz)) (hE:∀ e∈dv_L bz gz,@PE.ok (envD (D.V x x0 x1)) e) {M:Nat→Prop} {w:World} {vs:List Value} (hm0:∀ b,M b→b<w.heap.size) (hv:@RVs (envD (D.V x x0 x1)) noR M w [.agg pd_X] vs):Calls Tryz.prog 5 vs.toArray w (GivesP (eqF (.bool true)) w):=
 Calls.mono (am_flat .ret (.inr rfl) hF hE Tryz.func5 dv_b (by rfl) rfl (show [AV.agg pd_X].length≤dv_f.ntmps from Nat.le_of_ble_eq_true dv_n) (dv_e bz gz) (dv_x bz gz) hm0 hv) fun e w' ⟨u,e1,e2,e3⟩=>⟨u,e1,e2,e3⟩
end
theorem dv_le {V:VL}:∀ p∈dv_P,Le V V p:=ext_le (by rfl)
section
variable {a b c A B C : List Rat} {x : Rat} {x0 x1 : Int}
theorem rsm_of {l:List Rat} {S N:Nat} (h:∃ D,CD D S (cf l)) (h1:1≤S) (h2:S≤N):∀ y∈l,RSm y N:=by
 obtain ⟨D,h⟩:=h
 exact fun y hy=>(h.rsmL h1 y hy).mono h2
theorem mulI_of {l k:List Rat} {p q n:Nat} (hp:1≤p) (hq:1≤q) (sl:∀ y∈l,RSm y p) (sk:∀ y∈k,RSm y q) (hn:l.length≤n) (h:1+n*(p+q+1)≤99000000):∀ i,i<l.length→∀ j,j<k.length→∀ y∈innR (outR l k i) (l.getD i 0) k i j,RSm y 99000000:=fun i hi j hj y hy =>
 (mulI_bd hp hq sl sk i hi j hj y hy).mono (Nat.le_trans (Nat.add_le_add_left (Nat.mul_le_mul_right _ hn) _) h)
theorem dv_calls (ta:Trimmed a) (tb:Trimmed b) (tc:Trimmed c) (la:a.length≤5) (lb:b.length≤5) (lc:c.length≤3) (sa:∀ y∈a,RSm y 1) (sb:∀ y∈b,RSm y 1) (sc:∀ y∈c,RSm y 1) (k0 : -128≤x0∧x0≤127) (k1 : -128≤x1∧x1≤127)
  (hmk:∀ V:VL,V.z 0=0→(∀ k,-1152921504606846976≤V.z k∧V.z k≤1152921504606846976)→V.l 3=A→V.l 4=B→V.l 5=C→V.l 0=a→V.l 1=b→V.l 2=c → @PE.ok (envD V) pd_made) {M:Nat→Prop} {w:World} {vs:List Value} (hm0:∀ b,M b→b<w.heap.size)
  (hv:∀ V:VL,V.l 3=A→V.l 4=B→V.l 5=C→V.z 6=x0→V.z 7=x1 → @RVs (envD V) noR M w [.agg pd_X] vs):Calls Tryz.prog 5 vs.toArray w (GivesP (eqF (.bool true)) w):=by
 have ha:=small_made ta la sa
 have hb:=small_made tb lb sb
 have hac:=small_mul ta la sa tc lc sc
 have hbc:=small_mul tb lb sb tc lc sc
 obtain ⟨g,s,t,hg,cg,cs,ct,hst,hx⟩:=kExtS ha hb
 obtain ⟨m,hm,hgc⟩:=kGcdS hac hbc
 obtain ⟨g',hg',hgab⟩:=kGcdS ha hb
 have eg:g'=g:=hg'.unique hg
 subst eg
 have em:m=monL (mulL g' c):=hg.mul ta tb tc cs.tr ct.tr hst hm
 have tg:=hg.mon.tr
 have dab:=(hg.dv g' tg).2 (Dv.refl tg)
 have lgs:g'.length≤5000:=by
  rw [← hst]
  have e1:=addC_len (mulL s a) (mulL t b)
  have e2:=mulL_le s a
  have e3:=mulL_le t b
  have e4:=cs.l
  have e5:=ct.l
  omega
 obtain ⟨q1,hq1⟩:∃ q1,g'≠[]→∀ (M:Nat→Prop) (w:World) (va vb:Value),(∀ b,M b→b<w.heap.size)→(XP.rats a).p M w [va]→(XP.rats g').p M w [vb]→DCall M w [va,vb] q1 [] 0:=by
  by_cases h:g'=[]
  ·exact ⟨[],fun n=>absurd h n⟩
  ·obtain ⟨q,r,_,_,_,_,_,h6,_,_,h7⟩:=kDivS ha la tg h (by omega) cg
   have h6:=h6 dab.1
   subst h6
   exact ⟨q,fun _=>h7⟩
 obtain ⟨q2,hq2⟩:∃ q2,g'≠[]→∀ (M:Nat→Prop) (w:World) (va vb:Value),(∀ b,M b→b<w.heap.size)→(XP.rats b).p M w [va]→(XP.rats g').p M w [vb]→DCall M w [va,vb] q2 [] 0:=by
  by_cases h:g'=[]
  ·exact ⟨[],fun n=>absurd h n⟩
  ·obtain ⟨q,r,_,_,_,_,_,h6,_,_,h7⟩:=kDivS hb lb tg h (by omega) cg
   have h6:=h6 dab.2
   subst h6
   exact ⟨q,fun _=>h7⟩
 have cb:∃ D,CD D 1700000 (cf b):=by
  obtain ⟨D,h⟩:=hb.cd
  exact ⟨D,h.mono (by decide)⟩
 obtain ⟨q,r,lq,cq,cr,lr,hqr⟩:∃ q r,q.length≤5∧(∃ D,CD D 11000000 (cf q))∧(∃ D,CD D 11000000 (cf r))∧r.length≤5∧(b≠[]→r.length<b.length∧addC (mulL q b) r=a∧∀ (M:Nat→Prop) (w:World) (va vb:Value),(∀ b,M b→b<w.heap.size)→(XP.rats a).p M w [va]→(XP.rats b).p M w [vb]→DCall M w [va,vb] q r 0):=by
  by_cases h:b=[]
  ·obtain ⟨D,hn⟩:=cd_nil
   exact ⟨[],[],Nat.zero_le _,⟨D,hn.mono (by decide)⟩,⟨D,hn.mono (by decide)⟩,Nat.zero_le _,fun n=>absurd h n⟩
  ·obtain ⟨q,r,_,_,h3,h4,h5,_,cq,cr,h7⟩:=kDivS ha la tb h (by omega) cb
   exact ⟨q,r,h4,cq,cr,by omega,fun _=>⟨h3,h5,h7⟩⟩
 let D:DL:=⟨a,b,c,A,B,C,g',s,t,m,q1,q2,q,r⟩
 have fs:=rsm_of cs.cd (N:=6000000) (by decide) (by decide)
 have ft:=rsm_of ct.cd (N:=6000000) (by decide) (by decide)
 have fg:=rsm_of cg (N:=1700000) (by decide) (by decide)
 have fq:=rsm_of cq (N:=11000000) (by decide) (by decide)
 have fr:=rsm_of cr (N:=11000000) (by decide) (by decide)
 have ls:=cs.l
 have lt:=ct.l
 have up:∀ {l:List Rat} {n N:Nat},(∀ y∈l,RSm y n)→n≤N→∀ y∈l,RSm y N:=fun h hn y hy=>(h y hy).mono hn
 have isa:∀ i,i<s.length→∀ j,j<a.length→∀ y∈innR (outR s a i) (s.getD i 0) a i j,RSm y 99000000:=mulI_of (n:=8) (by decide) (by decide) fs sa ls (by decide)
 have itb:∀ i,i<t.length→∀ j,j<b.length→∀ y∈innR (outR t b i) (t.getD i 0) b i j,RSm y 99000000:=mulI_of (n:=8) (by decide) (by decide) ft sb lt (by decide)
 have iac:∀ i,i<a.length→∀ j,j<c.length→∀ y∈innR (outR a c i) (a.getD i 0) c i j,RSm y 99000000:=mulI_of (n:=5) (by decide) (by decide) sa sc la (by decide)
 have ibc:∀ i,i<b.length→∀ j,j<c.length→∀ y∈innR (outR b c i) (b.getD i 0) c i j,RSm y 99000000:=mulI_of (n:=5) (by decide) (by decide) sb sc lb (by decide)
 have iqb:∀ i,i<q.length→∀ j,j<b.length→∀ y∈innR (outR q b i) (q.getD i 0) b i j,RSm y 99000000:=mulI_of (n:=5) (by decide) (by decide) fq sb lq (by decide)
 have lg7:g'=[] ∨ g'.length≤5:=by
  by_cases e:a=[]
  ·by_cases e':b=[]
   ·left
    rw [← hst,e,e',mulL_nil',mulL_nil']
    rfl
   ·exact .inr (Nat.le_trans (dv_len dab.2 e') lb)
  ·exact .inr (Nat.le_trans (dv_len dab.1 e) la)
 have lg5:g'.length≤5:=lg7.elim (fun e=>by rw [e]; exact Nat.zero_le _) id
 have igc:∀ i,i<g'.length→∀ j,j<c.length→∀ y∈innR (outR g' c i) (g'.getD i 0) c i j,RSm y 99000000:=mulI_of (n:=5) (by decide) (by decide) fg sc lg5 (by decide)
 have cd1:∀ {l:List Rat} {n:Nat},1≤n→l.length≤n→(∀ y∈l,RSm y 1)→∃ D,CD D n (cf l):=cd_upto
 obtain ⟨Da,ka⟩:=cd1 (by decide) la sa
 obtain ⟨Db,kb⟩:=cd1 (by decide) lb sb
 obtain ⟨Dc,kc⟩:=cd1 (by decide) lc sc
 obtain ⟨Ds,ks⟩:=cs.cd
 obtain ⟨Dt,kt⟩:=ct.cd
 obtain ⟨Dg,kg⟩:=cg
 obtain ⟨Dq,kq⟩:=cq
 have msa:=rsm_of ⟨_,ks.mulL ka (n:=13) (by omega)⟩ (N:=99000000) (by decide) (by decide)
 have mtb:=rsm_of ⟨_,kt.mulL kb (n:=13) (by omega)⟩ (N:=99000000) (by decide) (by decide)
 have mgc:=rsm_of ⟨_,kg.mulL kc (n:=8) (by omega)⟩ (N:=30000000) (by decide) (by decide)
 have mqb:=rsm_of ⟨_,kq.mulL kb (n:=10) (by omega)⟩ (N:=99000000) (by decide) (by decide)
 have tgc:=mulL_trimmed tg tc
 obtain ⟨Dm,km⟩:=(kg.mulL kc (n:=8) (by omega)).monL tgc
 have fm:∀ y∈m,RSm y 140000000:=by
  rw [em]
  exact rsm_of ⟨_,km⟩ (by decide) (by decide)
 have lsa:=mulL_le s a
 have ltb:=mulL_le t b
 have lgc:=mulL_le g' c
 have lqb:=mulL_le q b
 have lm:m.length≤1000000:=by
  rw [em]
  unfold monL
  split
  ·exact Nat.zero_le _
  ·exact Nat.le_trans (overL_len _ _) (by omega)
 have key:∀ bz gz:Bool,(bif bz then b=[] else b≠[])→(bif gz then g'=[] else g'≠[])→Calls Tryz.prog 5 vs.toArray w (GivesP (eqF (.bool true)) w):=fun bz gz hbz hgz=>by
  have hF:FaOK (D.V 0 x0 x1) (dv_F bz gz):=dv_ok (by
   cases bz
   ·exact ⟨hbz,(hqr hbz).1⟩
   ·exact hbz) hgz (by show b.length≤_; omega) (by show g'.length≤_; omega) (by show r.length≤_; omega) k0 k1
  refine dv_run hF (fun e he=>?_) hm0 (hv _ rfl rfl rfl rfl rfl)
  simp only [dv_L,List.mem_cons,List.not_mem_nil,or_false] at he
  rcases he with rfl | rfl | rfl | rfl | rfl | rfl | rfl | rfl | rfl
  ·exact pd_san_ok
  ·exact hmk _ hF.z0 hF.sm rfl rfl rfl rfl rfl rfl
  ·exact zExt_ok (e:=.v 0) (e':=.v 1) dv_le hx rfl rfl rfl
  ·refine or2_ok rfl (zMul_ok (e:=.v 11) (e':=.v 0) dv_le (up fs (by decide)) (by show s.length≤_; omega) (up sa (by decide)) (by show a.length≤_; omega) isa rfl) (or2_ok rfl (zMul_ok (e:=.v 12) (e':=.v 1) dv_le (up ft (by decide)) (by show t.length≤_; omega) (up sb (by decide)) (by show b.length≤_; omega) itb rfl) (or2_ok rfl (zMul_ok (e:=.v 0) (e':=.v 2) dv_le (up sa (by decide)) (by show a.length≤_; omega) (up sc (by decide)) (by show c.length≤_; omega) iac rfl) (or2_ok rfl (zMul_ok (e:=.v 1) (e':=.v 2) dv_le (up sb (by decide)) (by show b.length≤_; omega) (up sc (by decide)) (by show c.length≤_; omega) ibc rfl) (or2_ok rfl (zMul_ok (e:=.v 10) (e':=.v 2) dv_le (up fg (by decide)) (by show g'.length≤_; omega) (up sc (by decide)) (by show c.length≤_; omega) igc rfl) (zMul_ok (e:=.v 23) (e':=.v 1) dv_le (up fq (by decide)) (by show q.length≤_; omega) (up sb (by decide)) (by show b.length≤_; omega) iqb rfl)))))
  ·have h1:@PE.ok (envD (D.V 0 x0 x1)) (dv_ad1 13 14 10):=zAdd_ok (e:=.v 13) (e':=.v 14) dv_le msa (by show (mulL s a).length≤_; omega) mtb (by show (mulL t b).length≤_; omega) hst.symm
   cases bz
   ·exact or2_ok rfl h1 (zAdd_ok (e:=.v 25) (e':=.v 24) dv_le mqb (by show (mulL q b).length≤_; omega) (up fr (by decide)) (by show r.length≤_; omega) (hqr hbz).2.1.symm)
   ·exact h1
  ·exact or2_ok rfl (zEq_ok (e:=.v 10) dv_le (up fg (by decide)) (by show g'.length≤_; omega)) (or2_ok rfl (zEq_ok (e:=.v 18) dv_le fm lm) (zEq_ok (e:=.v 0) dv_le (up sa (by decide)) (by show a.length≤_; omega)))
  ·exact or2_ok rfl (zGcd_ok (e:=.v 16) (e':=.v 17) dv_le hgc rfl) (zGcd_ok (e:=.v 0) (e':=.v 1) dv_le hgab rfl)
  ·exact or2_ok rfl (zMonic_ok (e:=.v 19) dv_le mgc (by show (mulL g' c).length≤_; omega) tgc em) (zMonic_ok (e:=.v 10) dv_le (up fg (by decide)) (by show g'.length≤_; omega) tg (monL_id hg.mon).symm)
  ·have h1:@PE.ok (envD (D.V 0 x0 x1)) (dv_db bz):=by
    cases bz
    ·exact zDiv_ok (e:=.v 0) (e':=.v 1) dv_le (hqr hbz).2.2 rfl rfl
    ·have hbz:b=[]:=hbz
     refine zDiv_ok (e:=.v 0) (e':=.v 1) dv_le (fun M w va vb hm0 hva hvb=>kDivModZero hm0 (by show a.length≤_; omega) hva ?_) rfl rfl
     have hvb:(XP.rats b).p M w [vb]:=hvb
     rw [hbz] at hvb
     exact hvb
   cases gz
   ·have hgz:g'≠[]:=hgz
    refine or2_ok ?_ h1 (or2_ok rfl (zDiv_ok (e:=.v 0) (e':=.v 10) dv_le (hq1 hgz) rfl rfl) (zDiv_ok (e:=.v 1) (e':=.v 10) dv_le (hq2 hgz) rfl rfl))
    cases bz <;> rfl
   ·exact h1
 by_cases e1:b=[]
 ·by_cases e2:g'=[]
  ·exact key true true e1 e2
  ·exact key true false e1 e2
 ·by_cases e2:g'=[]
  ·exact key false true e1 e2
  ·exact key false false e1 e2
end
theorem dv_law {W:World} {v:Value} {A B C:List Rat} {x0 x1:Int} (h:ThreeAt W v A B C x0 x1):Calls Tryz.prog 5 #[v] W (GivesP (eqF (.bool true)) W):=by
 have h0:=h
 obtain ⟨_,_,_,_,a,b,c,kA,kB,kC,k0,k1⟩:=h
 refine dv_calls (A:=A) (B:=B) (C:=C) (vs:=[v]) madeC_tr madeC_tr madeC_tr madeC_len madeC_len madeC_len (madeC_sm (prs_bd a)) (madeC_sm (prs_bd b)) (madeC_sm (prs_bd c)) k0 k1 (fun V z0 sm e3 e4 e5 e0 e1 e2=>?_) (M:=fun _=>False) (fun _ h=>h.elim) fun V e3 e4 e5 e6 e7=>?_
 ·subst e3 e4 e5
  exact made3_ok z0 sm kA kB kC e0 e1 e2
 ·subst e3 e4 e5 e6 e7
  exact ThreeAt.rvs h0
end Go.Proofs.YtgaehhapjnbieaaGreat
namespace Go.Proofs.YtgaehhapjnbieaaGreat
open Go.ChangeShapes Go.WideShapes Go.ChangeAt Go.RowKit Go.Joins
set_option maxRecDepth 100000 in
theorem polyDivides_lifted (os:Os) (started:os.Started) (H:Type) (enc:TypeId × Value→H) :
  ReturnsInHanded {} Tryz.checked os 5 .any (Rows.polyDividesSpec.pre6 enc Tryz.prog Tryz.f5 [] false)
   (Rows.polyDividesSpec.post enc Tryz.prog Tryz.f5 false true false false):=by
 refine returnsInHanded_of_change_sized (C:=Tryz.checked) ownN started (by kernel_rfl) Tryz.func5 ?_ ?_
 ·obtain ⟨w,t,i,a1,a2,a3,a4,⟨⟨p1,_⟩,p2⟩,a6⟩:=ChangeSpec.witness_at (enc:=enc) (C:=Tryz.checked) (os:=os) (f:=5) (fn:=Tryz.f5) (s:=Rows.polyDividesSpec) (conds:=[]) (apart:=false) (X:=fun _ _=>True) false (World.holding Tryz.prog os ⟨#[],#[],[]⟩) #[.agg #[.slice none 0 0,.slice none 0 0,.slice none 0 0,.int .i8 0,.int .i8 0]] 8 rfl (by kernel_rfl) (by kernel_rfl) (by kernel_rfl) (by kernel_rfl) (by kernel_rfl) True.intro
  exact ⟨w,t,i,a1,a2,a3,a4,⟨p1,p2⟩,a6⟩
 intro W base args ds gs before hval0 hW _ hsz0 _
 have hval:∀ (j:Nat) t v,Tryz.f5.params[j]? = some t→args[j]? = some v→Value.okWide Tryz.prog W .any base t v:=hval0
 have hsz:(DataW.weightsEach Tryz.prog (Tryz.f5.params.toList ++ Rows.polyDividesSpec.plain.varTypes Tryz.prog) (ds ++ gs)).all (· ≤ reachBytes)=true:=hsz0
 have hW':=hW
 obtain ⟨p,q,hA0,hV0,rfl,hfz,hnd⟩:=hW
 have hA:DataW.TrodAll enc Tryz.prog W 0 (fun _=>true) true Tryz.f5.params.toList args.toList ds p:=hA0
 have hV:DataW.TrodVars enc Tryz.prog W (fun _=>true) [] gs q:=hV0
 rw [Tryz.params5] at hA hval hsz
 obtain ⟨rfl,rfl⟩:=trodVars_none hV
 obtain ⟨v0,d0,rfl,rfl,h0⟩:=trodAll_one hA
 have h0k:=h0
 have hw0:∀ n∈d0.weights Tryz.prog 26,n≤reachBytes:=fun n hn =>
  of_decide_eq_true (List.all_eq_true.1 hsz _ (DataW.weights_mem_each (j:=0) (t:=26) rfl rfl n hn))
 have hlt0:∀ x∈p,x.block<W.heap.size:=fun x hx=>hW'.lt x (by simp [hx])
 obtain ⟨A0,B0,C0,x0,y0,K0⟩:=three_open (hval 0 26 v0 rfl rfl) h0 hw0
 clear hA0 hV0 hval0 hsz0
 refine (dv_law K0).mono fun e W' hpost=>?_
 obtain ⟨u,he,hu,hb⟩:=hpost
 have hu:u = .bool true:=hu
 subst hu
 subst he
 have e1:Rows.polyDividesSpec.fn H ([d0] ++ []) = { results:=[.lit (.bool true)],args:=[d0] }:=by simp [Rows.polyDividesSpec]
 refine ⟨_,rfl,law_post hW' hb ?_ ?_ ?_⟩
 ·rw [e1]; exact trodAll_mk1 (shut_bool Tryz.underlying4 true)
 ·rw [e1]
  have:=trodAll_mk1 (Below.trod laidOutN (by kernel_rfl) (of_decide_eq_true (by kernel_rfl)) h0k hb hlt0)
  simpa using this
 ·rw [e1]; rfl
theorem polyDivides_holds:Rows.PolyDividesSaid:=
 OpenClaim.holds_of_wide 5 Tryz.f5 rfl rfl rfl rfl rfl rfl rfl ⟨rfl,rfl,rfl,rfl,rfl⟩ rfl rfl rfl rfl rfl (by kernel_rfl) Tryz.func5 (by kernel_rfl)
  (of_decide_eq_true (by kernel_rfl)) (by unfold Func.isWrapper; rw [if_neg (of_decide_eq_false (by kernel_rfl))]; exact ⟨rfl,rfl⟩)
  (fun os started H enc _=>polyDivides_lifted os started H enc)
end Go.Proofs.YtgaehhapjnbieaaGreat
