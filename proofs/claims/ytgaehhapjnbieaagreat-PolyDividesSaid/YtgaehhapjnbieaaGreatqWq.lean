/- The laws' number. -/
import Derived.Test.YtgaehhapjnbieaaGreatqVv
import Derived.Test.YtgaehhapjnbieaaGreatqQ2
set_option linter.unusedSectionVars false
set_option linter.unusedVariables false
set_option linter.unusedSimpArgs false
namespace Go.Proofs.YtgaehhapjnbieaaGreat
open Go.RowKit
theorem int_divInt (z:Int):Rat.divInt z 1=(z:Rat):=by
 rw [Rat.divInt_eq_div]
 grind
noncomputable def pMadeC:PE:=⟨50,fun xs=>match xs with
 | [.ext 1 false (.ap 57 i _),.ext 1 false (.ap 57 j _)]=>some (aQ (.ap 39 i j) 1)
 | _=>none⟩
theorem i64b_out {V:VL} {ρ:Rho} {M:Nat→Prop} {w:World} {i d:CE} {v:Value} (h:@RV1 (envD V) ρ M w (.ext 1 false (.ap 57 i d)) v):v = .int .i64 (zD V i) ∧ -128≤zD V i∧zD V i≤127:=by
 have h:@Rp (envD V) ρ M w _ [v]:=h
 unfold Rp at h
 exact ⟨(List.cons.inj h.2.1).1,h.2.2⟩
theorem made39 {V:VL} {i j:CE} (h1 : -128≤zD V i∧zD V i≤127) (h2 : -128≤zD V j∧zD V j≤127):RSm (qD V (.ap 39 i j)) 1:=by
 simp only [qD]
 have s:∀ z:Int,-128≤z∧z≤127→Sm z 1:=fun z h=>by unfold Sm; omega
 split
 ·exact RSm.whole (i:=0) (s _ h1)
 ·rename_i h0
  exact RSm.of (s _ h1) (s _ h2) h0
theorem pMadeC_ok {V:VL}:@PE.ok (envD V) pMadeC:=by
 intro xs r e
 refine ⟨fun _ _=>by simp [pMadeC,go_sem],fun ρ M w vs hm0 hv=>?_⟩
 simp only [pMadeC] at e
 split at e
 ·rename_i i d j d'
  cases e
  obtain ⟨va,_,rfl,h1,vb,_,rfl,h2,h3⟩:=hv
  have h3:_=[]:=h3
  subst h3
  obtain ⟨rfl,b1⟩:=i64b_out h1
  obtain ⟨rfl,b2⟩:=i64b_out h2
  by_cases h0:zD V j=0
  ·rw [h0]
   refine Calls.mono (MadeP_zero (x:=zD V i) w (by omega) (by omega)) fun e w' ⟨v,e1,e2,e3⟩=>⟨v,e1,@RV1.rv (envD V) ρ M w' _ _ (aQ_in ?_ (made39 b1 b2)),e3⟩
   have hq:qD V (.ap 39 i j)=Rat.divInt (zD V i) 1:=by
    simp only [qD]
    rw [if_pos h0]; exact (int_divInt _).symm
   rw [hq]
   exact e2
  ·refine Calls.mono (MadeP_any w (x:=zD V i) (y:=zD V j) (by omega) (by omega) (by omega) (by omega) h0) fun e w' ⟨v,e1,e2,e3⟩=>⟨v,e1,@RV1.rv (envD V) ρ M w' _ _ (aQ_in ?_ (made39 b1 b2)),e3⟩
   have hq:qD V (.ap 39 i j)=Rat.divInt (zD V i) (zD V j):=by
    simp only [qD]
    rw [if_neg h0]
   rw [hq]
   exact e2
 ·cases e
set_option maxRecDepth 100000
def numOf (x0 x1:Int):Rat:=if x1=0 then (x0:Rat) else Rat.divInt x0 x1
theorem numOf_sm {x0 x1:Int} (h1 : -128≤x0∧x0≤127) (h2 : -128≤x1∧x1≤127):RSm (numOf x0 x1) 1:=by
 have s:∀ z:Int,-128≤z∧z≤127→Sm z 1:=fun z h=>by unfold Sm; omega
 unfold numOf
 split
 ·exact RSm.whole (i:=0) (s _ h1)
 ·rename_i h0
  exact RSm.of (s _ h1) (s _ h2) h0
theorem pd_Le {V:VL}:∀ p∈pd_P,Le V V p:=by
 intro p hp ρ ρ' M w cs r
 simp only [pd_P,pd_X,List.map_cons,List.map_nil,List.mem_cons,List.not_mem_nil,or_false] at hp
 rcases hp with rfl | rfl | rfl | rfl | rfl <;> (unfold Rp at r ⊢; exact r)
end Go.Proofs.YtgaehhapjnbieaaGreat
namespace Go.Proofs.YtgaehhapjnbieaaGreat
open Go.RowKit
section
variable {V V' : VL}
theorem rd_Qn {q q':CE} {n n':Nat} (h:qD V q=qD V' q') (s:RSm (qD V' q') n'):Le V V' (aQ q n,aQ q' n'):=fun ρ ρ' M w cs r=>by
 unfold Rp at r ⊢
 refine ⟨r.1,?_⟩
 obtain ⟨_,h2⟩:=r.2
 show (XP.num (qD V' q') _).p M w cs
 exact ⟨by simpa using s,by rw [← h]; exact h2⟩
theorem rd_rat {q:Rat} {q':CE} {n':Nat} (h:qD V' q'=q) (s:RSm q n'):Le V V' (.rat q,aQ q' n'):=fun ρ ρ' M w cs r=>by
 unfold Rp at r ⊢
 obtain ⟨a,b,c,d,rfl,h1,h2⟩:=r
 refine ⟨rfl,?_⟩
 show (XP.num (qD V' q') _).p M w _
 rw [h]
 exact ⟨by simpa using s,a,b,c,d,rfl,h1,h2⟩
end
set_option maxRecDepth 100000
section
variable {a : List Rat} {x : Rat}
end
end Go.Proofs.YtgaehhapjnbieaaGreat
namespace Go.Proofs.YtgaehhapjnbieaaGreat
open Go.RowKit
def qsOf:Nat→List AV→Option (List (CE × Nat))
 | 0,_=>some []
 | k+1,.ext 4 true (.ap 52 q (.lit n)) :: l=>(qsOf k l).map ((q,n.toNat) :: ·)
 | _+1,_=>none
theorem qsOf_len:∀ {k:Nat} {l:List AV} {qs:List (CE × Nat)},qsOf k l=some qs→qs.length=k
 | 0,_,_,h=>by unfold qsOf at h; cases h; rfl
 | k+1,l,qs,h=>by
  unfold qsOf at h
  split at h
  ·rename_i h1; omega
  ·obtain ⟨qs',h1,rfl⟩:=Option.map_eq_some_iff.1 h
   rw [List.length_cons,qsOf_len h1]
   omega
  ·cases h
theorem qsOf_cells {V:VL} {ρ:Rho} {M:Nat→Prop} {w:World}:∀ {k:Nat} {l:List AV} {qs:List (CE × Nat)} {cs:List Value},qsOf k l=some qs → @Rps (envD V) ρ M w l cs→∃ xs ys,cs=xs ++ ys∧RatCells w (qs.map fun p=>qD V p.1) xs∧∀ p∈qs,RSm (qD V p.1) p.2
 | 0,_,_,cs,h,_=>by
  unfold qsOf at h
  cases h
  exact ⟨[],cs,rfl,rfl,fun _ h=>by cases h⟩
 | k+1,l,qs,cs,h,r=>by
  unfold qsOf at h
  split at h
  ·rename_i h1; omega
  ·rename_i k' q n l' he
   have hk:k'=k:=by omega
   subst hk
   obtain ⟨qs',h1,rfl⟩:=Option.map_eq_some_iff.1 h
   unfold Rps at r
   obtain ⟨x,y,rfl,r1,r2⟩:=r
   unfold Rp at r1
   obtain ⟨_,s,a,b,c,d,rfl,i1,i2⟩:=r1
   obtain ⟨xs,ys,rfl,h2,h3⟩:=qsOf_cells h1 r2
   refine ⟨a :: b :: c :: d :: xs,ys,rfl,⟨a,b,c,d,xs,rfl,i1,i2,h2⟩,fun p hp=>?_⟩
   rcases List.mem_cons.1 hp with rfl | hp
   ·exact s
   ·exact h3 p hp
  ·cases h
def fshQ (k:Nat):Option (AV × HP)→Option (List (CE × Nat))
 | some (.sl o 0 n _,[(o',some b)])=>if Nat.beq o o' && Nat.beq n k && b.bl.isNone then qsOf n b.cs else none
 | _=>none
theorem vm_fresh {V:VL} {F:Fa} {L:List PE} {f m k:Nat} {xs:List AV} {qs:List (CE × Nat)} (hF:FaOK V F) (hL:∀ e∈L,@PE.ok (envD V) e) (h:fshQ k (callW plainL (runA (tbF F L) plainL m) f xs [] 16 0)=some qs)
  {M:Nat→Prop} {w:World} {vs:List Value} (hm0:∀ b,M b→b<w.heap.size) (hv:@RVs (envD V) noR M w xs vs) :
  Calls Tryz.prog f vs.toArray w fun e w'=>∃ u,e = .returned u∧(XP.rats (qs.map fun p=>qD V p.1)).p M w' [u]∧Below w.heap.size w w':=by
 letI:=envD V
 generalize hr:callW plainL (runA (tbF F L) plainL m) f xs [] 16 0=r at h
 unfold fshQ at h
 split at h
 ·rename_i o n cap o' b
  split at h
  ·rename_i hc
   simp only [Bool.and_eq_true] at hc
   obtain ⟨⟨c1,c2⟩,c3⟩:=hc
   have c1:=Nat.eq_of_beq_eq_true c1
   have c2:=Nat.eq_of_beq_eq_true c2
   subst c1
   subst c2
   obtain ⟨_,hcall⟩:=callW_ok plainL_ok (run_ok (tbF_ok hF hL) plainL_ok m).1 f xs [] 16 0 _ _ hr
   have hs:St0 noR M (Own noR w (lk [])) w 0 (lk []):=⟨⟨fun o b e=>(by cases e),fun o o' b b' g c c' e=>(by cases e)⟩,hm0,fun _ _ _=>rfl,fun b hb=>.inl hb⟩
   refine Calls.mono (hcall noR M w vs hs (fun o p e=>(by cases e)) (by decide) hv) fun e w' ⟨v,e1,ρ',M',ht,hv',hR,_,_,_,_,hfr,_⟩=>⟨v,e1,?_,⟨hfr.os,hfr.tape,hfr.output,hfr.size,fun b hb=>hfr.keep b hb ?_⟩⟩
   ·have hv':Rp ρ' M' w' (.sl o 0 n cap) [v]:=hv'
    unfold Rp at hv'
    obtain ⟨g,c,kk,q1,q2,q3,_⟩:=hv'
    obtain ⟨g2,c2,arr,cs,ok⟩:=hR.obj o b (by simp [upd])
    have q4:=ok.at_
    rw [q1] at q4
    simp only [Option.some.injEq,Prod.mk.injEq] at q4
    obtain ⟨rfl,rfl⟩:=q4
    have hge:w.heap.size≤g:=by
     rcases ok.own with h1 | ⟨_,_,_,h1,_⟩
     ·exact h1
     ·cases h1
    obtain ⟨ys,zs,rfl,k1,k2⟩:=qsOf_cells h (ok.cells.rps (Option.isNone_iff_eq_none.1 c3))
    obtain ⟨tl,he,_⟩:=ok.pre
    have hra:=range_all ok.blk he
    have hl:(qs.map fun p=>qD V p.1).length=n:=by rw [List.length_map,qsOf_len h]
    refine ⟨some ⟨g,0,none⟩,kk,by rw [hl]; exact q2,by rw [hl]; exact q3,fun _=>⟨g,0,ys,rfl,fun hm=>?_,lt_of_get ok.blk,fun j x hj=>hra j x ?_,k1⟩⟩
    ·have:=hm0 g hm
     omega
    ·have hlt:j<ys.length:=(List.getElem?_eq_some_iff.1 hj).1
     rw [List.getElem?_append_left hlt]
     exact hj
   ·rintro (h1 | ⟨_,_,_,h1,_⟩)
    ·omega
    ·cases h1
  ·cases h
 ·cases h
def madeR (l:List Rat) (m:Nat):List Rat:=(List.range m).map fun i=>numOf (l.getD (2*i) 0).num (l.getD (2*i+1) 0).num
def madeC (l:List Rat) (n:Nat):List Rat:=trimC (madeR l (min (l.length / 2) n))
def md_q (i:Nat):CE:=.ap 39 (.ap 2 (.v 3) (.lit ((2*i:Nat):Int))) (.ap 2 (.v 3) (.lit ((2*i+1:Nat):Int)))
def md_F (lo:Nat) (ex:Bool) (m k:Nat):Fa:=⟨if ex then [(0,20,-(lo:Int)),(20,0,(lo:Int))] else [(0,20,-(lo:Int) - 1)],[(.ap 77 (.v 3) (.lit 0),20,0)],[],((List.range (m - k)).map fun i=>(md_q (k+i),true)) ++ (if k=0 then [] else [(md_q (k - 1),false)]),[],[],[]⟩
def md_xs (n:Nat):List AV:=[.ext 1 false (.ap 56 (.v 3) (.lit 0)),.val (.int .i64 (n:Int))]
noncomputable def md_r (n lo:Nat) (ex:Bool) (m k:Nat):=fshQ k (callW plainL (runA (tbF (md_F lo ex m k) [pMadeC]) plainL 300) 53 (md_xs n) [] 16 0)
def sameQ:List (CE × Nat)→List (CE × Nat)→Bool
 | [],[]=>true
 | a :: l,b :: m=>CE.beq a.1 b.1 && Nat.beq a.2 b.2 && sameQ l m
 | _,_=>false
theorem sameQ_eq:∀ {l m:List (CE × Nat)},sameQ l m=true→l=m
 | [],[],_=>rfl
 | a :: l,b :: m,h=>by
  unfold sameQ at h
  rw [Bool.and_eq_true,Bool.and_eq_true] at h
  rw [sameQ_eq h.2,show a=b from Prod.ext (CE.beq_eq h.1.1) (Nat.eq_of_beq_eq_true h.1.2)]
 | [],_ :: _,h=>by unfold sameQ at h; cases h
 | _ :: _,[],h=>by unfold sameQ at h; cases h
noncomputable def md_t (n lo:Nat) (ex:Bool) (m k:Nat):Bool:=match md_r n lo ex m k with
 | some l=>sameQ l ((List.range k).map fun i=>(md_q i,1))
 | none=>false
noncomputable def md_ok (n:Nat):Bool:=(List.range (n+1)).all fun m=>(List.range (m+1)).all fun k=>md_t n m true m k && (if Nat.beq m n then md_t n n false n k else true)
set_option maxRecDepth 100000
theorem md_ok3:md_ok 3=true:=by kernel_rfl
theorem md_ok5:md_ok 5=true:=by kernel_rfl
end Go.Proofs.YtgaehhapjnbieaaGreat
