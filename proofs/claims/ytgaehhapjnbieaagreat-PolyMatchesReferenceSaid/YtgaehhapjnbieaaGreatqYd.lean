/- Layer 3: what a row's conditions give a walk: pairs of small integers at rest. -/
import Derived.Test.YtgaehhapjnbieaaGreatqYb
import Derived.Lib.SmallJoins
set_option linter.unusedSectionVars false
set_option linter.unusedVariables false
set_option linter.unusedSimpArgs false
set_option maxRecDepth 100000
namespace Go.Proofs.YtgaehhapjnbieaaGreat
open Go.ChangeShapes Go.WideShapes Go.ChangeAt Go.RowKit Go.Joins
theorem AsK:ownKnob Tryz.prog.godebug=none:=by kernel_rfl
theorem xI:laidOutB Tryz.prog=true:=by kernel_rfl
theorem iL:Tryz.prog.cellsOf 24=2:=by kernel_rfl
theorem NT:Tryz.prog.cellsOf 23=1:=by kernel_rfl
theorem AeE:Tryz.prog.bytesOf 24=2:=by kernel_rfl
theorem Uk:Tryz.prog.cellsOf 22=1:=by kernel_rfl
theorem AeX:Tryz.prog.cellsOf 26=5:=by kernel_rfl
theorem Hx(z:Int):((z:Int):Rat).num=z:=by simp
theorem Ot{H:Type}{enc:TypeId × Value→H}{W:World}{m:Nat}{c:Value}{y:DataW H × List MemPlace}(hy0:DataW.trod enc Tryz.prog W 0 (λ_=>true) true m 22 [c]=some y)
  (hw:∀ n∈DataW.weights Tryz.prog 22 y.1,n≤reachBytes):∃ l:List Rat,(XP.prs l).p (λ_=>False) W [c]∧l.length≤1000000000000000:=by
 rcases Go.Deep.open_slice Tryz.underlying22 hy0 with ⟨hcs,_⟩ | ⟨a,len,cap,mm,n,D,Pl,hcs,_,hl,hm,hmm,hx0,hx⟩
 ·simp only [List.cons.injEq,and_true] at hcs
  subst hcs;exact ⟨[],⟨none,0,rfl,Nat.le_refl _,λq hq=>(by cases hq),λh=>absurd rfl h⟩,Nat.zero_le _⟩
 ·simp only [List.cons.injEq,and_true] at hcs
  subst hcs;have hmm:mm=cap:=hmm;have hlen:len≤500000000000000:=by
   have:=hw ((len+(cap - len))*2) (by
    rw [hx0];simp [DataW.weights,Tryz.underlying22,AeE,hmm])
   have e:reachBytes=140737488351232:=by kernel_rfl
   omega
  have hel:∀ i,i<len→∃ z:Int × Int,W.cell? (a.add (2*i))=some (.int .i8 z.1)∧W.cell? (a.add (2*i+1))=some (.int .i8 z.2)∧(-128≤z.1∧z.1≤127)∧(-128≤z.2∧z.2≤127):=λi hi=>by
   obtain ⟨cs',h1,h2⟩:=hx i (by omega);rw [iL] at h1;obtain ⟨_,hlen2,hcell⟩:=World.cells?_some h1;obtain ⟨xs,k,_,_,_,hxl,hxs⟩:=DataW.trod_array Tryz.underlying24 h2
   match cs',hlen2,xs,hxl with
   | [u,v],_,[x0,x1],_ =>
    have e0:DataW.trod enc Tryz.prog W 0 (λ_=>true) true k 23 [u]=some x0:=by
     have:=hxs 0 (by omega);rw [NT] at this;exact this
    have e1:DataW.trod enc Tryz.prog W 0 (λ_=>true) true k 23 [v]=some x1:=by
     have:=hxs 1 (by omega);rw [NT] at this;exact this
    obtain ⟨z0,k0,_,w0⟩:=DataW.trod_int Tryz.underlying23 e0;obtain ⟨z1,k1,_,w1⟩:=DataW.trod_int Tryz.underlying23 e1;have k0:=(List.cons.inj k0).1;have k1:=(List.cons.inj k1).1;subst k0;subst k1;have c0:=hcell 0 (by omega);have c1:=hcell 1 (by omega);rw [Go.Deep.add_add,Nat.mul_comm] at c0 c1;exact ⟨(z0,z1),c0,c1,bounds_i8 w0,bounds_i8 w1⟩
  obtain ⟨f,hf⟩:=Go.Deep.choose_lt hel;have hn:∀ q∈(List.range (2*len)).map (λj=>if j % 2=0 then ((f (j / 2)).1:Rat) else ((f (j / 2)).2:Rat)),-128≤q.num∧q.num≤127:=λq hq=>by
   obtain ⟨j,hj,rfl⟩:=List.mem_map.1 hq;have hj:j<2*len:=by simpa using hj
   obtain ⟨_,_,b1,b2⟩:=hf (j / 2) (by omega);split
   ·rw [Hx]; exact b1
   ·rw [Hx]; exact b2
  refine ⟨(List.range (2*len)).map (λj=>if j % 2=0 then ((f (j / 2)).1:Rat) else ((f (j / 2)).2:Rat)),⟨some a,cap,?_,?_,hn,λh0=>?_⟩,?_⟩
  ·simp
  ·simpa using hl
  ·have h0:0<len:=by simp at h0; omega
   have hc0:=(hf 0 h0).1;have hs:a.spot=none:=by
    have h:W.cell? a=some _:=hc0;unfold World.cell? at h;split at h
    ·split at h
     ·cases h
     ·rename_i hsp
      simpa using hsp
    ·cases h
   have hb:=World.block_lt_of_cell? _ _ hc0;obtain ⟨g,off,sp⟩:=a;have hs:sp=none:=hs;subst hs;rw [Ax] at hb;refine ⟨g,off,rfl,id,hb,λj v hj=>?_⟩;rw [List.getElem?_map,List.getElem?_map] at hj
   by_cases hlt:j<2*len
   ·rw [List.getElem?_range hlt] at hj
    simp only [Option.map_some,Option.some.injEq] at hj;subst hj;obtain ⟨q1,q2,_,_⟩:=hf (j / 2) (by omega);have hadd:∀ k:Nat,(Addr.mk g off none).add k=⟨g,off+k,none⟩:=λk=>by
     unfold Addr.add;split
     ·rename_i hk; subst hk; rfl
     ·rfl
    rw [hadd] at q1 q2
    by_cases hp:j % 2=0
    ·rw [if_pos hp,Hx]
     rw [show 2*(j / 2)=j by omega] at q1;exact q1
    ·rw [if_neg hp,Hx]
     rw [show 2*(j / 2)+1=j by omega] at q2;exact q2
   ·rw [List.getElem?_eq_none (by simpa using hlt)] at hj
    cases hj
  ·simp
   omega
def Kq(W:World)(v:Value)(A B C:List Rat)(x0 x1:Int):Prop:=∃ s0 s1 s2,v = .agg #[s0,s1,s2,.int .i8 x0,.int .i8 x1]∧(XP.prs A).p (λ_=>False) W [s0]∧(XP.prs B).p (λ_=>False) W [s1]∧(XP.prs C).p (λ_=>False) W [s2] ∧
 A.length≤1000000000000000∧B.length≤1000000000000000∧C.length≤1000000000000000∧(-128≤x0∧x0≤127)∧(-128≤x1∧x1≤127)
theorem Yv{H:Type}{enc:TypeId × Value→H}{W:World}{base:Nat}{v:Value}{d:DataW H}{p:List MemPlace}
  (hval:Value.okWide Tryz.prog W .any base 26 v) (h:DataW.Trod enc Tryz.prog W 0 (λ_=>true) true 26 v d p) (hw:∀ n∈d.weights Tryz.prog 26,n≤reachBytes) :
  ∃ A B C x0 x1,Kq W v A B C x0 x1:=by
 obtain ⟨cs,rfl,hsz⟩:=okWide_struct Tryz.underlying26 hval;rw [AeX] at hsz;obtain ⟨l⟩:=cs
 match l,hsz with
 | [c0,c1,c2,c3,c4],_ =>
  obtain ⟨fuel,hf⟩:=h;obtain ⟨y0,y1,y2,y3,n,hx,_,h0,h1,h2,h3⟩:=trod_struct4 Tryz.underlying26 hf;have k0:DataW.trod enc Tryz.prog W 0 (λ_=>true) true n 22 [c0]=some y0:=by simpa [Value.cells,Uk] using h0
  have k1:DataW.trod enc Tryz.prog W 0 (λ_=>true) true n 22 [c1]=some y1:=by simpa [Value.cells,Uk] using h1
  have k2:DataW.trod enc Tryz.prog W 0 (λ_=>true) true n 22 [c2]=some y2:=by simpa [Value.cells,Uk] using h2
  have k3:DataW.trod enc Tryz.prog W 0 (λ_=>true) true n 24 [c3,c4]=some y3:=by simpa [Value.cells,iL] using h3
  have hd:d = .agg [y0.1,y1.1,y2.1,y3.1]:=congrArg Prod.fst hx;subst hd;obtain ⟨A,a1,a2⟩:=Ot k0 λn hn=>hw n (by simp only [DataW.weights,Tryz.underlying26]; simp [DataW.weightsEach,hn])
  obtain ⟨B,b1,b2⟩:=Ot k1 λn hn=>hw n (by simp only [DataW.weights,Tryz.underlying26]; simp [DataW.weightsEach,hn])
  obtain ⟨C,d1,d2⟩:=Ot k2 λn hn=>hw n (by simp only [DataW.weights,Tryz.underlying26]; simp [DataW.weightsEach,hn])
  obtain ⟨xs,k,_,_,_,hxl,hxs⟩:=DataW.trod_array Tryz.underlying24 k3
  match xs,hxl with
  | [x0,x1],_ =>
   have e0:DataW.trod enc Tryz.prog W 0 (λ_=>true) true k 23 [c3]=some x0:=by
    have:=hxs 0 (by omega);rw [NT] at this;exact this
   have e1:DataW.trod enc Tryz.prog W 0 (λ_=>true) true k 23 [c4]=some x1:=by
    have:=hxs 1 (by omega);rw [NT] at this;exact this
   obtain ⟨z0,q0,_,w0⟩:=DataW.trod_int Tryz.underlying23 e0;obtain ⟨z1,q1,_,w1⟩:=DataW.trod_int Tryz.underlying23 e1;have q0:=(List.cons.inj q0).1;have q1:=(List.cons.inj q1).1;subst q0;subst q1;exact ⟨A,B,C,z0,z1,c0,c1,c2,rfl,a1,b1,d1,a2,b2,d2,bounds_i8 w0,bounds_i8 w1⟩
theorem Kq.rvs{V:VL}{W:World}{v:Value}(h:Kq W v (V.l 3) (V.l 4) (V.l 5) (V.z 6) (V.z 7)):@Cz (Ae V) B4 (λ_=>False) W [.agg P7] [v]:=by
 obtain ⟨s0,s1,s2,rfl,a,b,c,_,_,_,h0,h1⟩:=h;refine ⟨_,_,rfl,⟨_,rfl,?_⟩,rfl⟩
 letI:=Ae V
 have one:∀{c:CE}{u:Value},(xD V c).p (λ_=>False) W [u]→Rp B4 (λ_=>False) W (.ext 1 false c) [u]:=λh=>by
  unfold Rp;exact ⟨rfl,h⟩
 refine BC.app (l:=[_]) (cs:=[_]) (BC.one (one a)) (BC.app (l:=[_]) (cs:=[_]) (BC.one (one b)) (BC.app (l:=[_]) (cs:=[_]) (BC.one (one c)) (BC.app (l:=[_]) (l':=[_]) (cs:=[_]) (cs':=[_]) (BC.one (one ?_)) (BC.one (one ?_)))))
 ·show (XP.i8 (zD V (.i 6 0))).p _ W _
  rw [show zD V (.i 6 0)=V.z 6 by simp [zD]];exact ⟨rfl,h0⟩
 ·show (XP.i8 (zD V (.i 7 0))).p _ W _
  rw [show zD V (.i 7 0)=V.z 7 by simp [zD]];exact ⟨rfl,h1⟩
theorem yI{l:List Rat}{M:Nat→Prop}{w:World}{cs:List Value}(h:(XP.prs l).p M w cs):∀ q∈l,-128≤q.num∧q.num≤127:=by
 obtain ⟨_,_,_,_,h,_⟩:=h;exact h
theorem xF{H:Type}{enc:TypeId × Value→H}{f:Func}{s:ChangeSpec}{W W':World}{args:Array Value}{v:Value}{ds gs:List (DataW H)}{before:List MemPlace}
  (hW:DataW.Whole enc Tryz.prog f.params.toList s.vars false W args.toList ds gs before) (hb:Below W.heap.size W W')
  (hres:DataW.TrodAll enc Tryz.prog W' W.heap.size (λ_=>false) false f.resultTypes.toList (v.resultList f.resultTypes.size) (s.fn H (ds ++ gs)).results [])
  (hargs:DataW.TrodAll enc Tryz.prog W' 0 (λb=>decide (b<W.heap.size)) true f.params.toList args.toList (s.fn H (ds ++ gs)).args before)
  (hvars:DataW.TrodVars enc Tryz.prog W' (λb=>decide (b<W.heap.size)) s.vars (s.fn H (ds ++ gs)).vars []):s.post enc Tryz.prog f false true false false W args v W':=
 ⟨ds,gs,before,[],before,[],hW,hres,hargs,hvars,World.keptBut_mono (λp hp=>⟨hp,.inr (.inl hp)⟩) (hb.frame (· ∈ before)),λh=>by cases h⟩
end Go.Proofs.YtgaehhapjnbieaaGreat
