/- Layer 5: what a row's conditions give: two bytes and a slice of int16. -/
import Derived.Test.YtdopbgnkneeceaaGreatqN17
import Derived.Lib.SmallJoins
set_option linter.unusedSectionVars false
set_option linter.unusedVariables false
set_option linter.unusedSimpArgs false
set_option maxRecDepth 100000
namespace Go.Proofs.YtdopbgnkneeceaaGreat
open Go.ChangeShapes Go.WideShapes Go.ChangeAt Go.RowKit Go.Joins
theorem Akm:ownKnob Tryz.prog.godebug=none:=by kernel_rfl
theorem Td:laidOutB Tryz.prog=true:=by kernel_rfl
theorem nX:Tryz.prog.cellsOf 69=1:=by kernel_rfl
theorem mZ:Tryz.prog.bytesOf 69=2:=by kernel_rfl
theorem Gb:Tryz.prog.cellsOf 5=1:=by kernel_rfl
theorem vQ:Tryz.prog.cellsOf 22=1:=by kernel_rfl
theorem vV:Tryz.prog.cellsOf 24=3:=by kernel_rfl
theorem Mo(z:Int):((z:Int):Rat).num=z:=by simp
theorem qI{H:Type}{enc:TypeId × Value→H}{W:World}{m:Nat}{c:Value}{y:DataW H × List MemPlace}(hy0:DataW.trod enc Tryz.prog W 0 (λ_=>true) true m 22 [c]=some y)
  (hw:∀ n∈DataW.weights Tryz.prog 22 y.1,n≤reachBytes):∃ l:List Rat,(XP.i16s l).p (λ_=>False) W [c]∧l.length≤1000000000000000:=by
 rcases Go.Deep.open_slice Tryz.underlying22 hy0 with ⟨hcs,_⟩ | ⟨a,len,cap,mm,n,D,Pl,hcs,_,hl,hm,hmm,hx0,hx⟩
 ·simp only [List.cons.injEq,and_true] at hcs
  subst hcs;exact ⟨[],⟨none,0,rfl,Nat.le_refl _,λq hq=>(by cases hq),λh=>absurd rfl h⟩,Nat.zero_le _⟩
 ·simp only [List.cons.injEq,and_true] at hcs
  subst hcs;have hmm:mm=cap:=hmm;have hlen:len≤500000000000000:=by
   have:=hw ((len+(cap - len))*2) (by
    rw [hx0];simp [DataW.weights,Tryz.underlying22,mZ,hmm])
   have e:reachBytes=140737488351232:=by kernel_rfl
   omega
  have hel:∀ i,i<len→∃ z:Int,W.cell? (a.add i)=some (.int .i16 z)∧(-32768≤z∧z≤32767):=λi hi=>by
   obtain ⟨cs',h1,h2⟩:=hx i (by omega);rw [nX] at h1;obtain ⟨_,hlen2,hcell⟩:=World.cells?_some h1
   match cs',hlen2 with
   | [u],_ =>
    obtain ⟨z0,k0,_,w0⟩:=DataW.trod_int Tryz.underlying69 h2;have k0:=(List.cons.inj k0).1;subst k0;have c0:=hcell 0 (by omega);rw [Go.Deep.add_add] at c0;simp only [Nat.mul_one,Nat.add_zero] at c0;exact ⟨z0,c0,bounds_i16 w0⟩
  obtain ⟨f,hf⟩:=Go.Deep.choose_lt hel;refine ⟨(List.range len).map (λj=>((f j:Int):Rat)),⟨some a,cap,?_,?_,λq hq=>?_,λh0=>?_⟩,?_⟩
  ·simp
  ·simpa using hl
  ·obtain ⟨j,hj,rfl⟩:=List.mem_map.1 hq
   rw [Mo];exact (hf j (by simpa using hj)).2
  ·have h0:0<len:=by simp at h0; omega
   have hc0:W.cell? (a.add 0)=_:=(hf 0 h0).1;have hc0:W.cell? a=_:=hc0;have hs:a.spot=none:=by
    have h:W.cell? a=some _:=hc0;unfold World.cell? at h;split at h
    ·split at h
     ·cases h
     ·rename_i hsp
      simpa using hsp
    ·cases h
   have hb:=World.block_lt_of_cell? _ _ hc0;obtain ⟨g,off,sp⟩:=a;have hs:sp=none:=hs;subst hs;refine ⟨g,off,rfl,id,hb,λj v hj=>?_⟩;rw [List.getElem?_map,List.getElem?_map] at hj
   by_cases hlt:j<len
   ·rw [List.getElem?_range hlt] at hj
    simp only [Option.map_some,Option.some.injEq] at hj;subst hj;have q1:=(hf j hlt).1;have hadd:∀ k:Nat,(Addr.mk g off none).add k=⟨g,off+k,none⟩:=λk=>by
     unfold Addr.add;split
     ·rename_i hk; subst hk; rfl
     ·rfl
    rw [hadd] at q1;rw [Mo];exact q1
   ·rw [List.getElem?_eq_none (by simpa using hlt)] at hj
    cases hj
  ·simp
   omega
def Abh(W:World)(v:Value)(zr zc:Int)(l:List Rat):Prop:=∃ s,v = .agg #[.int .u8 zr,.int .u8 zc,s]∧(XP.i16s l).p (λ_=>False) W [s]∧l.length≤1000000000000000∧(0≤zr∧zr≤255)∧(0≤zc∧zc≤255)
theorem cF{H:Type}{enc:TypeId × Value→H}{W:World}{base:Nat}{v:Value}{d:DataW H}{p:List MemPlace}
  (hval:Value.okWide Tryz.prog W .any base 24 v) (h:DataW.Trod enc Tryz.prog W 0 (λ_=>true) true 24 v d p) (hw:∀ n∈d.weights Tryz.prog 24,n≤reachBytes) :
  ∃ zr zc l,Abh W v zr zc l:=by
 obtain ⟨cs,rfl,hsz⟩:=okWide_struct Tryz.underlying24 hval;rw [vV] at hsz;obtain ⟨l⟩:=cs
 match l,hsz with
 | [c0,c1,c2],_ =>
  obtain ⟨fuel,hf⟩:=h;obtain ⟨y0,y1,y2,n,hx,_,h0,h1,h2⟩:=Go.Deep.trod_struct3 Tryz.underlying24 hf;have k0:DataW.trod enc Tryz.prog W 0 (λ_=>true) true n 5 [c0]=some y0:=by simpa [Value.cells,Gb] using h0
  have k1:DataW.trod enc Tryz.prog W 0 (λ_=>true) true n 5 [c1]=some y1:=by simpa [Value.cells,Gb] using h1
  have k2:DataW.trod enc Tryz.prog W 0 (λ_=>true) true n 22 [c2]=some y2:=by simpa [Value.cells,vQ,Gb] using h2
  have hd:d = .agg [y0.1,y1.1,y2.1]:=congrArg Prod.fst hx;subst hd;obtain ⟨z0,q0,_,w0⟩:=DataW.trod_int Tryz.underlying5 k0;obtain ⟨z1,q1,_,w1⟩:=DataW.trod_int Tryz.underlying5 k1;have q0:=(List.cons.inj q0).1;have q1:=(List.cons.inj q1).1;subst q0;subst q1;obtain ⟨A,a1,a2⟩:=qI k2 λn hn=>hw n (by simp only [DataW.weights,Tryz.underlying24]; simp [DataW.weightsEach,hn])
  exact ⟨z0,z1,A,c2,rfl,a1,a2,bounds_u8 w0,bounds_u8 w1⟩
theorem mX{H:Type}{enc:TypeId × Value→H}{f:Func}{s:ChangeSpec}{W W':World}{args:Array Value}{v:Value}{ds gs:List (DataW H)}{before:List MemPlace}
  (hW:DataW.Whole enc Tryz.prog f.params.toList s.vars false W args.toList ds gs before) (hb:Below W.heap.size W W')
  (hres:DataW.TrodAll enc Tryz.prog W' W.heap.size (λ_=>false) false f.resultTypes.toList (v.resultList f.resultTypes.size) (s.fn H (ds ++ gs)).results [])
  (hargs:DataW.TrodAll enc Tryz.prog W' 0 (λb=>decide (b<W.heap.size)) true f.params.toList args.toList (s.fn H (ds ++ gs)).args before)
  (hvars:DataW.TrodVars enc Tryz.prog W' (λb=>decide (b<W.heap.size)) s.vars (s.fn H (ds ++ gs)).vars []):s.post enc Tryz.prog f false true false false W args v W':=
 ⟨ds,gs,before,[],before,[],hW,hres,hargs,hvars,World.keptBut_mono (λp hp=>⟨hp,.inr (.inl hp)⟩) (hb.frame (· ∈ before)),λh=>by cases h⟩
end Go.Proofs.YtdopbgnkneeceaaGreat
