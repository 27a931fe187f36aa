/- append onto a row of limbs of the call's own. -/
import Derived.Test.YtdopbgnkneeceaaGreatqMem
import Derived.Laws.AppendOwnNone
set_option linter.unusedSectionVars false
set_option linter.unusedVariables false
set_option linter.unusedSimpArgs false
set_option maxRecDepth 100000
namespace Go.Proofs.YtdopbgnkneeceaaGreat
open Go.RowKit
def Ct(w:World)(base:Nat)(v:Value)(ms:List Nat):Prop:=w.ownsRow base 114 1 v ms.length (ms.map (fun (x:Nat)=>Value.int .u32 (x:Int)))
theorem Ct.empty(w:World){base:Nat}(hb:base≤w.heap.size):Ct (w.alloc (.cells #[] 114)) base (.slice (some ⟨w.heap.size,0,none⟩) 0 0) []:=
 ⟨by simp,.inr ⟨w.heap.size,0,#[],rfl,hb,heap_alloc_new w _,Nat.le_refl _,by unfold maxLen; omega,by simp,by simp⟩⟩
theorem Ct.shape{w:World}{base:Nat}{v:Value}{ms:List Nat}(h:Ct w base v ms):∃ A c,v = .slice A ms.length c∧ms.length≤c∧c≤maxLen∧CQ w w.heap.size A ms:=by
 obtain ⟨h1,h2⟩:=h
 rcases h2 with ⟨rfl,h0⟩ | ⟨g,cap,cur,rfl,hb,hg,hn,hm,hs,ht⟩
 ·refine ⟨none,0,by rw [h0],by omega,by unfold maxLen; omega,λhn=>by omega⟩
 ·refine ⟨_,cap,rfl,hn,hm,λ_=>⟨_,rfl,?_,⟨_,_,hg⟩,λj x hx=>?_⟩⟩
  ·show g<w.heap.size
   rcases Nat.lt_or_ge g w.heap.size with h | h
   ·exact h
   ·rw [Array.getElem?_eq_none h] at hg; cases hg
  ·have hc:=World.ownsRow.cells (w:=w) (base:=base) (e:=114) (size:=1) (v:=.slice (some ⟨g,0,none⟩) ms.length cap) (n:=ms.length) (xs:=ms.map (fun (x:Nat)=>Value.int .u32 (x:Int))) ⟨h1,.inr ⟨g,cap,cur,rfl,hb,hg,hn,hm,hs,ht⟩⟩ (g:=g) rfl
   exact hc j _ (by rw [List.getElem?_map,hx]; rfl)
theorem Ct.shapeL{w:World}{base:Nat}{v:Value}{ms:List Nat}(h:Ct w base v ms):∃ A L c,v = .slice A L c∧Hid (L=ms.length)∧L≤c∧c≤maxLen∧CQ w w.heap.size A ms:=by
 obtain ⟨A,c,rfl,h1,h2,h3⟩:=h.shape;exact ⟨A,_,c,rfl,rfl,h1,h2,h3⟩
theorem Ct.alloc{w:World}{base:Nat}{v:Value}{ms:List Nat}(h:Ct w base v ms)(o:Obj):Ct (w.alloc o) base v ms:=World.ownsRow.alloc h o
theorem Ct.base_le{w:World}{base:Nat}{v:Value}{ms:List Nat}(h:Ct w base v ms):∀ k,v.ownBlock=some k→base≤k:=λk hk=>(World.ownsRow.lt h k hk).1
theorem Ct.nat{w:World}{base:Nat}{v:Value}{ms:List Nat}(h:Ct w base v ms)(h32:Bx ms)(hl:ms=[] ∨ ms.getD (ms.length - 1) 0≠0):AB w v (val ms):=by
 obtain ⟨A,c,rfl,hc,_,hm⟩:=h.shape;have e:=Rg h32 hl;exact ⟨A,c,by rw [← Aa,e],by rw [← Aa,e]; exact hc,by rw [e]; exact hm⟩
theorem IS{w:World}(base:Nat)(t ty e:TypeId)(i:TypeInfo)(size:Nat)(ht:Tryz.prog.underlying t=some (.slice e))(hi:Tryz.prog.info? e=some i)
  (v:Value) (n:Nat) (xs:List Value) (hown:w.ownsRow base e size v n xs) (c:Nat):(Builtin.append_ #[t,t] ty #[v,.slice none 0 c]).run Tryz.prog w = .ok v w:=by
 rcases hown.2 with ⟨rfl,_⟩ | ⟨g,cap,cur,rfl,_,_,hnc,_⟩
 ·simp [Builtin.append_,run_underlying ht,sizeOf,typeInfo,hi,Builtin.lenOf,Builtin.firstCells]
 ·simp [Builtin.append_,run_underlying ht,sizeOf,typeInfo,hi,Builtin.lenOf,Builtin.firstCells,hnc,storeCells]
theorem AG{w:World}{ops:Array Oper}{rest:List Oper}{o:Oper}{a:Act}{Q:Exit→Act→World→Prop}(hgd:o.guard=none)(s x:Operand)
  (ho:o.op = .call { callee:=.builtin .append,args:=#[s,x],argTypes:=#[32,32] })
  (base:Nat) (v:Value) (ms:List Nat) (hs:a.eval s=v) (hown:Ct w base v ms) (B:Nat) (A:Option Addr) (m c:Nat) (ns:List Nat) (hx:a.eval x = .slice A m c)
  (hr:Cq w B A ns) (hm:ns.length=m) (hb:ms.length+m≤17592186044416) (hbase:base≤w.heap.size)
  (h:∀ v' w',Ct w' base v' (ms ++ ns)→w.grownBy w' v.ownBlock→(v'.ownBlock=v.ownBlock ∨ v'.ownBlock=some w.heap.size)→wpList Tryz.prog ops Q rest (a.put o.dst v') w'):wpList Tryz.prog ops Q (o :: rest) a w:=by
 obtain ⟨i,hi,hz,hsz,hby⟩:=info_parts qA
 rcases A with _ | ad
 ·have h0:ns=[]:=by
   rcases ns with _ | ⟨y,r⟩
   ·rfl
   ·obtain ⟨ad,e,_⟩:=hr (by simp)
    cases e
  subst h0;have hm0:m=0:=by simpa using hm.symm
  subst hm0;refine wpList_plain hgd λK hK=>?_
  have hrun:=IS (w:=w) base 32 o.type 114 i 1 Tryz.underlying32 hi v _ _ hown c;unfold Oper.wp;simp [execOp,ho,resolve,invoke,builtin,hs,hx,hrun,Result.andThen];exact hK _ _ (h v w (by rw [List.append_nil]; exact hown) (World.grownBy.refl w _) (.inl rfl))
 ·refine wpList_append_own_at w hgd s x _ ho base 114 i (.int .u32 0) 1 4 Tryz.underlying32 hi hz hsz hby rfl (by decide) v _ _ hs hown ad m c (ns.map (fun (x:Nat)=>Value.int .u32 (x:Int))) hx (by rw [List.length_map,hm,Nat.mul_one]) ?_ ?_ (by unfold maxLen; omega) (by omega) hbase ?_
  ·intro j u hu
   rw [List.getElem?_map] at hu
   cases hx2:ns[j]? with
   | none=>rw [hx2] at hu; cases hu
   | some y =>
    rw [hx2] at hu;have hpos:0<ns.length:=by have:=(List.getElem?_eq_some_iff.1 hx2).1; omega
    obtain ⟨ad',e,_,hc⟩:=hr hpos;injection e with e
    subst e;rw [hc j y hx2];exact hu
  ·intro u hu
   obtain ⟨y,_,rfl⟩:=List.mem_map.1 hu;rfl
  ·intro v' w' h1 h2 _ h4
   refine h v' w' ?_ h2 h4;unfold Ct;rw [List.length_append,hm,List.map_append];exact h1
end Go.Proofs.YtdopbgnkneeceaaGreat
