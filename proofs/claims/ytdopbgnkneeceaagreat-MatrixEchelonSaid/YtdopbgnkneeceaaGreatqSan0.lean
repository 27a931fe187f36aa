/- Facts for the fixed examples: boxes of integers, and the examples' calls. -/
import Derived.Test.YtdopbgnkneeceaaGreatqTx
import Derived.Test.YtdopbgnkneeceaaGreatqPow
set_option linter.unusedSectionVars false
set_option linter.unusedVariables false
set_option linter.unusedSimpArgs false
set_option maxRecDepth 100000
namespace Go.Proofs.YtdopbgnkneeceaaGreat
open Go.RowKit
def KA(w:World)(g:Nat)(v:Value)(z:Int):Prop:=∃ b A k c,v = .agg #[.bool b,.slice A k c]∧w.heap[g]? = some (.cells #[.bool b,.slice A k c] 34 (0,0))∧Al w v z
theorem KA.lt{w:World}{g:Nat}{v:Value}{z:Int}(h:KA w g v z):g<w.heap.size:=by
 obtain ⟨b,A,k,c,_,h,_⟩:=h
 rcases Nat.lt_or_ge g w.heap.size with hlt | hge
 ·exact hlt
 ·rw [Array.getElem?_eq_none hge] at h; cases h
theorem KA.cells{w:World}{g:Nat}{b:Bool}{A:Option Addr}{k c:Nat}{z:Int}(h:KA w g (.agg #[.bool b,.slice A k c]) z):w.cell? ⟨g,0,none⟩=some (.bool b)∧w.cell? ⟨g,1,none⟩=some (.slice A k c):=by
 obtain ⟨b',A',k',c',e,h,hi⟩:=h
 cases e
 obtain ⟨h0,h1,_,_,_⟩:=Ax h (Below.refl _ _);exact ⟨h0,h1⟩
theorem KA.int{w:World}{g:Nat}{v:Value}{z:Int}(h:KA w g v z):Al w v z:=by
 obtain ⟨b',A',k',c',e,h,hi⟩:=h;exact hi
section
variable {P : Program} {ops : Array Oper} {Q : Exit → Act → World → Prop} {S : World → Prop}
end
theorem EA{a:Act}{d:Nat}(v:Value)(h:d<a.tmps.size):(a.put (some d) v).tmps[d]? = some v:=by simp [Act.put,h]
theorem Dk{a:Act}{d t:Nat}(v:Value)(h:d≠t):(a.put (some d) v).tmps[t]? = a.tmps[t]? := by simp [Act.put,h]
theorem BZ{a:Act}{t:Nat}{v:Value}(h:a.tmps[t]? = some v):a.eval (.tmp t)=v:=by
 simp [Act.eval,Array.getD_eq_getD_getElem?,h]
theorem D0{ops:Array Oper}{a:Act}(o:Oper)(h:o.guard=none):Region.wanted o (yielded ops a.tmps)=true:=by simp [Region.wanted,h]
section
variable {a : Act} {w : World} {o : Oper}
end
def Sh(N:Nat)(l:List Nat):Array Bool:=((List.range N).map λi=>l.contains i).toArray
section
variable {P : Program} {ops : Array Oper} {Q : Exit → Act → World → Prop} {W0 : World} {a0 a : Act} {w : World} {N L : Nat}
end
def Sm(z:Int)(k:Nat):Prop:=z.natAbs<4294967296 ^ k
theorem AO:∀{k n:Nat},n<4294967296 ^ k→len n≤k
 | 0,n,h=>by
  obtain rfl:n=0:=by simpa using h
  rw [AX];exact Nat.le_refl _
 | k+1,n,h=>by
  rcases Nat.eq_zero_or_pos n with rfl | h0
  ·rw [AX]; exact Nat.zero_le _
  ·rw [Hy h0]
   have:=AO (k:=k) (n:=n / 4294967296) (Nat.div_lt_of_lt_mul (by rw [Nat.pow_succ] at h; rw [Nat.mul_comm]; exact h));omega
theorem Sm.len{z:Int}{k:Nat}(h:Sm z k)(hk:k≤1000000000):len z.natAbs≤1099511627775:=Nat.le_trans (AO h) (by omega)
theorem Sm.mono{z:Int}{k j:Nat}(h:Sm z k)(hk:k≤j):Sm z j:=Nat.lt_of_lt_of_le h (Nat.pow_le_pow_right (by decide) hk)
theorem Sm.neg{z:Int}{k:Nat}(h:Sm z k):Sm (-z) k:=by unfold Sm; rw [Int.natAbs_neg]; exact h
theorem Sm.add{x y:Int}{i j:Nat}(hx:Sm x i)(hy:Sm y j):Sm (x+y) (max i j+1):=by
 have h1:=hx.mono (Nat.le_max_left i j);have h2:=hy.mono (Nat.le_max_right i j);unfold Sm at *;have:=Int.natAbs_add_le x y;rw [Nat.pow_succ];omega
theorem Sm.sub{x y:Int}{i j:Nat}(hx:Sm x i)(hy:Sm y j):Sm (x - y) (max i j+1):=by
 rw [Int.sub_eq_add_neg];exact hx.add hy.neg
theorem Sm.mul{x y:Int}{i j:Nat}(hx:Sm x i)(hy:Sm y j):Sm (x*y) (i+j):=by
 unfold Sm at *;rw [Int.natAbs_mul,Nat.pow_add];exact Nat.mul_lt_mul'' hx hy
theorem Sm.of(z:Int)(h:z.natAbs<18446744073709551616):Sm z 2:=by unfold Sm; exact Nat.lt_of_lt_of_le h (by decide)
section
variable {w : World} {va vb : Value} {x y : Int} {i j : Nat}
theorem cOf(z:Int)(h0 : -9223372036854775808≤z)(h1:z≤9223372036854775807):Calls Tryz.prog 77 #[.int .i64 z] w λe w'=>∃ v,e = .returned v∧Al w' v z∧Below w.heap.size w w':=Aeh z w h0 h1
theorem AjN(ha:Al w va x)(hb:Al w vb y)(sx:Sm x i)(sy:Sm y j)(hi:i≤1000000000)(hj:j≤1000000000):Calls Tryz.prog 134 #[va,vb] w λe w'=>∃ v,e = .returned v∧Al w' v (x+y)∧Below w.heap.size w w':=
 wZ va vb x y w ha hb (Nat.le_trans (sx.len hi) (by decide)) (Nat.le_trans (sy.len hj) (by decide))
theorem AjO(ha:Al w va x)(hb:Al w vb y)(sx:Sm x i)(sy:Sm y j)(hi:i≤1000000000)(hj:j≤1000000000):Calls Tryz.prog 79 #[va,vb] w λe w'=>∃ v,e = .returned v∧Al w' v (x*y)∧Below w.heap.size w w':=
 zZ va vb x y w ha hb (Nat.le_trans (sx.len hi) (by decide)) (Nat.le_trans (sy.len hj) (by decide))
theorem AjA(ha:Al w va x)(sx:Sm x i)(hi:i≤1000000000):Calls Tryz.prog 87 #[va] w λe w'=>∃ v,e = .returned v∧Al w' v (-x)∧Below w.heap.size w w':=
 zB va x w ha (Nat.le_trans (sx.len hi) (by decide))
theorem Ah0(ha:Al w va x)(sx:Sm x i)(hi:i≤1000000000):Calls Tryz.prog 114 #[va] w λe w'=>∃ v,e = .returned v∧v = .int .i64 x.sign∧Below w.heap.size w w':=
 (mS va x w ha (Nat.le_trans (sx.len hi) (by decide))).mono λ_ _ ⟨he,hb⟩=>⟨_,he,rfl,hb⟩
theorem AbS(ha:Al w va x)(hb:Al w vb y)(sx:Sm x i)(sy:Sm y j)(hi:i≤1000000000)(hj:j≤1000000000):Calls Tryz.prog 57 #[va,vb] w λe w'=>∃ v,e = .returned v∧v = .bool (decide (x=y))∧Below w.heap.size w w':=
 (rW va vb x y w ha hb (Nat.le_trans (sx.len hi) (by decide)) (Nat.le_trans (sy.len hj) (by decide))).mono λ_ _ ⟨he,hb⟩=>⟨_,he,rfl,hb⟩
theorem AcS(ha:Al w va x)(hb:Al w vb y)(sx:Sm x i)(sy:Sm y j)(hi:i≤1000000000)(hj:j≤1000000000)(e:x=y):Calls Tryz.prog 57 #[va,vb] w λe w'=>∃ v,e = .returned v∧v = .bool true∧Below w.heap.size w w':=by
 have:=AbS ha hb sx sy hi hj;rw [decide_eq_true e] at this;exact this
end
section
variable {a : Act} {w : World} {o : Oper}
end
section
variable {ops : Array Oper} {Q : Exit → Act → World → Prop} {a0 a : Act} {w W0 : World} {N L : Nat}
end
section
variable {a : Act} {w : World} {o : Oper}
end
section
open Go.RowKit
end
end Go.Proofs.YtdopbgnkneeceaaGreat
