/- Facts for the fixed examples: boxes of integers, and the examples' calls. -/
import Derived.Test.YtgaehhapjnbieaaGreatqR3
import Derived.Test.YtgaehhapjnbieaaGreatqTx
import Derived.Test.YtgaehhapjnbieaaGreatqPow
import Derived.Deep.RegionHeld3
set_option linter.unusedSectionVars false
set_option linter.unusedVariables false
set_option linter.unusedSimpArgs false
namespace Go.Proofs.YtgaehhapjnbieaaGreat
open Go.RowKit
def BoxI (w:World) (g:Nat) (v:Value) (z:Int):Prop:=∃ b A k c,v = .agg #[.bool b,.slice A k c]∧w.heap[g]? = some (.cells #[.bool b,.slice A k c] 34 (0,0))∧IntAt w v z
theorem BoxI.lt {w:World} {g:Nat} {v:Value} {z:Int} (h:BoxI w g v z):g<w.heap.size:=by
 obtain ⟨b,A,k,c,_,h,_⟩:=h
 rcases Nat.lt_or_ge g w.heap.size with hlt | hge
 ·exact hlt
 ·rw [Array.getElem?_eq_none hge] at h; cases h
theorem BoxI.cells {w:World} {g:Nat} {b:Bool} {A:Option Addr} {k c:Nat} {z:Int} (h:BoxI w g (.agg #[.bool b,.slice A k c]) z):w.cell? ⟨g,0,none⟩=some (.bool b)∧w.cell? ⟨g,1,none⟩=some (.slice A k c):=by
 obtain ⟨b',A',k',c',e,h,hi⟩:=h
 cases e
 obtain ⟨h0,h1,_,_,_⟩:=box_in h (Below.refl _ _)
 exact ⟨h0,h1⟩
theorem BoxI.int {w:World} {g:Nat} {v:Value} {z:Int} (h:BoxI w g v z):IntAt w v z:=by
 obtain ⟨b',A',k',c',e,h,hi⟩:=h
 exact hi
end Go.Proofs.YtgaehhapjnbieaaGreat
namespace Go.Proofs.YtgaehhapjnbieaaGreat
open Go.RowKit
section
variable {P : Program} {ops : Array Oper} {Q : Exit → Act → World → Prop} {S : World → Prop}
end
theorem get_put_same {a:Act} {d:Nat} (v:Value) (h:d<a.tmps.size):(a.put (some d) v).tmps[d]? = some v:=by simp [Act.put,h]
theorem get_put_ne {a:Act} {d t:Nat} (v:Value) (h:d≠t):(a.put (some d) v).tmps[t]? = a.tmps[t]? := by simp [Act.put,h]
theorem eval_of {a:Act} {t:Nat} {v:Value} (h:a.tmps[t]? = some v):a.eval (.tmp t)=v:=by
 simp [Act.eval,Array.getD_eq_getD_getElem?,h]
theorem guard_none {ops:Array Oper} {a:Act} (o:Oper) (h:o.guard=none):Region.wanted o (yielded ops a.tmps)=true:=by simp [Region.wanted,h]
end Go.Proofs.YtgaehhapjnbieaaGreat
namespace Go.Proofs.YtgaehhapjnbieaaGreat
open Go.RowKit
section
variable {a : Act} {w : World} {o : Oper}
end
end Go.Proofs.YtgaehhapjnbieaaGreat
namespace Go.Proofs.YtgaehhapjnbieaaGreat
open Go.RowKit
def maskO (N:Nat) (l:List Nat):Array Bool:=((List.range N).map fun i=>l.contains i).toArray
section
variable {P : Program} {ops : Array Oper} {Q : Exit → Act → World → Prop} {W0 : World} {a0 a : Act} {w : World} {N L : Nat}
end
def Sm (z:Int) (k:Nat):Prop:=z.natAbs<4294967296 ^ k
theorem len_le_pow:∀ {k n:Nat},n<4294967296 ^ k→len n≤k
 | 0,n,h=>by
  obtain rfl:n=0:=by simpa using h
  rw [len_zero]
  exact Nat.le_refl _
 | k+1,n,h=>by
  rcases Nat.eq_zero_or_pos n with rfl | h0
  ·rw [len_zero]; exact Nat.zero_le _
  ·rw [len_pos h0]
   have:=len_le_pow (k:=k) (n:=n / 4294967296) (Nat.div_lt_of_lt_mul (by rw [Nat.pow_succ] at h; rw [Nat.mul_comm]; exact h))
   omega
theorem Sm.len {z:Int} {k:Nat} (h:Sm z k) (hk:k≤1000000000):len z.natAbs≤1099511627775:=Nat.le_trans (len_le_pow h) (by omega)
theorem Sm.mono {z:Int} {k j:Nat} (h:Sm z k) (hk:k≤j):Sm z j:=Nat.lt_of_lt_of_le h (Nat.pow_le_pow_right (by decide) hk)
theorem Sm.neg {z:Int} {k:Nat} (h:Sm z k):Sm (-z) k:=by unfold Sm; rw [Int.natAbs_neg]; exact h
theorem Sm.add {x y:Int} {i j:Nat} (hx:Sm x i) (hy:Sm y j):Sm (x+y) (max i j+1):=by
 have h1:=hx.mono (Nat.le_max_left i j)
 have h2:=hy.mono (Nat.le_max_right i j)
 unfold Sm at *
 have:=Int.natAbs_add_le x y
 rw [Nat.pow_succ]
 omega
theorem Sm.sub {x y:Int} {i j:Nat} (hx:Sm x i) (hy:Sm y j):Sm (x - y) (max i j+1):=by
 rw [Int.sub_eq_add_neg]
 exact hx.add hy.neg
theorem Sm.mul {x y:Int} {i j:Nat} (hx:Sm x i) (hy:Sm y j):Sm (x*y) (i+j):=by
 unfold Sm at *
 rw [Int.natAbs_mul,Nat.pow_add]
 exact Nat.mul_lt_mul'' hx hy
theorem Sm.of (z:Int) (h:z.natAbs<18446744073709551616):Sm z 2:=by unfold Sm; exact Nat.lt_of_lt_of_le h (by decide)
section
variable {w : World} {va vb : Value} {x y : Int} {i j : Nat}
theorem cOf (z:Int) (h0 : -9223372036854775808≤z) (h1:z≤9223372036854775807):Calls Tryz.prog 106 #[.int .i64 z] w fun e w'=>∃ v,e = .returned v∧IntAt w' v z∧Below w.heap.size w w':=Of_any z w h0 h1
theorem cAdd (ha:IntAt w va x) (hb:IntAt w vb y) (sx:Sm x i) (sy:Sm y j) (hi:i≤1000000000) (hj:j≤1000000000):Calls Tryz.prog 135 #[va,vb] w fun e w'=>∃ v,e = .returned v∧IntAt w' v (x+y)∧Below w.heap.size w w':=
 Add_any va vb x y w ha hb (Nat.le_trans (sx.len hi) (by decide)) (Nat.le_trans (sy.len hj) (by decide))
theorem cMul (ha:IntAt w va x) (hb:IntAt w vb y) (sx:Sm x i) (sy:Sm y j) (hi:i≤1000000000) (hj:j≤1000000000):Calls Tryz.prog 104 #[va,vb] w fun e w'=>∃ v,e = .returned v∧IntAt w' v (x*y)∧Below w.heap.size w w':=
 Mul_any va vb x y w ha hb (Nat.le_trans (sx.len hi) (by decide)) (Nat.le_trans (sy.len hj) (by decide))
theorem cNeg (ha:IntAt w va x) (sx:Sm x i) (hi:i≤1000000000):Calls Tryz.prog 123 #[va] w fun e w'=>∃ v,e = .returned v∧IntAt w' v (-x)∧Below w.heap.size w w':=
 Neg_any va x w ha (Nat.le_trans (sx.len hi) (by decide))
theorem cSign (ha:IntAt w va x) (sx:Sm x i) (hi:i≤1000000000):Calls Tryz.prog 112 #[va] w fun e w'=>∃ v,e = .returned v∧v = .int .i64 x.sign∧Below w.heap.size w w':=
 (Sign_any va x w ha (Nat.le_trans (sx.len hi) (by decide))).mono fun _ _ ⟨he,hb⟩=>⟨_,he,rfl,hb⟩
theorem cCmp (ha:IntAt w va x) (hb:IntAt w vb y) (sx:Sm x i) (sy:Sm y j) (hi:i≤1000000000) (hj:j≤1000000000):Calls Tryz.prog 110 #[va,vb] w fun e w'=>∃ v,e = .returned v∧v = .int .i64 (cmpI x y)∧Below w.heap.size w w':=
 (Cmp_any va vb x y w ha hb (Nat.le_trans (sx.len hi) (by decide)) (Nat.le_trans (sy.len hj) (by decide))).mono fun _ _ ⟨he,hb⟩=>⟨_,he,rfl,hb⟩
end
section
variable {a : Act} {w : World} {o : Oper}
end
end Go.Proofs.YtgaehhapjnbieaaGreat
namespace Go.Proofs.YtgaehhapjnbieaaGreat
open Go.RowKit
section
variable {ops : Array Oper} {Q : Exit → Act → World → Prop} {a0 a : Act} {w W0 : World} {N L : Nat}
end
section
variable {a : Act} {w : World} {o : Oper}
end
end Go.Proofs.YtgaehhapjnbieaaGreat
namespace Go.Proofs.YtgaehhapjnbieaaGreat
open Go.RowKit
end Go.Proofs.YtgaehhapjnbieaaGreat
