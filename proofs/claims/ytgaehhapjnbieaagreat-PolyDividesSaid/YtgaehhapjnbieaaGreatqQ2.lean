/- Rational numbers: isOne, and the ends of functions whose results lie in boxes. -/
import Derived.Test.YtgaehhapjnbieaaGreatqDivP
import Derived.Test.YtgaehhapjnbieaaGreatqGcdL
import Derived.Test.YtgaehhapjnbieaaGreatqCon
import Derived.Test.YtgaehhapjnbieaaGreatqR3
import Derived.Test.YtgaehhapjnbieaaGreatqPow
set_option linter.unusedSectionVars false
set_option linter.unusedVariables false
set_option linter.unusedSimpArgs false
namespace Go.Proofs.YtgaehhapjnbieaaGreat
open Go.RowKit
set_option maxHeartbeats 1600000 in
theorem isOne_any (v:Value) (z:Int) (w:World) (h:IntAt w v z) (hl:len z.natAbs≤4398046511104):Calls Tryz.prog 113 #[v] w fun e w'=>e = .returned (.bool (decide (z=1)))∧Below w.heap.size w w':=by
 obtain ⟨n,hn⟩:∃ n,z.natAbs=n:=⟨_,rfl⟩
 obtain ⟨b,hb⟩:∃ b,decide (z<0)=b:=⟨_,rfl⟩
 obtain ⟨A,c,rfl,H⟩:=h.parts_ hn hb
 rw [hn] at hl
 have hm:=H.out.mem.2.2
 clear h
 cases b with
 | true =>
  have hz:decide (z=1)=false:=by simp at hb ⊢; omega
  have HZ:=Lib.hid hz
  clear hz hb hn hm
  go_enter Tryz.func113,Tryz.ntmps113
  go_wp2
  go_ret
  rw [HZ.out]
  exact ⟨rfl,below_alloc _ _⟩
 | false =>
  by_cases h1:len n=1
  ·have h1':(limbs n).length=1:=h1
   obtain ⟨x,hx⟩:∃ x,limbs n=[x]:=List.length_eq_one_iff.1 h1'
   have hnx:n=x:=by
    have:=val_limbs n
    rw [hx] at this
    simp [val] at this
    exact this.symm
   obtain ⟨ad,rfl,hlt,hc⟩:=hm.at_ (k:=0) (by omega)
   have hx0:(limbs n)[0]'(by omega)=n:=by simp [hx,← hnx]
   have hadd:ad.add 0=ad:=by unfold Addr.add; simp
   rw [hx0,hadd] at hc
   have hcell:=(World.cell?_alloc_lt w (Obj.cells #[.bool false,.slice (some ad) 1 c] 34) ad hlt).trans hc
   have hz:decide (z=1)=decide (n=1):=by
    have:¬ z<0:=by simpa using hb
    rw [decide_eq_decide]; omega
   have HZ:=Lib.hid hz
   have HC:=Lib.hid hc
   rw [h1]
   clear hz hb hn hm hx hx0 hnx h1' hc
   go_enter Tryz.func113,Tryz.ntmps113
   go_wp2
   go_ret
   rw [HZ.out]
   refine ⟨congrArg (fun b=>Ending.returned (Value.bool b)) ?_,below_alloc _ _⟩
   show ((n:Int) == 1)=decide (n=1)
   rw [Bool.eq_iff_iff]
   simp
   omega
  ·have hz:decide (z=1)=false:=by
    simp only [decide_eq_false_iff_not]
    rintro rfl
    apply h1
    rw [← hn]
    decide +kernel
   have HZ:=Lib.hid hz
   have hne:((len n:Int) == 1)=false:=by simp; omega
   clear hz hb hn hm
   go_enter Tryz.func113,Tryz.ntmps113
   go_wp2
   go_ret
   rw [HZ.out]
   exact ⟨rfl,below_alloc _ _⟩
theorem kOne {x:Int} {i:Nat} {va:Value} {w:World} (ha:(intF x).p va w) (sx:Sm x i) (hi:i≤1000000000):Calls Tryz.prog 113 #[va] w (GivesP (eqF (.bool (decide (x=1)))) w):=
 (isOne_any va x w ha (Nat.le_trans (sx.len hi) (by decide))).mono fun _ _ ⟨e,hb⟩=>⟨_,e,rfl,hb⟩
theorem kOneT {x:Int} {i:Nat} {va:Value} {w:World} (ha:(intF x).p va w) (sx:Sm x i) (hi:i≤1000000000) (e:x=1):Calls Tryz.prog 113 #[va] w (GivesP (eqF (.bool true)) w):=by
 have:=kOne ha sx hi
 rwa [decide_eq_true e] at this
theorem kOneF {x:Int} {i:Nat} {va:Value} {w:World} (ha:(intF x).p va w) (sx:Sm x i) (hi:i≤1000000000) (e:x≠1):Calls Tryz.prog 113 #[va] w (GivesP (eqF (.bool false)) w):=by
 have:=kOne ha sx hi
 rwa [decide_eq_false e] at this
section
variable {Wb : World} {N : Nat} {S : List (Nat × PF)} {B : List (Nat × CF)} {a : Act} {w : World}
theorem ret_boxQ {fn:Func} {t:Nat} {n d:Int} (hst:St Wb N S B a w) (hr:fn.results = #[.cell t 36]) (k:Nat) (hk:B[k]? = some (t,boxQF n d)):bodyPost Tryz.prog fn (GivesP (pairF n d) Wb) .ret a w:=by
 obtain ⟨g,h1,_,b,A,n,c,b',A',n',c',hh,hi,hi'⟩:=hst.boxes.get hk
 obtain ⟨e0,e1,e2,e3⟩:=q_cells hh
 refine bodyPost_ret (v:=.agg #[.bool b,.slice A n c,.bool b',.slice A' n' c']) ?_ hst.defers ⟨_,rfl,⟨_,_,_,_,_,_,_,_,rfl,hi,hi'⟩,hst.below⟩
 simp [results,hr,go_sem,e0,e1,e2,e3,Array.getD_eq_getD_getElem?,h1]
end
end Go.Proofs.YtgaehhapjnbieaaGreat
namespace Go.Proofs.YtgaehhapjnbieaaGreat
open Go.RowKit
set_option maxRecDepth 100000 in
theorem Quo_any {x y : Int} {i j : Nat} (va : Value) (vb : Value) (W : World) (hva : (intF x).p va W) (hvb : (intF y).p vb W) (sx : Sm x i) (sy : Sm y j) (_hi : i ≤ 600000000) (_hj : j ≤ 600000000) (ny : y ≠ 0) : Calls Tryz.prog 124 #[va, vb] W (GivesP (intF (x / y)) W) := by
  let E : List PF := [(intF x), (intF y), (intF (x / y)), (intF (x % y))]
  let EB : List CF := [(boxIF x), (boxIF y), zeroIF, (boxIF (x / y)), (boxIF (x % y))]
  exact auto_calls (E := E) (EB := EB) (fs := [(.ref 0), (.ref 1)]) (r := (.ref 2))
   { calls := [c2 136 (.ref 0) (.ref 1) (.tup3 (.ref 2) (.ref 3) (.int .i64 0)) fun w v0 v1 hb h0 h1 => kDivMod h0 h1 sx sy (by first | decide | assumption | omega) (by first | decide | assumption | omega) ny],
     loads := [⟨34, 0, 0, (.ref 0), fun w q h => loadI_int w q h⟩,
      ⟨34, 0, 1, (.ref 1), fun w q h => loadI_int w q h⟩,
      ⟨34, 0, 3, (.ref 2), fun w q h => loadI_int w q h⟩],
     allocs := [⟨34, 2, _, allocI_run, allocI_old⟩],
     boxes := [⟨34, (.ref 0), 0, fun w v h => boxI_run w v h⟩,
      ⟨34, (.ref 1), 1, fun w v h => boxI_run w v h⟩],
     stores := [⟨34, 0, 2, (.ref 2), 3, (storeI_zero _)⟩,
      ⟨34, 0, 2, (.ref 3), 4, (storeI_zero _)⟩] }
   Tryz.func124 ⟨hva, hvb, trivial⟩ (by kernel_rfl)
theorem kQuo {x y:Int} {i j:Nat} {va vb:Value} {w:World} (ha:(intF x).p va w) (hb:(intF y).p vb w) (sx:Sm x i) (sy:Sm y j) (hi:i≤600000000) (hj:j≤600000000) (ny:y≠0):Calls Tryz.prog 124 #[va,vb] w (GivesP (intF (x / y)) w):=Quo_any va vb w ha hb sx sy hi hj ny
set_option maxRecDepth 100000 in
theorem Can_1 {x y : Int} {i j : Nat} (va : Value) (vb : Value) (W : World) (hva : (intF x).p va W) (hvb : (intF y).p vb W) (sx : Sm x i) (_sy : Sm y j) (_hi : i ≤ 600000000) (_hj : j ≤ 600000000) (h1 : x = 1) : Calls Tryz.prog 103 #[va, vb] W (GivesP (tup3F (intF x) (intF y) (intF 1)) W) := by
  let E : List PF := [(intF x), (intF y), (intF 1)]
  let EB : List CF := [(boxIF x), (boxIF y), zeroIF, (boxIF 1)]
  exact auto_calls (E := E) (EB := EB) (fs := [(.ref 0), (.ref 1)]) (r := (.tup3 (.ref 0) (.ref 1) (.ref 2)))
   { calls := [c1 113 (.ref 0) (.bool true) fun w v0 hb h0 => kOneT h0 sx (by first | decide | assumption | omega) h1,
      c1 106 (.int .i64 1) (.ref 2) fun w v0 hb h0 => kOf 1 (by omega) (by omega) h0],
     loads := [⟨34, 0, 0, (.ref 0), fun w q h => loadI_int w q h⟩,
      ⟨34, 0, 1, (.ref 1), fun w q h => loadI_int w q h⟩,
      ⟨34, 0, 3, (.ref 2), fun w q h => loadI_int w q h⟩],
     allocs := [⟨34, 2, _, allocI_run, allocI_old⟩],
     boxes := [⟨34, (.ref 0), 0, fun w v h => boxI_run w v h⟩,
      ⟨34, (.ref 1), 1, fun w v h => boxI_run w v h⟩],
     stores := [⟨34, 0, 2, (.ref 0), 0, (storeI_zero _)⟩,
      ⟨34, 0, 2, (.ref 1), 1, (storeI_zero _)⟩,
      ⟨34, 0, 2, (.ref 2), 3, (storeI_zero _)⟩] }
   Tryz.func103 ⟨hva, hvb, trivial⟩ (by kernel_rfl)
set_option maxRecDepth 100000 in
theorem Can_2 {x y : Int} {i j : Nat} (va : Value) (vb : Value) (W : World) (hva : (intF x).p va W) (hvb : (intF y).p vb W) (sx : Sm x i) (sy : Sm y j) (_hi : i ≤ 600000000) (_hj : j ≤ 600000000) (h1 : x ≠ 1) (h2 : y = 1) : Calls Tryz.prog 103 #[va, vb] W (GivesP (tup3F (intF x) (intF y) (intF 1)) W) := by
  let E : List PF := [(intF x), (intF y), (intF 1)]
  let EB : List CF := [(boxIF x), (boxIF y), zeroIF, (boxIF 1)]
  exact auto_calls (E := E) (EB := EB) (fs := [(.ref 0), (.ref 1)]) (r := (.tup3 (.ref 0) (.ref 1) (.ref 2)))
   { calls := [c1 113 (.ref 0) (.bool false) fun w v0 hb h0 => kOneF h0 sx (by first | decide | assumption | omega) h1,
      c1 113 (.ref 1) (.bool true) fun w v0 hb h0 => kOneT h0 sy (by first | decide | assumption | omega) h2,
      c1 106 (.int .i64 1) (.ref 2) fun w v0 hb h0 => kOf 1 (by omega) (by omega) h0],
     loads := [⟨34, 0, 0, (.ref 0), fun w q h => loadI_int w q h⟩,
      ⟨34, 0, 1, (.ref 1), fun w q h => loadI_int w q h⟩,
      ⟨34, 0, 3, (.ref 2), fun w q h => loadI_int w q h⟩],
     allocs := [⟨34, 2, _, allocI_run, allocI_old⟩],
     boxes := [⟨34, (.ref 0), 0, fun w v h => boxI_run w v h⟩,
      ⟨34, (.ref 1), 1, fun w v h => boxI_run w v h⟩],
     stores := [⟨34, 0, 2, (.ref 0), 0, (storeI_zero _)⟩,
      ⟨34, 0, 2, (.ref 1), 1, (storeI_zero _)⟩,
      ⟨34, 0, 2, (.ref 2), 3, (storeI_zero _)⟩] }
   Tryz.func103 ⟨hva, hvb, trivial⟩ (by kernel_rfl)
set_option maxRecDepth 100000 in
theorem Can_3 {x y : Int} {i j : Nat} (va : Value) (vb : Value) (W : World) (hva : (intF x).p va W) (hvb : (intF y).p vb W) (sx : Sm x i) (sy : Sm y j) (_hi : i ≤ 600000000) (_hj : j ≤ 600000000) (h1 : x ≠ 1) (h2 : y ≠ 1) (h3 : ((Int.gcd x y : Nat) : Int) = 1) : Calls Tryz.prog 103 #[va, vb] W (GivesP (tup3F (intF x) (intF y) (intF ((Int.gcd x y : Nat) : Int))) W) := by
  let E : List PF := [(intF x), (intF y), (intF ((Int.gcd x y : Nat) : Int))]
  let EB : List CF := [(boxIF x), (boxIF y), zeroIF, (boxIF ((Int.gcd x y : Nat) : Int))]
  exact auto_calls (E := E) (EB := EB) (fs := [(.ref 0), (.ref 1)]) (r := (.tup3 (.ref 0) (.ref 1) (.ref 2)))
   { calls := [c1 113 (.ref 0) (.bool false) fun w v0 hb h0 => kOneF h0 sx (by first | decide | assumption | omega) h1,
      c1 113 (.ref 1) (.bool false) fun w v0 hb h0 => kOneF h0 sy (by first | decide | assumption | omega) h2,
      c2 114 (.ref 0) (.ref 1) (.ref 2) fun w v0 v1 hb h0 h1 => kGcd h0 h1 sx sy (by first | decide | assumption | omega) (by first | decide | assumption | omega),
      c1 113 (.ref 2) (.bool true) fun w v0 hb h0 => kOneT h0 (sm_gcdI sx sy) (by first | decide | assumption | omega) h3],
     loads := [⟨34, 0, 0, (.ref 0), fun w q h => loadI_int w q h⟩,
      ⟨34, 0, 1, (.ref 1), fun w q h => loadI_int w q h⟩,
      ⟨34, 0, 3, (.ref 2), fun w q h => loadI_int w q h⟩],
     allocs := [⟨34, 2, _, allocI_run, allocI_old⟩],
     boxes := [⟨34, (.ref 0), 0, fun w v h => boxI_run w v h⟩,
      ⟨34, (.ref 1), 1, fun w v h => boxI_run w v h⟩],
     stores := [⟨34, 0, 2, (.ref 2), 3, (storeI_zero _)⟩,
      ⟨34, 0, 2, (.ref 0), 0, (storeI_zero _)⟩,
      ⟨34, 0, 2, (.ref 1), 1, (storeI_zero _)⟩] }
   Tryz.func103 ⟨hva, hvb, trivial⟩ (by kernel_rfl)
set_option maxRecDepth 100000 in
theorem Can_4 {x y : Int} {i j : Nat} (va : Value) (vb : Value) (W : World) (hva : (intF x).p va W) (hvb : (intF y).p vb W) (sx : Sm x i) (sy : Sm y j) (_hi : i ≤ 600000000) (_hj : j ≤ 600000000) (h1 : x ≠ 1) (h2 : y ≠ 1) (h3 : ((Int.gcd x y : Nat) : Int) ≠ 1) (h4 : ((Int.gcd x y : Nat) : Int) ≠ 0) : Calls Tryz.prog 103 #[va, vb] W (GivesP (tup3F (intF (x / ((Int.gcd x y : Nat) : Int))) (intF (y / ((Int.gcd x y : Nat) : Int))) (intF ((Int.gcd x y : Nat) : Int))) W) := by
  let E : List PF := [(intF x), (intF y), (intF ((Int.gcd x y : Nat) : Int)), (intF (x / ((Int.gcd x y : Nat) : Int))), (intF (y / ((Int.gcd x y : Nat) : Int)))]
  let EB : List CF := [(boxIF x), (boxIF y), zeroIF, (boxIF ((Int.gcd x y : Nat) : Int)), (boxIF (x / ((Int.gcd x y : Nat) : Int))), (boxIF (y / ((Int.gcd x y : Nat) : Int)))]
  exact auto_calls (E := E) (EB := EB) (fs := [(.ref 0), (.ref 1)]) (r := (.tup3 (.ref 3) (.ref 4) (.ref 2)))
   { calls := [c1 113 (.ref 0) (.bool false) fun w v0 hb h0 => kOneF h0 sx (by first | decide | assumption | omega) h1,
      c1 113 (.ref 1) (.bool false) fun w v0 hb h0 => kOneF h0 sy (by first | decide | assumption | omega) h2,
      c2 114 (.ref 0) (.ref 1) (.ref 2) fun w v0 v1 hb h0 h1 => kGcd h0 h1 sx sy (by first | decide | assumption | omega) (by first | decide | assumption | omega),
      c1 113 (.ref 2) (.bool false) fun w v0 hb h0 => kOneF h0 (sm_gcdI sx sy) (by first | decide | assumption | omega) h3,
      c2 124 (.ref 0) (.ref 2) (.ref 3) fun w v0 v1 hb h0 h1 => kQuo h0 h1 sx (sm_gcdI sx sy) (by first | decide | assumption | omega) (by first | decide | assumption | omega) h4,
      c2 124 (.ref 1) (.ref 2) (.ref 4) fun w v0 v1 hb h0 h1 => kQuo h0 h1 sy (sm_gcdI sx sy) (by first | decide | assumption | omega) (by first | decide | assumption | omega) h4],
     loads := [⟨34, 0, 0, (.ref 0), fun w q h => loadI_int w q h⟩,
      ⟨34, 0, 1, (.ref 1), fun w q h => loadI_int w q h⟩,
      ⟨34, 0, 3, (.ref 2), fun w q h => loadI_int w q h⟩,
      ⟨34, 0, 4, (.ref 3), fun w q h => loadI_int w q h⟩,
      ⟨34, 0, 5, (.ref 4), fun w q h => loadI_int w q h⟩],
     allocs := [⟨34, 2, _, allocI_run, allocI_old⟩],
     boxes := [⟨34, (.ref 0), 0, fun w v h => boxI_run w v h⟩,
      ⟨34, (.ref 1), 1, fun w v h => boxI_run w v h⟩],
     stores := [⟨34, 0, 2, (.ref 2), 3, (storeI_zero _)⟩,
      ⟨34, 0, 2, (.ref 3), 4, (storeI_zero _)⟩,
      ⟨34, 0, 2, (.ref 4), 5, (storeI_zero _)⟩] }
   Tryz.func103 ⟨hva, hvb, trivial⟩ (by kernel_rfl)
theorem kCancel {x y:Int} {i j:Nat} {va vb:Value} {w:World} (ha:(intF x).p va w) (hb:(intF y).p vb w) (sx:Sm x i) (sy:Sm y j) (hi:i≤600000000) (hj:j≤600000000) (ny:y≠0):Calls Tryz.prog 103 #[va,vb] w (GivesP (tup3F (intF (x / ((Int.gcd x y:Nat):Int))) (intF (y / ((Int.gcd x y:Nat):Int))) (intF ((Int.gcd x y:Nat):Int))) w):=by
 by_cases h1:x=1
 ·have e:((Int.gcd x y:Nat):Int)=1:=by rw [h1,Int.one_gcd]; rfl
  rw [e,Int.ediv_one,Int.ediv_one]
  exact Can_1 va vb w ha hb sx sy hi hj h1
 by_cases h2:y=1
 ·have e:((Int.gcd x y:Nat):Int)=1:=by rw [h2,Int.gcd_one]; rfl
  rw [e,Int.ediv_one,Int.ediv_one]
  exact Can_2 va vb w ha hb sx sy hi hj h1 h2
 by_cases h3:((Int.gcd x y:Nat):Int)=1
 ·have:=Can_3 va vb w ha hb sx sy hi hj h1 h2 h3
  rw [h3] at this ⊢
  rw [Int.ediv_one,Int.ediv_one]
  exact this
 ·refine Can_4 va vb w ha hb sx sy hi hj h1 h2 h3 ?_
  have:=Int.gcd_ne_zero_right (a:=x) ny
  omega
end Go.Proofs.YtgaehhapjnbieaaGreat
namespace Go.Proofs.YtgaehhapjnbieaaGreat
open Go.RowKit
theorem RSm.of2 {n d:Int} {i j:Nat} (hn:Sm n i) (hd:Sm d j) (h0:d≠0):RSm (Rat.divInt n d) (max i j):=RSm.of (hn.mono (Nat.le_max_left _ _)) (hd.mono (Nat.le_max_right _ _)) h0
theorem sm_i64 {z:Int} (h0 : -9223372036854775808≤z) (h1:z≤9223372036854775807):Sm z 2:=by
 show z.natAbs<4294967296 ^ 2
 have:(4294967296:Nat) ^ 2=18446744073709551616:=by decide
 omega
theorem gcd_den_ne (x:Int) (y:Rat):((Int.gcd x (y.den:Int):Nat):Int)≠0:=by
 have:=Int.gcd_ne_zero_right (a:=x) (Int.ne_of_gt (den_pos' y))
 omega
theorem gcd_ne (x:Int) {y:Int} (ny:y≠0):((Int.gcd x y:Nat):Int)≠0:=by
 have:=Int.gcd_ne_zero_right (a:=x) ny
 omega
set_option maxRecDepth 100000 in
theorem Plus_any {x y : Rat} {i j : Nat} (va : Value) (vb : Value) (W : World) (hva : (ratF x).p va W) (hvb : (ratF y).p vb W) (sx : RSm x i) (sy : RSm y j) (_hi : i ≤ 250000000) (_hj : j ≤ 250000000) : Calls Tryz.prog 122 #[va, vb] W (GivesP (ratF (x + y)) W) := by
  let E : List PF := [(ratF x), (ratF y), (intF (x.den : Int)), (intF (y.den : Int)), (intF ((x.den : Int) / ((Int.gcd (x.den : Int) (y.den : Int) : Nat) : Int))), (intF ((y.den : Int) / ((Int.gcd (x.den : Int) (y.den : Int) : Nat) : Int))), (intF ((Int.gcd (x.den : Int) (y.den : Int) : Nat) : Int)), (intF x.num), (intF (x.num * ((y.den : Int) / ((Int.gcd (x.den : Int) (y.den : Int) : Nat) : Int)))), (intF y.num), (intF (y.num * ((x.den : Int) / ((Int.gcd (x.den : Int) (y.den : Int) : Nat) : Int)))), (intF ((x.num * ((y.den : Int) / ((Int.gcd (x.den : Int) (y.den : Int) : Nat) : Int))) + (y.num * ((x.den : Int) / ((Int.gcd (x.den : Int) (y.den : Int) : Nat) : Int))))), (intF (((x.num * ((y.den : Int) / ((Int.gcd (x.den : Int) (y.den : Int) : Nat) : Int))) + (y.num * ((x.den : Int) / ((Int.gcd (x.den : Int) (y.den : Int) : Nat) : Int)))) / ((Int.gcd ((x.num * ((y.den : Int) / ((Int.gcd (x.den : Int) (y.den : Int) : Nat) : Int))) + (y.num * ((x.den : Int) / ((Int.gcd (x.den : Int) (y.den : Int) : Nat) : Int)))) ((Int.gcd (x.den : Int) (y.den : Int) : Nat) : Int) : Nat) : Int))), (intF (((Int.gcd (x.den : Int) (y.den : Int) : Nat) : Int) / ((Int.gcd ((x.num * ((y.den : Int) / ((Int.gcd (x.den : Int) (y.den : Int) : Nat) : Int))) + (y.num * ((x.den : Int) / ((Int.gcd (x.den : Int) (y.den : Int) : Nat) : Int)))) ((Int.gcd (x.den : Int) (y.den : Int) : Nat) : Int) : Nat) : Int))), (intF ((Int.gcd ((x.num * ((y.den : Int) / ((Int.gcd (x.den : Int) (y.den : Int) : Nat) : Int))) + (y.num * ((x.den : Int) / ((Int.gcd (x.den : Int) (y.den : Int) : Nat) : Int)))) ((Int.gcd (x.den : Int) (y.den : Int) : Nat) : Int) : Nat) : Int)), (intF (((x.den : Int) / ((Int.gcd (x.den : Int) (y.den : Int) : Nat) : Int)) * ((y.den : Int) / ((Int.gcd (x.den : Int) (y.den : Int) : Nat) : Int)))), (intF ((((Int.gcd (x.den : Int) (y.den : Int) : Nat) : Int) / ((Int.gcd ((x.num * ((y.den : Int) / ((Int.gcd (x.den : Int) (y.den : Int) : Nat) : Int))) + (y.num * ((x.den : Int) / ((Int.gcd (x.den : Int) (y.den : Int) : Nat) : Int)))) ((Int.gcd (x.den : Int) (y.den : Int) : Nat) : Int) : Nat) : Int)) * (((x.den : Int) / ((Int.gcd (x.den : Int) (y.den : Int) : Nat) : Int)) * ((y.den : Int) / ((Int.gcd (x.den : Int) (y.den : Int) : Nat) : Int))))), (ratF (x + y))]
  let EB : List CF := [(boxQ x), (boxQ y), zeroQF, zeroIF, (boxIF ((x.den : Int) / ((Int.gcd (x.den : Int) (y.den : Int) : Nat) : Int))), (boxIF ((y.den : Int) / ((Int.gcd (x.den : Int) (y.den : Int) : Nat) : Int))), (boxIF ((Int.gcd (x.den : Int) (y.den : Int) : Nat) : Int)), (boxIF ((x.num * ((y.den : Int) / ((Int.gcd (x.den : Int) (y.den : Int) : Nat) : Int))) + (y.num * ((x.den : Int) / ((Int.gcd (x.den : Int) (y.den : Int) : Nat) : Int))))), (boxIF (((x.num * ((y.den : Int) / ((Int.gcd (x.den : Int) (y.den : Int) : Nat) : Int))) + (y.num * ((x.den : Int) / ((Int.gcd (x.den : Int) (y.den : Int) : Nat) : Int)))) / ((Int.gcd ((x.num * ((y.den : Int) / ((Int.gcd (x.den : Int) (y.den : Int) : Nat) : Int))) + (y.num * ((x.den : Int) / ((Int.gcd (x.den : Int) (y.den : Int) : Nat) : Int)))) ((Int.gcd (x.den : Int) (y.den : Int) : Nat) : Int) : Nat) : Int))), (boxIF (((Int.gcd (x.den : Int) (y.den : Int) : Nat) : Int) / ((Int.gcd ((x.num * ((y.den : Int) / ((Int.gcd (x.den : Int) (y.den : Int) : Nat) : Int))) + (y.num * ((x.den : Int) / ((Int.gcd (x.den : Int) (y.den : Int) : Nat) : Int)))) ((Int.gcd (x.den : Int) (y.den : Int) : Nat) : Int) : Nat) : Int))), (boxQ (x + y))]
  exact auto_calls (E := E) (EB := EB) (fs := [(.ref 0), (.ref 1)]) (r := (.ref 17))
   { pures := [p2 (.bld 36 [0, 1]) (.ref 12) (.ref 16) (.ref 17) fun _ _ _ _ _ hx hy => h_buildQ_eq (plus_eq x y _ _ rfl rfl).1.symm (plus_eq x y _ _ rfl rfl).2.symm hx hy],
     calls := [c2 103 (.ref 2) (.ref 3) (.tup3 (.ref 4) (.ref 5) (.ref 6)) fun w v0 v1 hb h0 h1 => kCancel h0 h1 sx.2 sy.2 (by first | decide | assumption | omega) (by first | decide | assumption | omega) (Int.ne_of_gt (den_pos' y)),
      c2 104 (.ref 7) (.ref 5) (.ref 8) fun w v0 v1 hb h0 h1 => kMul h0 h1 sx.1 sy.2.div (by first | decide | assumption | omega) (by first | decide | assumption | omega),
      c2 104 (.ref 9) (.ref 4) (.ref 10) fun w v0 v1 hb h0 h1 => kMul h0 h1 sy.1 sx.2.div (by first | decide | assumption | omega) (by first | decide | assumption | omega),
      c2 135 (.ref 8) (.ref 10) (.ref 11) fun w v0 v1 hb h0 h1 => kAdd h0 h1 (sx.1.mul sy.2.div) (sy.1.mul sx.2.div) (by first | decide | assumption | omega) (by first | decide | assumption | omega),
      c2 103 (.ref 11) (.ref 6) (.tup3 (.ref 12) (.ref 13) (.ref 14)) fun w v0 v1 hb h0 h1 => kCancel h0 h1 ((sx.1.mul sy.2.div).add (sy.1.mul sx.2.div)) (sm_gcdI sx.2 sy.2) (by first | decide | assumption | omega) (by first | decide | assumption | omega) (gcd_den_ne _ y),
      c2 104 (.ref 4) (.ref 5) (.ref 15) fun w v0 v1 hb h0 h1 => kMul h0 h1 sx.2.div sy.2.div (by first | decide | assumption | omega) (by first | decide | assumption | omega),
      c2 104 (.ref 13) (.ref 15) (.ref 16) fun w v0 v1 hb h0 h1 => kMul h0 h1 (sm_gcdI sx.2 sy.2).div (sx.2.div.mul sy.2.div) (by first | decide | assumption | omega) (by first | decide | assumption | omega)],
     loads := [⟨34, 2, 0, (.ref 2), fun w q h => loadQ_2 w q h⟩,
      ⟨34, 2, 1, (.ref 3), fun w q h => loadQ_2 w q h⟩,
      ⟨34, 0, 0, (.ref 7), fun w q h => loadQ_0 w q h⟩,
      ⟨34, 0, 5, (.ref 5), fun w q h => loadI_int w q h⟩,
      ⟨34, 0, 1, (.ref 9), fun w q h => loadQ_0 w q h⟩,
      ⟨34, 0, 4, (.ref 4), fun w q h => loadI_int w q h⟩,
      ⟨34, 0, 7, (.ref 11), fun w q h => loadI_int w q h⟩,
      ⟨34, 0, 6, (.ref 6), fun w q h => loadI_int w q h⟩,
      ⟨34, 0, 8, (.ref 12), fun w q h => loadI_int w q h⟩,
      ⟨34, 0, 9, (.ref 13), fun w q h => loadI_int w q h⟩,
      ⟨36, 0, 10, (.ref 17), fun w q h => loadQ_all w q h⟩],
     allocs := [⟨36, 2, _, allocQ_run, allocQ_old⟩,
      ⟨34, 3, _, allocI_run, allocI_old⟩],
     boxes := [⟨36, (.ref 0), 0, fun w v h => boxQ_run w v h⟩,
      ⟨36, (.ref 1), 1, fun w v h => boxQ_run w v h⟩],
     stores := [⟨34, 0, 3, (.ref 4), 4, (storeI_zero _)⟩,
      ⟨34, 0, 3, (.ref 5), 5, (storeI_zero _)⟩,
      ⟨34, 0, 3, (.ref 6), 6, (storeI_zero _)⟩,
      ⟨34, 0, 3, (.ref 11), 7, (storeI_zero _)⟩,
      ⟨34, 0, 7, (.ref 12), 8, (storeI_box _ _)⟩,
      ⟨34, 0, 6, (.ref 13), 9, (storeI_box _ _)⟩,
      ⟨36, 0, 2, (.ref 17), 10, storeQ_zero⟩],
     flds := [⟨36, 1, 2, fldQ1⟩,
      ⟨36, 0, 0, fldQ0⟩] }
   Tryz.func122 ⟨hva, hvb, trivial⟩ (by kernel_rfl)
set_option maxRecDepth 100000 in
theorem MulQ_any {x y : Rat} {i j : Nat} (va : Value) (vb : Value) (W : World) (hva : (ratF x).p va W) (hvb : (ratF y).p vb W) (sx : RSm x i) (sy : RSm y j) (_hi : i ≤ 250000000) (_hj : j ≤ 250000000) : Calls Tryz.prog 58 #[va, vb] W (GivesP (ratF (x * y)) W) := by
  let E : List PF := [(ratF x), (ratF y), (intF x.num), (intF (y.den : Int)), (intF (x.num / ((Int.gcd x.num (y.den : Int) : Nat) : Int))), (intF ((y.den : Int) / ((Int.gcd x.num (y.den : Int) : Nat) : Int))), (intF ((Int.gcd x.num (y.den : Int) : Nat) : Int)), (intF y.num), (intF (x.den : Int)), (intF (y.num / ((Int.gcd y.num (x.den : Int) : Nat) : Int))), (intF ((x.den : Int) / ((Int.gcd y.num (x.den : Int) : Nat) : Int))), (intF ((Int.gcd y.num (x.den : Int) : Nat) : Int)), (intF ((x.num / ((Int.gcd x.num (y.den : Int) : Nat) : Int)) * (y.num / ((Int.gcd y.num (x.den : Int) : Nat) : Int)))), (intF (((x.den : Int) / ((Int.gcd y.num (x.den : Int) : Nat) : Int)) * ((y.den : Int) / ((Int.gcd x.num (y.den : Int) : Nat) : Int)))), (ratF (x * y))]
  let EB : List CF := [(boxQ x), (boxQ y), zeroQF, zeroIF, (boxIF (x.num / ((Int.gcd x.num (y.den : Int) : Nat) : Int))), (boxIF ((y.den : Int) / ((Int.gcd x.num (y.den : Int) : Nat) : Int))), (boxIF ((Int.gcd x.num (y.den : Int) : Nat) : Int)), (boxIF (y.num / ((Int.gcd y.num (x.den : Int) : Nat) : Int))), (boxIF ((x.den : Int) / ((Int.gcd y.num (x.den : Int) : Nat) : Int))), (boxIF ((Int.gcd y.num (x.den : Int) : Nat) : Int)), (boxQ (x * y))]
  exact auto_calls (E := E) (EB := EB) (fs := [(.ref 0), (.ref 1)]) (r := (.ref 14))
   { pures := [p2 (.bld 36 [0, 1]) (.ref 12) (.ref 13) (.ref 14) fun _ _ _ _ _ hx hy => h_buildQ_eq (mul_eq x y).1.symm (mul_eq x y).2.symm hx hy],
     calls := [c2 103 (.ref 2) (.ref 3) (.tup3 (.ref 4) (.ref 5) (.ref 6)) fun w v0 v1 hb h0 h1 => kCancel h0 h1 sx.1 sy.2 (by first | decide | assumption | omega) (by first | decide | assumption | omega) (Int.ne_of_gt (den_pos' y)),
      c2 103 (.ref 7) (.ref 8) (.tup3 (.ref 9) (.ref 10) (.ref 11)) fun w v0 v1 hb h0 h1 => kCancel h0 h1 sy.1 sx.2 (by first | decide | assumption | omega) (by first | decide | assumption | omega) (Int.ne_of_gt (den_pos' x)),
      c2 104 (.ref 4) (.ref 9) (.ref 12) fun w v0 v1 hb h0 h1 => kMul h0 h1 sx.1.div sy.1.div (by first | decide | assumption | omega) (by first | decide | assumption | omega),
      c2 104 (.ref 10) (.ref 5) (.ref 13) fun w v0 v1 hb h0 h1 => kMul h0 h1 sx.2.div sy.2.div (by first | decide | assumption | omega) (by first | decide | assumption | omega)],
     loads := [⟨34, 0, 0, (.ref 2), fun w q h => loadQ_0 w q h⟩,
      ⟨34, 2, 1, (.ref 3), fun w q h => loadQ_2 w q h⟩,
      ⟨34, 0, 1, (.ref 7), fun w q h => loadQ_0 w q h⟩,
      ⟨34, 2, 0, (.ref 8), fun w q h => loadQ_2 w q h⟩,
      ⟨34, 0, 4, (.ref 4), fun w q h => loadI_int w q h⟩,
      ⟨34, 0, 7, (.ref 9), fun w q h => loadI_int w q h⟩,
      ⟨34, 0, 8, (.ref 10), fun w q h => loadI_int w q h⟩,
      ⟨34, 0, 5, (.ref 5), fun w q h => loadI_int w q h⟩,
      ⟨36, 0, 10, (.ref 14), fun w q h => loadQ_all w q h⟩],
     allocs := [⟨36, 2, _, allocQ_run, allocQ_old⟩,
      ⟨34, 3, _, allocI_run, allocI_old⟩],
     boxes := [⟨36, (.ref 0), 0, fun w v h => boxQ_run w v h⟩,
      ⟨36, (.ref 1), 1, fun w v h => boxQ_run w v h⟩],
     stores := [⟨34, 0, 3, (.ref 4), 4, (storeI_zero _)⟩,
      ⟨34, 0, 3, (.ref 5), 5, (storeI_zero _)⟩,
      ⟨34, 0, 3, (.ref 6), 6, (storeI_zero _)⟩,
      ⟨34, 0, 3, (.ref 9), 7, (storeI_zero _)⟩,
      ⟨34, 0, 3, (.ref 10), 8, (storeI_zero _)⟩,
      ⟨34, 0, 3, (.ref 11), 9, (storeI_zero _)⟩,
      ⟨36, 0, 2, (.ref 14), 10, storeQ_zero⟩],
     flds := [⟨36, 0, 0, fldQ0⟩,
      ⟨36, 1, 2, fldQ1⟩] }
   Tryz.func58 ⟨hva, hvb, trivial⟩ (by kernel_rfl)
set_option maxRecDepth 100000 in
theorem SignQ_any {x : Rat} {i : Nat} (va : Value) (W : World) (hva : (ratF x).p va W) (sx : RSm x i) (_hi : i ≤ 250000000) : Calls Tryz.prog 100 #[va] W (GivesP (eqF (.int .i64 (Int.sign x.num))) W) := by
  let E : List PF := [(ratF x), (intF x.num), (eqF (.int .i64 (Int.sign x.num)))]
  let EB : List CF := [(boxQ x)]
  exact auto_calls (E := E) (EB := EB) (fs := [(.ref 0)]) (r := (.ref 2))
   { calls := [c1 112 (.ref 1) (.ref 2) fun w v0 hb h0 => kSign h0 sx.1 (by first | decide | assumption | omega)],
     loads := [⟨34, 0, 0, (.ref 1), fun w q h => loadQ_0 w q h⟩],
     boxes := [⟨36, (.ref 0), 0, fun w v h => boxQ_run w v h⟩],
     flds := [⟨36, 0, 0, fldQ0⟩] }
   Tryz.func100 ⟨hva, trivial⟩ (by kernel_rfl)
set_option maxRecDepth 100000 in
theorem InvQ_neg {x : Rat} {i : Nat} (va : Value) (W : World) (hva : (ratF x).p va W) (sx : RSm x i) (_hi : i ≤ 250000000) (nx : x.num < 0) : Calls Tryz.prog 121 #[va] W (GivesP (ratF x⁻¹) W) := by
  let E : List PF := [(ratF x), (eqF (.int .i64 (Int.sign x.num))), (intF (x.den : Int)), (intF (-(x.den : Int))), (intF x.num), (intF (-x.num)), (ratF x⁻¹)]
  let EB : List CF := [(boxQ x), zeroQF, (boxQ x⁻¹)]
  exact auto_calls (E := E) (EB := EB) (fs := [(.ref 0)]) (r := (.ref 6))
   { pures := [p2 (.bin .lss 3 3) (.ref 1) (.int .i64 0) (.bool true) fun _ _ _ _ _ hx hy => h_lss (r := true) (by rw [Int.sign_eq_neg_one_of_neg nx]; rfl) hx hy,
      p2 (.bld 36 [0, 1]) (.ref 3) (.ref 5) (.ref 6) fun _ _ _ _ _ hx hy => h_buildQ_eq (inv_neg' x nx).1.symm (inv_neg' x nx).2.symm hx hy],
     calls := [c1 100 (.ref 0) (.ref 1) fun w v0 hb h0 => SignQ_any _ _ h0 sx (by omega),
      c1 123 (.ref 2) (.ref 3) fun w v0 hb h0 => kNeg h0 sx.2 (by first | decide | assumption | omega),
      c1 123 (.ref 4) (.ref 5) fun w v0 hb h0 => kNeg h0 sx.1 (by first | decide | assumption | omega)],
     loads := [⟨36, 0, 0, (.ref 0), fun w q h => loadQ_all w q h⟩,
      ⟨34, 2, 0, (.ref 2), fun w q h => loadQ_2 w q h⟩,
      ⟨34, 0, 0, (.ref 4), fun w q h => loadQ_0 w q h⟩,
      ⟨36, 0, 2, (.ref 6), fun w q h => loadQ_all w q h⟩],
     allocs := [⟨36, 1, _, allocQ_run, allocQ_old⟩],
     boxes := [⟨36, (.ref 0), 0, fun w v h => boxQ_run w v h⟩],
     stores := [⟨36, 0, 1, (.ref 6), 2, storeQ_zero⟩],
     flds := [⟨36, 1, 2, fldQ1⟩,
      ⟨36, 0, 0, fldQ0⟩] }
   Tryz.func121 ⟨hva, trivial⟩ (by kernel_rfl)
set_option maxRecDepth 100000 in
theorem InvQ_pos {x : Rat} {i : Nat} (va : Value) (W : World) (hva : (ratF x).p va W) (sx : RSm x i) (_hi : i ≤ 250000000) (nx : 0 < x.num) : Calls Tryz.prog 121 #[va] W (GivesP (ratF x⁻¹) W) := by
  let E : List PF := [(ratF x), (eqF (.int .i64 (Int.sign x.num))), (intF (x.den : Int)), (intF x.num), (ratF x⁻¹)]
  let EB : List CF := [(boxQ x), zeroQF, (boxQ x⁻¹)]
  exact auto_calls (E := E) (EB := EB) (fs := [(.ref 0)]) (r := (.ref 4))
   { pures := [p2 (.bin .lss 3 3) (.ref 1) (.int .i64 0) (.bool false) fun _ _ _ _ _ hx hy => h_lss (r := false) (by rw [Int.sign_eq_one_of_pos nx]; rfl) hx hy,
      p2 (.bld 36 [0, 1]) (.ref 2) (.ref 3) (.ref 4) fun _ _ _ _ _ hx hy => h_buildQ_eq (inv_pos' x nx).1.symm (inv_pos' x nx).2.symm hx hy],
     calls := [c1 100 (.ref 0) (.ref 1) fun w v0 hb h0 => SignQ_any _ _ h0 sx (by omega)],
     loads := [⟨36, 0, 0, (.ref 0), fun w q h => loadQ_all w q h⟩,
      ⟨34, 2, 0, (.ref 2), fun w q h => loadQ_2 w q h⟩,
      ⟨34, 0, 0, (.ref 3), fun w q h => loadQ_0 w q h⟩,
      ⟨36, 0, 2, (.ref 4), fun w q h => loadQ_all w q h⟩],
     allocs := [⟨36, 1, _, allocQ_run, allocQ_old⟩],
     boxes := [⟨36, (.ref 0), 0, fun w v h => boxQ_run w v h⟩],
     stores := [⟨36, 0, 1, (.ref 4), 2, storeQ_zero⟩],
     flds := [⟨36, 1, 2, fldQ1⟩,
      ⟨36, 0, 0, fldQ0⟩] }
   Tryz.func121 ⟨hva, trivial⟩ (by kernel_rfl)
set_option maxRecDepth 100000 in
theorem NegQ_any {x : Rat} {i : Nat} (va : Value) (W : World) (hva : (ratF x).p va W) (sx : RSm x i) (_hi : i ≤ 250000000) : Calls Tryz.prog 102 #[va] W (GivesP (ratF (-x)) W) := by
  let E : List PF := [(ratF x), (intF x.num), (intF (-x.num)), (intF (x.den : Int)), (ratF (-x))]
  let EB : List CF := [(boxQ x), zeroQF, (boxQ (-x))]
  exact auto_calls (E := E) (EB := EB) (fs := [(.ref 0)]) (r := (.ref 4))
   { pures := [p2 (.bld 36 [0, 1]) (.ref 2) (.ref 3) (.ref 4) fun _ _ _ _ _ hx hy => h_buildQ_eq (Rat.neg_num x).symm (by rw [Rat.neg_den]) hx hy],
     calls := [c1 123 (.ref 1) (.ref 2) fun w v0 hb h0 => kNeg h0 sx.1 (by first | decide | assumption | omega)],
     loads := [⟨34, 0, 0, (.ref 1), fun w q h => loadQ_0 w q h⟩,
      ⟨34, 2, 0, (.ref 3), fun w q h => loadQ_2 w q h⟩,
      ⟨36, 0, 2, (.ref 4), fun w q h => loadQ_all w q h⟩],
     allocs := [⟨36, 1, _, allocQ_run, allocQ_old⟩],
     boxes := [⟨36, (.ref 0), 0, fun w v h => boxQ_run w v h⟩],
     stores := [⟨36, 0, 1, (.ref 4), 2, storeQ_zero⟩],
     flds := [⟨36, 0, 0, fldQ0⟩,
      ⟨36, 1, 2, fldQ1⟩] }
   Tryz.func102 ⟨hva, trivial⟩ (by kernel_rfl)
set_option maxRecDepth 100000 in
theorem WholeQ_any {z : Int} (W : World) (hz0 : -9223372036854775808 ≤ z) (hz1 : z ≤ 9223372036854775807) : Calls Tryz.prog 63 #[.int .i64 z] W (GivesP (ratF (z : Rat)) W) := by
  let E : List PF := [(eqF (.int .i64 z)), (intF z), (intF 1), (ratF ((z : Int) : Rat))]
  let EB : List CF := [zeroQF, (boxQ ((z : Int) : Rat))]
  exact auto_calls (E := E) (EB := EB) (fs := [(.ref 0)]) (r := (.ref 3))
   { pures := [p2 (.bld 36 [0, 1]) (.ref 1) (.ref 2) (.ref 3) fun _ _ _ _ _ hx hy => h_buildQ_eq (wholeQ_eq z).1.symm (wholeQ_eq z).2.symm hx hy],
     calls := [c1 106 (.ref 0) (.ref 1) fun w v0 hb h0 => kOf z hz0 hz1 h0,
      c1 106 (.int .i64 1) (.ref 2) fun w v0 hb h0 => kOf 1 (by omega) (by omega) h0],
     loads := [⟨36, 0, 1, (.ref 3), fun w q h => loadQ_all w q h⟩],
     allocs := [⟨36, 0, _, allocQ_run, allocQ_old⟩],
     stores := [⟨36, 0, 0, (.ref 3), 1, storeQ_zero⟩] }
   Tryz.func63 ⟨rfl, trivial⟩ (by kernel_rfl)
set_option maxRecDepth 100000 in
theorem CmpQ_any {x y : Rat} {i j : Nat} (va : Value) (vb : Value) (W : World) (hva : (ratF x).p va W) (hvb : (ratF y).p vb W) (sx : RSm x i) (sy : RSm y j) (_hi : i ≤ 250000000) (_hj : j ≤ 250000000) : Calls Tryz.prog 84 #[va, vb] W (GivesP (eqF (.int .i64 (cmpI (x.num * (y.den : Int)) (y.num * (x.den : Int))))) W) := by
  let E : List PF := [(ratF x), (ratF y), (intF x.num), (intF (y.den : Int)), (intF (x.num * (y.den : Int))), (intF y.num), (intF (x.den : Int)), (intF (y.num * (x.den : Int))), (eqF (.int .i64 (cmpI (x.num * (y.den : Int)) (y.num * (x.den : Int)))))]
  let EB : List CF := [(boxQ x), (boxQ y)]
  exact auto_calls (E := E) (EB := EB) (fs := [(.ref 0), (.ref 1)]) (r := (.ref 8))
   { calls := [c2 104 (.ref 2) (.ref 3) (.ref 4) fun w v0 v1 hb h0 h1 => kMul h0 h1 sx.1 sy.2 (by first | decide | assumption | omega) (by first | decide | assumption | omega),
      c2 104 (.ref 5) (.ref 6) (.ref 7) fun w v0 v1 hb h0 h1 => kMul h0 h1 sy.1 sx.2 (by first | decide | assumption | omega) (by first | decide | assumption | omega),
      c2 110 (.ref 4) (.ref 7) (.ref 8) fun w v0 v1 hb h0 h1 => kCmp h0 h1 (sx.1.mul sy.2) (sy.1.mul sx.2) (by first | decide | assumption | omega) (by first | decide | assumption | omega)],
     loads := [⟨34, 0, 0, (.ref 2), fun w q h => loadQ_0 w q h⟩,
      ⟨34, 2, 1, (.ref 3), fun w q h => loadQ_2 w q h⟩,
      ⟨34, 0, 1, (.ref 5), fun w q h => loadQ_0 w q h⟩,
      ⟨34, 2, 0, (.ref 6), fun w q h => loadQ_2 w q h⟩],
     boxes := [⟨36, (.ref 0), 0, fun w v h => boxQ_run w v h⟩,
      ⟨36, (.ref 1), 1, fun w v h => boxQ_run w v h⟩],
     flds := [⟨36, 0, 0, fldQ0⟩,
      ⟨36, 1, 2, fldQ1⟩] }
   Tryz.func84 ⟨hva, hvb, trivial⟩ (by kernel_rfl)
end Go.Proofs.YtgaehhapjnbieaaGreat
namespace Go.Proofs.YtgaehhapjnbieaaGreat
open Go.RowKit
def sumAcc (x y:Rat) (k:Nat):Rat:=if k=0 then x else x+y
def RowQ (w:World) (g:Nat) (y:Rat):Prop:=∃ b A k c b' A' k' c',w.heap[g]? = some (.cells #[.bool b,.slice A k c,.bool b',.slice A' k' c'] 36 (0,0))∧PairAt w (.agg #[.bool b,.slice A k c,.bool b',.slice A' k' c']) y.num (y.den:Int)
theorem h_lenQ {ρ:Operand→Value} {w:World} {x:Operand} {A:Option Addr} {k c:Nat} (hx:(eqF (.slice A k c)).p (ρ x) w):Yld (.call { callee:=.builtin .len,args:=#[x],argTypes:=#[28] }) ρ w (eqF (.int .i64 k)):=by
 have hx:ρ x = .slice A k c:=hx
 exact yld_mk fun o ho=>by unfold execOp; rw [ho]; simp [go_sem,hx]
theorem h_idxQ0 {ρ:Operand→Value} {w:World} {x y:Operand} {g k:Nat} (hk:k<1) (hx:(eqF (.slice (some ⟨g,0,none⟩) 1 1)).p (ρ x) w) (hy:(eqF (.int .i64 (k:Int))).p (ρ y) w):Yld (.indexAddr 28 x y) ρ w (eqF (.pointer (some ⟨g,0,none⟩))):=by
 have e:k=0:=by omega
 subst e
 have hx:ρ x = .slice (some ⟨g,0,none⟩) 1 1:=hx
 have hy:ρ y = .int .i64 0:=hy
 exact yld_mk fun o ho=>by unfold execOp; rw [ho]; simp [go_sem,hx,hy]
section
variable {ops : Array Oper} {N : Nat} {Wb W0 : World} {a0 : Act} {F : List PF} {BX : List BoxS} {AD : List (Nat × Nat × Nat)} {i : Nat} {g : Option (Nat × Bool)}
theorem s_loadRow (hP:Plan ops N BX AD) {x:Operand} {r:Nat} {y:Rat} (ho:IsOp ops i g (.load 36 x)) (hp:plainB BX i=true) (hna:noAd AD i=true) (hg:Grd ops N Wb W0 a0 F BX AD i g true) (hx:Src ops N Wb W0 a0 F BX AD i x (eqF (.pointer (some ⟨r,0,none⟩))))
  (hr:RowQ Wb r y) (hF:F.getD i anyF=ratF y):Step ops N Wb W0 a0 F BX AD i:=
 step_val hP ho hp hna fun m a w hI hrd=>by
  have e:a.eval x = .pointer (some ⟨r,0,none⟩):=hx m a w hI hrd
  obtain ⟨b,A,k,c,b',A',k',c',hh,hq⟩:=hr
  have hh':=(hI.below.block r (lt_of_get hh)).trans hh
  obtain ⟨e0,e1,e2,e3⟩:=q_cells hh'
  refine ⟨hg m a w hI hrd,.agg #[.bool b,.slice A k c,.bool b',.slice A' k' c'],w,fun o ho=>?_,Below.refl _ _,by rw [hF]; exact hq.grow (Grow.of_below hI.below)⟩
  unfold execOp
  rw [ho]
  show Sem.run _ (Instr.loadAt 36 (a.eval x) >>= fun x=>pure (Next.value x)) w=_
  rw [e]
  exact run_v (by simp [go_sem,e0,e1,e2,e3])
end
end Go.Proofs.YtgaehhapjnbieaaGreat
namespace Go.Proofs.YtgaehhapjnbieaaGreat
open Go.RowKit
theorem sum_plus {x y:Rat} {i j k:Nat} {va vb:Value} {w:World} (ha:(ratF (sumAcc x y k)).p va w) (hb:(ratF y).p vb w) (sx:RSm x i) (sy:RSm y j) (hi:i≤100000000) (hj:j≤100000000) (hlt:k<1):Calls Tryz.prog 122 #[va,vb] w (GivesP (ratF (sumAcc x y (k+1))) w):=by
 have e:k=0:=by omega
 subst e
 exact Plus_any va vb w ha hb sx sy (by omega) (by omega)
noncomputable def smq_n0:Code:=bodyOf Tryz.f101
noncomputable def smq_n1:Code:=cl smq_n0
noncomputable def smq_n2:Code:=cr smq_n0
theorem smq_e0:smq_n0 = .seq smq_n1 smq_n2:=by kernel_rfl
noncomputable def smq_o0:Array Oper:=opsOf smq_n1
theorem smq_e1:smq_n1 = .region 0 smq_o0 false:=by kernel_rfl
noncomputable def smq_n3:Code:=cl smq_n2
noncomputable def smq_n4:Code:=cr smq_n2
theorem smq_e2:smq_n2 = .seq smq_n3 smq_n4:=by kernel_rfl
noncomputable def smq_o1:Array Oper:=opsOf smq_n3
theorem smq_e3:smq_n3 = .region 1 smq_o1 false:=by kernel_rfl
noncomputable def smq_n5:Code:=cl smq_n4
noncomputable def smq_n6:Code:=cr smq_n4
theorem smq_e4:smq_n4 = .seq smq_n5 smq_n6:=by kernel_rfl
noncomputable def smq_n7:Code:=cl smq_n5
noncomputable def smq_n8:Code:=cr smq_n5
theorem smq_e5:smq_n5 = .seq smq_n7 smq_n8:=by kernel_rfl
noncomputable def smq_o2:Array Oper:=opsOf smq_n7
theorem smq_e7:smq_n7 = .region 2 smq_o2 false:=by kernel_rfl
noncomputable def smq_n9:Code:=cl smq_n8
theorem smq_e8:smq_n8 = .block 0 smq_n9:=by kernel_rfl
noncomputable def smq_n10:Code:=cl smq_n9
theorem smq_e9:smq_n9 = .loop smq_n10:=by kernel_rfl
noncomputable def smq_n11:Code:=cl smq_n10
noncomputable def smq_n12:Code:=cr smq_n10
theorem smq_e10:smq_n10 = .seq smq_n11 smq_n12:=by kernel_rfl
noncomputable def smq_o3:Array Oper:=opsOf smq_n11
theorem smq_e11:smq_n11 = .region 3 smq_o3 false:=by kernel_rfl
noncomputable def smq_n13:Code:=cl smq_n12
noncomputable def smq_n14:Code:=cr smq_n12
theorem smq_e12:smq_n12 = .seq smq_n13 smq_n14:=by kernel_rfl
noncomputable def smq_n15:Code:=cl smq_n13
noncomputable def smq_n16:Code:=cr smq_n13
theorem smq_e13:smq_n13 = .cond (.tmp 12) smq_n15 smq_n16:=by kernel_rfl
theorem smq_e15:smq_n15 = .skip:=by kernel_rfl
theorem smq_e16:smq_n16 = .exit 0:=by kernel_rfl
noncomputable def smq_n17:Code:=cl smq_n14
noncomputable def smq_n18:Code:=cr smq_n14
theorem smq_e14:smq_n14 = .seq smq_n17 smq_n18:=by kernel_rfl
noncomputable def smq_n19:Code:=cl smq_n17
theorem smq_e17:smq_n17 = .block 1 smq_n19:=by kernel_rfl
noncomputable def smq_n20:Code:=cl smq_n19
noncomputable def smq_n21:Code:=cr smq_n19
theorem smq_e19:smq_n19 = .seq smq_n20 smq_n21:=by kernel_rfl
noncomputable def smq_o4:Array Oper:=opsOf smq_n20
theorem smq_e20:smq_n20 = .region 4 smq_o4 false:=by kernel_rfl
noncomputable def smq_o5:Array Oper:=opsOf smq_n21
theorem smq_e21:smq_n21 = .region 5 smq_o5 false:=by kernel_rfl
noncomputable def smq_o6:Array Oper:=opsOf smq_n18
theorem smq_e18:smq_n18 = .region 6 smq_o6 false:=by kernel_rfl
noncomputable def smq_n22:Code:=cl smq_n6
noncomputable def smq_n23:Code:=cr smq_n6
theorem smq_e6:smq_n6 = .seq smq_n22 smq_n23:=by kernel_rfl
noncomputable def smq_o7:Array Oper:=opsOf smq_n22
theorem smq_e22:smq_n22 = .region 7 smq_o7 false:=by kernel_rfl
theorem smq_e23:smq_n23 = .ret:=by kernel_rfl
section
set_option maxRecDepth 100000
set_option linter.unusedSectionVars false
variable {Wb : World} {x y : Rat} {i j r : Nat} (sx : RSm x i) (sy : RSm y j) (hi : i ≤ 100000000) (hj : j ≤ 100000000) (hr : RowQ Wb r y)
include sx sy hi hj hr
theorem smq_r0 : RA 20 [(ratF x), (eqF (.slice (some ⟨r, 0, none⟩) 1 1))] [(boxQ x), zeroQF] ⟨[(0, (.ref 0)), (1, (.ref 1))], []⟩ ⟨[(0, (.ref 0)), (1, (.ref 1))], [(2, 0), (4, 1)]⟩ Wb 0 smq_o0 false := RA.of
   { allocs := [⟨36, 1, _, allocQ_run, allocQ_old⟩],
     boxes := [⟨36, (.ref 0), 0, fun w v h => boxQ_run w v h⟩] } (by kernel_rfl)
theorem smq_r1 : RA 20 [(ratF x), (eqF (.slice (some ⟨r, 0, none⟩) 1 1))] [(boxQ x), zeroQF] ⟨[(0, (.ref 0)), (1, (.ref 1))], [(2, 0), (4, 1)]⟩ ⟨[(0, (.ref 0)), (1, (.ref 1))], [(2, 0), (4, 1), (5, 0)]⟩ Wb 1 smq_o1 false := RA.of
   { loads := [⟨36, 0, 0, (.ref 0), fun w q h => loadQ_all w q h⟩],
     allocs := [⟨36, 1, _, allocQ_run, allocQ_old⟩],
     stores := [⟨36, 0, 1, (.ref 0), 0, storeQ_zero⟩] } (by kernel_rfl)
theorem smq_r2:RA 20 [(eqF (.slice (some ⟨r,0,none⟩) 1 1)),(eqF (.int .i64 ((1:Nat):Int))),(ratF x)] [(boxQ x),zeroQF] ⟨[(0,(.ref 2)),(1,(.ref 0))],[(2,0),(4,1),(5,0)]⟩ ⟨[(0,(.ref 2)),(1,(.ref 0)),(9,(.ref 0)),(10,(.ref 1)),(11,(.int .i64 0))],[(2,0),(4,1),(5,0)]⟩ Wb 2 smq_o2 false:=RA.of
   { pures:=[p1 (.blt .len [28]) (.ref 0) (.ref 1) fun _ _ _ _ hx=>h_lenQ hx] } (by kernel_rfl)
theorem smq_r3 {k:Nat} (hlt:k<1):RA 20 [(eqF (.int .i64 ((k:Nat):Int))),(eqF (.int .i64 ((1:Nat):Int))),(ratF x),(eqF (.slice (some ⟨r,0,none⟩) 1 1))] [(boxQ x),zeroQF,(boxQ (sumAcc x y k))] ⟨[(0,(.ref 2)),(1,(.ref 3)),(9,(.ref 3)),(10,(.ref 1)),(11,(.ref 0))],[(2,0),(4,1),(5,2)]⟩ ⟨[(0,(.ref 2)),(1,(.ref 3)),(9,(.ref 3)),(10,(.ref 1)),(11,(.ref 0)),(12,(.bool true))],[(2,0),(4,1),(5,2)]⟩ Wb 3 smq_o3 false:=RA.of
   { pures:=[p2 (.bin .lss 3 3) (.ref 0) (.ref 1) (.bool true) fun _ _ _ _ _ hx hy=>h_lss (r:=true) (by simp; omega) hx hy] } (by kernel_rfl)
end
set_option maxRecDepth 100000 in
theorem smq_r4 {Q:Exit→Act→World→Prop} {Wb W0:World} {a0:Act} {x y:Rat} {i j r:Nat} (_sx:RSm x i) (_sy:RSm y j) (_hi:i≤100000000) (_hj:j≤100000000) (hr:RowQ Wb r y) {k:Nat} (hlt:k<1) (hst:St Wb 20 [(0,(ratF x)),(1,(eqF (.slice (some ⟨r,0,none⟩) 1 1))),(9,(eqF (.slice (some ⟨r,0,none⟩) 1 1))),(10,(eqF (.int .i64 ((1:Nat):Int)))),(11,(eqF (.int .i64 ((k:Nat):Int)))),(12,(eqF (.bool true)))] [(2,(boxQ x)),(4,zeroQF),(5,(boxQ (sumAcc x y k)))] a0 W0)
  (fin:∀ a w,St Wb 20 [(0,(ratF x)),(1,(eqF (.slice (some ⟨r,0,none⟩) 1 1))),(9,(eqF (.slice (some ⟨r,0,none⟩) 1 1))),(10,(eqF (.int .i64 ((1:Nat):Int)))),(11,(eqF (.int .i64 ((k:Nat):Int)))),(12,(eqF (.bool true)))] [(2,(boxQ x)),(4,zeroQF),(5,(boxQ (sumAcc x y k))),(7,(boxQ y))] a w→Q .normal a w):(Code.region 4 smq_o4 false).wp Tryz.prog Q a0 W0:=by
 have hP:Plan smq_o4 20 ([⟨2,none,none,(boxQ x),(boxQ x)⟩,⟨4,none,none,zeroQF,zeroQF⟩,⟨5,none,none,(boxQ (sumAcc x y k)),(boxQ (sumAcc x y k))⟩,⟨7,some 2,some 3,zeroQF,(boxQ y)⟩]:List BoxS) []:=⟨by kernel_rfl,by kernel_rfl,by kernel_rfl,by kernel_rfl,by kernel_rfl,by kernel_rfl⟩
 refine region_st (F:=[(eqF (.pointer (some ⟨r,0,none⟩))),(ratF y),anyF,anyF]) hP hst rfl rfl ?_ ?_ fin
 ·show Steps smq_o4 20 Wb W0 a0 _ _ _ 4
  refine steps_snoc (k:=3) ?_ (s_store (i:=3) 3 _ (isOp_of (by kernel_rfl):IsOp smq_o4 3 none (.store 36 (.tmp 7) (.tmp 14))) (by kernel_rfl) rfl rfl rfl (by kernel_rfl) (by kernel_rfl) (by kernel_rfl) (src_op (f:=(ratF y)) 1 (by kernel_rfl) (by kernel_rfl) rfl) storeQ_zero)
  refine steps_snoc (k:=2) ?_ (s_alloc (i:=2) (d:=7) hP 3 _ (isOp_of (by kernel_rfl):IsOp smq_o4 2 none (.alloc 36)) (by kernel_rfl) rfl rfl rfl (by kernel_rfl) (by kernel_rfl) (by kernel_rfl) (by kernel_rfl) rfl allocQ_run allocQ_old)
  refine steps_snoc (k:=1) ?_ (s_loadRow (i:=1) hP (g:=none) (isOp_of (by kernel_rfl):IsOp smq_o4 1 none (.load 36 (.tmp 13))) (by kernel_rfl) (by kernel_rfl) (grd_none) (src_op (f:=(eqF (.pointer (some ⟨r,0,none⟩)))) 0 (by kernel_rfl) (by kernel_rfl) rfl) hr rfl)
  refine steps_snoc (k:=0) ?_ (s_op2 (i:=0) hP (g:=none) (isOp_of (by kernel_rfl):IsOp smq_o4 0 none (.indexAddr 28 (.tmp 9) (.tmp 11))) (by kernel_rfl) (by kernel_rfl) (grd_none) (src_low hst 2 rfl (by kernel_rfl)) (src_low hst 4 rfl (by kernel_rfl)) (fun ρ w hx hy=>h_idxQ0 hlt hx hy) rfl)
  exact steps_nil
 ·intro m a w hI hm
  exact ⟨(low_fact hst 0 rfl (by kernel_rfl) hI),(low_fact hst 1 rfl (by kernel_rfl) hI),(low_fact hst 2 rfl (by kernel_rfl) hI),(low_fact hst 3 rfl (by kernel_rfl) hI),(low_fact hst 4 rfl (by kernel_rfl) hI),(low_fact hst 5 rfl (by kernel_rfl) hI),trivial⟩
section
set_option maxRecDepth 100000
set_option linter.unusedSectionVars false
variable {Wb : World} {x y : Rat} {i j r : Nat} (sx : RSm x i) (sy : RSm y j) (hi : i ≤ 100000000) (hj : j ≤ 100000000) (hr : RowQ Wb r y)
include sx sy hi hj hr
theorem smq_r5 {k : Nat} (hlt : k < 1) : RA 20 [(ratF (sumAcc x y k)), (ratF y), (ratF (sumAcc x y (k + 1))), (ratF x), (eqF (.slice (some ⟨r, 0, none⟩) 1 1)), (eqF (.int .i64 ((1 : Nat) : Int))), (eqF (.int .i64 ((k : Nat) : Int)))] [(boxQ (sumAcc x y k)), (boxQ y), (boxQ (sumAcc x y (k + 1))), (boxQ x), zeroQF] ⟨[(0, (.ref 3)), (1, (.ref 4)), (9, (.ref 4)), (10, (.ref 5)), (11, (.ref 6)), (12, (.bool true))], [(2, 3), (4, 4), (5, 0), (7, 1)]⟩ ⟨[(0, (.ref 3)), (1, (.ref 4)), (9, (.ref 4)), (10, (.ref 5)), (11, (.ref 6)), (12, (.bool true))], [(2, 3), (4, 4), (5, 2), (7, 1)]⟩ Wb 5 smq_o5 false := RA.of
   { calls := [c2 122 (.ref 0) (.ref 1) (.ref 2) fun w v0 v1 hb h0 h1 => sum_plus h0 h1 sx sy (by omega) (by omega) hlt],
     loads := [⟨36, 0, 0, (.ref 0), fun w q h => loadQ_all w q h⟩,
      ⟨36, 0, 1, (.ref 1), fun w q h => loadQ_all w q h⟩],
     stores := [⟨36, 0, 0, (.ref 2), 2, storeQ_box⟩] } (by kernel_rfl)
theorem smq_r6 {k:Nat} (hlt:k<1):RA 20 [(eqF (.int .i64 ((k:Nat):Int))),(eqF (.int .i64 ((k+1:Nat):Int))),(ratF x),(eqF (.slice (some ⟨r,0,none⟩) 1 1)),(eqF (.int .i64 ((1:Nat):Int)))] [(boxQ x),zeroQF,(boxQ (sumAcc x y (k+1))),(boxQ y)] ⟨[(0,(.ref 2)),(1,(.ref 3)),(9,(.ref 3)),(10,(.ref 4)),(11,(.ref 0)),(12,(.bool true))],[(2,0),(4,1),(5,2),(7,3)]⟩ ⟨[(0,(.ref 2)),(1,(.ref 3)),(9,(.ref 3)),(10,(.ref 4)),(11,(.ref 1)),(12,(.bool true))],[(2,0),(4,1),(5,2),(7,3)]⟩ Wb 6 smq_o6 false:=RA.of
   { pures:=[p2 (.bin .add 3 3) (.ref 0) (.int .i64 1) (.ref 1) fun _ _ _ _ _ hx hy=>h_add (z:=((k+1:Nat):Int)) (by rw [IntKind.wrap_i64]; omega) hx hy] } (by kernel_rfl)
theorem smq_r3b {k:Nat} (hlt:¬ k<1):RA 20 [(eqF (.int .i64 ((k:Nat):Int))),(eqF (.int .i64 ((1:Nat):Int))),(ratF x),(eqF (.slice (some ⟨r,0,none⟩) 1 1))] [(boxQ x),zeroQF,(boxQ (sumAcc x y k))] ⟨[(0,(.ref 2)),(1,(.ref 3)),(9,(.ref 3)),(10,(.ref 1)),(11,(.ref 0))],[(2,0),(4,1),(5,2)]⟩ ⟨[(0,(.ref 2)),(1,(.ref 3)),(9,(.ref 3)),(10,(.ref 1)),(11,(.ref 0)),(12,(.bool false))],[(2,0),(4,1),(5,2)]⟩ Wb 3 smq_o3 false:=RA.of
   { pures:=[p2 (.bin .lss 3 3) (.ref 0) (.ref 1) (.bool false) fun _ _ _ _ _ hx hy=>h_lss (r:=false) (by simp; omega) hx hy] } (by kernel_rfl)
theorem smq_r7 : RA 20 [(ratF (sumAcc x y 1)), (ratF x), (eqF (.slice (some ⟨r, 0, none⟩) 1 1)), (eqF (.int .i64 ((1 : Nat) : Int)))] [(boxQ (sumAcc x y 1)), zeroQF, (boxQ x)] ⟨[(0, (.ref 1)), (1, (.ref 2)), (9, (.ref 2)), (10, (.ref 3)), (11, (.ref 3)), (12, (.bool false))], [(2, 2), (4, 1), (5, 0)]⟩ ⟨[(0, (.ref 1)), (1, (.ref 2)), (9, (.ref 2)), (10, (.ref 3)), (11, (.ref 3)), (12, (.bool false))], [(2, 2), (4, 0), (5, 0)]⟩ Wb 7 smq_o7 false := RA.of
   { loads := [⟨36, 0, 0, (.ref 0), fun w q h => loadQ_all w q h⟩],
     stores := [⟨36, 0, 1, (.ref 0), 0, storeQ_zero⟩] } (by kernel_rfl)
end
set_option maxRecDepth 100000 in
theorem Sum_any {x y:Rat} {i j r:Nat} (va:Value) (W:World) (ha:(ratF x).p va W) (sx:RSm x i) (sy:RSm y j) (hi:i≤100000000) (hj:j≤100000000) (hr:RowQ W r y) :
  Calls Tryz.prog 101 #[va,.slice (some ⟨r,0,none⟩) 1 1] W (GivesP (ratF (x+y)) W):=by
 refine calls_stW (S:=[(0,(ratF x)),(1,(eqF (.slice (some ⟨r,0,none⟩) 1 1)))]) Tryz.func101 (by kernel_rfl) Tryz.ntmps101 (by simp) (fun x hx=>?_) fun a w hst=>?_
 ·simp only [List.mem_cons,List.not_mem_nil,or_false] at hx
  rcases hx with rfl | rfl
  ·exact ⟨_,rfl,ha⟩
  ·exact ⟨_,rfl,rfl⟩
 show Code.wp _ smq_n0 _ a w
 rw [smq_e0]
 refine wp_seq ?_
 rw [smq_e1]
 refine (smq_r0 sx sy hi hj hr).run hst ?_
 clear hst
 intro a w hst
 show Code.wp _ smq_n2 _ a w
 rw [smq_e2]
 refine wp_seq ?_
 rw [smq_e3]
 refine (smq_r1 sx sy hi hj hr).run hst ?_
 clear hst
 intro a w hst
 show Code.wp _ smq_n4 _ a w
 rw [smq_e4]
 refine wp_seq ?_
 rw [smq_e5]
 refine wp_seq ?_
 rw [smq_e7]
 refine (smq_r2 sx sy hi hj hr).run hst ?_
 clear hst
 intro a w hst
 show Code.wp _ smq_n8 _ a w
 rw [smq_e8]
 refine wp_block ?_
 show Code.wp _ smq_n9 _ a w
 rw [smq_e9]
 refine loop_ghost (fun (k:Nat) a w=>St W 20 [(0,(ratF x)),(1,(eqF (.slice (some ⟨r,0,none⟩) 1 1))),(9,(eqF (.slice (some ⟨r,0,none⟩) 1 1))),(10,(eqF (.int .i64 ((1:Nat):Int)))),(11,(eqF (.int .i64 ((k:Nat):Int))))] [(2,(boxQ x)),(4,zeroQF),(5,(boxQ (sumAcc x y k)))] a w∧k≤1) (fun k=>1 - k) ?_ (0:Nat) ⟨hst,Nat.zero_le _⟩
 intro k a w ⟨hst,hk⟩
 show Code.wp _ smq_n10 _ a w
 by_cases hlt:k<1
 ·rw [smq_e10]
  refine wp_seq ?_
  rw [smq_e11]
  refine (smq_r3 sx sy hi hj hr hlt).run hst ?_
  clear hst
  intro a w hst
  show Code.wp _ smq_n12 _ a w
  rw [smq_e12]
  refine wp_seq ?_
  rw [smq_e13]
  refine wp_cond_true (st_bool hst 5 rfl) ?_
  show Code.wp _ smq_n15 _ a w
  rw [smq_e15]
  refine wp_skip ?_
  show Code.wp _ smq_n14 _ a w
  rw [smq_e14]
  refine wp_seq ?_
  rw [smq_e17]
  refine wp_block ?_
  show Code.wp _ smq_n19 _ a w
  rw [smq_e19]
  refine wp_seq ?_
  rw [smq_e20]
  refine smq_r4 sx sy hi hj hr hlt hst ?_
  clear hst
  intro a w hst
  show Code.wp _ smq_n21 _ a w
  rw [smq_e21]
  refine (smq_r5 sx sy hi hj hr hlt).run hst ?_
  clear hst
  intro a w hst
  show Code.wp _ smq_n18 _ a w
  rw [smq_e18]
  refine (smq_r6 sx sy hi hj hr hlt).run hst ?_
  clear hst
  intro a w hst
  exact ⟨k+1,⟨((hst.to (S':=[(0,(ratF x)),(1,(eqF (.slice (some ⟨r,0,none⟩) 1 1))),(9,(eqF (.slice (some ⟨r,0,none⟩) 1 1))),(10,(eqF (.int .i64 ((1:Nat):Int)))),(11,(eqF (.int .i64 (((k+1):Nat):Int))))]) ⟨hst.slots.get (k:=0) rfl,hst.slots.get (k:=1) rfl,hst.slots.get (k:=2) rfl,hst.slots.get (k:=3) rfl,hst.slots.get (k:=4) rfl,trivial⟩).firstB 3),by omega⟩,by omega⟩
 ·rw [smq_e10]
  refine wp_seq ?_
  rw [smq_e11]
  refine (smq_r3b sx sy hi hj hr hlt).run hst ?_
  clear hst
  intro a w hst
  show Code.wp _ smq_n12 _ a w
  rw [smq_e12]
  refine wp_seq ?_
  rw [smq_e13]
  refine wp_cond_false (st_bool hst 5 rfl) ?_
  show Code.wp _ smq_n16 _ a w
  rw [smq_e16]
  refine wp_exit ?_
  have e:k=1:=by omega
  subst e
  show Code.wp _ smq_n6 _ a w
  rw [smq_e6]
  refine wp_seq ?_
  rw [smq_e22]
  refine (smq_r7 sx sy hi hj hr).run hst ?_
  clear hst
  intro a w hst
  show Code.wp _ smq_n23 _ a w
  rw [smq_e23]
  refine wp_ret ?_
  exact ret_boxQ hst rfl 1 rfl
end Go.Proofs.YtgaehhapjnbieaaGreat
namespace Go.Proofs.YtgaehhapjnbieaaGreat
open Go.RowKit
theorem PairAt.open_ {w:World} {v:Value} {n d:Int} (h:PairAt w v n d):∃ b A k c b' A' k' c',v = .agg #[.bool b,.slice A k c,.bool b',.slice A' k' c']∧Hid (PairAt w (.agg #[.bool b,.slice A k c,.bool b',.slice A' k' c']) n d):=by
 obtain ⟨b,A,k,c,b',A',k',c',rfl,h1,h2⟩:=h
 exact ⟨b,A,k,c,b',A',k',c',rfl,⟨b,A,k,c,b',A',k',c',rfl,h1,h2⟩⟩
theorem PairAt.into {w w':World} {v:Value} {n d:Int} (h:PairAt w v n d) (hb:Below w.heap.size w w'):PairAt w' v n d:=h.grow (Grow.of_below hb)
theorem box4_end {w w1:World} {g:Nat} {x0 x1 x2 x3:Value} {b b':Bool} {A A':Option Addr} {k c k' c':Nat} {n d:Int} {B:Nat} (hh:w1.heap[g]? = some (.cells #[x0,x1,x2,x3] 36 (0,0))) (hB:Below B w w1) (hg:B≤g) (hp:PairAt w1 (.agg #[.bool b,.slice A k c,.bool b',.slice A' k' c']) n d) :
  PairAt ((((w1.setCell ⟨g,0,none⟩ (.bool b)).setCell ⟨g,1,none⟩ (.slice A k c)).setCell ⟨g,2,none⟩ (.bool b')).setCell ⟨g,3,none⟩ (.slice A' k' c')) (.agg #[.bool b,.slice A k c,.bool b',.slice A' k' c']) n d ∧
  Below B w ((((w1.setCell ⟨g,0,none⟩ (.bool b)).setCell ⟨g,1,none⟩ (.slice A k c)).setCell ⟨g,2,none⟩ (.bool b')).setCell ⟨g,3,none⟩ (.slice A' k' c')):=by
 have hne:(36:TypeId)≠109:=by decide
 have g0:=Grow.set hh hne 0 (.bool b)
 have b0:=block_setCell hh 0 (.bool b)
 have g1:=Grow.set b0 hne 1 (.slice A k c)
 have b1:=block_setCell b0 1 (.slice A k c)
 have g2:=Grow.set b1 hne 2 (.bool b')
 have b2:=block_setCell b1 2 (.bool b')
 have g3:=Grow.set b2 hne 3 (.slice A' k' c')
 exact ⟨hp.grow (((g0.trans g1).trans g2).trans g3),(((hB.setCell hg _).setCell hg _).setCell hg _).setCell hg _⟩
set_option maxHeartbeats 1600000 in
theorem AddQ_any {x y:Rat} {i j:Nat} (va vb:Value) (W:World) (ha:(ratF x).p va W) (hb:(ratF y).p vb W) (sx:RSm x i) (sy:RSm y j) (hi:i≤100000000) (hj:j≤100000000):Calls Tryz.prog 72 #[va,vb] W (GivesP (ratF (x+y)) W):=by
 obtain ⟨b,A,k,c,b',A',k',c',rfl,H⟩:=PairAt.open_ ha
 obtain ⟨e,D,l,f,e',D',l',f',rfl,K⟩:=PairAt.open_ hb
 clear ha hb
 go_enter Tryz.func72,Tryz.ntmps72
 go_wp2_with fail
 have hB3:Below W.heap.size W (((W.alloc (Obj.cells #[.bool b,.slice A k c,.bool b',.slice A' k' c'] 36)).alloc (Obj.cells #[.bool e,.slice D l f,.bool e',.slice D' l' f'] 36)).alloc (Obj.cells #[.bool false,.slice none 0 0,.bool false,.slice none 0 0] 36)):=
  ((below_alloc W _).alloc (by simp) _).alloc (by simp; omega) _
 have hz:=heap_alloc_new ((W.alloc (Obj.cells #[.bool b,.slice A k c,.bool b',.slice A' k' c'] 36)).alloc (Obj.cells #[.bool e,.slice D l f,.bool e',.slice D' l' f'] 36)) (Obj.cells #[.bool false,.slice none 0 0,.bool false,.slice none 0 0] 36)
 have hs:(((W.alloc (Obj.cells #[.bool b,.slice A k c,.bool b',.slice A' k' c'] 36)).alloc (Obj.cells #[.bool e,.slice D l f,.bool e',.slice D' l' f'] 36)).alloc (Obj.cells #[.bool false,.slice none 0 0,.bool false,.slice none 0 0] 36)).heap.size=W.heap.size+1+1+1:=by simp
 rw [show ((W.alloc (Obj.cells #[.bool b,.slice A k c,.bool b',.slice A' k' c'] 36)).alloc (Obj.cells #[.bool e,.slice D l f,.bool e',.slice D' l' f'] 36)).heap.size=W.heap.size+1+1 by simp] at hz
 generalize (((W.alloc (Obj.cells #[.bool b,.slice A k c,.bool b',.slice A' k' c'] 36)).alloc (Obj.cells #[.bool e,.slice D l f,.bool e',.slice D' l' f'] 36)).alloc (Obj.cells #[.bool false,.slice none 0 0,.bool false,.slice none 0 0] 36))=W3 at *
 have hB4:=hB3.alloc (by omega) (Obj.cells #[.bool e,.slice D l f,.bool e',.slice D' l' f'] 36)
 have hr:RowQ (W3.alloc (Obj.cells #[.bool e,.slice D l f,.bool e',.slice D' l' f'] 36)) (W.heap.size+1+1+1) y:=⟨_,_,_,_,_,_,_,_,by rw [← hs]; exact heap_alloc_new W3 _,K.out.into hB4⟩
 have hz4:=(below_alloc W3 (Obj.cells #[.bool e,.slice D l f,.bool e',.slice D' l' f'] 36)).block (W.heap.size+1+1) (by omega)
 have hs4:(W3.alloc (Obj.cells #[.bool e,.slice D l f,.bool e',.slice D' l' f'] 36)).heap.size=W.heap.size+1+1+1+1:=by simp [hs]
 refine (Sum_any _ _ (H.out.into hB4) sx sy hi hj hr).mono ?_
 rintro z w1 ⟨v,rfl,hv,hb1⟩
 obtain ⟨p,E,m,q,p',E',m',q',rfl,V⟩:=PairAt.open_ hv
 have hz1:=(hb1.block (W.heap.size+1+1) (by omega)).trans (hz4.trans hz)
 obtain ⟨e0,e1,e2,e3⟩:=q_cells hz1
 have f0:=frozen_of_row hz1 0
 have f1:=frozen_of_row hz1 1
 have f2:=frozen_of_row hz1 2
 have f3:=frozen_of_row hz1 3
 have HE:=Lib.hid (box4_end hz1 (hB4.trans (hb1.mono (by omega))) (by omega) V.out)
 clear hz1 hz4 hz hv hb1 hr hB4 hB3 hs4 hs
 go_wp2
 refine bodyPost_ret (v:=.agg #[.bool p,.slice E m q,.bool p',.slice E' m' q']) (by simp [results,Tryz.results72,go_sem,e0,e1,e2,e3]) rfl ⟨_,rfl,HE.out.1,HE.out.2⟩
theorem boxq_in {w w1:World} {g:Nat} {x0 x1 x2 x3:Value} (hh:w.heap[g]? = some (.cells #[x0,x1,x2,x3] 36 (0,0))) (hb:Below w.heap.size w w1):w1.cell? ⟨g,0,none⟩=some x0∧w1.cell? ⟨g,1,none⟩=some x1∧w1.cell? ⟨g,2,none⟩=some x2∧w1.cell? ⟨g,3,none⟩=some x3:=by
 have:=(hb.block g (lt_of_get hh)).trans hh
 exact q_cells this
theorem rowQ_new {w:World} {b b':Bool} {A A':Option Addr} {k c k' c':Nat} {y:Rat} (h:PairAt w (.agg #[.bool b,.slice A k c,.bool b',.slice A' k' c']) y.num (y.den:Int)):RowQ (w.alloc (Obj.cells #[.bool b,.slice A k c,.bool b',.slice A' k' c'] 36)) w.heap.size y:=
 ⟨_,_,_,_,_,_,_,_,heap_alloc_new w _,h.into (below_alloc w _)⟩
theorem far4 {w:World} {g g':Nat} (hne:g'≠g) (i:Nat) (u0 u1 u2 u3:Value) {x:Value} (h:w.cell? ⟨g,i,none⟩=some x):((((w.setCell ⟨g',0,none⟩ u0).setCell ⟨g',1,none⟩ u1).setCell ⟨g',2,none⟩ u2).setCell ⟨g',3,none⟩ u3).cell? ⟨g,i,none⟩=some x:=by
 rw [World.cell?_setCell_far _ _ _ _ (by simpa using hne),World.cell?_setCell_far _ _ _ _ (by simpa using hne),World.cell?_setCell_far _ _ _ _ (by simpa using hne),World.cell?_setCell_far _ _ _ _ (by simpa using hne)]
 exact h
set_option maxHeartbeats 3200000 in
theorem SubQ_any {x y : Rat} {i j : Nat} (va vb : Value) (W : World) (ha : (ratF x).p va W) (hb : (ratF y).p vb W) (sx : RSm x i) (sy : RSm y j) (hi : i ≤ 100000000) (hj : j ≤ 100000000) : Calls Tryz.prog 57 #[va, vb] W (GivesP (ratF (x - y)) W) := by
  obtain ⟨b, A, k, c, b', A', k', c', rfl, H⟩ := PairAt.open_ ha
  obtain ⟨e, D, l, f, e', D', l', f', rfl, K⟩ := PairAt.open_ hb
  rw [Rat.sub_eq_add_neg]
  have SX := Lib.hid sx
  have SY := Lib.hid sy
  have HH := Lib.hid (heap3 W (.cells #[.bool b, .slice A k c, .bool b', .slice A' k' c'] 36) (.cells #[.bool e, .slice D l f, .bool e', .slice D' l' f'] 36) (.cells #[.bool false, .slice none 0 0, .bool false, .slice none 0 0] 36))
  have HW := Lib.hid (below3 W (.cells #[.bool b, .slice A k c, .bool b', .slice A' k' c'] 36) (.cells #[.bool e, .slice D l f, .bool e', .slice D' l' f'] 36) (.cells #[.bool false, .slice none 0 0, .bool false, .slice none 0 0] 36))
  obtain ⟨a0, a1, a2, a3⟩ := boxq_in HH.out.1 (Below.refl _ _)
  obtain ⟨b0, b1, b2, b3⟩ := boxq_in HH.out.2.1 (Below.refl _ _)
  obtain ⟨c0, c1, c2, c3⟩ := boxq_in HH.out.2.2 (Below.refl _ _)
  clear ha hb sx sy
  go_enter Tryz.func57, Tryz.ntmps57
  go_wp2_with fail
  generalize (((W.alloc (.cells #[.bool b, .slice A k c, .bool b', .slice A' k' c'] 36)).alloc (.cells #[.bool e, .slice D l f, .bool e', .slice D' l' f'] 36)).alloc (.cells #[.bool false, .slice none 0 0, .bool false, .slice none 0 0] 36)) = W3 at *
  have HELD : Hid (∀ w' : World, Below W3.heap.size W3 w' → (w'.cell? ⟨W.heap.size, 0, none⟩ = some (.bool b) ∧ w'.cell? ⟨W.heap.size, 1, none⟩ = some (.slice A k c) ∧ w'.cell? ⟨W.heap.size, 2, none⟩ = some (.bool b') ∧ w'.cell? ⟨W.heap.size, 3, none⟩ = some (.slice A' k' c')) ∧ (w'.cell? ⟨W.heap.size + 1, 0, none⟩ = some (.bool e) ∧ w'.cell? ⟨W.heap.size + 1, 1, none⟩ = some (.slice D l f) ∧ w'.cell? ⟨W.heap.size + 1, 2, none⟩ = some (.bool e') ∧ w'.cell? ⟨W.heap.size + 1, 3, none⟩ = some (.slice D' l' f'))) :=
    Lib.hid fun w' hb => ⟨boxq_in HH.out.1 hb, boxq_in HH.out.2.1 hb⟩
  have HELD2 : Hid (∀ w' : World, Below W3.heap.size W3 w' → ∀ u0 u1 u2 u3 : Value, (((((w'.setCell ⟨W.heap.size + 1 + 1, 0, none⟩ u0).setCell ⟨W.heap.size + 1 + 1, 1, none⟩ u1).setCell ⟨W.heap.size + 1 + 1, 2, none⟩ u2).setCell ⟨W.heap.size + 1 + 1, 3, none⟩ u3).cell? ⟨W.heap.size, 0, none⟩ = some (.bool b) ∧ ((((w'.setCell ⟨W.heap.size + 1 + 1, 0, none⟩ u0).setCell ⟨W.heap.size + 1 + 1, 1, none⟩ u1).setCell ⟨W.heap.size + 1 + 1, 2, none⟩ u2).setCell ⟨W.heap.size + 1 + 1, 3, none⟩ u3).cell? ⟨W.heap.size, 1, none⟩ = some (.slice A k c) ∧ ((((w'.setCell ⟨W.heap.size + 1 + 1, 0, none⟩ u0).setCell ⟨W.heap.size + 1 + 1, 1, none⟩ u1).setCell ⟨W.heap.size + 1 + 1, 2, none⟩ u2).setCell ⟨W.heap.size + 1 + 1, 3, none⟩ u3).cell? ⟨W.heap.size, 2, none⟩ = some (.bool b') ∧ ((((w'.setCell ⟨W.heap.size + 1 + 1, 0, none⟩ u0).setCell ⟨W.heap.size + 1 + 1, 1, none⟩ u1).setCell ⟨W.heap.size + 1 + 1, 2, none⟩ u2).setCell ⟨W.heap.size + 1 + 1, 3, none⟩ u3).cell? ⟨W.heap.size, 3, none⟩ = some (.slice A' k' c')) ∧ (((((w'.setCell ⟨W.heap.size + 1 + 1, 0, none⟩ u0).setCell ⟨W.heap.size + 1 + 1, 1, none⟩ u1).setCell ⟨W.heap.size + 1 + 1, 2, none⟩ u2).setCell ⟨W.heap.size + 1 + 1, 3, none⟩ u3).cell? ⟨W.heap.size + 1, 0, none⟩ = some (.bool e) ∧ ((((w'.setCell ⟨W.heap.size + 1 + 1, 0, none⟩ u0).setCell ⟨W.heap.size + 1 + 1, 1, none⟩ u1).setCell ⟨W.heap.size + 1 + 1, 2, none⟩ u2).setCell ⟨W.heap.size + 1 + 1, 3, none⟩ u3).cell? ⟨W.heap.size + 1, 1, none⟩ = some (.slice D l f) ∧ ((((w'.setCell ⟨W.heap.size + 1 + 1, 0, none⟩ u0).setCell ⟨W.heap.size + 1 + 1, 1, none⟩ u1).setCell ⟨W.heap.size + 1 + 1, 2, none⟩ u2).setCell ⟨W.heap.size + 1 + 1, 3, none⟩ u3).cell? ⟨W.heap.size + 1, 2, none⟩ = some (.bool e') ∧ ((((w'.setCell ⟨W.heap.size + 1 + 1, 0, none⟩ u0).setCell ⟨W.heap.size + 1 + 1, 1, none⟩ u1).setCell ⟨W.heap.size + 1 + 1, 2, none⟩ u2).setCell ⟨W.heap.size + 1 + 1, 3, none⟩ u3).cell? ⟨W.heap.size + 1, 3, none⟩ = some (.slice D' l' f'))) := by
    refine Lib.hid fun w' hb u0 u1 u2 u3 => ?_
    obtain ⟨⟨h0, h1, h2, h3⟩, ⟨k0, k1, k2, k3⟩⟩ := HELD.out w' hb
    exact ⟨⟨far4 (by omega) 0 _ _ _ _ h0, far4 (by omega) 1 _ _ _ _ h1, far4 (by omega) 2 _ _ _ _ h2, far4 (by omega) 3 _ _ _ _ h3⟩, ⟨far4 (by omega) 0 _ _ _ _ k0, far4 (by omega) 1 _ _ _ _ k1, far4 (by omega) 2 _ _ _ _ k2, far4 (by omega) 3 _ _ _ _ k3⟩⟩
  have HWW := Lib.hid (Below.refl W3.heap.size W3)
  go_region_held3 (fun w' => (w'.cell? ⟨W.heap.size, 0, none⟩ = some (.bool b) ∧ w'.cell? ⟨W.heap.size, 1, none⟩ = some (.slice A k c) ∧ w'.cell? ⟨W.heap.size, 2, none⟩ = some (.bool b') ∧ w'.cell? ⟨W.heap.size, 3, none⟩ = some (.slice A' k' c')) ∧ (w'.cell? ⟨W.heap.size + 1, 0, none⟩ = some (.bool e) ∧ w'.cell? ⟨W.heap.size + 1, 1, none⟩ = some (.slice D l f) ∧ w'.cell? ⟨W.heap.size + 1, 2, none⟩ = some (.bool e') ∧ w'.cell? ⟨W.heap.size + 1, 3, none⟩ = some (.slice D' l' f')))
    (first | (go_keep; done) | exact HELD.out _ HB1.out | exact HELD.out _ HB1.out.drew | exact HELD.out _ (step_below HB1.out (below_alloc _ _)) | exact HELD.out _ HB2.out | exact HELD.out _ HB2.out.drew | exact HELD2.out _ HB2.out _ _ _ _)
    (first
      | (go_at_call 102
         refine (NegQ_any _ _ (K.out.into (by first | exact HW.out | exact HW.out.drew | exact HW.out.drew.drew)) SY.out (by omega)).mono ?_
         rintro z w1 ⟨v1, rfl, hv1, hb1⟩
         obtain ⟨p1, E1, m1, q1, p1', E1', m1', q1', rfl, V1⟩ := PairAt.open_ hv1
         have HB1 : Hid (Below W3.heap.size W3 w1) := step_below (by first | exact HWW.out | exact HWW.out.drew | exact HWW.out.drew.drew) hb1
         clear hb1 hv1)
      | (go_at_call 101
         refine (Sum_any _ _ (H.out.into (step_below HW.out (step_below HB1.out (below_alloc _ _)))) SX.out SY.out.neg (by omega) (by omega) (rowQ_new V1.out)).mono ?_
         rintro z w2 ⟨v2, rfl, hv2, hb2⟩
         obtain ⟨p, E, m, q, p', E', m', q', rfl, V⟩ := PairAt.open_ hv2
         have HB2 : Hid (Below W3.heap.size W3 w2) := step_below (step_below HB1.out (below_alloc _ _)) hb2
         have hz1 := (HB2.out.block (W.heap.size + 1 + 1) (lt_of_get HH.out.2.2)).trans HH.out.2.2
         obtain ⟨e0, e1, e2, e3⟩ := q_cells hz1
         have f0 := frozen_of_row hz1 0
         have f1 := frozen_of_row hz1 1
         have f2 := frozen_of_row hz1 2
         have f3 := frozen_of_row hz1 3
         have HE := Lib.hid (box4_end hz1 (step_below HW.out HB2.out) (by omega) V.out)
         clear hb2 hv2 hz1))
  go_wp2
  refine bodyPost_ret (v := .agg #[.bool p, .slice E m q, .bool p', .slice E' m' q']) (by simp [results, Tryz.results57, go_sem, e0, e1, e2, e3]) rfl ⟨_, rfl, HE.out.1, HE.out.2⟩
end Go.Proofs.YtgaehhapjnbieaaGreat
namespace Go.Proofs.YtgaehhapjnbieaaGreat
open Go.RowKit
theorem cmpI_sign (p q:Int):cmpI p q=Int.sign (p - q):=by
 unfold cmpI
 split
 ·rename_i h; exact (Int.sign_eq_neg_one_of_neg (by omega)).symm
 ·split
  ·rename_i h; rw [h,Int.sub_self]; rfl
  ·rename_i h1 h2; rw [Int.sign_eq_one_of_pos (by omega)]
theorem cmpI_rat (x y:Rat):cmpI (x.num*(y.den:Int)) (y.num*(x.den:Int))=cmpR x y:=by rw [cmpI_sign,cmpR_sign]
section
variable {w : World} {va vb : Value} {x y : Rat} {i j : Nat}
theorem kQAdd (ha:(ratF x).p va w) (hb:(ratF y).p vb w) (sx:RSm x i) (sy:RSm y j) (hi:i≤100000000) (hj:j≤100000000):Calls Tryz.prog 72 #[va,vb] w (GivesP (ratF (x+y)) w):=AddQ_any va vb w ha hb sx sy hi hj
theorem kQSub (ha:(ratF x).p va w) (hb:(ratF y).p vb w) (sx:RSm x i) (sy:RSm y j) (hi:i≤100000000) (hj:j≤100000000):Calls Tryz.prog 57 #[va,vb] w (GivesP (ratF (x - y)) w):=SubQ_any va vb w ha hb sx sy hi hj
theorem kQMul (ha:(ratF x).p va w) (hb:(ratF y).p vb w) (sx:RSm x i) (sy:RSm y j) (hi:i≤200000000) (hj:j≤200000000):Calls Tryz.prog 58 #[va,vb] w (GivesP (ratF (x*y)) w):=MulQ_any va vb w ha hb sx sy (by omega) (by omega)
theorem kQNeg (ha:(ratF x).p va w) (sx:RSm x i) (hi:i≤200000000):Calls Tryz.prog 102 #[va] w (GivesP (ratF (-x)) w):=NegQ_any va w ha sx (by omega)
theorem kQSign (ha:(ratF x).p va w) (sx:RSm x i) (hi:i≤200000000):Calls Tryz.prog 100 #[va] w (GivesP (eqF (.int .i64 (cmpR x 0))) w):=by
 rw [← sign_cmp]; exact SignQ_any va w ha sx (by omega)
theorem kQCmp (ha:(ratF x).p va w) (hb:(ratF y).p vb w) (sx:RSm x i) (sy:RSm y j) (hi:i≤200000000) (hj:j≤200000000):Calls Tryz.prog 84 #[va,vb] w (GivesP (eqF (.int .i64 (cmpR x y))) w):=by
 rw [← cmpI_rat]; exact CmpQ_any va vb w ha hb sx sy (by omega) (by omega)
theorem kQInv (ha:(ratF x).p va w) (sx:RSm x i) (hi:i≤200000000) (nx:x≠0):Calls Tryz.prog 121 #[va] w (GivesP (ratF x⁻¹) w):=by
 have hn:x.num≠0:=fun h=>nx (Rat.num_eq_zero.1 h)
 rcases Int.lt_or_gt_of_ne hn with h | h
 ·exact InvQ_neg va w ha sx (by omega) h
 ·exact InvQ_pos va w ha sx (by omega) h
theorem kQWhole (z:Int) (h0 : -9223372036854775808≤z) (h1:z≤9223372036854775807) (hv:(eqF (.int .i64 z)).p va w):Calls Tryz.prog 63 #[va] w (GivesP (ratF (z:Rat)) w):=by
 have hv:va = .int .i64 z:=hv
 rw [hv]
 exact WholeQ_any w h0 h1
end
section
variable {w : World} {va vb : Value} {x y : Int} {i j : Nat}
end
theorem cmp0_ne {x:Rat} (h:x≠0):(cmpR x 0 == 0)=false:=by
 unfold cmpR
 rw [if_neg h]
 split <;> rfl
theorem cmp0_eq {x:Rat} (h:x=0):(cmpR x 0 == 0)=true:=by subst h; decide
theorem of_neg2 (n d:Int) (hd:d<0):(Rat.divInt n d).num = -n / (Int.gcd (-n) (-d):Nat)∧((Rat.divInt n d).den:Int) = -d / (Int.gcd (-n) (-d):Nat):=by
 have h:=of_pos (-n) (-d) (by omega)
 rwa [Rat.neg_divInt_neg] at h
theorem kRGcd2 {x y:Int} {i j:Nat} {va vb:Value} {w:World} (ha:(intF x).p va w) (hb:(intF y).p vb w) (sx:Sm x i) (sy:Sm y j) (hi:i≤400000000) (hj:j≤400000000):Calls Tryz.prog 131 #[va,vb] w (GivesP (intF ((Int.gcd x y:Nat):Int)) w):=
 kRGcd ha hb (sx.mono (Nat.le_max_left i j)) (sy.mono (Nat.le_max_right i j)) (by omega)
end Go.Proofs.YtgaehhapjnbieaaGreat
namespace Go.Proofs.YtgaehhapjnbieaaGreat
open Go.RowKit
set_option maxRecDepth 100000 in
theorem OfP_0 {x y : Int} {i j : Nat} (va : Value) (vb : Value) (W : World) (hva : (intF x).p va W) (hvb : (intF y).p vb W) (_sx : Sm x i) (sy : Sm y j) (_hi : i ≤ 300000000) (_hj : j ≤ 300000000) (ny : y = 0) : Calls Tryz.prog 119 #[va, vb] W (GivesP (tup2F (pairF 0 0) (eqF (.int .i64 3))) W) := by
  let E : List PF := [(intF x), (intF y), (eqF (.int .i64 (Int.sign y))), (pairF 0 0)]
  let EB : List CF := [(boxIF x), (boxIF y), zeroQF, (boxQF 0 0)]
  exact auto_calls (E := E) (EB := EB) (fs := [(.ref 0), (.ref 1)]) (r := (.tup2 (.ref 3) (.int .i64 3)))
   { pures := [p2 (.bin .eql 3 3) (.ref 2) (.int .i64 0) (.bool true) fun _ _ _ _ _ hx hy => h_eqlI (r := true) (by rw [ny]; rfl) hx hy,
      p0 (.bld 36 []) (.ref 3) fun _ _ _ => h_buildQ0],
     calls := [c1 98 (.ref 1) (.ref 2) fun w v0 hb h0 => kRSign h0 sy (by first | decide | assumption | omega)],
     loads := [⟨34, 0, 1, (.ref 1), fun w q h => loadI_int w q h⟩,
      ⟨36, 0, 3, (.ref 3), fun w q h => loadQ_all w q h⟩],
     allocs := [⟨36, 2, _, allocQ_run, allocQ_old⟩],
     boxes := [⟨34, (.ref 0), 0, fun w v h => boxI_run w v h⟩,
      ⟨34, (.ref 1), 1, fun w v h => boxI_run w v h⟩],
     stores := [⟨36, 0, 2, (.ref 3), 3, storeQ_zero⟩] }
   Tryz.func119 ⟨hva, hvb, trivial⟩ (by kernel_rfl)
set_option maxRecDepth 100000 in
theorem OfP_pos {x y : Int} {i j : Nat} (va : Value) (vb : Value) (W : World) (hva : (intF x).p va W) (hvb : (intF y).p vb W) (sx : Sm x i) (sy : Sm y j) (_hi : i ≤ 300000000) (_hj : j ≤ 300000000) (ny : 0 < y) : Calls Tryz.prog 119 #[va, vb] W (GivesP (tup2F (ratF (Rat.divInt x y)) (eqF (.int .i64 0))) W) := by
  let E : List PF := [(intF x), (intF y), (eqF (.int .i64 (Int.sign y))), (intF ((Int.gcd x y : Nat) : Int)), (intF (x / ((Int.gcd x y : Nat) : Int))), (intF (x % ((Int.gcd x y : Nat) : Int))), (intF (y / ((Int.gcd x y : Nat) : Int))), (intF (y % ((Int.gcd x y : Nat) : Int))), (ratF (Rat.divInt x y))]
  let EB : List CF := [(boxIF x), (boxIF y), zeroQF, zeroIF, (boxIF ((Int.gcd x y : Nat) : Int)), (boxIF (x / ((Int.gcd x y : Nat) : Int))), (boxIF (x % ((Int.gcd x y : Nat) : Int))), (boxIF (y / ((Int.gcd x y : Nat) : Int))), (boxIF (y % ((Int.gcd x y : Nat) : Int))), (boxQ (Rat.divInt x y))]
  exact auto_calls (E := E) (EB := EB) (fs := [(.ref 0), (.ref 1)]) (r := (.tup2 (.ref 8) (.int .i64 0)))
   { pures := [p2 (.bin .eql 3 3) (.ref 2) (.int .i64 0) (.bool false) fun _ _ _ _ _ hx hy => h_eqlI (r := false) (by rw [Int.sign_eq_one_of_pos ny]; rfl) hx hy,
      p2 (.bin .lss 3 3) (.ref 2) (.int .i64 0) (.bool false) fun _ _ _ _ _ hx hy => h_lss (r := false) (by rw [Int.sign_eq_one_of_pos ny]; rfl) hx hy,
      p2 (.bld 36 [0, 1]) (.ref 4) (.ref 6) (.ref 8) fun _ _ _ _ _ hx hy => h_buildQ_eq (of_pos x y ny).1.symm (of_pos x y ny).2.symm hx hy],
     calls := [c1 98 (.ref 1) (.ref 2) fun w v0 hb h0 => kRSign h0 sy (by first | decide | assumption | omega),
      c2 131 (.ref 0) (.ref 1) (.ref 3) fun w v0 v1 hb h0 h1 => kRGcd2 h0 h1 sx sy (by first | decide | assumption | omega) (by first | decide | assumption | omega),
      c2 132 (.ref 0) (.ref 3) (.tup3 (.ref 4) (.ref 5) (.int .i64 0)) fun w v0 v1 hb h0 h1 => kRDivMod h0 h1 sx (sm_gcdI sx sy) (by first | decide | assumption | omega) (by first | decide | assumption | omega) (gcd_ne x (by omega)),
      c2 132 (.ref 1) (.ref 3) (.tup3 (.ref 6) (.ref 7) (.int .i64 0)) fun w v0 v1 hb h0 h1 => kRDivMod h0 h1 sy (sm_gcdI sx sy) (by first | decide | assumption | omega) (by first | decide | assumption | omega) (gcd_ne x (by omega))],
     loads := [⟨34, 0, 1, (.ref 1), fun w q h => loadI_int w q h⟩,
      ⟨34, 0, 0, (.ref 0), fun w q h => loadI_int w q h⟩,
      ⟨34, 0, 4, (.ref 3), fun w q h => loadI_int w q h⟩,
      ⟨34, 0, 5, (.ref 4), fun w q h => loadI_int w q h⟩,
      ⟨34, 0, 7, (.ref 6), fun w q h => loadI_int w q h⟩,
      ⟨36, 0, 9, (.ref 8), fun w q h => loadQ_all w q h⟩],
     allocs := [⟨36, 2, _, allocQ_run, allocQ_old⟩,
      ⟨34, 3, _, allocI_run, allocI_old⟩],
     boxes := [⟨34, (.ref 0), 0, fun w v h => boxI_run w v h⟩,
      ⟨34, (.ref 1), 1, fun w v h => boxI_run w v h⟩],
     stores := [⟨34, 0, 3, (.ref 3), 4, (storeI_zero _)⟩,
      ⟨34, 0, 3, (.ref 4), 5, (storeI_zero _)⟩,
      ⟨34, 0, 3, (.ref 5), 6, (storeI_zero _)⟩,
      ⟨34, 0, 3, (.ref 6), 7, (storeI_zero _)⟩,
      ⟨34, 0, 3, (.ref 7), 8, (storeI_zero _)⟩,
      ⟨36, 0, 2, (.ref 8), 9, storeQ_zero⟩] }
   Tryz.func119 ⟨hva, hvb, trivial⟩ (by kernel_rfl)
set_option maxRecDepth 100000 in
theorem OfP_neg {x y : Int} {i j : Nat} (va : Value) (vb : Value) (W : World) (hva : (intF x).p va W) (hvb : (intF y).p vb W) (sx : Sm x i) (sy : Sm y j) (_hi : i ≤ 300000000) (_hj : j ≤ 300000000) (ny : y < 0) : Calls Tryz.prog 119 #[va, vb] W (GivesP (tup2F (ratF (Rat.divInt x y)) (eqF (.int .i64 0))) W) := by
  let E : List PF := [(intF x), (intF y), (eqF (.int .i64 (Int.sign y))), (intF (-x)), (intF (-y)), (intF ((Int.gcd (-x) (-y) : Nat) : Int)), (intF ((-x) / ((Int.gcd (-x) (-y) : Nat) : Int))), (intF ((-x) % ((Int.gcd (-x) (-y) : Nat) : Int))), (intF ((-y) / ((Int.gcd (-x) (-y) : Nat) : Int))), (intF ((-y) % ((Int.gcd (-x) (-y) : Nat) : Int))), (ratF (Rat.divInt x y))]
  let EB : List CF := [(boxIF x), (boxIF y), zeroQF, (boxIF (-x)), (boxIF (-y)), zeroIF, (boxIF ((Int.gcd (-x) (-y) : Nat) : Int)), (boxIF ((-x) / ((Int.gcd (-x) (-y) : Nat) : Int))), (boxIF ((-x) % ((Int.gcd (-x) (-y) : Nat) : Int))), (boxIF ((-y) / ((Int.gcd (-x) (-y) : Nat) : Int))), (boxIF ((-y) % ((Int.gcd (-x) (-y) : Nat) : Int))), (boxQ (Rat.divInt x y))]
  exact auto_calls (E := E) (EB := EB) (fs := [(.ref 0), (.ref 1)]) (r := (.tup2 (.ref 10) (.int .i64 0)))
   { pures := [p2 (.bin .eql 3 3) (.ref 2) (.int .i64 0) (.bool false) fun _ _ _ _ _ hx hy => h_eqlI (r := false) (by rw [Int.sign_eq_neg_one_of_neg ny]; rfl) hx hy,
      p2 (.bin .lss 3 3) (.ref 2) (.int .i64 0) (.bool true) fun _ _ _ _ _ hx hy => h_lss (r := true) (by rw [Int.sign_eq_neg_one_of_neg ny]; rfl) hx hy,
      p2 (.bld 36 [0, 1]) (.ref 6) (.ref 8) (.ref 10) fun _ _ _ _ _ hx hy => h_buildQ_eq (of_neg2 x y ny).1.symm (of_neg2 x y ny).2.symm hx hy],
     calls := [c1 98 (.ref 1) (.ref 2) fun w v0 hb h0 => kRSign h0 sy (by first | decide | assumption | omega),
      c1 90 (.ref 0) (.ref 3) fun w v0 hb h0 => kRNeg h0 sx (by first | decide | assumption | omega),
      c1 90 (.ref 1) (.ref 4) fun w v0 hb h0 => kRNeg h0 sy (by first | decide | assumption | omega),
      c2 131 (.ref 3) (.ref 4) (.ref 5) fun w v0 v1 hb h0 h1 => kRGcd2 h0 h1 sx.neg sy.neg (by first | decide | assumption | omega) (by first | decide | assumption | omega),
      c2 132 (.ref 3) (.ref 5) (.tup3 (.ref 6) (.ref 7) (.int .i64 0)) fun w v0 v1 hb h0 h1 => kRDivMod h0 h1 sx.neg (sm_gcdI sx.neg sy.neg) (by first | decide | assumption | omega) (by first | decide | assumption | omega) (gcd_ne (-x) (by omega)),
      c2 132 (.ref 4) (.ref 5) (.tup3 (.ref 8) (.ref 9) (.int .i64 0)) fun w v0 v1 hb h0 h1 => kRDivMod h0 h1 sy.neg (sm_gcdI sx.neg sy.neg) (by first | decide | assumption | omega) (by first | decide | assumption | omega) (gcd_ne (-x) (by omega))],
     loads := [⟨34, 0, 1, (.ref 1), fun w q h => loadI_int w q h⟩,
      ⟨34, 0, 0, (.ref 0), fun w q h => loadI_int w q h⟩,
      ⟨34, 0, 3, (.ref 3), fun w q h => loadI_int w q h⟩,
      ⟨34, 0, 4, (.ref 4), fun w q h => loadI_int w q h⟩,
      ⟨34, 0, 6, (.ref 5), fun w q h => loadI_int w q h⟩,
      ⟨34, 0, 7, (.ref 6), fun w q h => loadI_int w q h⟩,
      ⟨34, 0, 9, (.ref 8), fun w q h => loadI_int w q h⟩,
      ⟨36, 0, 11, (.ref 10), fun w q h => loadQ_all w q h⟩],
     allocs := [⟨36, 2, _, allocQ_run, allocQ_old⟩,
      ⟨34, 5, _, allocI_run, allocI_old⟩],
     boxes := [⟨34, (.ref 0), 0, fun w v h => boxI_run w v h⟩,
      ⟨34, (.ref 1), 1, fun w v h => boxI_run w v h⟩],
     stores := [⟨34, 0, 0, (.ref 3), 3, (storeI_box _ _)⟩,
      ⟨34, 0, 1, (.ref 4), 4, (storeI_box _ _)⟩,
      ⟨34, 0, 5, (.ref 5), 6, (storeI_zero _)⟩,
      ⟨34, 0, 5, (.ref 6), 7, (storeI_zero _)⟩,
      ⟨34, 0, 5, (.ref 7), 8, (storeI_zero _)⟩,
      ⟨34, 0, 5, (.ref 8), 9, (storeI_zero _)⟩,
      ⟨34, 0, 5, (.ref 9), 10, (storeI_zero _)⟩,
      ⟨36, 0, 2, (.ref 10), 11, storeQ_zero⟩] }
   Tryz.func119 ⟨hva, hvb, trivial⟩ (by kernel_rfl)
theorem kPOf {x y:Int} {i j:Nat} {va vb:Value} {w:World} (ha:(intF x).p va w) (hb:(intF y).p vb w) (sx:Sm x i) (sy:Sm y j) (hi:i≤300000000) (hj:j≤300000000) (ny:y≠0):Calls Tryz.prog 119 #[va,vb] w (GivesP (tup2F (ratF (Rat.divInt x y)) (eqF (.int .i64 0))) w):=by
 rcases Int.lt_or_gt_of_ne ny with h | h
 ·exact OfP_neg va vb w ha hb sx sy hi hj h
 ·exact OfP_pos va vb w ha hb sx sy hi hj h
theorem kPOf0 {x y:Int} {i j:Nat} {va vb:Value} {w:World} (ha:(intF x).p va w) (hb:(intF y).p vb w) (sx:Sm x i) (sy:Sm y j) (hi:i≤300000000) (hj:j≤300000000) (ny:y=0):Calls Tryz.prog 119 #[va,vb] w (GivesP (tup2F (pairF 0 0) (eqF (.int .i64 3))) w):=OfP_0 va vb w ha hb sx sy hi hj ny
set_option maxRecDepth 100000 in
theorem ofP_any {x y : Int} {i j : Nat} (va : Value) (vb : Value) (W : World) (hva : (intF x).p va W) (hvb : (intF y).p vb W) (sx : Sm x i) (sy : Sm y j) (_hi : i ≤ 300000000) (_hj : j ≤ 300000000) (ny : y ≠ 0) : Calls Tryz.prog 89 #[va, vb] W (GivesP (ratF (Rat.divInt x y)) W) := by
  let E : List PF := [(intF x), (intF y), (ratF (Rat.divInt x y))]
  let EB : List CF := [(boxIF x), (boxIF y), zeroQF, (boxQ (Rat.divInt x y))]
  exact auto_calls (E := E) (EB := EB) (fs := [(.ref 0), (.ref 1)]) (r := (.ref 2))
   { calls := [c2 119 (.ref 0) (.ref 1) (.tup2 (.ref 2) (.int .i64 0)) fun w v0 v1 hb h0 h1 => kPOf h0 h1 sx sy (by first | decide | assumption | omega) (by first | decide | assumption | omega) ny],
     loads := [⟨34, 0, 0, (.ref 0), fun w q h => loadI_int w q h⟩,
      ⟨34, 0, 1, (.ref 1), fun w q h => loadI_int w q h⟩,
      ⟨36, 0, 3, (.ref 2), fun w q h => loadQ_all w q h⟩],
     allocs := [⟨36, 2, _, allocQ_run, allocQ_old⟩],
     boxes := [⟨34, (.ref 0), 0, fun w v h => boxI_run w v h⟩,
      ⟨34, (.ref 1), 1, fun w v h => boxI_run w v h⟩],
     stores := [⟨36, 0, 2, (.ref 2), 3, storeQ_zero⟩] }
   Tryz.func89 ⟨hva, hvb, trivial⟩ (by kernel_rfl)
set_option maxRecDepth 100000 in
theorem kPNeg0 {x : Rat} {i : Nat} (va : Value) (W : World) (hva : (ratF x).p va W) (sx : RSm x i) (_hi : i ≤ 300000000) : Calls Tryz.prog 41 #[va] W (GivesP (ratF (-x)) W) := by
  let E : List PF := [(ratF x), (intF x.num), (intF (-x.num)), (intF (x.den : Int)), (ratF (-x))]
  let EB : List CF := [(boxQ x), zeroQF, (boxQ (-x))]
  exact auto_calls (E := E) (EB := EB) (fs := [(.ref 0)]) (r := (.ref 4))
   { pures := [p2 (.bld 36 [0, 1]) (.ref 2) (.ref 3) (.ref 4) fun _ _ _ _ _ hx hy => h_buildQ_eq (Rat.neg_num x).symm (by rw [Rat.neg_den]) hx hy],
     calls := [c1 90 (.ref 1) (.ref 2) fun w v0 hb h0 => kRNeg h0 sx.1 (by first | decide | assumption | omega)],
     loads := [⟨34, 0, 0, (.ref 1), fun w q h => loadQ_0 w q h⟩,
      ⟨34, 2, 0, (.ref 3), fun w q h => loadQ_2 w q h⟩,
      ⟨36, 0, 2, (.ref 4), fun w q h => loadQ_all w q h⟩],
     allocs := [⟨36, 1, _, allocQ_run, allocQ_old⟩],
     boxes := [⟨36, (.ref 0), 0, fun w v h => boxQ_run w v h⟩],
     stores := [⟨36, 0, 1, (.ref 4), 2, storeQ_zero⟩],
     flds := [⟨36, 0, 0, fldQ0⟩,
      ⟨36, 1, 2, fldQ1⟩] }
   Tryz.func41 ⟨hva, trivial⟩ (by kernel_rfl)
theorem add_divInt (x y:Rat):Rat.divInt (x.num*(y.den:Int)+y.num*(x.den:Int)) ((x.den:Int)*(y.den:Int))=x+y:=by
 have h:=Rat.divInt_add_divInt x.num y.num (Int.ne_of_gt (den_pos' x)) (Int.ne_of_gt (den_pos' y))
 rw [Rat.num_divInt_den,Rat.num_divInt_den] at h
 exact h.symm
theorem mul_divInt (x y:Rat):Rat.divInt (x.num*y.num) ((x.den:Int)*(y.den:Int))=x*y:=by
 have h:=Rat.divInt_mul_divInt x.num y.num (d₁:=(x.den:Int)) (d₂:=(y.den:Int))
 rw [Rat.num_divInt_den,Rat.num_divInt_den] at h
 exact h.symm
theorem div_divInt (x y:Rat):Rat.divInt (x.num*(y.den:Int)) ((x.den:Int)*y.num)=x / y:=by
 have h:=Rat.divInt_mul_divInt x.num (y.den:Int) (d₁:=(x.den:Int)) (d₂:=y.num)
 rw [Rat.num_divInt_den,← Rat.inv_divInt,Rat.num_divInt_den,← Rat.div_def] at h
 exact h.symm
theorem dd_ne (x y:Rat):(x.den:Int)*(y.den:Int)≠0:=Int.mul_ne_zero (Int.ne_of_gt (den_pos' x)) (Int.ne_of_gt (den_pos' y))
theorem dn_ne {x y:Rat} (h:y≠0):(x.den:Int)*y.num≠0:=Int.mul_ne_zero (Int.ne_of_gt (den_pos' x)) (fun e=>h (Rat.num_eq_zero.1 e))
theorem dn_eq {x y:Rat} (h:y=0):(x.den:Int)*y.num=0:=by subst h; exact Int.mul_zero _
theorem cmpR_sub (x y:Rat):cmpR (x - y) 0=cmpR x y:=by
 unfold cmpR
 have h1:x - y<0 ↔ x<y:=by
  have:=Rat.add_lt_add_right (a:=x) (b:=y) (c:=-y)
  rwa [Rat.add_neg_cancel,← Rat.sub_eq_add_neg] at this
 have h2:x - y=0 ↔ x=y:=by
  rw [Rat.sub_eq_add_neg]
  constructor
  ·intro h
   have e:x + -y+y=y:=by rw [h,Rat.zero_add]
   rwa [Rat.add_assoc,Rat.neg_add_cancel,Rat.add_zero] at e
  ·rintro rfl; exact Rat.add_neg_cancel _
 simp only [h1,h2]
theorem kPAddOf {x y:Rat} {i j:Nat} {va vb:Value} {w:World} (ha:(intF (x.num*(y.den:Int)+y.num*(x.den:Int))).p va w) (hb:(intF ((x.den:Int)*(y.den:Int))).p vb w) (sx:RSm x i) (sy:RSm y j) (hi:i≤140000000) (hj:j≤140000000):Calls Tryz.prog 89 #[va,vb] w (GivesP (ratF (x+y)) w):=by
 rw [← add_divInt]
 exact ofP_any va vb w ha hb ((sx.1.mul sy.2).add (sy.1.mul sx.2)) (sx.2.mul sy.2) (by omega) (by omega) (dd_ne x y)
theorem kPMulOf {x y:Rat} {i j:Nat} {va vb:Value} {w:World} (ha:(intF (x.num*y.num)).p va w) (hb:(intF ((x.den:Int)*(y.den:Int))).p vb w) (sx:RSm x i) (sy:RSm y j) (hi:i≤140000000) (hj:j≤140000000):Calls Tryz.prog 89 #[va,vb] w (GivesP (ratF (x*y)) w):=by
 rw [← mul_divInt]
 exact ofP_any va vb w ha hb (sx.1.mul sy.1) (sx.2.mul sy.2) (by omega) (by omega) (dd_ne x y)
theorem kPDivOf {x y:Rat} {i j:Nat} {va vb:Value} {w:World} (ha:(intF (x.num*(y.den:Int))).p va w) (hb:(intF ((x.den:Int)*y.num)).p vb w) (sx:RSm x i) (sy:RSm y j) (hi:i≤140000000) (hj:j≤140000000) (ny:y≠0):Calls Tryz.prog 119 #[va,vb] w (GivesP (tup2F (ratF (x / y)) (eqF (.int .i64 0))) w):=by
 rw [← div_divInt]
 exact kPOf ha hb (sx.1.mul sy.2) (sx.2.mul sy.1) (by omega) (by omega) (dn_ne ny)
theorem kPDivOf0 {x y:Rat} {i j:Nat} {va vb:Value} {w:World} (ha:(intF (x.num*(y.den:Int))).p va w) (hb:(intF ((x.den:Int)*y.num)).p vb w) (sx:RSm x i) (sy:RSm y j) (hi:i≤140000000) (hj:j≤140000000) (ny:y=0):Calls Tryz.prog 119 #[va,vb] w (GivesP (tup2F (pairF 0 0) (eqF (.int .i64 3))) w):=
 kPOf0 ha hb (sx.1.mul sy.2) (sx.2.mul sy.1) (by omega) (by omega) (dn_eq ny)
set_option maxRecDepth 100000 in
theorem kPAdd0 {x y : Rat} {i j : Nat} (va : Value) (vb : Value) (W : World) (hva : (ratF x).p va W) (hvb : (ratF y).p vb W) (sx : RSm x i) (sy : RSm y j) (hi : i ≤ 140000000) (hj : j ≤ 140000000) : Calls Tryz.prog 40 #[va, vb] W (GivesP (ratF (x + y)) W) := by
  let E : List PF := [(ratF x), (ratF y), (intF x.num), (intF (y.den : Int)), (intF (x.num * (y.den : Int))), (intF y.num), (intF (x.den : Int)), (intF (y.num * (x.den : Int))), (intF ((x.num * (y.den : Int)) + (y.num * (x.den : Int)))), (intF ((x.den : Int) * (y.den : Int))), (ratF (x + y))]
  let EB : List CF := [(boxQ x), (boxQ y), zeroQF, zeroIF, (boxIF ((x.num * (y.den : Int)) + (y.num * (x.den : Int)))), (boxQ (x + y))]
  exact auto_calls (E := E) (EB := EB) (fs := [(.ref 0), (.ref 1)]) (r := (.ref 10))
   { calls := [c2 88 (.ref 2) (.ref 3) (.ref 4) fun w v0 v1 hb h0 h1 => kRMul h0 h1 sx.1 sy.2 (by first | decide | assumption | omega) (by first | decide | assumption | omega),
      c2 88 (.ref 5) (.ref 6) (.ref 7) fun w v0 v1 hb h0 h1 => kRMul h0 h1 sy.1 sx.2 (by first | decide | assumption | omega) (by first | decide | assumption | omega),
      c2 87 (.ref 4) (.ref 7) (.ref 8) fun w v0 v1 hb h0 h1 => kRAdd h0 h1 (sx.1.mul sy.2) (sy.1.mul sx.2) (by first | decide | assumption | omega) (by first | decide | assumption | omega),
      c2 88 (.ref 6) (.ref 3) (.ref 9) fun w v0 v1 hb h0 h1 => kRMul h0 h1 sx.2 sy.2 (by first | decide | assumption | omega) (by first | decide | assumption | omega),
      c2 89 (.ref 8) (.ref 9) (.ref 10) fun w v0 v1 hb h0 h1 => kPAddOf h0 h1 sx sy hi hj],
     loads := [⟨34, 0, 0, (.ref 2), fun w q h => loadQ_0 w q h⟩,
      ⟨34, 2, 1, (.ref 3), fun w q h => loadQ_2 w q h⟩,
      ⟨34, 0, 1, (.ref 5), fun w q h => loadQ_0 w q h⟩,
      ⟨34, 2, 0, (.ref 6), fun w q h => loadQ_2 w q h⟩,
      ⟨34, 0, 4, (.ref 8), fun w q h => loadI_int w q h⟩,
      ⟨36, 0, 5, (.ref 10), fun w q h => loadQ_all w q h⟩],
     allocs := [⟨36, 2, _, allocQ_run, allocQ_old⟩,
      ⟨34, 3, _, allocI_run, allocI_old⟩],
     boxes := [⟨36, (.ref 0), 0, fun w v h => boxQ_run w v h⟩,
      ⟨36, (.ref 1), 1, fun w v h => boxQ_run w v h⟩],
     stores := [⟨34, 0, 3, (.ref 8), 4, (storeI_zero _)⟩,
      ⟨36, 0, 2, (.ref 10), 5, storeQ_zero⟩],
     flds := [⟨36, 0, 0, fldQ0⟩,
      ⟨36, 1, 2, fldQ1⟩] }
   Tryz.func40 ⟨hva, hvb, trivial⟩ (by kernel_rfl)
set_option maxRecDepth 100000 in
theorem kPMul0 {x y : Rat} {i j : Nat} (va : Value) (vb : Value) (W : World) (hva : (ratF x).p va W) (hvb : (ratF y).p vb W) (sx : RSm x i) (sy : RSm y j) (hi : i ≤ 140000000) (hj : j ≤ 140000000) : Calls Tryz.prog 42 #[va, vb] W (GivesP (ratF (x * y)) W) := by
  let E : List PF := [(ratF x), (ratF y), (intF x.num), (intF y.num), (intF (x.num * y.num)), (intF (x.den : Int)), (intF (y.den : Int)), (intF ((x.den : Int) * (y.den : Int))), (ratF (x * y))]
  let EB : List CF := [(boxQ x), (boxQ y), zeroQF, (boxQ (x * y))]
  exact auto_calls (E := E) (EB := EB) (fs := [(.ref 0), (.ref 1)]) (r := (.ref 8))
   { calls := [c2 88 (.ref 2) (.ref 3) (.ref 4) fun w v0 v1 hb h0 h1 => kRMul h0 h1 sx.1 sy.1 (by first | decide | assumption | omega) (by first | decide | assumption | omega),
      c2 88 (.ref 5) (.ref 6) (.ref 7) fun w v0 v1 hb h0 h1 => kRMul h0 h1 sx.2 sy.2 (by first | decide | assumption | omega) (by first | decide | assumption | omega),
      c2 89 (.ref 4) (.ref 7) (.ref 8) fun w v0 v1 hb h0 h1 => kPMulOf h0 h1 sx sy hi hj],
     loads := [⟨34, 0, 0, (.ref 2), fun w q h => loadQ_0 w q h⟩,
      ⟨34, 0, 1, (.ref 3), fun w q h => loadQ_0 w q h⟩,
      ⟨34, 2, 0, (.ref 5), fun w q h => loadQ_2 w q h⟩,
      ⟨34, 2, 1, (.ref 6), fun w q h => loadQ_2 w q h⟩,
      ⟨36, 0, 3, (.ref 8), fun w q h => loadQ_all w q h⟩],
     allocs := [⟨36, 2, _, allocQ_run, allocQ_old⟩],
     boxes := [⟨36, (.ref 0), 0, fun w v h => boxQ_run w v h⟩,
      ⟨36, (.ref 1), 1, fun w v h => boxQ_run w v h⟩],
     stores := [⟨36, 0, 2, (.ref 8), 3, storeQ_zero⟩],
     flds := [⟨36, 0, 0, fldQ0⟩,
      ⟨36, 1, 2, fldQ1⟩] }
   Tryz.func42 ⟨hva, hvb, trivial⟩ (by kernel_rfl)
set_option maxRecDepth 100000 in
theorem kPSub0 {x y : Rat} {i j : Nat} (va : Value) (vb : Value) (W : World) (hva : (ratF x).p va W) (hvb : (ratF y).p vb W) (sx : RSm x i) (sy : RSm y j) (hi : i ≤ 140000000) (hj : j ≤ 140000000) : Calls Tryz.prog 81 #[va, vb] W (GivesP (ratF (x + -y)) W) := by
  let E : List PF := [(ratF x), (ratF y), (ratF (-y)), (ratF (x + -y))]
  let EB : List CF := [(boxQ x), (boxQ y), zeroQF, (boxQ (x + -y))]
  exact auto_calls (E := E) (EB := EB) (fs := [(.ref 0), (.ref 1)]) (r := (.ref 3))
   { calls := [c1 41 (.ref 1) (.ref 2) fun w v0 hb h0 => kPNeg0 _ _ h0 sy (by omega),
      c2 40 (.ref 0) (.ref 2) (.ref 3) fun w v0 v1 hb h0 h1 => kPAdd0 _ _ _ h0 h1 sx sy.neg hi hj],
     loads := [⟨36, 0, 0, (.ref 0), fun w q h => loadQ_all w q h⟩,
      ⟨36, 0, 1, (.ref 1), fun w q h => loadQ_all w q h⟩,
      ⟨36, 0, 3, (.ref 3), fun w q h => loadQ_all w q h⟩],
     allocs := [⟨36, 2, _, allocQ_run, allocQ_old⟩],
     boxes := [⟨36, (.ref 0), 0, fun w v h => boxQ_run w v h⟩,
      ⟨36, (.ref 1), 1, fun w v h => boxQ_run w v h⟩],
     stores := [⟨36, 0, 2, (.ref 3), 3, storeQ_zero⟩] }
   Tryz.func81 ⟨hva, hvb, trivial⟩ (by kernel_rfl)
set_option maxRecDepth 100000 in
theorem kPSign0 {x : Rat} {i : Nat} (va : Value) (W : World) (hva : (ratF x).p va W) (sx : RSm x i) (_hi : i ≤ 600000000) : Calls Tryz.prog 48 #[va] W (GivesP (eqF (.int .i64 (Int.sign x.num))) W) := by
  let E : List PF := [(ratF x), (intF x.num), (eqF (.int .i64 (Int.sign x.num)))]
  let EB : List CF := [(boxQ x)]
  exact auto_calls (E := E) (EB := EB) (fs := [(.ref 0)]) (r := (.ref 2))
   { calls := [c1 98 (.ref 1) (.ref 2) fun w v0 hb h0 => kRSign h0 sx.1 (by first | decide | assumption | omega)],
     loads := [⟨34, 0, 0, (.ref 1), fun w q h => loadQ_0 w q h⟩],
     boxes := [⟨36, (.ref 0), 0, fun w v h => boxQ_run w v h⟩],
     flds := [⟨36, 0, 0, fldQ0⟩] }
   Tryz.func48 ⟨hva, trivial⟩ (by kernel_rfl)
theorem kPSub1 {x y:Rat} {i j:Nat} {va vb:Value} {w:World} (ha:(ratF x).p va w) (hb:(ratF y).p vb w) (sx:RSm x i) (sy:RSm y j) (hi:i≤140000000) (hj:j≤140000000):Calls Tryz.prog 81 #[va,vb] w (GivesP (ratF (x - y)) w):=by
 rw [Rat.sub_eq_add_neg]; exact kPSub0 va vb w ha hb sx sy hi hj
set_option maxRecDepth 100000 in
theorem kPCmp0 {x y : Rat} {i j : Nat} (va : Value) (vb : Value) (W : World) (hva : (ratF x).p va W) (hvb : (ratF y).p vb W) (sx : RSm x i) (sy : RSm y j) (hi : i ≤ 140000000) (hj : j ≤ 140000000) : Calls Tryz.prog 32 #[va, vb] W (GivesP (eqF (.int .i64 (Int.sign (x + -y).num))) W) := by
  let E : List PF := [(ratF x), (ratF y), (ratF (x + -y)), (eqF (.int .i64 (Int.sign (x + -y).num)))]
  let EB : List CF := [(boxQ x), (boxQ y)]
  exact auto_calls (E := E) (EB := EB) (fs := [(.ref 0), (.ref 1)]) (r := (.ref 3))
   { calls := [c2 81 (.ref 0) (.ref 1) (.ref 2) fun w v0 v1 hb h0 h1 => kPSub0 _ _ _ h0 h1 sx sy hi hj,
      c1 48 (.ref 2) (.ref 3) fun w v0 hb h0 => kPSign0 _ _ h0 (sx.add sy.neg) (by omega)],
     loads := [⟨36, 0, 0, (.ref 0), fun w q h => loadQ_all w q h⟩,
      ⟨36, 0, 1, (.ref 1), fun w q h => loadQ_all w q h⟩],
     boxes := [⟨36, (.ref 0), 0, fun w v h => boxQ_run w v h⟩,
      ⟨36, (.ref 1), 1, fun w v h => boxQ_run w v h⟩] }
   Tryz.func32 ⟨hva, hvb, trivial⟩ (by kernel_rfl)
set_option maxRecDepth 100000 in
theorem kPDiv1 {x y : Rat} {i j : Nat} (va : Value) (vb : Value) (W : World) (hva : (ratF x).p va W) (hvb : (ratF y).p vb W) (sx : RSm x i) (sy : RSm y j) (hi : i ≤ 140000000) (hj : j ≤ 140000000) (ny : y ≠ 0) : Calls Tryz.prog 105 #[va, vb] W (GivesP (tup2F (ratF (x / y)) (eqF (.int .i64 0))) W) := by
  let E : List PF := [(ratF x), (ratF y), (intF x.num), (intF (y.den : Int)), (intF (x.num * (y.den : Int))), (intF (x.den : Int)), (intF y.num), (intF ((x.den : Int) * y.num)), (ratF (x / y))]
  let EB : List CF := [(boxQ x), (boxQ y), zeroQF, (boxQ (x / y))]
  exact auto_calls (E := E) (EB := EB) (fs := [(.ref 0), (.ref 1)]) (r := (.tup2 (.ref 8) (.int .i64 0)))
   { calls := [c2 88 (.ref 2) (.ref 3) (.ref 4) fun w v0 v1 hb h0 h1 => kRMul h0 h1 sx.1 sy.2 (by first | decide | assumption | omega) (by first | decide | assumption | omega),
      c2 88 (.ref 5) (.ref 6) (.ref 7) fun w v0 v1 hb h0 h1 => kRMul h0 h1 sx.2 sy.1 (by first | decide | assumption | omega) (by first | decide | assumption | omega),
      c2 119 (.ref 4) (.ref 7) (.tup2 (.ref 8) (.int .i64 0)) fun w v0 v1 hb h0 h1 => kPDivOf h0 h1 sx sy hi hj ny],
     loads := [⟨34, 0, 0, (.ref 2), fun w q h => loadQ_0 w q h⟩,
      ⟨34, 2, 1, (.ref 3), fun w q h => loadQ_2 w q h⟩,
      ⟨34, 2, 0, (.ref 5), fun w q h => loadQ_2 w q h⟩,
      ⟨34, 0, 1, (.ref 6), fun w q h => loadQ_0 w q h⟩,
      ⟨36, 0, 3, (.ref 8), fun w q h => loadQ_all w q h⟩],
     allocs := [⟨36, 2, _, allocQ_run, allocQ_old⟩],
     boxes := [⟨36, (.ref 0), 0, fun w v h => boxQ_run w v h⟩,
      ⟨36, (.ref 1), 1, fun w v h => boxQ_run w v h⟩],
     stores := [⟨36, 0, 2, (.ref 8), 3, storeQ_zero⟩],
     flds := [⟨36, 0, 0, fldQ0⟩,
      ⟨36, 1, 2, fldQ1⟩] }
   Tryz.func105 ⟨hva, hvb, trivial⟩ (by kernel_rfl)
set_option maxRecDepth 100000 in
theorem kPDiv2 {x y : Rat} {i j : Nat} (va : Value) (vb : Value) (W : World) (hva : (ratF x).p va W) (hvb : (ratF y).p vb W) (sx : RSm x i) (sy : RSm y j) (hi : i ≤ 140000000) (hj : j ≤ 140000000) (ny : y = 0) : Calls Tryz.prog 105 #[va, vb] W (GivesP (tup2F (pairF 0 0) (eqF (.int .i64 3))) W) := by
  let E : List PF := [(ratF x), (ratF y), (intF x.num), (intF (y.den : Int)), (intF (x.num * (y.den : Int))), (intF (x.den : Int)), (intF y.num), (intF ((x.den : Int) * y.num)), (pairF 0 0)]
  let EB : List CF := [(boxQ x), (boxQ y), zeroQF, (boxQF 0 0)]
  exact auto_calls (E := E) (EB := EB) (fs := [(.ref 0), (.ref 1)]) (r := (.tup2 (.ref 8) (.int .i64 3)))
   { calls := [c2 88 (.ref 2) (.ref 3) (.ref 4) fun w v0 v1 hb h0 h1 => kRMul h0 h1 sx.1 sy.2 (by first | decide | assumption | omega) (by first | decide | assumption | omega),
      c2 88 (.ref 5) (.ref 6) (.ref 7) fun w v0 v1 hb h0 h1 => kRMul h0 h1 sx.2 sy.1 (by first | decide | assumption | omega) (by first | decide | assumption | omega),
      c2 119 (.ref 4) (.ref 7) (.tup2 (.ref 8) (.int .i64 3)) fun w v0 v1 hb h0 h1 => kPDivOf0 h0 h1 sx sy hi hj ny],
     loads := [⟨34, 0, 0, (.ref 2), fun w q h => loadQ_0 w q h⟩,
      ⟨34, 2, 1, (.ref 3), fun w q h => loadQ_2 w q h⟩,
      ⟨34, 2, 0, (.ref 5), fun w q h => loadQ_2 w q h⟩,
      ⟨34, 0, 1, (.ref 6), fun w q h => loadQ_0 w q h⟩,
      ⟨36, 0, 3, (.ref 8), fun w q h => loadQ_all w q h⟩],
     allocs := [⟨36, 2, _, allocQ_run, allocQ_old⟩],
     boxes := [⟨36, (.ref 0), 0, fun w v h => boxQ_run w v h⟩,
      ⟨36, (.ref 1), 1, fun w v h => boxQ_run w v h⟩],
     stores := [⟨36, 0, 2, (.ref 8), 3, storeQ_zero⟩],
     flds := [⟨36, 0, 0, fldQ0⟩,
      ⟨36, 1, 2, fldQ1⟩] }
   Tryz.func105 ⟨hva, hvb, trivial⟩ (by kernel_rfl)
set_option maxRecDepth 100000 in
theorem kPWhole0 {z : Int} (W : World) (hz0 : -9223372036854775808 ≤ z) (hz1 : z ≤ 9223372036854775807) : Calls Tryz.prog 39 #[.int .i64 z] W (GivesP (ratF (z : Rat)) W) := by
  let E : List PF := [(eqF (.int .i64 z)), (intF z), (intF 1), (ratF ((z : Int) : Rat))]
  let EB : List CF := [zeroQF, (boxQ ((z : Int) : Rat))]
  exact auto_calls (E := E) (EB := EB) (fs := [(.ref 0)]) (r := (.ref 3))
   { pures := [p2 (.bld 36 [0, 1]) (.ref 1) (.ref 2) (.ref 3) fun _ _ _ _ _ hx hy => h_buildQ_eq (wholeQ_eq z).1.symm (wholeQ_eq z).2.symm hx hy],
     calls := [c1 86 (.ref 0) (.ref 1) fun w v0 hb h0 => kROf z hz0 hz1 h0,
      c1 86 (.int .i64 1) (.ref 2) fun w v0 hb h0 => kROf 1 (by omega) (by omega) h0],
     loads := [⟨36, 0, 1, (.ref 3), fun w q h => loadQ_all w q h⟩],
     allocs := [⟨36, 0, _, allocQ_run, allocQ_old⟩],
     stores := [⟨36, 0, 0, (.ref 3), 1, storeQ_zero⟩] }
   Tryz.func39 ⟨rfl, trivial⟩ (by kernel_rfl)
set_option maxRecDepth 100000 in
theorem MadeP_any {x y : Int} (W : World) (hx0 : -9223372036854775808 ≤ x) (hx1 : x ≤ 9223372036854775807) (hy0 : -9223372036854775808 ≤ y) (hy1 : y ≤ 9223372036854775807) (ny : y ≠ 0) : Calls Tryz.prog 50 #[.int .i64 x, .int .i64 y] W (GivesP (ratF (Rat.divInt x y)) W) := by
  let E : List PF := [(eqF (.int .i64 x)), (eqF (.int .i64 y)), (intF x), (intF y), (ratF (Rat.divInt x y))]
  let EB : List CF := [zeroQF, (boxQ (Rat.divInt x y))]
  exact auto_calls (E := E) (EB := EB) (fs := [(.ref 0), (.ref 1)]) (r := (.ref 4))
   { pures := [p2 (.bin .eql 2 2) (.ref 1) (.int .i64 0) (.bool false) fun _ _ _ _ _ hx hy => h_eqlI (r := false) (by simpa using ny) hx hy],
     calls := [c1 86 (.ref 0) (.ref 2) fun w v0 hb h0 => kROf x hx0 hx1 h0,
      c1 86 (.ref 1) (.ref 3) fun w v0 hb h0 => kROf y hy0 hy1 h0,
      c2 89 (.ref 2) (.ref 3) (.ref 4) fun w v0 v1 hb h0 h1 => ofP_any _ _ _ h0 h1 (sm_i64 hx0 hx1) (sm_i64 hy0 hy1) (by decide) (by decide) ny],
     loads := [⟨36, 0, 1, (.ref 4), fun w q h => loadQ_all w q h⟩],
     allocs := [⟨36, 0, _, allocQ_run, allocQ_old⟩],
     stores := [⟨36, 0, 0, (.ref 4), 1, storeQ_zero⟩] }
   Tryz.func50 ⟨rfl, rfl, trivial⟩ (by kernel_rfl)
set_option maxRecDepth 100000 in
theorem DivQ_1 {x y : Rat} {i j : Nat} (va : Value) (vb : Value) (W : World) (hva : (ratF x).p va W) (hvb : (ratF y).p vb W) (sx : RSm x i) (sy : RSm y j) (_hi : i ≤ 100000000) (_hj : j ≤ 100000000) (ny : y ≠ 0) : Calls Tryz.prog 99 #[va, vb] W (GivesP (tup2F (ratF (x * y⁻¹)) (eqF (.int .i64 0))) W) := by
  let E : List PF := [(ratF x), (ratF y), (eqF (.int .i64 (cmpR y 0))), (ratF y⁻¹), (ratF (x * y⁻¹))]
  let EB : List CF := [(boxQ x), (boxQ y), zeroQF, (boxQ (x * y⁻¹))]
  exact auto_calls (E := E) (EB := EB) (fs := [(.ref 0), (.ref 1)]) (r := (.tup2 (.ref 4) (.int .i64 0)))
   { pures := [p2 (.bin .eql 3 3) (.ref 2) (.int .i64 0) (.bool false) fun _ _ _ _ _ hx hy => h_eqlI (r := false) (cmp0_ne ny) hx hy],
     calls := [c1 100 (.ref 1) (.ref 2) fun w v0 hb h0 => kQSign h0 sy (by first | decide | assumption | omega),
      c1 121 (.ref 1) (.ref 3) fun w v0 hb h0 => kQInv h0 sy (by first | decide | assumption | omega) ny,
      c2 58 (.ref 0) (.ref 3) (.ref 4) fun w v0 v1 hb h0 h1 => kQMul h0 h1 sx sy.inv (by first | decide | assumption | omega) (by first | decide | assumption | omega)],
     loads := [⟨36, 0, 1, (.ref 1), fun w q h => loadQ_all w q h⟩,
      ⟨36, 0, 0, (.ref 0), fun w q h => loadQ_all w q h⟩,
      ⟨36, 0, 3, (.ref 4), fun w q h => loadQ_all w q h⟩],
     allocs := [⟨36, 2, _, allocQ_run, allocQ_old⟩],
     boxes := [⟨36, (.ref 0), 0, fun w v h => boxQ_run w v h⟩,
      ⟨36, (.ref 1), 1, fun w v h => boxQ_run w v h⟩],
     stores := [⟨36, 0, 2, (.ref 4), 3, storeQ_zero⟩] }
   Tryz.func99 ⟨hva, hvb, trivial⟩ (by kernel_rfl)
set_option maxRecDepth 100000 in
theorem DivQ_2 {x y : Rat} {i j : Nat} (va : Value) (vb : Value) (W : World) (hva : (ratF x).p va W) (hvb : (ratF y).p vb W) (_sx : RSm x i) (sy : RSm y j) (_hi : i ≤ 100000000) (_hj : j ≤ 100000000) (ny : y = 0) : Calls Tryz.prog 99 #[va, vb] W (GivesP (tup2F (pairF 0 0) (eqF (.int .i64 3))) W) := by
  let E : List PF := [(ratF x), (ratF y), (eqF (.int .i64 (cmpR y 0))), (pairF 0 0)]
  let EB : List CF := [(boxQ x), (boxQ y), zeroQF, (boxQF 0 0)]
  exact auto_calls (E := E) (EB := EB) (fs := [(.ref 0), (.ref 1)]) (r := (.tup2 (.ref 3) (.int .i64 3)))
   { pures := [p2 (.bin .eql 3 3) (.ref 2) (.int .i64 0) (.bool true) fun _ _ _ _ _ hx hy => h_eqlI (r := true) (cmp0_eq ny) hx hy,
      p0 (.bld 36 []) (.ref 3) fun _ _ _ => h_buildQ0],
     calls := [c1 100 (.ref 1) (.ref 2) fun w v0 hb h0 => kQSign h0 sy (by first | decide | assumption | omega)],
     loads := [⟨36, 0, 1, (.ref 1), fun w q h => loadQ_all w q h⟩,
      ⟨36, 0, 3, (.ref 3), fun w q h => loadQ_all w q h⟩],
     allocs := [⟨36, 2, _, allocQ_run, allocQ_old⟩],
     boxes := [⟨36, (.ref 0), 0, fun w v h => boxQ_run w v h⟩,
      ⟨36, (.ref 1), 1, fun w v h => boxQ_run w v h⟩],
     stores := [⟨36, 0, 2, (.ref 3), 3, storeQ_zero⟩] }
   Tryz.func99 ⟨hva, hvb, trivial⟩ (by kernel_rfl)
section
variable {w : World} {va vb : Value} {x y : Rat} {i j : Nat}
theorem kPAdd (ha:(ratF x).p va w) (hb:(ratF y).p vb w) (sx:RSm x i) (sy:RSm y j) (hi:i≤140000000) (hj:j≤140000000):Calls Tryz.prog 40 #[va,vb] w (GivesP (ratF (x+y)) w):=kPAdd0 va vb w ha hb sx sy hi hj
theorem kPSub (ha:(ratF x).p va w) (hb:(ratF y).p vb w) (sx:RSm x i) (sy:RSm y j) (hi:i≤140000000) (hj:j≤140000000):Calls Tryz.prog 81 #[va,vb] w (GivesP (ratF (x - y)) w):=kPSub1 ha hb sx sy hi hj
theorem kPMul (ha:(ratF x).p va w) (hb:(ratF y).p vb w) (sx:RSm x i) (sy:RSm y j) (hi:i≤140000000) (hj:j≤140000000):Calls Tryz.prog 42 #[va,vb] w (GivesP (ratF (x*y)) w):=kPMul0 va vb w ha hb sx sy hi hj
theorem kPNeg (ha:(ratF x).p va w) (sx:RSm x i) (hi:i≤300000000):Calls Tryz.prog 41 #[va] w (GivesP (ratF (-x)) w):=kPNeg0 va w ha sx hi
theorem kPSign (ha:(ratF x).p va w) (sx:RSm x i) (hi:i≤300000000):Calls Tryz.prog 48 #[va] w (GivesP (eqF (.int .i64 (cmpR x 0))) w):=by
 rw [← sign_cmp]; exact kPSign0 va w ha sx (by omega)
theorem kPCmp (ha:(ratF x).p va w) (hb:(ratF y).p vb w) (sx:RSm x i) (sy:RSm y j) (hi:i≤140000000) (hj:j≤140000000):Calls Tryz.prog 32 #[va,vb] w (GivesP (eqF (.int .i64 (cmpR x y))) w):=by
 rw [show cmpR x y=Int.sign (x + -y).num from ?_]
 ·exact kPCmp0 va vb w ha hb sx sy hi hj
 ·rw [sign_cmp,← Rat.sub_eq_add_neg]; exact (cmpR_sub x y).symm
theorem kPDiv (ha:(ratF x).p va w) (hb:(ratF y).p vb w) (sx:RSm x i) (sy:RSm y j) (hi:i≤140000000) (hj:j≤140000000) (ny:y≠0):Calls Tryz.prog 105 #[va,vb] w (GivesP (tup2F (ratF (x / y)) (eqF (.int .i64 0))) w):=kPDiv1 va vb w ha hb sx sy hi hj ny
theorem kPDiv0 (ha:(ratF x).p va w) (hb:(ratF y).p vb w) (sx:RSm x i) (sy:RSm y j) (hi:i≤140000000) (hj:j≤140000000) (ny:y=0):Calls Tryz.prog 105 #[va,vb] w (GivesP (tup2F (pairF 0 0) (eqF (.int .i64 3))) w):=kPDiv2 va vb w ha hb sx sy hi hj ny
theorem kQDiv (ha:(ratF x).p va w) (hb:(ratF y).p vb w) (sx:RSm x i) (sy:RSm y j) (hi:i≤100000000) (hj:j≤100000000) (ny:y≠0):Calls Tryz.prog 99 #[va,vb] w (GivesP (tup2F (ratF (x / y)) (eqF (.int .i64 0))) w):=by
 rw [Rat.div_def]; exact DivQ_1 va vb w ha hb sx sy hi hj ny
theorem kQDiv0 (ha:(ratF x).p va w) (hb:(ratF y).p vb w) (sx:RSm x i) (sy:RSm y j) (hi:i≤100000000) (hj:j≤100000000) (ny:y=0):Calls Tryz.prog 99 #[va,vb] w (GivesP (tup2F (pairF 0 0) (eqF (.int .i64 3))) w):=DivQ_2 va vb w ha hb sx sy hi hj ny
theorem kPWhole (z:Int) (h0 : -9223372036854775808≤z) (h1:z≤9223372036854775807) (hv:(eqF (.int .i64 z)).p va w):Calls Tryz.prog 39 #[va] w (GivesP (ratF (z:Rat)) w):=by
 have hv:va = .int .i64 z:=hv
 rw [hv]
 exact kPWhole0 w h0 h1
end
end Go.Proofs.YtgaehhapjnbieaaGreat
namespace Go.Proofs.YtgaehhapjnbieaaGreat
open Go.RowKit
end Go.Proofs.YtgaehhapjnbieaaGreat
namespace Go.Proofs.YtgaehhapjnbieaaGreat
open Go.RowKit
def QRel (W:World) (wr:World) (z:Rat):Prop:=(boxQ z).p W.heap.size wr∧Below W.heap.size W wr∧Grow W wr
theorem QRel.cells {W wr:World} {z:Rat} (h:QRel W wr z):∃ b A k c b' A' k' c',wr.cell? ⟨W.heap.size,0,none⟩=some (.bool b)∧wr.cell? ⟨W.heap.size,1,none⟩=some (.slice A k c)∧wr.cell? ⟨W.heap.size,2,none⟩=some (.bool b')∧wr.cell? ⟨W.heap.size,3,none⟩=some (.slice A' k' c')∧Hid (PairAt wr (.agg #[.bool b,.slice A k c,.bool b',.slice A' k' c']) z.num (z.den:Int)):=by
 obtain ⟨⟨b,A,k,c,b',A',k',c',hh,h1,h2⟩,_,_⟩:=h
 obtain ⟨e0,e1,e2,e3⟩:=q_cells hh
 exact ⟨b,A,k,c,b',A',k',c',e0,e1,e2,e3,⟨_,_,_,_,_,_,_,_,rfl,h1,h2⟩⟩
end Go.Proofs.YtgaehhapjnbieaaGreat
namespace Go.Proofs.YtgaehhapjnbieaaGreat
open Go.RowKit
set_option maxRecDepth 100000 in
theorem MadeP_zero {x : Int} (W : World) (hx0 : -9223372036854775808 ≤ x) (hx1 : x ≤ 9223372036854775807) : Calls Tryz.prog 50 #[.int .i64 x, .int .i64 0] W (GivesP (ratF (Rat.divInt x 1)) W) := by
  let E : List PF := [(eqF (.int .i64 x)), (eqF (.int .i64 0)), (intF x), (intF 1), (ratF (Rat.divInt x 1))]
  let EB : List CF := [zeroQF, (boxQ (Rat.divInt x 1))]
  exact auto_calls (E := E) (EB := EB) (fs := [(.ref 0), (.ref 1)]) (r := (.ref 4))
   { pures := [p2 (.bin .eql 2 2) (.ref 1) (.int .i64 0) (.bool true) fun _ _ _ _ _ hx hy => h_eqlI (r := true) (by simp) hx hy],
     calls := [c1 86 (.ref 0) (.ref 2) fun w v0 hb h0 => kROf x hx0 hx1 h0,
      c1 86 (.int .i64 1) (.ref 3) fun w v0 hb h0 => kROf 1 (by omega) (by omega) h0,
      c2 89 (.ref 2) (.ref 3) (.ref 4) fun w v0 v1 hb h0 h1 => ofP_any _ _ _ h0 h1 (sm_i64 hx0 hx1) (Sm.of 1 (by decide)) (by decide) (by decide) (by decide)],
     loads := [⟨36, 0, 1, (.ref 4), fun w q h => loadQ_all w q h⟩],
     allocs := [⟨36, 0, _, allocQ_run, allocQ_old⟩],
     stores := [⟨36, 0, 0, (.ref 4), 1, storeQ_zero⟩] }
   Tryz.func50 ⟨rfl, rfl, trivial⟩ (by kernel_rfl)
end Go.Proofs.YtgaehhapjnbieaaGreat
