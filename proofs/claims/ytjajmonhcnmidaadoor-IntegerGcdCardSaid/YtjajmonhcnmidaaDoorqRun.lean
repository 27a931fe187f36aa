/- What single operations yield, over a frame of which single slots are known. -/
import Derived.Test.YtjajmonhcnmidaaDoorqReg
namespace Go.Proofs.YtjajmonhcnmidaaDoor
open Go.RowKit

section
variable {a : Act} {w : World} {o : Oper}
theorem run_move' {t : Nat} {v : Value} (h : a.tmps[t]? = some v) (ho : o.op = .move (.tmp t)) : (execOp a.eval o).run Tryd.prog w = .ok (.value v) w := by
  unfold execOp; rw [ho]; simp [go_sem, h]
theorem run_assign' {t : Nat} {v : Value} (h : a.tmps[t]? = some v) (ho : o.op = .assign (.tmp t)) : (execOp a.eval o).run Tryd.prog w = .ok (.value v) w := by
  unfold execOp; rw [ho]; simp [go_sem, h]
theorem run_pick' {g c : Nat} {x : Bool} (hg : a.tmps[g]? = some (.bool true)) (hc : a.tmps[c]? = some (.bool x)) (ho : o.op = .pick (.tmp g) (.tmp c) (.const (.bool false))) : (execOp a.eval o).run Tryd.prog w = .ok (.value (.bool x)) w := by
  unfold execOp; rw [ho]; simp [go_sem, hg, hc]
theorem run_not' {c ty : Nat} {x : Bool} (hc : a.tmps[c]? = some (.bool x)) (ho : o.op = .unOp .not ty (.tmp c)) : (execOp a.eval o).run Tryd.prog w = .ok (.value (.bool !x)) w := by
  unfold execOp; rw [ho]; simp [go_sem, hc]
theorem run_eqI' {c ty y2 : Nat} {k : IntKind} {x y : Int} (hc : a.tmps[c]? = some (.int k x)) (ho : o.op = .binOp .eql ty (.tmp c) (.const (.int k y)) y2) : (execOp a.eval o).run Tryd.prog w = .ok (.value (.bool (x == y))) w := by
  unfold execOp; rw [ho]; simp [go_sem, hc]
theorem run_eqS' {c ty y2 : Nat} {x y : ByteArray} (hc : a.tmps[c]? = some (.string x)) (ho : o.op = .binOp .eql ty (.tmp c) (.const (.string y)) y2) : (execOp a.eval o).run Tryd.prog w = .ok (.value (.bool (x.toList == y.toList))) w := by
  unfold execOp; rw [ho]; simp [go_sem, hc]
theorem run_call1 {x : Operand} (ho : o.op = .call { callee := .value (.func 30), args := #[x], argTypes := #[2] }) : (execOp a.eval o).run Tryd.prog w = .ok (.enter 30 #[a.eval x]) w := by
  unfold execOp; rw [ho]; simp [go_sem]
theorem run_slice5 (ho : o.op = .buildSlice 22 1 #[(0, .const (.int .u32 5))]) : (execOp a.eval o).run Tryd.prog w = .ok (.value (.slice (some ⟨w.heap.size, 0, none⟩) 1 1)) (w.alloc (.cells #[.int .u32 5] 38)) := by
  unfold execOp; rw [ho]; simp [go_sem]
theorem run_build5 {t : Nat} {A : Option Addr} {k c : Nat} (h : a.tmps[t]? = some (.slice A k c)) (ho : o.op = .build 27 #[(0, .const (.bool true)), (1, .tmp t)]) : (execOp a.eval o).run Tryd.prog w = .ok (.value (.agg #[.bool true, .slice A k c])) w := by
  unfold execOp; rw [ho]; simp [go_sem, h]
theorem run_buildF {t : Nat} {A : Option Addr} {k c : Nat} (h : a.tmps[t]? = some (.slice A k c)) (ho : o.op = .build 27 #[(1, .tmp t)]) : (execOp a.eval o).run Tryd.prog w = .ok (.value (.agg #[.bool false, .slice A k c])) w := by
  unfold execOp; rw [ho]; simp [go_sem, h]
theorem run_buildT (ho : o.op = .build 27 #[(0, .const (.bool true))]) : (execOp a.eval o).run Tryd.prog w = .ok (.value (.agg #[.bool true, .slice none 0 0])) w := by
  unfold execOp; rw [ho]; simp [go_sem]
theorem run_slice0 (ho : o.op = .buildSlice 22 1 #[(0, .const (.int .u32 0))]) : (execOp a.eval o).run Tryd.prog w = .ok (.value (.slice (some ⟨w.heap.size, 0, none⟩) 1 1)) (w.alloc (.cells #[.int .u32 0] 38)) := by
  unfold execOp; rw [ho]; simp [go_sem]
theorem run_slice01 (ho : o.op = .buildSlice 22 2 #[(0, .const (.int .u32 0)), (1, .const (.int .u32 1))]) : (execOp a.eval o).run Tryd.prog w = .ok (.value (.slice (some ⟨w.heap.size, 0, none⟩) 2 2)) (w.alloc (.cells #[.int .u32 0, .int .u32 1] 38)) := by
  unfold execOp; rw [ho]; simp [go_sem]
theorem run_loadI {t g : Nat} {b : Bool} {A : Option Addr} {k c : Nat} (h : a.tmps[t]? = some (.pointer (some ⟨g, 0, none⟩))) (h0 : w.cell? ⟨g, 0, none⟩ = some (.bool b)) (h1 : w.cell? ⟨g, 1, none⟩ = some (.slice A k c)) (ho : o.op = .load 27 (.tmp t)) : (execOp a.eval o).run Tryd.prog w = .ok (.value (.agg #[.bool b, .slice A k c])) w := by
  unfold execOp; rw [ho]; simp [go_sem, h, h0, h1]
theorem run_callROf {x : Operand} (ho : o.op = .call { callee := .value (.func 42), args := #[x], argTypes := #[2] }) : (execOp a.eval o).run Tryd.prog w = .ok (.enter 42 #[a.eval x]) w := by
  unfold execOp; rw [ho]; simp [go_sem]
theorem run_callSame {x y : Nat} {vx vy : Value} (hx : a.tmps[x]? = some vx) (hy : a.tmps[y]? = some vy) (ho : o.op = .call { callee := .value (.func 21), args := #[.tmp x, .tmp y], argTypes := #[27, 27] }) : (execOp a.eval o).run Tryd.prog w = .ok (.enter 21 #[vx, vy]) w := by
  unfold execOp; rw [ho]; simp [go_sem, hx, hy]
theorem run_callGcd {x y : Nat} {vx vy : Value} (hx : a.tmps[x]? = some vx) (hy : a.tmps[y]? = some vy) (ho : o.op = .call { callee := .value (.func 33), args := #[.tmp x, .tmp y], argTypes := #[27, 27] }) : (execOp a.eval o).run Tryd.prog w = .ok (.enter 33 #[vx, vy]) w := by
  unfold execOp; rw [ho]; simp [go_sem, hx, hy]
theorem run_callSign {x : Nat} {vx : Value} (hx : a.tmps[x]? = some vx) (ho : o.op = .call { callee := .value (.func 28), args := #[.tmp x], argTypes := #[27] }) : (execOp a.eval o).run Tryd.prog w = .ok (.enter 28 #[vx]) w := by
  unfold execOp; rw [ho]; simp [go_sem, hx]
theorem run_callText {x : Nat} {vx : Value} (hx : a.tmps[x]? = some vx) (ho : o.op = .call { callee := .value (.func 38), args := #[.tmp x], argTypes := #[27] }) : (execOp a.eval o).run Tryd.prog w = .ok (.enter 38 #[vx]) w := by
  unfold execOp; rw [ho]; simp [go_sem, hx]
theorem run_callValid {x : Nat} {vx : Value} (hx : a.tmps[x]? = some vx) (ho : o.op = .call { callee := .value (.func 19), args := #[.tmp x], argTypes := #[27] }) : (execOp a.eval o).run Tryd.prog w = .ok (.enter 19 #[vx]) w := by
  unfold execOp; rw [ho]; simp [go_sem, hx]
end
end Go.Proofs.YtjajmonhcnmidaaDoor
