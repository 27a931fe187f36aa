/- Walks: bytes.Repeat of one zero digit. -/
import Derived.Test.YtdofolejfdfocaaGreatDoorqFmt
import Derived.Test.YtdofolejfdfocaaGreatDoorqR3
import Derived.Lib.MakeNoZero
import Derived.Lib.BufferWrite
import Derived.Laws.CopyOwn
namespace Go.Proofs.YtdofolejfdfocaaGreatDoor
open Go.RowKit Go.Lib

/-- The first n bytes of block g are the digit 0; it is a block of bytes. -/
def ZeroBuf (w : World) (g N n : Nat) : Prop := ∃ cs : List Value, w.heap[g]? = some (.cells cs.toArray 5 (0, 0)) ∧ N ≤ cs.length ∧ cs.take n = List.replicate n (Value.int .u8 48)

theorem infoU8 : (Tryz.prog.info? 5).map (·.size) = some 1 := by kernel_rfl
theorem zero_splice {cs : List Value} {N n m : Nat} (h : cs.take n = List.replicate n (Value.int .u8 48)) (hN : N ≤ cs.length) (hm : n + m ≤ N) :
    (cs.take n ++ List.replicate m (Value.int .u8 48) ++ cs.drop (n + m)).take (n + m) = List.replicate (n + m) (Value.int .u8 48) ∧ N ≤ (cs.take n ++ List.replicate m (Value.int .u8 48) ++ cs.drop (n + m)).length := by
  constructor
  · rw [h, List.take_append_of_le_length (by simp)]
    rw [List.replicate_append_replicate, List.take_of_length_le (by simp)]
  · simp; omega

theorem run_copy_zero (w0 w : World) (g N n m : Nat) (ad : Addr) (c1 c2 c3 : Nat) (hz : ZeroBuf w g N n) (hsrc : ∀ j, j < m → w.cell? (ad.add j) = some (Value.int .u8 48)) (hb : Below w0.heap.size w0 w) (hg : w0.heap.size ≤ g) (h1 : n ≤ N) (k : Nat) (hk : k = min m (N - n)) :
    ∃ w', (Builtin.copy_ #[44, 44] c1 #[.slice (some ⟨g, n, none⟩) (N - n) c2, .slice (some ad) m c3]).run Tryz.prog w = .ok (.int .i64 (k : Int)) w' ∧ ZeroBuf w' g N (n + k) ∧ Below w0.heap.size w0 w' := by
  obtain ⟨cs, hh, hN, ht⟩ := hz
  have hr := run_copy_row (P := Tryz.prog) w 44 44 c1 5 g n (N - n) c2 ad m c3 cs.toArray 5 (List.replicate k (Value.int .u8 48)) Tryz.underlying44 infoU8 hh
    (by rw [List.length_replicate, hk]) (fun j v hj => by
      rw [List.getElem?_replicate] at hj
      split at hj
      · injection hj with hj
        rw [← hj]; exact hsrc j (by omega)
      · cases hj) (by simp; omega) (fun v hv => by rw [List.eq_of_mem_replicate hv]; rfl)
  rw [List.length_replicate] at hr
  refine ⟨_, hr, ⟨_, setRow_heap w g _ _ _ _ hh, ?_, ?_⟩, below_setRow hb hg _⟩
  · have := (zero_splice (m := k) ht hN (by omega)).2
    simpa using this
  · have := (zero_splice (m := k) ht hN (by omega)).1
    simpa using this
theorem mul1 (N : Nat) (w : World) (h : N ≤ 43980465111050) : Calls Tryz.prog 107 #[.int .u64 1, .int .u64 N] w fun e w' => e = .returned (.tuple #[.int .u64 0, .int .u64 (N : Int)]) ∧ w = w' := by
  have := Tryz.bits_Mul 1 N (by omega) (by omega) w
  refine this.mono ?_
  rintro e w' ⟨rfl, rfl⟩
  refine ⟨?_, rfl⟩
  rw [show 1 * N / 18446744073709551616 = 0 from by omega, show 1 * N % 18446744073709551616 = N from by omega]
  rfl
set_option maxRecDepth 100000 in
set_option maxHeartbeats 1600000 in
theorem Repeat_any (g0 N : Nat) (w : World) (hc : w.cell? ⟨g0, 0, none⟩ = some (.int .u8 48)) (hN : 1 ≤ N) (hN2 : N ≤ 43980465111050) :
    Calls Tryz.prog 87 #[.slice (some ⟨g0, 0, none⟩) 1 1, .int .i64 N] w fun e w' => e = .returned (.slice (some ⟨w.heap.size, 0, none⟩) N N) ∧ ZeroBuf w' w.heap.size N N ∧ Below w.heap.size w w' := by
  have hN0 : ((N : Int) == 0) = false := by simp; omega
  have hd1 : decide ((N : Int) < 0) = false := by simp
  have hd2 : decide ((9223372036854775807 : Int) < (N : Int)) = false := by simp; omega
  go_enter Tryz.func87, Tryz.ntmps87
  go_wp2_with fail
  refine (mul1 N _ hN2).mono ?_
  rintro e w' ⟨rfl, rfl⟩
  obtain ⟨cs, hrun, hcs, _⟩ := run_makeNoZero (P := Tryz.prog) w #[3] 44 5 Tryz.underlying44 N (by omega)
  have hcall : (callFunc 108 #[.int .i64 (N : Int)]).run Tryz.prog w = .ok (.value (.slice (some ⟨w.heap.size, 0, none⟩) N cs.size)) ((w.alloc (.cells cs 5)).drewN 2) := by
    rw [run_callFunc_extern Tryz.func108 (by kernel_rfl) (by kernel_rfl) (by kernel_rfl) (e := Extern.BytealgMakeNoZero.makeNoZero #[3] #[44]) (by kernel_rfl), hrun]
    rfl
  clear hrun
  have i0 : (0 : Int) ≤ (N : Int) := by omega
  have i1 : (N : Int) ≤ (cs.size : Int) := by omega
  have hlt0 : g0 < w.heap.size := World.block_lt_of_cell? w ⟨g0, 0, none⟩ hc
  have hZ0 : ZeroBuf ((w.alloc (.cells cs 5)).drewN 2) w.heap.size N 0 := ⟨cs.toList, by rw [Array.toArray_toList]; exact heap1 w _, by simpa using hcs, by simp⟩
  obtain ⟨w1, hcp1, hZ1, hB1⟩ := run_copy_zero w ((w.alloc (.cells cs 5)).drewN 2) w.heap.size N 0 1 ⟨g0, 0, none⟩ 3 N 1 hZ0 (fun j hj => by
    have : j = 0 := by omega
    subst this
    rw [Lib.add_plain, World.cell?_drewN]
    exact (Below.cell (below_alloc w _) (p := ⟨g0, 0, none⟩) hlt0).trans hc) ((below_alloc w _).trans (below_drewN _ _ |>.mono (by simp))) (Nat.le_refl _) (by omega) 1 (by omega)
  rw [Nat.sub_zero] at hcp1
  have HZ1 := Lib.hid hZ1
  have HB1 := Lib.hid hB1
  clear hZ0 hZ1 hB1
  by_cases hbig : 8192 < N
  · have hd3 : decide ((8192 : Int) < (N : Int)) = true := by simp; omega
    go_wp2_with fail
    go_loopw [10] (fun bp wr => ∃ n : Nat, 1 ≤ n ∧ n ≤ N ∧ bp = .int .i64 n ∧ ZeroBuf wr w.heap.size N n ∧ Below w.heap.size w wr) (fun bp _ => N - (RowKit.intOf bp).toNat)
    case atStart => exact ⟨1, by omega, hN, rfl, HZ1.out, HB1.out⟩
    case round =>
      obtain ⟨n, hn1, hnN, rfl, hZ, hB⟩ := hrel
      have HZ := Lib.hid hZ
      have HB := Lib.hid hB
      clear hZ hB hcp1 hcall
      by_cases hlt : n < N
      · have j0 : (0 : Int) ≤ (n : Int) := by omega
        have j1 : (n : Int) ≤ (N : Int) := by omega
        obtain ⟨M, hM⟩ : ∃ M, M = min n 8192 := ⟨_, rfl⟩
        have hMI : min (n : Int) 8192 = (M : Int) := by omega
        have hM1 : 1 ≤ M := by omega
        have hM2 : M ≤ n := by omega
        have j2 : (0 : Int) ≤ (M : Int) := by omega
        have j3 : (M : Int) ≤ (N : Int) := by omega
        clear hM
        obtain ⟨w2, hcp2, hZ2, hB2⟩ := run_copy_zero w wr.drew w.heap.size N n M ⟨w.heap.size, 0, none⟩ 3 (N - n) N HZ.out (fun j hj => by
          obtain ⟨cs, hh, hN', ht⟩ := HZ.out
          rw [Lib.add_plain]
          have hj' : j < n := by omega
          have e : cs[j]? = some (Value.int .u8 48) := by
            have := congrArg (·[j]?) ht
            simpa [List.getElem?_take, List.getElem?_replicate, hj'] using this
          have := cell_of_row wr w.heap.size (0 + j) _ _ (0, 0) hh
          rw [Nat.zero_add] at this ⊢
          have h2 : wr.drew.cell? ⟨w.heap.size, j, none⟩ = wr.cell? ⟨w.heap.size, j, none⟩ := rfl
          rw [h2, this]
          simpa using e) (Below.drew HB.out) (Nat.le_refl _) hnN (min M (N - n)) rfl
        have HZ2 := Lib.hid hZ2
        have HB2 := Lib.hid hB2
        obtain ⟨K, hK⟩ : ∃ K, K = min M (N - n) := ⟨_, rfl⟩
        have hK1 : 1 ≤ K := by omega
        have hK2 : n + K ≤ N := by omega
        rw [← hK] at hcp2
        have HK := Lib.hid hK
        clear hZ2 hB2 hK
        have hwK : IntKind.i64.wrap ((n : Int) + (K : Int)) = (n : Int) + (K : Int) := by rw [IntKind.wrap_i64]; omega
        go_wp2_with fail
        go_region_held3 (fun _ => True) (trivial) (fail)
        go_wp2_with fail
        go_roundw
        case rel => exact ⟨n + K, by omega, hK2, by go_num, by rw [HK.out]; exact HZ2.out, HB2.out⟩
        case measure => simp [RowKit.intOf]; omega
      · have hn : n = N := by omega
        subst hn
        go_wp2
        go_ret
        exact ⟨rfl, HZ.out, HB.out⟩
  · have hd3 : decide ((8192 : Int) < (N : Int)) = false := by simp; omega
    go_wp2_with fail
    go_loopw [10] (fun bp wr => ∃ n : Nat, 1 ≤ n ∧ n ≤ N ∧ bp = .int .i64 n ∧ ZeroBuf wr w.heap.size N n ∧ Below w.heap.size w wr) (fun bp _ => N - (RowKit.intOf bp).toNat)
    case atStart => exact ⟨1, by omega, hN, rfl, HZ1.out, HB1.out⟩
    case round =>
      obtain ⟨n, hn1, hnN, rfl, hZ, hB⟩ := hrel
      have HZ := Lib.hid hZ
      have HB := Lib.hid hB
      clear hZ hB hcp1 hcall
      by_cases hlt : n < N
      · have j0 : (0 : Int) ≤ (n : Int) := by omega
        have j1 : (n : Int) ≤ (N : Int) := by omega
        have hMI : min (n : Int) (N : Int) = (n : Int) := by omega
        obtain ⟨w2, hcp2, hZ2, hB2⟩ := run_copy_zero w wr.drew w.heap.size N n n ⟨w.heap.size, 0, none⟩ 3 (N - n) N HZ.out (fun j hj => by
          obtain ⟨cs, hh, hN', ht⟩ := HZ.out
          rw [Lib.add_plain]
          have hj' : j < n := by omega
          have e : cs[j]? = some (Value.int .u8 48) := by
            have := congrArg (·[j]?) ht
            simpa [List.getElem?_take, List.getElem?_replicate, hj'] using this
          have := cell_of_row wr w.heap.size (0 + j) _ _ (0, 0) hh
          rw [Nat.zero_add] at this ⊢
          have h2 : wr.drew.cell? ⟨w.heap.size, j, none⟩ = wr.cell? ⟨w.heap.size, j, none⟩ := rfl
          rw [h2, this]
          simpa using e) (Below.drew HB.out) (Nat.le_refl _) hnN (min n (N - n)) rfl
        have HZ2 := Lib.hid hZ2
        have HB2 := Lib.hid hB2
        obtain ⟨K, hK⟩ : ∃ K, K = min n (N - n) := ⟨_, rfl⟩
        have hK1 : 1 ≤ K := by omega
        have hK2 : n + K ≤ N := by omega
        rw [← hK] at hcp2
        have HK := Lib.hid hK
        clear hZ2 hB2 hK
        have hwK : IntKind.i64.wrap ((n : Int) + (K : Int)) = (n : Int) + (K : Int) := by rw [IntKind.wrap_i64]; omega
        go_wp2_with fail
        go_region_held3 (fun _ => True) (trivial) (fail)
        go_wp2_with fail
        go_roundw
        case rel => exact ⟨n + K, by omega, hK2, by go_num, by rw [HK.out]; exact HZ2.out, HB2.out⟩
        case measure => simp [RowKit.intOf]; omega
      · have hn : n = N := by omega
        subst hn
        go_wp2
        go_ret
        exact ⟨rfl, HZ.out, HB.out⟩
end Go.Proofs.YtdofolejfdfocaaGreatDoor
