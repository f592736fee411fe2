import Derived.Test.YtccckonckddadaaWalkL
import Derived.Test.YtccckonckddadaaWalkEq
namespace Go.Proofs.Ytccckonckddadaa
open Go.RowKit
set_option linter.unusedVariables false

theorem tmod_bd (x : Int) (n : Nat) (h : 0 < n) : -(n : Int) < x.tmod n ∧ x.tmod n < n := by
  have h1 := Int.natAbs_tmod x n
  have h2 : x.natAbs % n < n := Nat.mod_lt _ h
  rw [Int.natAbs_natCast] at h1
  omega

theorem near_any (x : Int) (w : World) : Calls Try.prog 14 #[.int .i64 x] w fun e w' => e = .returned (.int .i16 (x.tmod 32768)) ∧ w' = w := by
  have hb : -(32768 : Int) < x.tmod 32768 ∧ x.tmod 32768 < 32768 := tmod_bd x 32768 (by omega)
  go_enter Try.func14, Try.ntmps14
  go_wp2
  go_ret
  exact ⟨rfl, rfl⟩

set_option maxHeartbeats 1000000 in
theorem one_yes (s : ByteArray) (x0 x1 x2 x3 x4 x5 x6 x7 y : Int) (w : World) (hs : s.size ≤ maxLen) (hy0 : -32768 ≤ y) (hy1 : y ≤ 32767)
    (h : Dk.applyV s.data.toList [x0, x1, x2, x3, x4, x5, x6, x7] = ([y, x1, x2, x3, x4, x5, x6, x7], true, 0)) :
    Calls Try.prog 15 #[.string s, .agg #[.int .i16 x0, .int .i16 x1, .int .i16 x2, .int .i16 x3, .int .i16 x4, .int .i16 x5, .int .i16 x6, .int .i16 x7]] w fun e w' => e = .returned (.tuple #[.int .i64 y, .bool true]) ∧ Below w.heap.size w w' := by
  have H : Hid _ := h
  clear h
  go_enter Try.func15, Try.ntmps15
  go_wp2_with fail
  refine (apply_any s x0 x1 x2 x3 x4 x5 x6 x7 _ hs).mono ?_
  rintro e w1 ⟨z0, z1, z2, z3, z4, z5, z6, z7, d, er, rfl, hz, hb⟩
  rw [H.out] at hz
  simp only [Prod.mk.injEq, List.cons.injEq, and_true] at hz
  obtain ⟨⟨rfl, rfl, rfl, rfl, rfl, rfl, rfl, rfl⟩, rfl, rfl⟩ := hz
  obtain ⟨g0, hb1⟩ := below_one hb
  obtain ⟨c0, f0, z0⟩ := heap_cells g0
  have HB : Hid (Below w.heap.size w w1) := hb1
  clear hb hb1 g0
  have hq := equal_same x0 z1 z2 z3 z4 z5 z6 z7
  have hg := guard_cells
  go_wp2
  go_quiet (fail)
  go_wp2
  go_ret2
  exact ⟨rfl, below_drewN (HB.out.alloc (Nat.le_of_lt z0) _) nq⟩

theorem sum_text (x0 x1 x2 x3 x4 x5 x6 x7 : Int) : Dk.applyV [97, 98, 124, 97, 43, 98] [x0, x1, x2, x3, x4, x5, x6, x7] = ([Dk.wrap16 (x0 + x1), x1, x2, x3, x4, x5, x6, x7], true, 0) := rfl
theorem dif_text (x0 x1 x2 x3 x4 x5 x6 x7 : Int) : Dk.applyV [97, 98, 124, 97, 45, 98] [x0, x1, x2, x3, x4, x5, x6, x7] = ([Dk.wrap16 (x0 - x1), x1, x2, x3, x4, x5, x6, x7], true, 0) := rfl
theorem mul_text (x0 x1 x2 x3 x4 x5 x6 x7 : Int) : Dk.applyV [97, 98, 124, 97, 42, 98] [x0, x1, x2, x3, x4, x5, x6, x7] = ([Dk.wrap16 (x0 * x1), x1, x2, x3, x4, x5, x6, x7], true, 0) := rfl

end Go.Proofs.Ytccckonckddadaa
