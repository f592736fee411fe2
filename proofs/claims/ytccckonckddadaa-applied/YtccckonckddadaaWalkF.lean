import Derived.Test.YtccckonckddadaaWalkE
import Derived.Test.YtccckonckddadaaPlainC
namespace Go.Proofs.Ytccckonckddadaa
open Go.RowKit
set_option linter.unusedVariables false

theorem key8 {k : Int} (h0 : 0 ≤ k) (h8 : k < 8) : k = 0 ∨ k = 1 ∨ k = 2 ∨ k = 3 ∨ k = 4 ∨ k = 5 ∨ k = 6 ∨ k = 7 := by omega

set_option maxHeartbeats 1000000 in
theorem declares_any (b0 b1 b2 b3 b4 b5 b6 b7 : Bool) (sl : Value) (k : Int) (w : World) (h1 : sl.cells = #[sl]) :
    Calls Try.prog 97 #[.agg #[.bool b0, .bool b1, .bool b2, .bool b3, .bool b4, .bool b5, .bool b6, .bool b7, sl], .int .i64 k] w fun e w' =>
      e = .returned (.bool (Dk.decl [b0, b1, b2, b3, b4, b5, b6, b7] k)) ∧ w' = w.alloc (.cells #[.bool b0, .bool b1, .bool b2, .bool b3, .bool b4, .bool b5, .bool b6, .bool b7, sl] 94) := by
  by_cases hk : 0 ≤ k ∧ k < 8
  · obtain ⟨h0, h8⟩ := hk
    obtain rfl | rfl | rfl | rfl | rfl | rfl | rfl | rfl := key8 h0 h8
    all_goals
      go_enter Try.func97, Try.ntmps97
      go_wp2_with fail
      refine (isKey_any _ _).mono ?_
      rintro e w' ⟨rfl, rfl⟩
      go_wp2
      go_ret
      exact ⟨by simp [Dk.decl], rfl⟩
  · have hd : decide (0 ≤ k ∧ k < 8) = false := decide_eq_false hk
    have HD : Hid (decide (0 ≤ k ∧ k < 8) = false) := hd
    go_enter Try.func97, Try.ntmps97
    go_wp2_with fail
    refine (isKey_any _ _).mono ?_
    rintro e w' ⟨rfl, rfl⟩
    rewrite [hd]
    clear hd hk
    go_wp2
    go_ret
    exact ⟨by unfold Dk.decl; rw [HD.out]; rfl, rfl⟩

set_option maxHeartbeats 1000000 in
theorem value_any (b : Bool) (k n x0 x1 x2 x3 x4 x5 x6 x7 : Int) (w : World) (h0 : 0 ≤ k) (h8 : k < 8) :
    Calls Try.prog 98 #[.agg #[.bool b, .int .i64 k, .int .i16 n], .agg #[.int .i16 x0, .int .i16 x1, .int .i16 x2, .int .i16 x3, .int .i16 x4, .int .i16 x5, .int .i16 x6, .int .i16 x7]] w fun e w' =>
      e = .returned (.int .i16 (if b then [x0, x1, x2, x3, x4, x5, x6, x7].getD k.toNat 0 else n)) ∧ w' = (w.alloc (.cells #[.bool b, .int .i64 k, .int .i16 n] 137)).alloc (.cells #[.int .i16 x0, .int .i16 x1, .int .i16 x2, .int .i16 x3, .int .i16 x4, .int .i16 x5, .int .i16 x6, .int .i16 x7] 24) := by
  cases b
  · go_enter Try.func98, Try.ntmps98
    go_wp2
    go_ret
    exact ⟨rfl, rfl⟩
  · obtain rfl | rfl | rfl | rfl | rfl | rfl | rfl | rfl := key8 h0 h8
    all_goals
      go_enter Try.func98, Try.ntmps98
      go_wp2_with fail
      refine (isKey_any _ _).mono ?_
      rintro e w' ⟨rfl, rfl⟩
      go_wp2
      go_ret
      exact ⟨rfl, rfl⟩

end Go.Proofs.Ytccckonckddadaa
