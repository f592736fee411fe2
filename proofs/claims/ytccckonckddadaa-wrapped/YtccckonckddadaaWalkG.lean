import Derived.Test.YtccckonckddadaaWalkF
namespace Go.Proofs.Ytccckonckddadaa
open Go.RowKit
set_option linter.unusedVariables false

theorem wrap16_eq (n : Int) : IntKind.i16.wrap n = Dk.wrap16 n := by
  have e1 : (2 : Int) ^ IntKind.i16.bits = 65536 := rfl
  have e2 : (2 : Int) ^ (IntKind.i16.bits - 1) = 32768 := rfl
  have e3 : IntKind.i16.signed = true := rfl
  simp only [IntKind.wrap, Dk.wrap16, e1, e2, e3, Bool.true_and, ge_iff_le, decide_eq_true_eq]
  split <;> omega

def StepPost (ks : List Bool) (o : Dk.Op) (cs : List Int) (w : World) (e : Ending) (w' : World) : Prop :=
  ∃ y0 y1 y2 y3 y4 y5 y6 y7 : Int, e = .returned (.tuple #[.agg #[.int .i16 y0, .int .i16 y1, .int .i16 y2, .int .i16 y3, .int .i16 y4, .int .i16 y5, .int .i16 y6, .int .i16 y7], .bool (Dk.stepV ks o cs).2]) ∧
    (Dk.stepV ks o cs).1 = [y0, y1, y2, y3, y4, y5, y6, y7] ∧ Below w.heap.size w w'

set_option maxHeartbeats 1000000 in
theorem step_undeclared (b0 b1 b2 b3 b4 b5 b6 b7 : Bool) (a : Option Addr) (n c : Nat) (k sg : Int) (ab : Bool) (ak nm : Int) (x0 x1 x2 x3 x4 x5 x6 x7 : Int) (w : World)
    (h : Dk.decl [b0, b1, b2, b3, b4, b5, b6, b7] k = false) :
    Calls Try.prog 67 #[.agg #[.bool b0, .bool b1, .bool b2, .bool b3, .bool b4, .bool b5, .bool b6, .bool b7, .slice a n c], .agg #[.int .i64 k, .int .u8 sg, .bool ab, .int .i64 ak, .int .i16 nm],
      .agg #[.int .i16 x0, .int .i16 x1, .int .i16 x2, .int .i16 x3, .int .i16 x4, .int .i16 x5, .int .i16 x6, .int .i16 x7]] w (StepPost [b0, b1, b2, b3, b4, b5, b6, b7] ⟨k, sg, ab, ak, nm⟩ [x0, x1, x2, x3, x4, x5, x6, x7] w) := by
  have HS : Hid (Dk.stepV [b0, b1, b2, b3, b4, b5, b6, b7] ⟨k, sg, ab, ak, nm⟩ [x0, x1, x2, x3, x4, x5, x6, x7] = ([x0, x1, x2, x3, x4, x5, x6, x7], false)) := Dk.stepV_key h
  have HD : Hid (Dk.decl [b0, b1, b2, b3, b4, b5, b6, b7] k = false) := h
  clear h
  go_enter Try.func67, Try.ntmps67
  go_wp2_with fail
  refine (declares_any b0 b1 b2 b3 b4 b5 b6 b7 (.slice a n c) k _ rfl).mono ?_
  rintro e w1 ⟨rfl, rfl⟩
  rewrite [HD.out]
  go_wp2
  refine bodyPost_ret (v := .tuple #[.agg #[.int .i16 x0, .int .i16 x1, .int .i16 x2, .int .i16 x3, .int .i16 x4, .int .i16 x5, .int .i16 x6, .int .i16 x7], .bool false]) (by simp [results, Try.results67, go_sem]) rfl ?_
  refine ⟨x0, x1, x2, x3, x4, x5, x6, x7, by rw [HS.out], by rw [HS.out], ?_⟩
  repeat (first | exact Below.refl _ _ | refine Below.alloc ?_ (by simp <;> omega) _)

set_option maxHeartbeats 1000000 in
theorem step_argundeclared (b0 b1 b2 b3 b4 b5 b6 b7 : Bool) (a : Option Addr) (n c : Nat) (k sg : Int) (ab : Bool) (ak nm : Int) (x0 x1 x2 x3 x4 x5 x6 x7 : Int) (w : World)
    (h : Dk.decl [b0, b1, b2, b3, b4, b5, b6, b7] k = true) (h' : Dk.decl [b0, b1, b2, b3, b4, b5, b6, b7] ak = false) :
    Calls Try.prog 67 #[.agg #[.bool b0, .bool b1, .bool b2, .bool b3, .bool b4, .bool b5, .bool b6, .bool b7, .slice a n c], .agg #[.int .i64 k, .int .u8 sg, .bool true, .int .i64 ak, .int .i16 nm],
      .agg #[.int .i16 x0, .int .i16 x1, .int .i16 x2, .int .i16 x3, .int .i16 x4, .int .i16 x5, .int .i16 x6, .int .i16 x7]] w (StepPost [b0, b1, b2, b3, b4, b5, b6, b7] ⟨k, sg, true, ak, nm⟩ [x0, x1, x2, x3, x4, x5, x6, x7] w) := by
  have HS : Hid (Dk.stepV [b0, b1, b2, b3, b4, b5, b6, b7] ⟨k, sg, true, ak, nm⟩ [x0, x1, x2, x3, x4, x5, x6, x7] = ([x0, x1, x2, x3, x4, x5, x6, x7], false)) := Dk.stepV_arg h rfl h'
  have HD : Hid (Dk.decl [b0, b1, b2, b3, b4, b5, b6, b7] k = true) := h
  have HE : Hid (Dk.decl [b0, b1, b2, b3, b4, b5, b6, b7] ak = false) := h'
  clear h h'
  go_enter Try.func67, Try.ntmps67
  go_wp2_with fail
  refine (declares_any b0 b1 b2 b3 b4 b5 b6 b7 (.slice a n c) k _ rfl).mono ?_
  rintro e w1 ⟨rfl, rfl⟩
  rewrite [HD.out]
  go_wp2_with fail
  refine (declares_any b0 b1 b2 b3 b4 b5 b6 b7 (.slice a n c) ak _ rfl).mono ?_
  rintro e w1 ⟨rfl, rfl⟩
  rewrite [HE.out]
  go_wp2
  refine bodyPost_ret (v := .tuple #[.agg #[.int .i16 x0, .int .i16 x1, .int .i16 x2, .int .i16 x3, .int .i16 x4, .int .i16 x5, .int .i16 x6, .int .i16 x7], .bool false]) (by simp [results, Try.results67, go_sem]) rfl ?_
  refine ⟨x0, x1, x2, x3, x4, x5, x6, x7, by rw [HS.out], by rw [HS.out], ?_⟩
  repeat (first | exact Below.refl _ _ | refine Below.alloc ?_ (by simp <;> omega) _)

end Go.Proofs.Ytccckonckddadaa
