import Derived.Test.YtccckonckddadabGreatJ08
namespace Go.Proofs.YtccckonckddadabGreat
open Go.RowKit
set_option linter.unusedVariables false

set_option maxHeartbeats 4000000 in
theorem step_num2 (b0 b1 b2 b3 b4 b5 b6 b7 : Bool) (a : Option Addr) (n c : Nat) (sg ak nm : Int) (x0 x1 x2 x3 x4 x5 x6 x7 : Int) (w : World)
    (h : Dk.decl [b0, b1, b2, b3, b4, b5, b6, b7] 2 = true) (ha0 : 0 ≤ ak) (ha8 : ak < 8) :
    Calls Tryz.prog 82 #[.agg #[.bool b0, .bool b1, .bool b2, .bool b3, .bool b4, .bool b5, .bool b6, .bool b7, .slice a n c], .agg #[.int .i64 2, .int .u8 sg, .bool false, .int .i64 ak, .int .i16 nm],
      .agg #[.int .i16 x0, .int .i16 x1, .int .i16 x2, .int .i16 x3, .int .i16 x4, .int .i16 x5, .int .i16 x6, .int .i16 x7]] w (StepPost [b0, b1, b2, b3, b4, b5, b6, b7] ⟨2, sg, false, ak, nm⟩ [x0, x1, x2, x3, x4, x5, x6, x7] w) := by
  have HS : Hid (Dk.stepV [b0, b1, b2, b3, b4, b5, b6, b7] ⟨2, sg, false, ak, nm⟩ [x0, x1, x2, x3, x4, x5, x6, x7] = Dk.signV sg 2 x2 nm [x0, x1, x2, x3, x4, x5, x6, x7]) := Dk.stepV_go h (by simp)
  have HD : Hid (Dk.decl [b0, b1, b2, b3, b4, b5, b6, b7] 2 = true) := h
  clear h
  go_enter Tryz.func82, Tryz.ntmps82
  go_wp2_with fail
  refine (declares_any b0 b1 b2 b3 b4 b5 b6 b7 (.slice a n c) 2 _ rfl).mono ?_
  rintro e w1 ⟨rfl, rfl⟩
  rewrite [HD.out]
  go_wp2_with fail
  refine (value_any false ak nm x0 x1 x2 x3 x4 x5 x6 x7 _ ha0 ha8).mono ?_
  rintro e w1 ⟨rfl, rfl⟩
  go_wp2
  · have hE : Dk.signV sg 2 x2 nm [x0, x1, x2, x3, x4, x5, x6, x7] = ([x0, x1, nm, x3, x4, x5, x6, x7], true) := by simp only [Dk.signV, *, ↓reduceIte]; rfl
    refine bodyPost_ret (v := .tuple #[.agg #[.int .i16 x0, .int .i16 x1, .int .i16 nm, .int .i16 x3, .int .i16 x4, .int .i16 x5, .int .i16 x6, .int .i16 x7], .bool (true)]) (by simp [results, Tryz.results82, go_sem]) rfl ?_
    refine ⟨x0, x1, nm, x3, x4, x5, x6, x7, by rw [HS.out, hE], by rw [HS.out, hE], ?_⟩
    repeat (first | exact Below.refl _ _ | refine Below.alloc ?_ (by simp <;> omega) _)
  · have hE : Dk.signV sg 2 x2 nm [x0, x1, x2, x3, x4, x5, x6, x7] = ([x0, x1, Dk.wrap16 (x2 + nm), x3, x4, x5, x6, x7], true) := by simp only [Dk.signV, *, ↓reduceIte, Bool.false_eq_true]; rfl
    refine bodyPost_ret (v := .tuple #[.agg #[.int .i16 x0, .int .i16 x1, .int .i16 (Dk.wrap16 (x2 + nm)), .int .i16 x3, .int .i16 x4, .int .i16 x5, .int .i16 x6, .int .i16 x7], .bool (true)]) (by simp [results, Tryz.results82, go_sem, wrap16_eq]) rfl ?_
    refine ⟨x0, x1, Dk.wrap16 (x2 + nm), x3, x4, x5, x6, x7, by rw [HS.out, hE], by rw [HS.out, hE], ?_⟩
    repeat (first | exact Below.refl _ _ | refine Below.alloc ?_ (by simp <;> omega) _)
  · have hE : Dk.signV sg 2 x2 nm [x0, x1, x2, x3, x4, x5, x6, x7] = ([x0, x1, Dk.wrap16 (x2 - nm), x3, x4, x5, x6, x7], true) := by simp only [Dk.signV, *, ↓reduceIte, Bool.false_eq_true]; rfl
    refine bodyPost_ret (v := .tuple #[.agg #[.int .i16 x0, .int .i16 x1, .int .i16 (Dk.wrap16 (x2 - nm)), .int .i16 x3, .int .i16 x4, .int .i16 x5, .int .i16 x6, .int .i16 x7], .bool (true)]) (by simp [results, Tryz.results82, go_sem, wrap16_eq]) rfl ?_
    refine ⟨x0, x1, Dk.wrap16 (x2 - nm), x3, x4, x5, x6, x7, by rw [HS.out, hE], by rw [HS.out, hE], ?_⟩
    repeat (first | exact Below.refl _ _ | refine Below.alloc ?_ (by simp <;> omega) _)
  · have hE : Dk.signV sg 2 x2 nm [x0, x1, x2, x3, x4, x5, x6, x7] = ([x0, x1, Dk.wrap16 (x2 * nm), x3, x4, x5, x6, x7], true) := by simp only [Dk.signV, *, ↓reduceIte, Bool.false_eq_true]; rfl
    refine bodyPost_ret (v := .tuple #[.agg #[.int .i16 x0, .int .i16 x1, .int .i16 (Dk.wrap16 (x2 * nm)), .int .i16 x3, .int .i16 x4, .int .i16 x5, .int .i16 x6, .int .i16 x7], .bool (true)]) (by simp [results, Tryz.results82, go_sem, wrap16_eq]) rfl ?_
    refine ⟨x0, x1, Dk.wrap16 (x2 * nm), x3, x4, x5, x6, x7, by rw [HS.out, hE], by rw [HS.out, hE], ?_⟩
    repeat (first | exact Below.refl _ _ | refine Below.alloc ?_ (by simp <;> omega) _)
  · have hE : Dk.signV sg 2 x2 nm [x0, x1, x2, x3, x4, x5, x6, x7] = ([x0, x1, x2, x3, x4, x5, x6, x7], decide (x2 < nm)) := by simp only [Dk.signV, *, ↓reduceIte, Bool.false_eq_true]
    refine bodyPost_ret (v := .tuple #[.agg #[.int .i16 x0, .int .i16 x1, .int .i16 x2, .int .i16 x3, .int .i16 x4, .int .i16 x5, .int .i16 x6, .int .i16 x7], .bool (decide (x2 < nm))]) (by simp [results, Tryz.results82, go_sem]) rfl ?_
    refine ⟨x0, x1, x2, x3, x4, x5, x6, x7, by rw [HS.out, hE], by rw [HS.out, hE], ?_⟩
    repeat (first | exact Below.refl _ _ | refine Below.alloc ?_ (by simp <;> omega) _)
  · have hE : Dk.signV sg 2 x2 nm [x0, x1, x2, x3, x4, x5, x6, x7] = ([x0, x1, x2, x3, x4, x5, x6, x7], decide (nm < x2)) := by simp only [Dk.signV, *, ↓reduceIte, Bool.false_eq_true]
    refine bodyPost_ret (v := .tuple #[.agg #[.int .i16 x0, .int .i16 x1, .int .i16 x2, .int .i16 x3, .int .i16 x4, .int .i16 x5, .int .i16 x6, .int .i16 x7], .bool (decide (nm < x2))]) (by simp [results, Tryz.results82, go_sem]) rfl ?_
    refine ⟨x0, x1, x2, x3, x4, x5, x6, x7, by rw [HS.out, hE], by rw [HS.out, hE], ?_⟩
    repeat (first | exact Below.refl _ _ | refine Below.alloc ?_ (by simp <;> omega) _)
  · have hE : Dk.signV sg 2 x2 nm [x0, x1, x2, x3, x4, x5, x6, x7] = ([x0, x1, x2, x3, x4, x5, x6, x7], x2 == nm) := by simp only [Dk.signV, *, ↓reduceIte, Bool.false_eq_true]
    refine bodyPost_ret (v := .tuple #[.agg #[.int .i16 x0, .int .i16 x1, .int .i16 x2, .int .i16 x3, .int .i16 x4, .int .i16 x5, .int .i16 x6, .int .i16 x7], .bool (x2 == nm)]) (by simp [results, Tryz.results82, go_sem]) rfl ?_
    refine ⟨x0, x1, x2, x3, x4, x5, x6, x7, by rw [HS.out, hE], by rw [HS.out, hE], ?_⟩
    repeat (first | exact Below.refl _ _ | refine Below.alloc ?_ (by simp <;> omega) _)
  · have hE : Dk.signV sg 2 x2 nm [x0, x1, x2, x3, x4, x5, x6, x7] = ([x0, x1, x2, x3, x4, x5, x6, x7], true) := by simp only [Dk.signV, *, ↓reduceIte, Bool.false_eq_true]
    refine bodyPost_ret (v := .tuple #[.agg #[.int .i16 x0, .int .i16 x1, .int .i16 x2, .int .i16 x3, .int .i16 x4, .int .i16 x5, .int .i16 x6, .int .i16 x7], .bool (true)]) (by simp [results, Tryz.results82, go_sem]) rfl ?_
    refine ⟨x0, x1, x2, x3, x4, x5, x6, x7, by rw [HS.out, hE], by rw [HS.out, hE], ?_⟩
    repeat (first | exact Below.refl _ _ | refine Below.alloc ?_ (by simp <;> omega) _)

set_option maxHeartbeats 4000000 in
theorem step_key2 (b0 b1 b2 b3 b4 b5 b6 b7 : Bool) (a : Option Addr) (n c : Nat) (sg ak nm : Int) (x0 x1 x2 x3 x4 x5 x6 x7 : Int) (w : World)
    (h : Dk.decl [b0, b1, b2, b3, b4, b5, b6, b7] 2 = true) (h' : Dk.decl [b0, b1, b2, b3, b4, b5, b6, b7] ak = true) (ha0 : 0 ≤ ak) (ha8 : ak < 8) :
    Calls Tryz.prog 82 #[.agg #[.bool b0, .bool b1, .bool b2, .bool b3, .bool b4, .bool b5, .bool b6, .bool b7, .slice a n c], .agg #[.int .i64 2, .int .u8 sg, .bool true, .int .i64 ak, .int .i16 nm],
      .agg #[.int .i16 x0, .int .i16 x1, .int .i16 x2, .int .i16 x3, .int .i16 x4, .int .i16 x5, .int .i16 x6, .int .i16 x7]] w (StepPost [b0, b1, b2, b3, b4, b5, b6, b7] ⟨2, sg, true, ak, nm⟩ [x0, x1, x2, x3, x4, x5, x6, x7] w) := by
  obtain ⟨v, hv⟩ : ∃ v, [x0, x1, x2, x3, x4, x5, x6, x7].getD ak.toNat 0 = v := ⟨_, rfl⟩
  have HV : Hid ([x0, x1, x2, x3, x4, x5, x6, x7].getD ak.toNat 0 = v) := hv
  have HS : Hid (Dk.stepV [b0, b1, b2, b3, b4, b5, b6, b7] ⟨2, sg, true, ak, nm⟩ [x0, x1, x2, x3, x4, x5, x6, x7] = Dk.signV sg 2 x2 v [x0, x1, x2, x3, x4, x5, x6, x7]) := by
    show _ = _
    rw [Dk.stepV_go h (fun _ => h'), Dk.argVal_key ha0 ha8, ← hv]; rfl
  have HE : Hid (Dk.decl [b0, b1, b2, b3, b4, b5, b6, b7] ak = true) := h'
  clear h' hv
  have HD : Hid (Dk.decl [b0, b1, b2, b3, b4, b5, b6, b7] 2 = true) := h
  clear h
  go_enter Tryz.func82, Tryz.ntmps82
  go_wp2_with fail
  refine (declares_any b0 b1 b2 b3 b4 b5 b6 b7 (.slice a n c) 2 _ rfl).mono ?_
  rintro e w1 ⟨rfl, rfl⟩
  rewrite [HD.out]
  go_wp2_with fail
  refine (declares_any b0 b1 b2 b3 b4 b5 b6 b7 (.slice a n c) ak _ rfl).mono ?_
  rintro e w1 ⟨rfl, rfl⟩
  rewrite [HE.out]
  go_wp2_with fail
  refine (value_any true ak nm x0 x1 x2 x3 x4 x5 x6 x7 _ ha0 ha8).mono ?_
  rintro e w1 ⟨rfl, rfl⟩
  simp only [if_true]
  rewrite [HV.out]
  go_wp2
  · have hE : Dk.signV sg 2 x2 v [x0, x1, x2, x3, x4, x5, x6, x7] = ([x0, x1, v, x3, x4, x5, x6, x7], true) := by simp only [Dk.signV, *, ↓reduceIte]; rfl
    refine bodyPost_ret (v := .tuple #[.agg #[.int .i16 x0, .int .i16 x1, .int .i16 v, .int .i16 x3, .int .i16 x4, .int .i16 x5, .int .i16 x6, .int .i16 x7], .bool (true)]) (by simp [results, Tryz.results82, go_sem]) rfl ?_
    refine ⟨x0, x1, v, x3, x4, x5, x6, x7, by rw [HS.out, hE], by rw [HS.out, hE], ?_⟩
    repeat (first | exact Below.refl _ _ | refine Below.alloc ?_ (by simp <;> omega) _)
  · have hE : Dk.signV sg 2 x2 v [x0, x1, x2, x3, x4, x5, x6, x7] = ([x0, x1, Dk.wrap16 (x2 + v), x3, x4, x5, x6, x7], true) := by simp only [Dk.signV, *, ↓reduceIte, Bool.false_eq_true]; rfl
    refine bodyPost_ret (v := .tuple #[.agg #[.int .i16 x0, .int .i16 x1, .int .i16 (Dk.wrap16 (x2 + v)), .int .i16 x3, .int .i16 x4, .int .i16 x5, .int .i16 x6, .int .i16 x7], .bool (true)]) (by simp [results, Tryz.results82, go_sem, wrap16_eq]) rfl ?_
    refine ⟨x0, x1, Dk.wrap16 (x2 + v), x3, x4, x5, x6, x7, by rw [HS.out, hE], by rw [HS.out, hE], ?_⟩
    repeat (first | exact Below.refl _ _ | refine Below.alloc ?_ (by simp <;> omega) _)
  · have hE : Dk.signV sg 2 x2 v [x0, x1, x2, x3, x4, x5, x6, x7] = ([x0, x1, Dk.wrap16 (x2 - v), x3, x4, x5, x6, x7], true) := by simp only [Dk.signV, *, ↓reduceIte, Bool.false_eq_true]; rfl
    refine bodyPost_ret (v := .tuple #[.agg #[.int .i16 x0, .int .i16 x1, .int .i16 (Dk.wrap16 (x2 - v)), .int .i16 x3, .int .i16 x4, .int .i16 x5, .int .i16 x6, .int .i16 x7], .bool (true)]) (by simp [results, Tryz.results82, go_sem, wrap16_eq]) rfl ?_
    refine ⟨x0, x1, Dk.wrap16 (x2 - v), x3, x4, x5, x6, x7, by rw [HS.out, hE], by rw [HS.out, hE], ?_⟩
    repeat (first | exact Below.refl _ _ | refine Below.alloc ?_ (by simp <;> omega) _)
  · have hE : Dk.signV sg 2 x2 v [x0, x1, x2, x3, x4, x5, x6, x7] = ([x0, x1, Dk.wrap16 (x2 * v), x3, x4, x5, x6, x7], true) := by simp only [Dk.signV, *, ↓reduceIte, Bool.false_eq_true]; rfl
    refine bodyPost_ret (v := .tuple #[.agg #[.int .i16 x0, .int .i16 x1, .int .i16 (Dk.wrap16 (x2 * v)), .int .i16 x3, .int .i16 x4, .int .i16 x5, .int .i16 x6, .int .i16 x7], .bool (true)]) (by simp [results, Tryz.results82, go_sem, wrap16_eq]) rfl ?_
    refine ⟨x0, x1, Dk.wrap16 (x2 * v), x3, x4, x5, x6, x7, by rw [HS.out, hE], by rw [HS.out, hE], ?_⟩
    repeat (first | exact Below.refl _ _ | refine Below.alloc ?_ (by simp <;> omega) _)
  · have hE : Dk.signV sg 2 x2 v [x0, x1, x2, x3, x4, x5, x6, x7] = ([x0, x1, x2, x3, x4, x5, x6, x7], decide (x2 < v)) := by simp only [Dk.signV, *, ↓reduceIte, Bool.false_eq_true]
    refine bodyPost_ret (v := .tuple #[.agg #[.int .i16 x0, .int .i16 x1, .int .i16 x2, .int .i16 x3, .int .i16 x4, .int .i16 x5, .int .i16 x6, .int .i16 x7], .bool (decide (x2 < v))]) (by simp [results, Tryz.results82, go_sem]) rfl ?_
    refine ⟨x0, x1, x2, x3, x4, x5, x6, x7, by rw [HS.out, hE], by rw [HS.out, hE], ?_⟩
    repeat (first | exact Below.refl _ _ | refine Below.alloc ?_ (by simp <;> omega) _)
  · have hE : Dk.signV sg 2 x2 v [x0, x1, x2, x3, x4, x5, x6, x7] = ([x0, x1, x2, x3, x4, x5, x6, x7], decide (v < x2)) := by simp only [Dk.signV, *, ↓reduceIte, Bool.false_eq_true]
    refine bodyPost_ret (v := .tuple #[.agg #[.int .i16 x0, .int .i16 x1, .int .i16 x2, .int .i16 x3, .int .i16 x4, .int .i16 x5, .int .i16 x6, .int .i16 x7], .bool (decide (v < x2))]) (by simp [results, Tryz.results82, go_sem]) rfl ?_
    refine ⟨x0, x1, x2, x3, x4, x5, x6, x7, by rw [HS.out, hE], by rw [HS.out, hE], ?_⟩
    repeat (first | exact Below.refl _ _ | refine Below.alloc ?_ (by simp <;> omega) _)
  · have hE : Dk.signV sg 2 x2 v [x0, x1, x2, x3, x4, x5, x6, x7] = ([x0, x1, x2, x3, x4, x5, x6, x7], x2 == v) := by simp only [Dk.signV, *, ↓reduceIte, Bool.false_eq_true]
    refine bodyPost_ret (v := .tuple #[.agg #[.int .i16 x0, .int .i16 x1, .int .i16 x2, .int .i16 x3, .int .i16 x4, .int .i16 x5, .int .i16 x6, .int .i16 x7], .bool (x2 == v)]) (by simp [results, Tryz.results82, go_sem]) rfl ?_
    refine ⟨x0, x1, x2, x3, x4, x5, x6, x7, by rw [HS.out, hE], by rw [HS.out, hE], ?_⟩
    repeat (first | exact Below.refl _ _ | refine Below.alloc ?_ (by simp <;> omega) _)
  · have hE : Dk.signV sg 2 x2 v [x0, x1, x2, x3, x4, x5, x6, x7] = ([x0, x1, x2, x3, x4, x5, x6, x7], true) := by simp only [Dk.signV, *, ↓reduceIte, Bool.false_eq_true]
    refine bodyPost_ret (v := .tuple #[.agg #[.int .i16 x0, .int .i16 x1, .int .i16 x2, .int .i16 x3, .int .i16 x4, .int .i16 x5, .int .i16 x6, .int .i16 x7], .bool (true)]) (by simp [results, Tryz.results82, go_sem]) rfl ?_
    refine ⟨x0, x1, x2, x3, x4, x5, x6, x7, by rw [HS.out, hE], by rw [HS.out, hE], ?_⟩
    repeat (first | exact Below.refl _ _ | refine Below.alloc ?_ (by simp <;> omega) _)

set_option maxHeartbeats 4000000 in
theorem step_num3 (b0 b1 b2 b3 b4 b5 b6 b7 : Bool) (a : Option Addr) (n c : Nat) (sg ak nm : Int) (x0 x1 x2 x3 x4 x5 x6 x7 : Int) (w : World)
    (h : Dk.decl [b0, b1, b2, b3, b4, b5, b6, b7] 3 = true) (ha0 : 0 ≤ ak) (ha8 : ak < 8) :
    Calls Tryz.prog 82 #[.agg #[.bool b0, .bool b1, .bool b2, .bool b3, .bool b4, .bool b5, .bool b6, .bool b7, .slice a n c], .agg #[.int .i64 3, .int .u8 sg, .bool false, .int .i64 ak, .int .i16 nm],
      .agg #[.int .i16 x0, .int .i16 x1, .int .i16 x2, .int .i16 x3, .int .i16 x4, .int .i16 x5, .int .i16 x6, .int .i16 x7]] w (StepPost [b0, b1, b2, b3, b4, b5, b6, b7] ⟨3, sg, false, ak, nm⟩ [x0, x1, x2, x3, x4, x5, x6, x7] w) := by
  have HS : Hid (Dk.stepV [b0, b1, b2, b3, b4, b5, b6, b7] ⟨3, sg, false, ak, nm⟩ [x0, x1, x2, x3, x4, x5, x6, x7] = Dk.signV sg 3 x3 nm [x0, x1, x2, x3, x4, x5, x6, x7]) := Dk.stepV_go h (by simp)
  have HD : Hid (Dk.decl [b0, b1, b2, b3, b4, b5, b6, b7] 3 = true) := h
  clear h
  go_enter Tryz.func82, Tryz.ntmps82
  go_wp2_with fail
  refine (declares_any b0 b1 b2 b3 b4 b5 b6 b7 (.slice a n c) 3 _ rfl).mono ?_
  rintro e w1 ⟨rfl, rfl⟩
  rewrite [HD.out]
  go_wp2_with fail
  refine (value_any false ak nm x0 x1 x2 x3 x4 x5 x6 x7 _ ha0 ha8).mono ?_
  rintro e w1 ⟨rfl, rfl⟩
  go_wp2
  · have hE : Dk.signV sg 3 x3 nm [x0, x1, x2, x3, x4, x5, x6, x7] = ([x0, x1, x2, nm, x4, x5, x6, x7], true) := by simp only [Dk.signV, *, ↓reduceIte]; rfl
    refine bodyPost_ret (v := .tuple #[.agg #[.int .i16 x0, .int .i16 x1, .int .i16 x2, .int .i16 nm, .int .i16 x4, .int .i16 x5, .int .i16 x6, .int .i16 x7], .bool (true)]) (by simp [results, Tryz.results82, go_sem]) rfl ?_
    refine ⟨x0, x1, x2, nm, x4, x5, x6, x7, by rw [HS.out, hE], by rw [HS.out, hE], ?_⟩
    repeat (first | exact Below.refl _ _ | refine Below.alloc ?_ (by simp <;> omega) _)
  · have hE : Dk.signV sg 3 x3 nm [x0, x1, x2, x3, x4, x5, x6, x7] = ([x0, x1, x2, Dk.wrap16 (x3 + nm), x4, x5, x6, x7], true) := by simp only [Dk.signV, *, ↓reduceIte, Bool.false_eq_true]; rfl
    refine bodyPost_ret (v := .tuple #[.agg #[.int .i16 x0, .int .i16 x1, .int .i16 x2, .int .i16 (Dk.wrap16 (x3 + nm)), .int .i16 x4, .int .i16 x5, .int .i16 x6, .int .i16 x7], .bool (true)]) (by simp [results, Tryz.results82, go_sem, wrap16_eq]) rfl ?_
    refine ⟨x0, x1, x2, Dk.wrap16 (x3 + nm), x4, x5, x6, x7, by rw [HS.out, hE], by rw [HS.out, hE], ?_⟩
    repeat (first | exact Below.refl _ _ | refine Below.alloc ?_ (by simp <;> omega) _)
  · have hE : Dk.signV sg 3 x3 nm [x0, x1, x2, x3, x4, x5, x6, x7] = ([x0, x1, x2, Dk.wrap16 (x3 - nm), x4, x5, x6, x7], true) := by simp only [Dk.signV, *, ↓reduceIte, Bool.false_eq_true]; rfl
    refine bodyPost_ret (v := .tuple #[.agg #[.int .i16 x0, .int .i16 x1, .int .i16 x2, .int .i16 (Dk.wrap16 (x3 - nm)), .int .i16 x4, .int .i16 x5, .int .i16 x6, .int .i16 x7], .bool (true)]) (by simp [results, Tryz.results82, go_sem, wrap16_eq]) rfl ?_
    refine ⟨x0, x1, x2, Dk.wrap16 (x3 - nm), x4, x5, x6, x7, by rw [HS.out, hE], by rw [HS.out, hE], ?_⟩
    repeat (first | exact Below.refl _ _ | refine Below.alloc ?_ (by simp <;> omega) _)
  · have hE : Dk.signV sg 3 x3 nm [x0, x1, x2, x3, x4, x5, x6, x7] = ([x0, x1, x2, Dk.wrap16 (x3 * nm), x4, x5, x6, x7], true) := by simp only [Dk.signV, *, ↓reduceIte, Bool.false_eq_true]; rfl
    refine bodyPost_ret (v := .tuple #[.agg #[.int .i16 x0, .int .i16 x1, .int .i16 x2, .int .i16 (Dk.wrap16 (x3 * nm)), .int .i16 x4, .int .i16 x5, .int .i16 x6, .int .i16 x7], .bool (true)]) (by simp [results, Tryz.results82, go_sem, wrap16_eq]) rfl ?_
    refine ⟨x0, x1, x2, Dk.wrap16 (x3 * nm), x4, x5, x6, x7, by rw [HS.out, hE], by rw [HS.out, hE], ?_⟩
    repeat (first | exact Below.refl _ _ | refine Below.alloc ?_ (by simp <;> omega) _)
  · have hE : Dk.signV sg 3 x3 nm [x0, x1, x2, x3, x4, x5, x6, x7] = ([x0, x1, x2, x3, x4, x5, x6, x7], decide (x3 < nm)) := by simp only [Dk.signV, *, ↓reduceIte, Bool.false_eq_true]
    refine bodyPost_ret (v := .tuple #[.agg #[.int .i16 x0, .int .i16 x1, .int .i16 x2, .int .i16 x3, .int .i16 x4, .int .i16 x5, .int .i16 x6, .int .i16 x7], .bool (decide (x3 < nm))]) (by simp [results, Tryz.results82, go_sem]) rfl ?_
    refine ⟨x0, x1, x2, x3, x4, x5, x6, x7, by rw [HS.out, hE], by rw [HS.out, hE], ?_⟩
    repeat (first | exact Below.refl _ _ | refine Below.alloc ?_ (by simp <;> omega) _)
  · have hE : Dk.signV sg 3 x3 nm [x0, x1, x2, x3, x4, x5, x6, x7] = ([x0, x1, x2, x3, x4, x5, x6, x7], decide (nm < x3)) := by simp only [Dk.signV, *, ↓reduceIte, Bool.false_eq_true]
    refine bodyPost_ret (v := .tuple #[.agg #[.int .i16 x0, .int .i16 x1, .int .i16 x2, .int .i16 x3, .int .i16 x4, .int .i16 x5, .int .i16 x6, .int .i16 x7], .bool (decide (nm < x3))]) (by simp [results, Tryz.results82, go_sem]) rfl ?_
    refine ⟨x0, x1, x2, x3, x4, x5, x6, x7, by rw [HS.out, hE], by rw [HS.out, hE], ?_⟩
    repeat (first | exact Below.refl _ _ | refine Below.alloc ?_ (by simp <;> omega) _)
  · have hE : Dk.signV sg 3 x3 nm [x0, x1, x2, x3, x4, x5, x6, x7] = ([x0, x1, x2, x3, x4, x5, x6, x7], x3 == nm) := by simp only [Dk.signV, *, ↓reduceIte, Bool.false_eq_true]
    refine bodyPost_ret (v := .tuple #[.agg #[.int .i16 x0, .int .i16 x1, .int .i16 x2, .int .i16 x3, .int .i16 x4, .int .i16 x5, .int .i16 x6, .int .i16 x7], .bool (x3 == nm)]) (by simp [results, Tryz.results82, go_sem]) rfl ?_
    refine ⟨x0, x1, x2, x3, x4, x5, x6, x7, by rw [HS.out, hE], by rw [HS.out, hE], ?_⟩
    repeat (first | exact Below.refl _ _ | refine Below.alloc ?_ (by simp <;> omega) _)
  · have hE : Dk.signV sg 3 x3 nm [x0, x1, x2, x3, x4, x5, x6, x7] = ([x0, x1, x2, x3, x4, x5, x6, x7], true) := by simp only [Dk.signV, *, ↓reduceIte, Bool.false_eq_true]
    refine bodyPost_ret (v := .tuple #[.agg #[.int .i16 x0, .int .i16 x1, .int .i16 x2, .int .i16 x3, .int .i16 x4, .int .i16 x5, .int .i16 x6, .int .i16 x7], .bool (true)]) (by simp [results, Tryz.results82, go_sem]) rfl ?_
    refine ⟨x0, x1, x2, x3, x4, x5, x6, x7, by rw [HS.out, hE], by rw [HS.out, hE], ?_⟩
    repeat (first | exact Below.refl _ _ | refine Below.alloc ?_ (by simp <;> omega) _)

set_option maxHeartbeats 4000000 in
theorem step_key3 (b0 b1 b2 b3 b4 b5 b6 b7 : Bool) (a : Option Addr) (n c : Nat) (sg ak nm : Int) (x0 x1 x2 x3 x4 x5 x6 x7 : Int) (w : World)
    (h : Dk.decl [b0, b1, b2, b3, b4, b5, b6, b7] 3 = true) (h' : Dk.decl [b0, b1, b2, b3, b4, b5, b6, b7] ak = true) (ha0 : 0 ≤ ak) (ha8 : ak < 8) :
    Calls Tryz.prog 82 #[.agg #[.bool b0, .bool b1, .bool b2, .bool b3, .bool b4, .bool b5, .bool b6, .bool b7, .slice a n c], .agg #[.int .i64 3, .int .u8 sg, .bool true, .int .i64 ak, .int .i16 nm],
      .agg #[.int .i16 x0, .int .i16 x1, .int .i16 x2, .int .i16 x3, .int .i16 x4, .int .i16 x5, .int .i16 x6, .int .i16 x7]] w (StepPost [b0, b1, b2, b3, b4, b5, b6, b7] ⟨3, sg, true, ak, nm⟩ [x0, x1, x2, x3, x4, x5, x6, x7] w) := by
  obtain ⟨v, hv⟩ : ∃ v, [x0, x1, x2, x3, x4, x5, x6, x7].getD ak.toNat 0 = v := ⟨_, rfl⟩
  have HV : Hid ([x0, x1, x2, x3, x4, x5, x6, x7].getD ak.toNat 0 = v) := hv
  have HS : Hid (Dk.stepV [b0, b1, b2, b3, b4, b5, b6, b7] ⟨3, sg, true, ak, nm⟩ [x0, x1, x2, x3, x4, x5, x6, x7] = Dk.signV sg 3 x3 v [x0, x1, x2, x3, x4, x5, x6, x7]) := by
    show _ = _
    rw [Dk.stepV_go h (fun _ => h'), Dk.argVal_key ha0 ha8, ← hv]; rfl
  have HE : Hid (Dk.decl [b0, b1, b2, b3, b4, b5, b6, b7] ak = true) := h'
  clear h' hv
  have HD : Hid (Dk.decl [b0, b1, b2, b3, b4, b5, b6, b7] 3 = true) := h
  clear h
  go_enter Tryz.func82, Tryz.ntmps82
  go_wp2_with fail
  refine (declares_any b0 b1 b2 b3 b4 b5 b6 b7 (.slice a n c) 3 _ rfl).mono ?_
  rintro e w1 ⟨rfl, rfl⟩
  rewrite [HD.out]
  go_wp2_with fail
  refine (declares_any b0 b1 b2 b3 b4 b5 b6 b7 (.slice a n c) ak _ rfl).mono ?_
  rintro e w1 ⟨rfl, rfl⟩
  rewrite [HE.out]
  go_wp2_with fail
  refine (value_any true ak nm x0 x1 x2 x3 x4 x5 x6 x7 _ ha0 ha8).mono ?_
  rintro e w1 ⟨rfl, rfl⟩
  simp only [if_true]
  rewrite [HV.out]
  go_wp2
  · have hE : Dk.signV sg 3 x3 v [x0, x1, x2, x3, x4, x5, x6, x7] = ([x0, x1, x2, v, x4, x5, x6, x7], true) := by simp only [Dk.signV, *, ↓reduceIte]; rfl
    refine bodyPost_ret (v := .tuple #[.agg #[.int .i16 x0, .int .i16 x1, .int .i16 x2, .int .i16 v, .int .i16 x4, .int .i16 x5, .int .i16 x6, .int .i16 x7], .bool (true)]) (by simp [results, Tryz.results82, go_sem]) rfl ?_
    refine ⟨x0, x1, x2, v, x4, x5, x6, x7, by rw [HS.out, hE], by rw [HS.out, hE], ?_⟩
    repeat (first | exact Below.refl _ _ | refine Below.alloc ?_ (by simp <;> omega) _)
  · have hE : Dk.signV sg 3 x3 v [x0, x1, x2, x3, x4, x5, x6, x7] = ([x0, x1, x2, Dk.wrap16 (x3 + v), x4, x5, x6, x7], true) := by simp only [Dk.signV, *, ↓reduceIte, Bool.false_eq_true]; rfl
    refine bodyPost_ret (v := .tuple #[.agg #[.int .i16 x0, .int .i16 x1, .int .i16 x2, .int .i16 (Dk.wrap16 (x3 + v)), .int .i16 x4, .int .i16 x5, .int .i16 x6, .int .i16 x7], .bool (true)]) (by simp [results, Tryz.results82, go_sem, wrap16_eq]) rfl ?_
    refine ⟨x0, x1, x2, Dk.wrap16 (x3 + v), x4, x5, x6, x7, by rw [HS.out, hE], by rw [HS.out, hE], ?_⟩
    repeat (first | exact Below.refl _ _ | refine Below.alloc ?_ (by simp <;> omega) _)
  · have hE : Dk.signV sg 3 x3 v [x0, x1, x2, x3, x4, x5, x6, x7] = ([x0, x1, x2, Dk.wrap16 (x3 - v), x4, x5, x6, x7], true) := by simp only [Dk.signV, *, ↓reduceIte, Bool.false_eq_true]; rfl
    refine bodyPost_ret (v := .tuple #[.agg #[.int .i16 x0, .int .i16 x1, .int .i16 x2, .int .i16 (Dk.wrap16 (x3 - v)), .int .i16 x4, .int .i16 x5, .int .i16 x6, .int .i16 x7], .bool (true)]) (by simp [results, Tryz.results82, go_sem, wrap16_eq]) rfl ?_
    refine ⟨x0, x1, x2, Dk.wrap16 (x3 - v), x4, x5, x6, x7, by rw [HS.out, hE], by rw [HS.out, hE], ?_⟩
    repeat (first | exact Below.refl _ _ | refine Below.alloc ?_ (by simp <;> omega) _)
  · have hE : Dk.signV sg 3 x3 v [x0, x1, x2, x3, x4, x5, x6, x7] = ([x0, x1, x2, Dk.wrap16 (x3 * v), x4, x5, x6, x7], true) := by simp only [Dk.signV, *, ↓reduceIte, Bool.false_eq_true]; rfl
    refine bodyPost_ret (v := .tuple #[.agg #[.int .i16 x0, .int .i16 x1, .int .i16 x2, .int .i16 (Dk.wrap16 (x3 * v)), .int .i16 x4, .int .i16 x5, .int .i16 x6, .int .i16 x7], .bool (true)]) (by simp [results, Tryz.results82, go_sem, wrap16_eq]) rfl ?_
    refine ⟨x0, x1, x2, Dk.wrap16 (x3 * v), x4, x5, x6, x7, by rw [HS.out, hE], by rw [HS.out, hE], ?_⟩
    repeat (first | exact Below.refl _ _ | refine Below.alloc ?_ (by simp <;> omega) _)
  · have hE : Dk.signV sg 3 x3 v [x0, x1, x2, x3, x4, x5, x6, x7] = ([x0, x1, x2, x3, x4, x5, x6, x7], decide (x3 < v)) := by simp only [Dk.signV, *, ↓reduceIte, Bool.false_eq_true]
    refine bodyPost_ret (v := .tuple #[.agg #[.int .i16 x0, .int .i16 x1, .int .i16 x2, .int .i16 x3, .int .i16 x4, .int .i16 x5, .int .i16 x6, .int .i16 x7], .bool (decide (x3 < v))]) (by simp [results, Tryz.results82, go_sem]) rfl ?_
    refine ⟨x0, x1, x2, x3, x4, x5, x6, x7, by rw [HS.out, hE], by rw [HS.out, hE], ?_⟩
    repeat (first | exact Below.refl _ _ | refine Below.alloc ?_ (by simp <;> omega) _)
  · have hE : Dk.signV sg 3 x3 v [x0, x1, x2, x3, x4, x5, x6, x7] = ([x0, x1, x2, x3, x4, x5, x6, x7], decide (v < x3)) := by simp only [Dk.signV, *, ↓reduceIte, Bool.false_eq_true]
    refine bodyPost_ret (v := .tuple #[.agg #[.int .i16 x0, .int .i16 x1, .int .i16 x2, .int .i16 x3, .int .i16 x4, .int .i16 x5, .int .i16 x6, .int .i16 x7], .bool (decide (v < x3))]) (by simp [results, Tryz.results82, go_sem]) rfl ?_
    refine ⟨x0, x1, x2, x3, x4, x5, x6, x7, by rw [HS.out, hE], by rw [HS.out, hE], ?_⟩
    repeat (first | exact Below.refl _ _ | refine Below.alloc ?_ (by simp <;> omega) _)
  · have hE : Dk.signV sg 3 x3 v [x0, x1, x2, x3, x4, x5, x6, x7] = ([x0, x1, x2, x3, x4, x5, x6, x7], x3 == v) := by simp only [Dk.signV, *, ↓reduceIte, Bool.false_eq_true]
    refine bodyPost_ret (v := .tuple #[.agg #[.int .i16 x0, .int .i16 x1, .int .i16 x2, .int .i16 x3, .int .i16 x4, .int .i16 x5, .int .i16 x6, .int .i16 x7], .bool (x3 == v)]) (by simp [results, Tryz.results82, go_sem]) rfl ?_
    refine ⟨x0, x1, x2, x3, x4, x5, x6, x7, by rw [HS.out, hE], by rw [HS.out, hE], ?_⟩
    repeat (first | exact Below.refl _ _ | refine Below.alloc ?_ (by simp <;> omega) _)
  · have hE : Dk.signV sg 3 x3 v [x0, x1, x2, x3, x4, x5, x6, x7] = ([x0, x1, x2, x3, x4, x5, x6, x7], true) := by simp only [Dk.signV, *, ↓reduceIte, Bool.false_eq_true]
    refine bodyPost_ret (v := .tuple #[.agg #[.int .i16 x0, .int .i16 x1, .int .i16 x2, .int .i16 x3, .int .i16 x4, .int .i16 x5, .int .i16 x6, .int .i16 x7], .bool (true)]) (by simp [results, Tryz.results82, go_sem]) rfl ?_
    refine ⟨x0, x1, x2, x3, x4, x5, x6, x7, by rw [HS.out, hE], by rw [HS.out, hE], ?_⟩
    repeat (first | exact Below.refl _ _ | refine Below.alloc ?_ (by simp <;> omega) _)

end Go.Proofs.YtccckonckddadabGreat
