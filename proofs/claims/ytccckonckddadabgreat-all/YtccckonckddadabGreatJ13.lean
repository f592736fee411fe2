import Derived.Test.YtccckonckddadabGreatRows
import Derived.WalkKit
import Derived.ProofKit
import Derived.OpenShut
import Derived.ShutString
import Derived.ChangeOld
import Derived.Below
namespace Go.Proofs.YtccckonckddadabGreat
open Go.ChangeShapes Go.WideShapes Go.ChangeAt Go.RowKit
set_option linter.unusedVariables false

theorem ownTry : ownKnob Tryz.prog.godebug = none := by kernel_rfl
theorem laidTry : laidOutB Tryz.prog = true := by kernel_rfl
theorem cells_int16 : Tryz.prog.cellsOf 35 = 1 := by kernel_rfl
theorem cells_cells : Tryz.prog.cellsOf 37 = 8 := by kernel_rfl

theorem list8 {α : Type} (l : List α) (h : (⟨l⟩ : Array α).size = 8) : ∃ a0 a1 a2 a3 a4 a5 a6 a7, l = [a0, a1, a2, a3, a4, a5, a6, a7] := by
  match l, h with
  | [a0, a1, a2, a3, a4, a5, a6, a7], _ => exact ⟨a0, a1, a2, a3, a4, a5, a6, a7, rfl⟩

set_option maxRecDepth 8000 in
/-- Cells that came in: eight numbers of 16 bits. -/
theorem open_cells {H : Type} {enc : TypeId × Value → H} {W : World} {base : Nat} {v : Value} {d : DataW H} {p : List MemPlace} (hv : Value.okWide Tryz.prog W .any base 37 v)
    (h : DataW.Trod enc Tryz.prog W 0 (fun _ => true) true 37 v d p) : ∃ x0 x1 x2 x3 x4 x5 x6 x7 : Int, v = .agg #[.int .i16 x0, .int .i16 x1, .int .i16 x2, .int .i16 x3, .int .i16 x4, .int .i16 x5, .int .i16 x6, .int .i16 x7] ∧
      (-32768 ≤ x0 ∧ x0 ≤ 32767) ∧ (-32768 ≤ x1 ∧ x1 ≤ 32767) ∧ (-32768 ≤ x2 ∧ x2 ≤ 32767) ∧ (-32768 ≤ x3 ∧ x3 ≤ 32767) ∧ (-32768 ≤ x4 ∧ x4 ≤ 32767) ∧ (-32768 ≤ x5 ∧ x5 ≤ 32767) ∧ (-32768 ≤ x6 ∧ x6 ≤ 32767) ∧ (-32768 ≤ x7 ∧ x7 ≤ 32767) := by
  obtain ⟨cs, rfl, hsz, _⟩ : ∃ cs, v = .agg cs ∧ cs.size = Tryz.prog.cellsOf 37 ∧ Row.okWide Tryz.prog W .any base 37 cs := by
    simpa [Value.okWide, Tryz.underlying37] using hv
  rw [cells_cells] at hsz
  obtain ⟨l⟩ := cs
  obtain ⟨c0, c1, c2, c3, c4, c5, c6, c7, rfl⟩ := list8 l hsz
  obtain ⟨fuel, hf⟩ := h
  obtain ⟨xs, m, _, _, _, hn, hel⟩ := DataW.trod_array Tryz.underlying37 hf
  have one : ∀ (i : Nat) (hi : i < 8) (c : Value), (([c0, c1, c2, c3, c4, c5, c6, c7] : List Value).drop (i * 1)).take 1 = [c] → ∃ x : Int, c = .int .i16 x ∧ -32768 ≤ x ∧ x ≤ 32767 := by
    intro i hi c hc
    have h1 := hel i hi
    rw [cells_int16] at h1
    have h2 : xs[i]? = some (xs[i]'(by omega)) := List.getElem?_eq_getElem (by omega)
    rw [h2] at h1
    obtain ⟨x, e, _, wx⟩ := DataW.trod_int Tryz.underlying35 h1
    have e2 : (([c0, c1, c2, c3, c4, c5, c6, c7] : List Value).drop (i * 1)).take 1 = [.int .i16 x] := e
    rw [hc] at e2
    simp only [List.cons.injEq, and_true] at e2
    exact ⟨x, e2, bounds_i16 wx⟩
  obtain ⟨x0, rfl, b0⟩ := one 0 (by omega) _ rfl
  obtain ⟨x1, rfl, b1⟩ := one 1 (by omega) _ rfl
  obtain ⟨x2, rfl, b2⟩ := one 2 (by omega) _ rfl
  obtain ⟨x3, rfl, b3⟩ := one 3 (by omega) _ rfl
  obtain ⟨x4, rfl, b4⟩ := one 4 (by omega) _ rfl
  obtain ⟨x5, rfl, b5⟩ := one 5 (by omega) _ rfl
  obtain ⟨x6, rfl, b6⟩ := one 6 (by omega) _ rfl
  obtain ⟨x7, rfl, b7⟩ := one 7 (by omega) _ rfl
  exact ⟨x0, x1, x2, x3, x4, x5, x6, x7, rfl, b0, b1, b2, b3, b4, b5, b6, b7⟩

end Go.Proofs.YtccckonckddadabGreat
