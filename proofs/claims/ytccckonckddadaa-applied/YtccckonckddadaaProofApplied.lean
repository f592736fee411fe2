import Derived.Test.YtccckonckddadaaFrame
import Derived.Test.YtccckonckddadaaWalkR11
namespace Go.Proofs.Ytccckonckddadaa.applied
open Go.ChangeShapes Go.WideShapes Go.ChangeAt Go.RowKit
open Go.ChangeMaps (open_string shut_string)
set_option linter.unusedVariables false

theorem all16_of {x0 x1 x2 x3 x4 x5 x6 x7 : Int} (h : (-32768 ≤ x0 ∧ x0 ≤ 32767) ∧ (-32768 ≤ x1 ∧ x1 ≤ 32767) ∧ (-32768 ≤ x2 ∧ x2 ≤ 32767) ∧ (-32768 ≤ x3 ∧ x3 ≤ 32767) ∧ (-32768 ≤ x4 ∧ x4 ≤ 32767) ∧ (-32768 ≤ x5 ∧ x5 ≤ 32767) ∧ (-32768 ≤ x6 ∧ x6 ≤ 32767) ∧ (-32768 ≤ x7 ∧ x7 ≤ 32767)) : Dk.All16 [x0, x1, x2, x3, x4, x5, x6, x7] := by
  obtain ⟨h0, h1, h2, h3, h4, h5, h6, h7⟩ := h
  intro y hy
  simp only [List.mem_cons, List.not_mem_nil, or_false] at hy
  rcases hy with rfl | rfl | rfl | rfl | rfl | rfl | rfl | rfl <;> assumption

set_option maxRecDepth 100000 in
theorem lifted (os : Os) (started : os.Started) (H : Type) (enc : TypeId × Value → H) :
    ReturnsInHanded {} Try.checked os 3 .any (Rows.appliedSpec.pre6 enc Try.prog Try.f3 Rows.appliedRow.domain false) (Rows.appliedSpec.post enc Try.prog Try.f3 false true false false) := by
  refine returnsInHanded_of_change (C := Try.checked) ownTry started (by kernel_rfl) Try.func3
    (ChangeSpec.witness6 (enc := enc) (C := Try.checked) false ⟨#[], #[.string ⟨#[]⟩, .agg #[.int .i16 0, .int .i16 0, .int .i16 0, .int .i16 0, .int .i16 0, .int .i16 0, .int .i16 0, .int .i16 0]], []⟩ 8 (by kernel_rfl) (by kernel_rfl) (by kernel_rfl) (by kernel_rfl)) ?_
  intro W base args ds gs before hval0 hW hcnd _
  have hval : ∀ (j : Nat) t v, Try.f3.params[j]? = some t → args[j]? = some v → Value.okWide Try.prog W .any base t v := hval0
  have hW' := hW
  obtain ⟨p, q, hA0, hV, rfl, hfz, hnd⟩ := hW
  have hA : DataW.TrodAll enc Try.prog W 0 (fun _ => true) true Try.f3.params.toList args.toList ds p := hA0
  rw [Try.params3] at hA hval
  obtain ⟨v0, vs0, d0, ds0, p0, q0, hargs, rfl, rfl, h0, r0⟩ := trodAll_cons hA
  obtain ⟨v1, vs1, d1, ds1, p1, q1, rfl, rfl, rfl, h1, r1⟩ := trodAll_cons r0
  obtain ⟨rfl, rfl, rfl⟩ := trodAll_nil r1
  obtain rfl : args = #[v0, v1] := by cases args; simp_all
  obtain ⟨rfl, rfl⟩ := trodVars_none hV
  obtain ⟨s, rfl, rfl, rfl, hs⟩ := open_string Try.underlying9 (hval 0 9 v0 rfl rfl) h0
  have lt1 : ∀ x ∈ p1, x.block < W.heap.size := by obtain ⟨m, hm⟩ := h1; exact DataW.trod_lt m _ _ _ hm
  obtain ⟨x0, x1, x2, x3, x4, x5, x6, x7, rfl, bx⟩ := open_cells (hval 1 24 v1 rfl rfl) h1
  clear hA0 hval0
  refine (applied_walk s x0 x1 x2 x3 x4 x5 x6 x7 W hs (all16_of bx)).mono fun e W' ⟨he, bel⟩ => ?_
  subst he
  exact ⟨_, rfl, _, _, _, [], _, [], hW', trodAll_mk1 (shut_bool Try.underlying4 _),
    (trodAll_cons_mk (shut_string Try.underlying9 hs) (trodAll_cons_mk (Below.trod laidTry (by kernel_rfl) (of_decide_eq_true (by kernel_rfl)) h1 bel lt1) trodAll_mk0)), rfl, bel.frame _, fun h => by cases h⟩

theorem over : Rows.appliedRow.holds Try.pinned (OpenSpec.ofChange Rows.appliedSpec) :=
  OpenClaim.holds_of_wide 3 Try.f3 rfl rfl rfl rfl rfl rfl rfl ⟨rfl, rfl, rfl, rfl, rfl⟩ rfl rfl rfl rfl rfl (by kernel_rfl) Try.func3 (by kernel_rfl)
    (of_decide_eq_true (by kernel_rfl)) (by unfold Func.isWrapper; first | (rw [if_pos (by decide +kernel)]; kernel_rfl) | (rw [if_neg (by decide +kernel)]; exact ⟨rfl, rfl⟩))
    (fun os started H enc _ => lifted os started H enc)
end Go.Proofs.Ytccckonckddadaa.applied

namespace Go.Proofs.Ytccckonckddadaa
theorem applied_holds : Rows.AppliedSaid := applied.over
#print axioms applied_holds
end Go.Proofs.Ytccckonckddadaa
