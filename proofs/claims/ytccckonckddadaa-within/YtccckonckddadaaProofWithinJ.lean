import Derived.Test.YtccckonckddadaaJ38
import Derived.Test.YtccckonckddadaaW02
namespace Go.Proofs.Ytccckonckddadaa.within
open Go.ChangeShapes Go.WideShapes Go.ChangeAt Go.RowKit
open Go.ChangeMaps (open_string shut_string)
set_option linter.unusedVariables false

set_option maxRecDepth 100000 in
theorem lifted (os : Os) (started : os.Started) (H : Type) (enc : TypeId × Value → H) :
    ReturnsInHanded {} Try.checked os 12 .any (Rows.withinSpec.pre6 enc Try.prog Try.f12 Rows.withinRow.domain false) (Rows.withinSpec.post enc Try.prog Try.f12 false true false false) := by
  refine returnsInHanded_of_change_sized (C := Try.checked) ownTry started (by kernel_rfl) Try.func12
    (ChangeSpec.witness6 (enc := enc) (C := Try.checked) false ⟨#[], #[.agg #[.int .i64 0, .int .i64 0, .int .i64 0, .int .i64 0, .int .i64 0], .slice none 0 0, .int .i64 0, .int .i64 0, .slice none 0 0], []⟩ 8 (by kernel_rfl) (by kernel_rfl) (by kernel_rfl) (by kernel_rfl)) ?_
  intro W base args ds gs before hval0 hW hcnd hsz _
  have hval : ∀ (j : Nat) t v, Try.f12.params[j]? = some t → args[j]? = some v → Value.okWide Try.prog W .any base t v := hval0
  have hW' := hW
  obtain ⟨p, q, hA0, hV, rfl, hfz, hnd⟩ := hW
  have hA : DataW.TrodAll enc Try.prog W 0 (fun _ => true) true Try.f12.params.toList args.toList ds p := hA0
  rw [Try.params12] at hA hval
  obtain ⟨v0, vs0, d0, ds0, p0, q0, hargs, rfl, rfl, h0, r0⟩ := trodAll_cons hA
  obtain ⟨v1, vs1, d1, ds1, p1, q1, rfl, rfl, rfl, h1, r1⟩ := trodAll_cons r0
  obtain ⟨v2, vs2, d2, ds2, p2, q2, rfl, rfl, rfl, h2, r2⟩ := trodAll_cons r1
  obtain ⟨v3, vs3, d3, ds3, p3, q3, rfl, rfl, rfl, h3, r3⟩ := trodAll_cons r2
  obtain ⟨v4, vs4, d4, ds4, p4, q4, rfl, rfl, rfl, h4, r4⟩ := trodAll_cons r3
  obtain ⟨rfl, rfl, rfl⟩ := trodAll_nil r4
  obtain rfl : args = #[v0, v1, v2, v3, v4] := by cases args; simp_all
  obtain ⟨rfl, rfl⟩ := trodVars_none hV
  have lt0 : ∀ x ∈ p0, x.block < W.heap.size := by obtain ⟨m, hm⟩ := h0; exact DataW.trod_lt m _ _ _ hm
  obtain ⟨cf, rfl, b1, b2, b3, b4, b5⟩ := open_conf (hval 0 55 v0 rfl rfl) h0
  have lt1 : ∀ x ∈ p1, x.block < W.heap.size := by obtain ⟨m, hm⟩ := h1; exact DataW.trod_lt m _ _ _ hm
  obtain ⟨a1, m1, c1, rfl, hrow1, hlen1⟩ := open_acts (hval 1 56 v1 rfl rfl) h1
  have hm1 : m1 ≤ 9000000000000000 := by
    rcases hlen1 with rfl | ⟨es, ss, rfl, hes⟩
    · decide
    · have hb : Try.prog.bytesOf 85 = 32 := by kernel_rfl
      have h2 : (es.length + ss.length) * Try.prog.bytesOf 85 ≤ reachBytes := sized_slice hsz (j := 1) (t := 56) (e := 85) (elems := es) (spare := ss) (by kernel_rfl) rfl Try.underlying56
      have h3 := reachBytes_lt
      rw [hb] at h2
      omega
  obtain ⟨n2, rfl, rfl, rfl, w2⟩ := open_int Try.underlying3 (hval 2 3 v2 rfl rfl) h2
  obtain ⟨n3, rfl, rfl, rfl, w3⟩ := open_int Try.underlying3 (hval 3 3 v3 rfl rfl) h3
  have lt4 : ∀ x ∈ p4, x.block < W.heap.size := by obtain ⟨m, hm⟩ := h4; exact DataW.trod_lt m _ _ _ hm
  obtain ⟨a4, m4, c4, rfl, hrow4, hlen4⟩ := open_acts (hval 4 56 v4 rfl rfl) h4
  have hm4 : m4 ≤ 9000000000000000 := by
    rcases hlen4 with rfl | ⟨es, ss, rfl, hes⟩
    · decide
    · have hb : Try.prog.bytesOf 85 = 32 := by kernel_rfl
      have h2 : (es.length + ss.length) * Try.prog.bytesOf 85 ≤ reachBytes := sized_slice hsz (j := 4) (t := 56) (e := 85) (elems := es) (spare := ss) (by kernel_rfl) rfl Try.underlying56
      have h3 := reachBytes_lt
      rw [hb] at h2
      omega
  clear hA0 hval0
  refine (within_walk cf a1 m1 c1 n2 n3 a4 m4 c4 W hrow1 hrow4 b1 b2 b3 b4 b5 hm1 hm4 (wide_i64 w2) (wide_i64 w3)).mono fun e W' ⟨he, bel⟩ => ?_
  subst he
  exact ⟨_, rfl, _, _, _, [], _, [], hW', trodAll_mk1 (shut_bool Try.underlying4 _),
    (trodAll_cons_mk (Below.trod laidTry (by kernel_rfl) (of_decide_eq_true (by kernel_rfl)) h0 bel lt0) (trodAll_cons_mk (Below.trod laidTry (by kernel_rfl) (of_decide_eq_true (by kernel_rfl)) h1 bel lt1) (trodAll_cons_mk (shut_int Try.underlying3 w2) (trodAll_cons_mk (shut_int Try.underlying3 w3) (trodAll_cons_mk (Below.trod laidTry (by kernel_rfl) (of_decide_eq_true (by kernel_rfl)) h4 bel lt4) trodAll_mk0))))), rfl, bel.frame _, fun h => by cases h⟩

theorem over : Rows.withinRow.holds Try.pinned (OpenSpec.ofChange Rows.withinSpec) :=
  OpenClaim.holds_of_wide 12 Try.f12 rfl rfl rfl rfl rfl rfl rfl ⟨rfl, rfl, rfl, rfl, rfl⟩ rfl rfl rfl rfl rfl (by kernel_rfl) Try.func12 (by kernel_rfl)
    (of_decide_eq_true (by kernel_rfl)) (by unfold Func.isWrapper; first | (rw [if_pos (by decide +kernel)]; kernel_rfl) | (rw [if_neg (by decide +kernel)]; exact ⟨rfl, rfl⟩))
    (fun os started H enc _ => lifted os started H enc)
end Go.Proofs.Ytccckonckddadaa.within

namespace Go.Proofs.Ytccckonckddadaa
theorem within_holds : Rows.WithinSaid := within.over
#print axioms within_holds
end Go.Proofs.Ytccckonckddadaa
