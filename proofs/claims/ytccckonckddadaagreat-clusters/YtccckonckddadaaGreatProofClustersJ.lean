import Derived.Test.YtccckonckddadaaGreatK04
import Derived.Test.YtccckonckddadaaGreatK03
namespace Go.Proofs.YtccckonckddadaaGreat.clusters
open Go.ChangeShapes Go.WideShapes Go.ChangeAt Go.RowKit
set_option linter.unusedVariables false

set_option maxRecDepth 100000 in
theorem lifted (os : Os) (started : os.Started) (H : Type) (enc : TypeId × Value → H) :
    ReturnsInHanded {} Tryz.checked os 4 .any (Rows.clustersSpec.pre6 enc Tryz.prog Tryz.f4 Rows.clustersRow.domain false) (Rows.clustersSpec.post enc Tryz.prog Tryz.f4 false true false false) := by
  refine returnsInHanded_of_change_sized (C := Tryz.checked) ownTry started (by kernel_rfl) Tryz.func4
    (ChangeSpec.witness6 (enc := enc) (C := Tryz.checked) false ⟨#[], #[.slice none 0 0], []⟩ 8 (by kernel_rfl) (by kernel_rfl) (by kernel_rfl) (by kernel_rfl)) ?_
  intro W base args ds gs before hval0 hW hcnd hsz _
  have hval : ∀ (j : Nat) t v, Tryz.f4.params[j]? = some t → args[j]? = some v → Value.okWide Tryz.prog W .any base t v := hval0
  have hW' := hW
  obtain ⟨p, q, hA0, hV, rfl, hfz, hnd⟩ := hW
  have hA : DataW.TrodAll enc Tryz.prog W 0 (fun _ => true) true Tryz.f4.params.toList args.toList ds p := hA0
  rw [Tryz.params4] at hA hval
  obtain ⟨v0, vs0, d0, ds0, p0, q0, hargs, rfl, rfl, h0, r0⟩ := trodAll_cons hA
  obtain ⟨rfl, rfl, rfl⟩ := trodAll_nil r0
  obtain rfl : args = #[v0] := by cases args; simp_all
  obtain ⟨rfl, rfl⟩ := trodVars_none hV
  have lt0 : ∀ x ∈ p0, x.block < W.heap.size := by obtain ⟨m, hm⟩ := h0; exact DataW.trod_lt m _ _ _ hm
  obtain ⟨a, m, c, ops, rfl, hrow, hlen⟩ := open_ops (hval 0 22 v0 rfl rfl) h0
  have hm : m ≤ 5000000000000 := by
    rcases hlen with rfl | ⟨es, ss, rfl, hes⟩
    · decide
    · have hb : Tryz.prog.bytesOf 38 = 136 := by kernel_rfl
      have h2 : (es.length + ss.length) * Tryz.prog.bytesOf 38 ≤ reachBytes := sized_slice hsz (j := 0) (t := 22) (e := 38) (elems := es) (spare := ss) (by kernel_rfl) rfl Tryz.underlying22
      have h3 := reachBytes_lt
      rw [hb] at h2
      omega
  clear hA0 hval0
  refine (clusters_walk a m c ops W hrow hm).mono fun e W' ⟨he, bel⟩ => ?_
  subst he
  exact ⟨_, rfl, _, _, _, [], _, [], hW', trodAll_mk1 (shut_bool Tryz.underlying4 _),
    (trodAll_cons_mk (Below.trod laidTry (by kernel_rfl) (of_decide_eq_true (by kernel_rfl)) h0 bel lt0) trodAll_mk0), rfl, bel.frame _, fun h => by cases h⟩

theorem over : Rows.clustersRow.holds Tryz.pinned (OpenSpec.ofChange Rows.clustersSpec) :=
  OpenClaim.holds_of_wide 4 Tryz.f4 rfl rfl rfl rfl rfl rfl rfl ⟨rfl, rfl, rfl, rfl, rfl⟩ rfl rfl rfl rfl rfl (by kernel_rfl) Tryz.func4 (by kernel_rfl)
    (of_decide_eq_true (by kernel_rfl)) (by unfold Func.isWrapper; first | (rw [if_pos (by decide +kernel)]; kernel_rfl) | (rw [if_neg (by decide +kernel)]; exact ⟨rfl, rfl⟩))
    (fun os started H enc _ => lifted os started H enc)
end Go.Proofs.YtccckonckddadaaGreat.clusters

namespace Go.Proofs.YtccckonckddadaaGreat
theorem clusters_holds : Rows.ClustersSaid := clusters.over
#print axioms clusters_holds
end Go.Proofs.YtccckonckddadaaGreat
