import Derived.Test.YtedlgdpojkhgaaaGreatJ29
namespace Go.Proofs.YtedlgdpojkhgaaaGreat
open Go.RowKit
set_option linter.unusedVariables false

set_option maxRecDepth 100000 in
set_option maxHeartbeats 4000000 in
theorem snew_no (x1 x2 x3 x4 x5 : Int) (w : World) (h : seqOk ⟨x1, x2, x3, x4, x5⟩ = false) : Calls Tryz.prog 53 #[.agg #[.int .i64 x1, .int .i64 x2, .int .i64 x3, .int .i64 x4, .int .i64 x5]] w fun e w' => e = .returned (.tuple #[.agg #[.int .i64 0, .int .i64 0, .int .i64 0, .slice none 0 0, .int .i64 0, .int .i64 0, .string ⟨#[]⟩, .int .i16 0, .int .i16 0, .int .i16 0, .int .i16 0, .int .i16 0, .int .i16 0, .int .i16 0, .int .i16 0, .slice none 0 0], .bool false]) ∧ Below w.heap.size w w' := by
  have H : Hid _ := h
  clear h
  go_enter Tryz.func53, Tryz.ntmps53
  go_wp2_with fail
  refine (isconf_any x1 x2 x3 x4 x5 _).mono ?_
  rintro e w1 ⟨rfl, hb1⟩
  rewrite [H.out]
  obtain ⟨g0, g1, hb0⟩ := below_two hb1
  obtain ⟨c0, f0, z0⟩ := heap_cells g0
  obtain ⟨c1, f1, z1⟩ := heap_cells g1
  have HB : Hid _ := hb0
  have HG1 : Hid _ := g1
  clear hb0 hb1 g0 g1
  go_wp2
  have HW : Hid _ := chain16 HG1.out HB.out (by omega) (.int .i64 0) (.int .i64 0) (.int .i64 0) (.slice none 0 0) (.int .i64 0) (.int .i64 0) (.string ⟨#[]⟩) (.int .i16 0) (.int .i16 0) (.int .i16 0) (.int .i16 0) (.int .i16 0) (.int .i16 0) (.int .i16 0) (.int .i16 0) (.slice none 0 0)
  clear c0 c1 f0 f1 z1 z0 HG1
  generalize ((((((((((((((((w1.setCell ⟨w.heap.size + 1, 0, none⟩ (.int .i64 0)).setCell ⟨w.heap.size + 1, 1, none⟩ (.int .i64 0)).setCell ⟨w.heap.size + 1, 2, none⟩ (.int .i64 0)).setCell ⟨w.heap.size + 1, 3, none⟩ (.slice none 0 0)).setCell ⟨w.heap.size + 1, 4, none⟩ (.int .i64 0)).setCell ⟨w.heap.size + 1, 5, none⟩ (.int .i64 0)).setCell ⟨w.heap.size + 1, 6, none⟩ (.string ⟨#[]⟩)).setCell ⟨w.heap.size + 1, 7, none⟩ (.int .i16 0)).setCell ⟨w.heap.size + 1, 8, none⟩ (.int .i16 0)).setCell ⟨w.heap.size + 1, 9, none⟩ (.int .i16 0)).setCell ⟨w.heap.size + 1, 10, none⟩ (.int .i16 0)).setCell ⟨w.heap.size + 1, 11, none⟩ (.int .i16 0)).setCell ⟨w.heap.size + 1, 12, none⟩ (.int .i16 0)).setCell ⟨w.heap.size + 1, 13, none⟩ (.int .i16 0)).setCell ⟨w.heap.size + 1, 14, none⟩ (.int .i16 0)).setCell ⟨w.heap.size + 1, 15, none⟩ (.slice none 0 0)) = W2 at HW ⊢
  obtain ⟨c2, f2, z2⟩ := heap_cells HW.out.1
  refine bodyPost_ret (v := .tuple #[.agg #[.int .i64 0, .int .i64 0, .int .i64 0, .slice none 0 0, .int .i64 0, .int .i64 0, .string ⟨#[]⟩, .int .i16 0, .int .i16 0, .int .i16 0, .int .i16 0, .int .i16 0, .int .i16 0, .int .i16 0, .int .i16 0, .slice none 0 0], .bool false]) (by simp [results, Tryz.results53, go_sem, c2]) rfl ?_
  exact ⟨rfl, HW.out.2⟩

end Go.Proofs.YtedlgdpojkhgaaaGreat
