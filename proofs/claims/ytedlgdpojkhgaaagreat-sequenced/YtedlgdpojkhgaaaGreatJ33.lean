import Derived.Test.YtedlgdpojkhgaaaGreatJ29
import Derived.Deep.RegionLaw
import Derived.Laws.MakeOwn
namespace Go.Proofs.YtedlgdpojkhgaaaGreat
open Go.RowKit
set_option linter.unusedVariables false

theorem info_acc : (Tryz.prog.info? 150).map (fun i => (i.zero, i.size, i.bytes)) = some (some (.agg #[.slice none 0 0, .int .i64 0]), 2, 32) := by kernel_rfl

theorem make_accs (n : Nat) (h8 : n ≤ 8) (w : World) : ∃ arr : Array Value, (Instr.makeSlice 97 (.int .i64 (n : Int)) (.int .i64 (n : Int))).run Tryz.prog w = .ok (.slice (some ⟨w.heap.size, 0, none⟩) n n) (w.alloc (.cells arr 150)) ∧ ∀ i, i < n → arr[i * 2]? = some (.slice none 0 0) ∧ arr[i * 2 + 1]? = some (.int .i64 0) := by
  obtain ⟨ti, hi, hz0, hz1, hz2⟩ := info_parts info_acc
  have hr := run_make (P := Tryz.prog) w 97 150 ti _ Tryz.underlying97 hi hz0 .i64 .i64 (n : Int) (n : Int) (by omega) (Int.le_refl _) (by rw [hz2]; omega) (by omega)
  rw [Int.toNat_natCast, hz1] at hr
  refine ⟨_, hr, fun i hin => ?_⟩
  unfold madeCells
  refine ⟨?_, ?_⟩
  · rw [Array.getElem?_map, Array.getElem?_range, if_pos (by omega)]
    show some ((Value.cells (.agg #[.slice none 0 0, .int .i64 0]))[i * 2 % 2]!) = _
    rw [show i * 2 % 2 = 0 from by omega]; rfl
  · rw [Array.getElem?_map, Array.getElem?_range, if_pos (by omega)]
    show some ((Value.cells (.agg #[.slice none 0 0, .int .i64 0]))[(i * 2 + 1) % 2]!) = _
    rw [show (i * 2 + 1) % 2 = 1 from by omega]; rfl

def SNewPost (n : Nat) (x2 x3 x4 : Int) (w : World) (e : Ending) (w' : World) : Prop :=
  ∃ (gA : Nat) (arr : Array Value), e = .returned (.tuple #[.agg #[.int .i64 x2, .int .i64 x3, .int .i64 x4, .slice (some ⟨gA, 0, none⟩) n n, .int .i64 0, .int .i64 0, .string ⟨#[]⟩, .int .i16 0, .int .i16 0, .int .i16 0, .int .i16 0, .int .i16 0, .int .i16 0, .int .i16 0, .int .i16 0, .slice none 0 0], .bool true]) ∧ w'.heap[gA]? = some (.cells arr 150) ∧ (∀ i, i < n → arr[i * 2]? = some (.slice none 0 0) ∧ arr[i * 2 + 1]? = some (.int .i64 0)) ∧ w.heap.size ≤ gA ∧ Below w.heap.size w w'

set_option maxRecDepth 100000 in
set_option maxHeartbeats 4000000 in
theorem snew_yes (n : Nat) (x2 x3 x4 x5 : Int) (w : World) (h8 : n ≤ 8) (h : seqOk ⟨n, x2, x3, x4, x5⟩ = true) : Calls Tryz.prog 53 #[.agg #[.int .i64 (n : Int), .int .i64 x2, .int .i64 x3, .int .i64 x4, .int .i64 x5]] w (SNewPost n x2 x3 x4 w) := by
  have H : Hid _ := h
  clear h
  go_enter Tryz.func53, Tryz.ntmps53
  go_wp2_with fail
  refine (isconf_any (n : Int) x2 x3 x4 x5 _).mono ?_
  rintro e w1 ⟨rfl, hb1⟩
  rewrite [H.out]
  obtain ⟨g0, g1, hb0⟩ := below_two hb1
  obtain ⟨c0, f0, z0⟩ := heap_cells g0
  obtain ⟨c1, f1, z1⟩ := heap_cells g1
  have HB : Hid _ := hb0
  clear hb0 hb1 g0
  obtain ⟨arr, hmk, harr⟩ := make_accs n h8 w1.drew
  have HArr : Hid _ := harr
  clear harr
  have HG1 : Hid _ := g1
  clear g1
  go_wp2
  go_region
  have HW : Hid _ := chain16a (t2 := 150) (arr := arr) HG1.out HB.out (by omega) HB.out.size (.int .i64 x2) (.int .i64 x3) (.int .i64 x4) (.slice (some ⟨w1.heap.size, 0, none⟩) n n) (.int .i64 0) (.int .i64 0) (.string ⟨#[]⟩) (.int .i16 0) (.int .i16 0) (.int .i16 0) (.int .i16 0) (.int .i16 0) (.int .i16 0) (.int .i16 0) (.int .i16 0) (.slice none 0 0)
  clear c0 c1 f0 f1 z1 z0 hmk HG1
  generalize ((((((((((((((((((w1.setCell ⟨w.heap.size + 1, 0, none⟩ (.int .i64 x2)).setCell ⟨w.heap.size + 1, 1, none⟩ (.int .i64 x3)).setCell ⟨w.heap.size + 1, 2, none⟩ (.int .i64 x4)).setCell ⟨w.heap.size + 1, 3, none⟩ (.slice (some ⟨w1.heap.size, 0, none⟩) n n)).setCell ⟨w.heap.size + 1, 4, none⟩ (.int .i64 0)).setCell ⟨w.heap.size + 1, 5, none⟩ (.int .i64 0)).setCell ⟨w.heap.size + 1, 6, none⟩ (.string ⟨#[]⟩)).setCell ⟨w.heap.size + 1, 7, none⟩ (.int .i16 0)).setCell ⟨w.heap.size + 1, 8, none⟩ (.int .i16 0)).setCell ⟨w.heap.size + 1, 9, none⟩ (.int .i16 0)).setCell ⟨w.heap.size + 1, 10, none⟩ (.int .i16 0)).setCell ⟨w.heap.size + 1, 11, none⟩ (.int .i16 0)).setCell ⟨w.heap.size + 1, 12, none⟩ (.int .i16 0)).setCell ⟨w.heap.size + 1, 13, none⟩ (.int .i16 0)).setCell ⟨w.heap.size + 1, 14, none⟩ (.int .i16 0)).setCell ⟨w.heap.size + 1, 15, none⟩ (.slice none 0 0))).alloc (.cells arr 150)).drew = W2 at HW ⊢
  have hgA : w.heap.size ≤ w1.heap.size := HB.out.size
  generalize w1.heap.size = gA at *
  obtain ⟨c2, f2, z2⟩ := heap_cells HW.out.1
  go_wp2
  refine bodyPost_ret (v := .tuple #[.agg #[.int .i64 x2, .int .i64 x3, .int .i64 x4, .slice (some ⟨gA, 0, none⟩) n n, .int .i64 0, .int .i64 0, .string ⟨#[]⟩, .int .i16 0, .int .i16 0, .int .i16 0, .int .i16 0, .int .i16 0, .int .i16 0, .int .i16 0, .int .i16 0, .slice none 0 0], .bool true]) (by simp [results, Tryz.results53, go_sem, c2]) rfl ?_
  exact ⟨gA, arr, rfl, HW.out.2.1, HArr.out, hgA, HW.out.2.2⟩

end Go.Proofs.YtedlgdpojkhgaaaGreat
