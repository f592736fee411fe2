import Derived.Test.YtccckonckddadabGreatJ17
import Derived.Test.YtccckonckddadabGreatJ15
namespace Go.Proofs.YtccckonckddadabGreat
open Go.RowKit
set_option linter.unusedVariables false

set_option maxHeartbeats 2000000 in
theorem refapply_any (s : ByteArray) (x0 x1 x2 x3 x4 x5 x6 x7 : Int) (w : World) (hs : s.size ≤ maxLen) (hx : Dk.All16 [x0, x1, x2, x3, x4, x5, x6, x7]) :
    Calls Tryz.prog 20 #[.string s, .agg #[.int .i16 x0, .int .i16 x1, .int .i16 x2, .int .i16 x3, .int .i16 x4, .int .i16 x5, .int .i16 x6, .int .i16 x7]] w (ApplyPost s.data.toList [x0, x1, x2, x3, x4, x5, x6, x7] w) := by
  have HX : Hid _ := hx
  go_enter Tryz.func20, Tryz.ntmps20
  go_wp2_with fail
  refine (parts_any s _ hs).mono ?_
  rintro e w1 ⟨mk, a, n, c, ps, rfl, _, _, hb⟩
  obtain ⟨g0, g1, hb1⟩ := below_two hb
  obtain ⟨c0, f0, z0⟩ := heap_cells g0
  obtain ⟨c1, f1, z1⟩ := heap_cells g1
  have HB : Hid (Below w.heap.size w w1) := hb1
  have HG : Hid (_ ∧ _) := ⟨g0, g1⟩
  clear hb hb1 g0 g1
  cases hok : Dk.parseOk s.data.toList
  · have HN : Hid _ := Dk.applyV_no (cs := [x0, x1, x2, x3, x4, x5, x6, x7]) hok
    clear hok
    clear hx
    go_wp2
    refine bodyPost_ret (v := .tuple #[.agg #[.int .i16 x0, .int .i16 x1, .int .i16 x2, .int .i16 x3, .int .i16 x4, .int .i16 x5, .int .i16 x6, .int .i16 x7], .bool false, .int .i64 1]) (by simp [results, Tryz.results20, go_sem, c1]) rfl ?_
    refine ⟨x0, x1, x2, x3, x4, x5, x6, x7, false, 1, rfl, HN.out.symm, ?_⟩
    iterate 8 refine Below.setCell ?_ (by show w.heap.size ≤ w.heap.size + 1; omega) _
    exact HB.out
  · have HN : Hid _ := Dk.applyV_yes (cs := [x0, x1, x2, x3, x4, x5, x6, x7]) hok
    have HOk : Hid _ := hok
    clear hok
    clear hx
    go_wp2_with fail
    have hx := HX.out
    refine (ints_any x0 x1 x2 x3 x4 x5 x6 x7 _ (hx x0 (by simp)) (hx x1 (by simp)) (hx x2 (by simp)) (hx x3 (by simp)) (hx x4 (by simp)) (hx x5 (by simp)) (hx x6 (by simp)) (hx x7 (by simp))).mono ?_
    clear hx
    rintro e w2 ⟨rfl, hb2⟩
    have z1' : w.heap.size + 1 < w2.heap.size := Nat.lt_of_lt_of_le z1 hb2.size
    have G2 : Hid _ := (hb2.block _ z1).trans HG.out.2
    have HB2 : Hid (Below w.heap.size w w2) := HB.out.trans (hb2.mono HB.out.size)
    clear hb2 c0 f0 z0 c1 f1 z1
    go_wp2_with fail
    refine (rdo_any s x0 x1 x2 x3 x4 x5 x6 x7 _ hs HOk.out HX.out).mono ?_
    rintro e w3 ⟨y0, y1, y2, y3, y4, y5, y6, y7, dn, rfl, hdv, hy16, hb3⟩
    have z2' : w.heap.size + 1 < w3.heap.size := Nat.lt_of_lt_of_le z1' hb3.size
    have G3 : Hid _ := (hb3.block _ z1').trans G2.out
    have HB3 : Hid (Below w.heap.size w w3) := HB2.out.trans (hb3.mono HB2.out.size)
    have HY : Hid _ := hdv
    have HY16 : Hid _ := hy16
    clear hb3 hdv hy16
    go_wp2_with fail
    have hy16 := HY16.out
    refine (cells_any y0 y1 y2 y3 y4 y5 y6 y7 _ (hy16 y0 (by simp)) (hy16 y1 (by simp)) (hy16 y2 (by simp)) (hy16 y3 (by simp)) (hy16 y4 (by simp)) (hy16 y5 (by simp)) (hy16 y6 (by simp)) (hy16 y7 (by simp))).mono ?_
    clear hy16
    rintro e w4 ⟨rfl, hb4⟩
    have hb5 := below_of_new hb4
    obtain ⟨c4, f4, z4⟩ := heap_cells ((hb5.block _ z2').trans G3.out)
    have HB4 : Hid (Below w.heap.size w w4) := HB3.out.trans (hb5.mono HB3.out.size)
    clear hb4 hb5
    go_wp2
    refine bodyPost_ret (v := .tuple #[.agg #[.int .i16 y0, .int .i16 y1, .int .i16 y2, .int .i16 y3, .int .i16 y4, .int .i16 y5, .int .i16 y6, .int .i16 y7], .bool dn, .int .i64 0]) (by simp [results, Tryz.results20, go_sem, c4]) rfl ?_
    refine ⟨y0, y1, y2, y3, y4, y5, y6, y7, dn, 0, rfl, ?_, ?_⟩
    · rw [HN.out, ← HY.out]
    · iterate 8 refine Below.setCell ?_ (by show w.heap.size ≤ w.heap.size + 1; omega) _
      exact HB4.out

end Go.Proofs.YtccckonckddadabGreat
namespace Go.Proofs.YtccckonckddadabGreat
open Go.RowKit
set_option linter.unusedVariables false

theorem post_is {l : List UInt8} {x0 x1 x2 x3 x4 x5 x6 x7 y0 y1 y2 y3 y4 y5 y6 y7 : Int} {d : Bool} {er : Int} {w : World} {e : Ending} {w' : World} (h : Dk.applyV l [x0, x1, x2, x3, x4, x5, x6, x7] = ([y0, y1, y2, y3, y4, y5, y6, y7], d, er)) (hp : ApplyPost l [x0, x1, x2, x3, x4, x5, x6, x7] w e w') :
    e = .returned (.tuple #[.agg #[.int .i16 y0, .int .i16 y1, .int .i16 y2, .int .i16 y3, .int .i16 y4, .int .i16 y5, .int .i16 y6, .int .i16 y7], .bool d, .int .i64 er]) ∧ Below w.heap.size w w' := by
  obtain ⟨z0, z1, z2, z3, z4, z5, z6, z7, d', er', rfl, hz, hb⟩ := hp
  rw [h] at hz
  simp only [Prod.mk.injEq, List.cons.injEq, and_true] at hz
  obtain ⟨⟨rfl, rfl, rfl, rfl, rfl, rfl, rfl, rfl⟩, rfl, rfl⟩ := hz
  exact ⟨rfl, hb⟩

theorem rnum_any (e : Int) (w : World) : Calls Tryz.prog 18 #[.int .i64 e] w fun r w' => r = .returned (.int .i64 e) ∧ w' = w := by
  go_enter Tryz.func18, Tryz.ntmps18
  go_wp2
  go_ret
  exact ⟨rfl, rfl⟩

set_option maxHeartbeats 2000000 in
theorem lawapply_any (s : ByteArray) (x0 x1 x2 x3 x4 x5 x6 x7 : Int) (w : World) (hs : s.size ≤ maxLen) (hx : Dk.All16 [x0, x1, x2, x3, x4, x5, x6, x7]) :
    Calls Tryz.prog 9 #[.string s, .agg #[.int .i16 x0, .int .i16 x1, .int .i16 x2, .int .i16 x3, .int .i16 x4, .int .i16 x5, .int .i16 x6, .int .i16 x7]] w fun e w' => e = .returned (.bool true) ∧ Below w.heap.size w w' := by
  obtain ⟨y0, y1, y2, y3, y4, y5, y6, y7, d, er, h⟩ := Dk.applyV_8 s.data.toList x0 x1 x2 x3 x4 x5 x6 x7
  have H : Hid _ := h
  have HX : Hid _ := hx
  clear h hx
  go_enter Tryz.func9, Tryz.ntmps9
  go_wp2_with fail
  refine (apply_any s x0 x1 x2 x3 x4 x5 x6 x7 _ hs).mono ?_
  rintro e w1 hp
  obtain ⟨rfl, hb⟩ := post_is H.out hp
  obtain ⟨g0, hb1⟩ := below_one hb
  obtain ⟨c0, f0, z0⟩ := heap_cells g0
  have HB : Hid (Below w.heap.size w w1) := hb1
  clear hp hb hb1 g0
  go_wp2_with fail
  refine (refapply_any s x0 x1 x2 x3 x4 x5 x6 x7 _ hs HX.out).mono ?_
  rintro e w2 hp
  obtain ⟨rfl, hb⟩ := post_is H.out hp
  obtain ⟨g1, hb1⟩ := below_one hb
  obtain ⟨c1, f1, z1⟩ := heap_cells g1
  have HB2 : Hid (Below w.heap.size w w2) := HB.out.trans (hb1.mono HB.out.size)
  have z2 : w.heap.size < w2.heap.size := Nat.lt_trans z0 z1
  clear hp hb hb1 g1
  have hq := equal_same y0 y1 y2 y3 y4 y5 y6 y7
  have hg := guard_cells
  go_wp2_with (first | (go_at_call 18; refine (rnum_any _ _).mono ?_; rintro e w' ⟨rfl, rfl⟩))
  go_ret
  exact ⟨by simp, HB2.out.alloc (Nat.le_of_lt z2) _⟩

end Go.Proofs.YtccckonckddadabGreat
