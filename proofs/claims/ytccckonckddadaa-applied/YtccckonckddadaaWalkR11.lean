import Derived.Test.YtccckonckddadaaWalkR10
namespace Go.Proofs.Ytccckonckddadaa
open Go.RowKit
set_option linter.unusedVariables false

theorem post_is {l : List UInt8} {x0 x1 x2 x3 x4 x5 x6 x7 y0 y1 y2 y3 y4 y5 y6 y7 : Int} {d : Bool} {er : Int} {w : World} {e : Ending} {w' : World} (h : Dk.applyV l [x0, x1, x2, x3, x4, x5, x6, x7] = ([y0, y1, y2, y3, y4, y5, y6, y7], d, er)) (hp : ApplyPost l [x0, x1, x2, x3, x4, x5, x6, x7] w e w') :
    e = .returned (.tuple #[.agg #[.int .i16 y0, .int .i16 y1, .int .i16 y2, .int .i16 y3, .int .i16 y4, .int .i16 y5, .int .i16 y6, .int .i16 y7], .bool d, .int .i64 er]) ∧ Below w.heap.size w w' := by
  obtain ⟨z0, z1, z2, z3, z4, z5, z6, z7, d', er', rfl, hz, hb⟩ := hp
  rw [h] at hz
  simp only [Prod.mk.injEq, List.cons.injEq, and_true] at hz
  obtain ⟨⟨rfl, rfl, rfl, rfl, rfl, rfl, rfl, rfl⟩, rfl, rfl⟩ := hz
  exact ⟨rfl, hb⟩

theorem num_any (e : Int) (w : World) : Calls Try.prog 39 #[.int .i64 e] w fun r w' => r = .returned (.int .i64 e) ∧ w' = w := by
  go_enter Try.func39, Try.ntmps39
  go_wp2
  go_ret
  exact ⟨rfl, rfl⟩

set_option maxHeartbeats 2000000 in
theorem lawapply_any (s : ByteArray) (x0 x1 x2 x3 x4 x5 x6 x7 : Int) (w : World) (hs : s.size ≤ maxLen) (hx : Dk.All16 [x0, x1, x2, x3, x4, x5, x6, x7]) :
    Calls Try.prog 13 #[.string s, .agg #[.int .i16 x0, .int .i16 x1, .int .i16 x2, .int .i16 x3, .int .i16 x4, .int .i16 x5, .int .i16 x6, .int .i16 x7]] w fun e w' => e = .returned (.bool true) ∧ Below w.heap.size w w' := by
  obtain ⟨y0, y1, y2, y3, y4, y5, y6, y7, d, er, h⟩ := Dk.applyV_8 s.data.toList x0 x1 x2 x3 x4 x5 x6 x7
  have H : Hid _ := h
  have HX : Hid _ := hx
  clear h hx
  go_enter Try.func13, Try.ntmps13
  go_wp2_with fail
  refine (apply_any s x0 x1 x2 x3 x4 x5 x6 x7 _ hs).mono ?_
  rintro e w1 hp
  obtain ⟨rfl, hb⟩ := post_is H.out hp
  obtain ⟨g0, hb1⟩ := below_one hb
  obtain ⟨c0, f0, z0⟩ := heap_cells g0
  have HB : Hid (Below w.heap.size w w1) := hb1
  clear hp hb hb1 g0
  go_wp2_with fail
  refine (refapply_any s x0 x1 x2 x3 x4 x5 x6 x7 _ hs HX.out).mono ?_
  rintro e w2 hp
  obtain ⟨rfl, hb⟩ := post_is H.out hp
  obtain ⟨g1, hb1⟩ := below_one hb
  obtain ⟨c1, f1, z1⟩ := heap_cells g1
  have HB2 : Hid (Below w.heap.size w w2) := HB.out.trans (hb1.mono HB.out.size)
  have z2 : w.heap.size < w2.heap.size := Nat.lt_trans z0 z1
  clear hp hb hb1 g1
  have hq := equal_same y0 y1 y2 y3 y4 y5 y6 y7
  have hg := guard_cells
  go_wp2_with (first | (go_at_call 39; refine (num_any _ _).mono ?_; rintro e w' ⟨rfl, rfl⟩))
  go_ret
  exact ⟨by simp, HB2.out.alloc (Nat.le_of_lt z2) _⟩

theorem applied_walk (s : ByteArray) (x0 x1 x2 x3 x4 x5 x6 x7 : Int) (w : World) (hs : s.size ≤ maxLen) (hx : Dk.All16 [x0, x1, x2, x3, x4, x5, x6, x7]) :
    Calls Try.prog 3 #[.string s, .agg #[.int .i16 x0, .int .i16 x1, .int .i16 x2, .int .i16 x3, .int .i16 x4, .int .i16 x5, .int .i16 x6, .int .i16 x7]] w fun e w' => e = .returned (.bool true) ∧ Below w.heap.size w w' := by
  have HX : Hid _ := hx
  clear hx
  go_enter Try.func3, Try.ntmps3
  go_wp2_with fail
  refine (lawapply_any s x0 x1 x2 x3 x4 x5 x6 x7 _ hs HX.out).mono ?_
  rintro e w1 ⟨rfl, hb⟩
  have HB : Hid (Below w.heap.size w w1) := below_of_new hb
  clear hb
  go_wp2
  go_ret
  exact ⟨rfl, HB.out⟩

end Go.Proofs.Ytccckonckddadaa
