import Derived.Test.YtccckonckddadaaWalkK
namespace Go.Proofs.Ytccckonckddadaa
open Go.RowKit
set_option linter.unusedVariables false

theorem heap_at {W : World} {o : Obj} {k : Nat} (h : k = W.heap.size) : (W.alloc o).heap[k]? = some o := by rw [h]; exact heap_alloc_new W o
theorem heap_old {W : World} {o : Obj} {k : Nat} (h : k < W.heap.size) : (W.alloc o).heap[k]? = W.heap[k]? := Below.heap_alloc W o k h

/-- One, two, three boxes, and what leaves them alone. -/
theorem below_one {w w1 : World} {o : Obj} (hb : Below (w.alloc o).heap.size (w.alloc o) w1) : w1.heap[w.heap.size]? = some o ∧ Below w.heap.size w w1 :=
  ⟨(hb.block _ (by simp)).trans (heap_at rfl), below_of_new hb⟩
theorem below_two {w w1 : World} {o o' : Obj} (hb : Below ((w.alloc o).alloc o').heap.size ((w.alloc o).alloc o') w1) : w1.heap[w.heap.size]? = some o ∧ w1.heap[w.heap.size + 1]? = some o' ∧ Below w.heap.size w w1 := by
  refine ⟨(hb.block _ (by simp <;> omega)).trans ?_, (hb.block _ (by simp)).trans (heap_at (by simp)), below_of_new (below_of_new hb)⟩
  rw [heap_old (by simp), heap_at rfl]
theorem below_three {w w1 : World} {o o' o'' : Obj} (hb : Below (((w.alloc o).alloc o').alloc o'').heap.size (((w.alloc o).alloc o').alloc o'') w1) : w1.heap[w.heap.size]? = some o ∧ w1.heap[w.heap.size + 1]? = some o' ∧ w1.heap[w.heap.size + 2]? = some o'' ∧ Below w.heap.size w w1 := by
  refine ⟨(hb.block _ (by simp <;> omega)).trans ?_, (hb.block _ (by simp <;> omega)).trans ?_, (hb.block _ (by simp)).trans (heap_at (by simp)), below_of_new (below_of_new (below_of_new hb))⟩
  · rw [heap_old (by simp <;> omega), heap_old (by simp), heap_at rfl]
  · rw [heap_old (by simp), heap_at (by simp)]

/-- What Apply answers. -/
def ApplyPost (l : List UInt8) (cs : List Int) (w : World) (e : Ending) (w' : World) : Prop :=
  ∃ (y0 y1 y2 y3 y4 y5 y6 y7 : Int) (d : Bool) (er : Int), e = .returned (.tuple #[.agg #[.int .i16 y0, .int .i16 y1, .int .i16 y2, .int .i16 y3, .int .i16 y4, .int .i16 y5, .int .i16 y6, .int .i16 y7], .bool d, .int .i64 er]) ∧
    ([y0, y1, y2, y3, y4, y5, y6, y7], d, er) = Dk.applyV l cs ∧ Below w.heap.size w w'

set_option maxHeartbeats 1000000 in
theorem apply_any (s : ByteArray) (x0 x1 x2 x3 x4 x5 x6 x7 : Int) (w : World) (hs : s.size ≤ maxLen) :
    Calls Try.prog 16 #[.string s, .agg #[.int .i16 x0, .int .i16 x1, .int .i16 x2, .int .i16 x3, .int .i16 x4, .int .i16 x5, .int .i16 x6, .int .i16 x7]] w (ApplyPost s.data.toList [x0, x1, x2, x3, x4, x5, x6, x7] w) := by
  go_enter Try.func16, Try.ntmps16
  go_wp2_with fail
  refine (parse_any s _ hs).mono ?_
  rintro e w1 ⟨b0, b1, b2, b3, b4, b5, b6, b7, a, n, c, rfl, hp, hb⟩
  have HP : Hid _ := hp
  clear hp
  obtain ⟨g0, g1, hb1⟩ := below_two hb
  obtain ⟨c0, f0, z0⟩ := heap_cells g0
  obtain ⟨c1, f1, z1⟩ := heap_cells g1
  have HB : Hid (Below w.heap.size w w1) := hb1
  have HG : Hid (_ ∧ _) := ⟨g0, g1⟩
  clear hb hb1 g0 g1
  cases hok : Dk.parseOk s.data.toList
  · have HN : Hid _ := Dk.applyV_no (cs := [x0, x1, x2, x3, x4, x5, x6, x7]) hok
    clear hok
    go_wp2
    refine bodyPost_ret (v := .tuple #[.agg #[.int .i16 x0, .int .i16 x1, .int .i16 x2, .int .i16 x3, .int .i16 x4, .int .i16 x5, .int .i16 x6, .int .i16 x7], .bool false, .int .i64 1]) (by simp [results, Try.results16, go_sem, c1, z1]) rfl ?_
    refine ⟨x0, x1, x2, x3, x4, x5, x6, x7, false, 1, rfl, HN.out.symm, ?_⟩
    refine Below.alloc ?_ (by simp; omega) _
    iterate 8 refine Below.setCell ?_ (by show w.heap.size ≤ w.heap.size + 1; omega) _
    exact HB.out
  · have HN : Hid _ := Dk.applyV_yes (cs := [x0, x1, x2, x3, x4, x5, x6, x7]) hok
    obtain ⟨hk, hn, hown⟩ := HP.out hok
    have hl := Dk.opsOf_len hok
    have HK : Hid (_ ∧ _ ∧ _ ∧ _) := ⟨hk, hn, own_base (B' := w.heap.size) hown (by simp; omega), hl⟩
    clear HP hok hk hn hown hl
    go_wp2_with fail
    have hd := do_any b0 b1 b2 b3 b4 b5 b6 b7 a n c w.heap.size (Dk.opsOf s.data.toList) x0 x1 x2 x3 x4 x5 x6 x7 (w1.alloc (.cells #[.bool b0, .bool b1, .bool b2, .bool b3, .bool b4, .bool b5, .bool b6, .bool b7, .slice a n c] 94)) HK.out.2.1 (by have := HK.out; omega) (HK.out.2.2.1.alloc _) (Dk.opsOf_bd _)
    refine hd.mono ?_
    rintro e w2 ⟨y0, y1, y2, y3, y4, y5, y6, y7, d, rfl, hy, hb⟩
    have HY : Hid _ := hy
    have HB2 := below_of_new hb
    obtain ⟨c2, f2, z2⟩ := heap_cells ((HB2.block _ z1).trans HG.out.2)
    have HB3 : Hid (Below w.heap.size w w2) := HB.out.trans (HB2.mono HB.out.size)
    clear hy hb hd HB2
    go_wp2
    refine bodyPost_ret (v := .tuple #[.agg #[.int .i16 y0, .int .i16 y1, .int .i16 y2, .int .i16 y3, .int .i16 y4, .int .i16 y5, .int .i16 y6, .int .i16 y7], .bool d, .int .i64 0]) (by simp [results, Try.results16, go_sem, c2, z2]) rfl ?_
    refine ⟨y0, y1, y2, y3, y4, y5, y6, y7, d, 0, rfl, ?_, ?_⟩
    · rw [HN.out]
      unfold Dk.doV
      rw [← HK.out.1]
      have h := HY.out
      cases hr : Dk.runV [b0, b1, b2, b3, b4, b5, b6, b7] (Dk.opsOf s.data.toList) [x0, x1, x2, x3, x4, x5, x6, x7]
      all_goals
        rw [hr] at h
        rw [Prod.mk.injEq] at h
        rw [h.1, h.2]
    · refine Below.alloc ?_ (by simp; omega) _
      iterate 8 refine Below.setCell ?_ (by show w.heap.size ≤ w.heap.size + 1; omega) _
      exact HB3.out

end Go.Proofs.Ytccckonckddadaa
