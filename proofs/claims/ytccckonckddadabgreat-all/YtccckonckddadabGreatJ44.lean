import Derived.Test.YtccckonckddadabGreatJ35
import Derived.Test.YtccckonckddadabGreatJ39
import Derived.Test.YtccckonckddadabGreatJ40
import Derived.Test.YtccckonckddadabGreatJ26
import Derived.Deep.RegionLaw
namespace Go.Proofs.YtccckonckddadabGreat
open Go.RowKit
set_option linter.unusedVariables false

/-! ### A replica in a block -/
def RBox (w : World) (g : Nat) (pre post : List Value) (x : RepV) : Prop := w.heap[g]? = some (.cells (pre ++ (prepCells x ++ post)).toArray 147)
theorem prep_len {x : RepV} (h : x.cells.length = 8) : (prepCells x).length = 11 := by
  unfold prepCells sixCells
  simp [h]
theorem preps_len : ∀ {l : List RepV}, (∀ x ∈ l, x.cells.length = 8) → (prepsCells l).length = l.length * 11
  | [], _ => rfl
  | x :: l, h => by
    show (prepCells x ++ prepsCells l).length = _
    rw [List.length_append, prep_len (h x (by simp)), preps_len (fun y hy => h y (by simp [hy])), List.length_cons]
    omega
theorem preps_split {l : List RepV} {r : Nat} {x : RepV} (h : l[r]? = some x) : prepsCells l = prepsCells (l.take r) ++ (prepCells x ++ prepsCells (l.drop (r + 1))) := by
  have hlt := (List.getElem?_eq_some_iff.1 h).1
  have hx : l[r] = x := (List.getElem?_eq_some_iff.1 h).2
  conv => lhs; rw [← List.take_append_drop r l, List.drop_eq_getElem_cons hlt, hx]
  unfold prepsCells
  rw [List.flatMap_append, List.flatMap_cons]
theorem preps_set {l : List RepV} {r : Nat} (hr : r < l.length) (x : RepV) : prepsCells (l.set r x) = prepsCells (l.take r) ++ (prepCells x ++ prepsCells (l.drop (r + 1))) := by
  rw [preps_split (l := l.set r x) (r := r) (x := x) (List.getElem?_set_self hr)]
  congr 2
  · rw [List.take_set, List.set_eq_of_length_le (by rw [List.length_take]; omega)]
  · rw [List.drop_set, if_pos (by omega)]

theorem box_cell {w : World} {g : Nat} {pre post : List Value} {x : RepV} (h : RBox w g pre post x) {j : Nat} {v : Value} (hj : (prepCells x)[j]? = some v) : w.cell? ⟨g, pre.length + j, none⟩ = some v := by
  rw [(heap_cells h).1, List.getElem?_toArray, List.getElem?_append_right (by omega), show pre.length + j - pre.length = j from by omega, List.getElem?_append_left (List.getElem?_eq_some_iff.1 hj).1]
  exact hj
theorem box_cells {w : World} {g : Nat} {pre post : List Value} {d : ByteArray} {sf n : Nat} {z0 z1 z2 z3 z4 z5 z6 z7 : Int} (h : RBox w g pre post ⟨d, sf, n, [z0, z1, z2, z3, z4, z5, z6, z7]⟩) :
    (w.cell? ⟨g, pre.length, none⟩ = some (.string d) ∧ w.cell? ⟨g, pre.length + 1, none⟩ = some (.int .i64 sf) ∧ w.cell? ⟨g, pre.length + 2, none⟩ = some (.int .i64 n) ∧ w.cell? ⟨g, pre.length + 3, none⟩ = some (.int .i16 z0) ∧ w.cell? ⟨g, pre.length + 4, none⟩ = some (.int .i16 z1) ∧ w.cell? ⟨g, pre.length + 5, none⟩ = some (.int .i16 z2) ∧ w.cell? ⟨g, pre.length + 6, none⟩ = some (.int .i16 z3) ∧ w.cell? ⟨g, pre.length + 7, none⟩ = some (.int .i16 z4) ∧ w.cell? ⟨g, pre.length + 8, none⟩ = some (.int .i16 z5) ∧ w.cell? ⟨g, pre.length + 9, none⟩ = some (.int .i16 z6) ∧ w.cell? ⟨g, pre.length + 10, none⟩ = some (.int .i16 z7)) ∧ (∀ y, w.frozen? ⟨g, y, none⟩ = false) ∧ g < w.heap.size :=
  ⟨⟨box_cell (j := 0) h rfl, box_cell (j := 1) h rfl, box_cell (j := 2) h rfl, box_cell (j := 3) h rfl, box_cell (j := 4) h rfl, box_cell (j := 5) h rfl, box_cell (j := 6) h rfl, box_cell (j := 7) h rfl, box_cell (j := 8) h rfl, box_cell (j := 9) h rfl, box_cell (j := 10) h rfl⟩, (heap_cells h).2.1, (heap_cells h).2.2⟩
theorem box_set {w : World} {g : Nat} {pre post : List Value} {x x' : RepV} (h : RBox w g pre post x) {j : Nat} {v : Value} (hj : j < (prepCells x).length) (hx : (prepCells x).set j v = prepCells x') : RBox (w.setCell ⟨g, pre.length + j, none⟩ v) g pre post x' := by
  unfold RBox
  rw [heap_set h]
  congr 2
  rw [List.setIfInBounds_toArray, List.set_append_right _ _ (by omega), show pre.length + j - pre.length = j from by omega, List.set_append_left _ _ hj, hx]
def set8o (w : World) (g off : Nat) (y0 y1 y2 y3 y4 y5 y6 y7 : Int) : World := (((((((w.setCell ⟨g, off + 3, none⟩ (.int .i16 y0)).setCell ⟨g, off + 4, none⟩ (.int .i16 y1)).setCell ⟨g, off + 5, none⟩ (.int .i16 y2)).setCell ⟨g, off + 6, none⟩ (.int .i16 y3)).setCell ⟨g, off + 7, none⟩ (.int .i16 y4)).setCell ⟨g, off + 8, none⟩ (.int .i16 y5)).setCell ⟨g, off + 9, none⟩ (.int .i16 y6)).setCell ⟨g, off + 10, none⟩ (.int .i16 y7)
theorem box_set8 {w : World} {g : Nat} {pre post : List Value} {d : ByteArray} {sf n : Nat} {z0 z1 z2 z3 z4 z5 z6 z7 : Int} (h : RBox w g pre post ⟨d, sf, n, [z0, z1, z2, z3, z4, z5, z6, z7]⟩) (y0 y1 y2 y3 y4 y5 y6 y7 : Int) :
    RBox (set8o w g pre.length y0 y1 y2 y3 y4 y5 y6 y7) g pre post ⟨d, sf, n, [y0, y1, y2, y3, y4, y5, y6, y7]⟩ ∧ Kept (fun k => k = g) w (set8o w g pre.length y0 y1 y2 y3 y4 y5 y6 y7) := by
  unfold set8o
  refine ⟨?_, ?_⟩
  · have h0 := box_set (x' := ⟨d, sf, n, [y0, z1, z2, z3, z4, z5, z6, z7]⟩) h (j := 3) (v := .int .i16 y0) (by rw [prep_len rfl]; decide) rfl
    have h1 := box_set (x' := ⟨d, sf, n, [y0, y1, z2, z3, z4, z5, z6, z7]⟩) h0 (j := 4) (v := .int .i16 y1) (by rw [prep_len rfl]; decide) rfl
    have h2 := box_set (x' := ⟨d, sf, n, [y0, y1, y2, z3, z4, z5, z6, z7]⟩) h1 (j := 5) (v := .int .i16 y2) (by rw [prep_len rfl]; decide) rfl
    have h3 := box_set (x' := ⟨d, sf, n, [y0, y1, y2, y3, z4, z5, z6, z7]⟩) h2 (j := 6) (v := .int .i16 y3) (by rw [prep_len rfl]; decide) rfl
    have h4 := box_set (x' := ⟨d, sf, n, [y0, y1, y2, y3, y4, z5, z6, z7]⟩) h3 (j := 7) (v := .int .i16 y4) (by rw [prep_len rfl]; decide) rfl
    have h5 := box_set (x' := ⟨d, sf, n, [y0, y1, y2, y3, y4, y5, z6, z7]⟩) h4 (j := 8) (v := .int .i16 y5) (by rw [prep_len rfl]; decide) rfl
    have h6 := box_set (x' := ⟨d, sf, n, [y0, y1, y2, y3, y4, y5, y6, z7]⟩) h5 (j := 9) (v := .int .i16 y6) (by rw [prep_len rfl]; decide) rfl
    exact box_set (x' := ⟨d, sf, n, [y0, y1, y2, y3, y4, y5, y6, y7]⟩) h6 (j := 10) (v := .int .i16 y7) (by rw [prep_len rfl]; decide) rfl
  · iterate 8 refine Kept.set (F := fun k => k = g) ?_ (.inl rfl) _
    exact Kept.refl _ w

end Go.Proofs.YtccckonckddadabGreat
namespace Go.Proofs.YtccckonckddadabGreat
open Go.RowKit
set_option linter.unusedVariables false

theorem rec_len8 {r : RecV} {cs : List Int} (h : cs.length = 8) : (doRec r cs).1.length = 8 := by
  unfold doRec
  split
  · exact h
  split
  · exact doV_len _ h
  · exact h

/-- Where do's loop stands. -/
structure DoAt (w wr : World) (g : Nat) (pre post : List Value) (d : ByteArray) (sf n : Nat) (cs cs' : List Int) (a : Option Addr) (m : Nat) (rs : List RecV) (k : Nat) : Prop where
  box : RBox wr g pre post ⟨d, sf, n, cs'⟩
  len : cs'.length = 8
  kept : Kept (fun x => x = g) w wr
  row : RecRow wr a m rs
  lt : ∀ ad, a = some ad → ad.block < w.heap.size ∧ ad.block ≠ g
  left : didRecs cs rs = didRecs cs' (rs.drop k)

/-- What a call on a replica leaves. -/
def RepPost (g : Nat) (pre post : List Value) (x : RepV) (w w' : World) : Prop := RBox w' g pre post x ∧ Kept (fun k => k = g) w w'

set_option maxRecDepth 100000 in
set_option maxHeartbeats 8000000 in
theorem repdo_any (g : Nat) (pre post : List Value) (d : ByteArray) (sf n : Nat) (cs : List Int) (a : Option Addr) (m c : Nat) (rs : List RecV) (w : World) (h : RBox w g pre post ⟨d, sf, n, cs⟩) (h8 : cs.length = 8) (hn : n ≤ 200) (hr : RecRow w a m rs) (hlt : ∀ ad, a = some ad → ad.block < w.heap.size ∧ ad.block ≠ g) (hm : m ≤ 255) :
    Calls Tryz.prog 100 #[.pointer (some ⟨g, pre.length, none⟩), .slice a m c] w fun e w' => e = .returned (.tuple #[]) ∧ RepPost g pre post ⟨d, sf, n + 1, didRecs cs rs⟩ w w' := by
  have H0 : Hid (DoAt w w g pre post d sf n cs cs a m rs 0) := ⟨h, h8, Kept.refl _ _, hr, hlt, rfl⟩
  have hlen := hr.len
  clear h hr hlt h8
  obtain ⟨off, hoff⟩ : ∃ x, pre.length = x := ⟨_, rfl⟩
  have HOff : Hid (pre.length = off) := hoff
  rewrite [hoff]
  clear hoff
  go_enter Tryz.func100, Tryz.ntmps100
  go_wp2
  go_loopw [4] (fun v4 wr => ∃ (k : Nat) (cs' : List Int), v4 = .int .i64 k ∧ k ≤ m ∧ Hid (DoAt w wr g pre post d sf n cs cs' a m rs k)) (fun v4 _ => m - (intOf v4).toNat)
  case atStart => exact ⟨0, cs, rfl, Nat.zero_le _, H0⟩
  case round =>
    obtain ⟨k, cs', rfl, hk, HL⟩ := hrel
    clear H0
    by_cases hkm : k < m
    · have hkl : k < rs.length := by omega
      obtain ⟨gR, ofr, rfl, hgR, hcell⟩ : ∃ gR off, a = some ⟨gR, off, none⟩ ∧ gR < wr.heap.size ∧ ∀ (k : Nat) (r : RecV), rs[k]? = some r → wr.cell? ⟨gR, off + k * 4, none⟩ = some (.int .i64 r.c) ∧ wr.cell? ⟨gR, off + k * 4 + 1, none⟩ = some (.int .i64 r.i) ∧ wr.cell? ⟨gR, off + k * 4 + 2, none⟩ = some (.bool r.l) ∧ wr.cell? ⟨gR, off + k * 4 + 3, none⟩ = some (.string r.t) := by
        rcases HL.out.row.cells with h0 | ⟨gR, off, h1, h2, h3⟩
        · omega
        · exact ⟨gR, off, h1, h2, h3⟩
      obtain ⟨r0, r1, r2, r3⟩ := hcell k rs[k] (List.getElem?_eq_getElem hkl)
      have hrt := HL.out.row.small rs[k] (List.getElem_mem hkl)
      have HDr : Hid (didRecs cs' (rs.drop k) = didRecs (doRec rs[k] cs').1 (rs.drop (k + 1))) := by
        show _ = _
        rw [List.drop_eq_getElem_cons hkl]; rfl
      have HFree : Hid (gR < w.heap.size ∧ gR ≠ g) := HL.out.lt _ rfl
      clear hcell
      generalize rs[k] = r at *
      obtain ⟨z0, z1, z2, z3, z4, z5, z6, z7, hzs⟩ := list8' cs' HL.out.len
      subst hzs
      obtain ⟨⟨_, _, _, e0, e1, e2, e3, e4, e5, e6, e7⟩, fz, hg⟩ := box_cells HL.out.box
      rw [HOff.out] at e0 e1 e2 e3 e4 e5 e6 e7
      obtain ⟨rc, ri, rl, rt⟩ := r
      simp only at r0 r1 r2 r3 hrt
      obtain ⟨y0, y1, y2, y3, y4, y5, y6, y7, hys⟩ := list8' (doRec ⟨rc, ri, rl, rt⟩ [z0, z1, z2, z3, z4, z5, z6, z7]).1 (rec_len8 rfl)
      obtain ⟨st, hst⟩ : ∃ x, (doRec ⟨rc, ri, rl, rt⟩ [z0, z1, z2, z3, z4, z5, z6, z7]).2 = x := ⟨_, rfl⟩
      rw [hys] at HDr
      have HCd : Hid (∀ W, Calls Tryz.prog 118 #[.agg #[.int .i64 rc, .int .i64 ri, .bool rl, .string rt], .agg #[.int .i16 z0, .int .i16 z1, .int .i16 z2, .int .i16 z3, .int .i16 z4, .int .i16 z5, .int .i16 z6, .int .i16 z7]] W fun e w' => e = .returned (.tuple #[.agg #[.int .i16 y0, .int .i16 y1, .int .i16 y2, .int .i16 y3, .int .i16 y4, .int .i16 y5, .int .i16 y6, .int .i16 y7], .int .u8 st]) ∧ Below W.heap.size W w' ∧ (∀ b x, b < W.heap.size → w'.cell? ⟨b, x, none⟩ = W.cell? ⟨b, x, none⟩) ∧ (∀ b x, b < W.heap.size → w'.frozen? ⟨b, x, none⟩ = W.frozen? ⟨b, x, none⟩) ∧ W.heap.size ≤ w'.heap.size) := fun W =>
        (edo_any rc ri rl rt z0 z1 z2 z3 z4 z5 z6 z7 W hrt).mono (by
          rintro e w' ⟨p0, p1, p2, p3, p4, p5, p6, p7, rfl, hp, hb⟩
          rw [hys] at hp
          simp only [List.cons.injEq, and_true] at hp
          obtain ⟨rfl, rfl, rfl, rfl, rfl, rfl, rfl, rfl⟩ := hp
          rw [hst]
          exact ⟨rfl, hb, (bcell hb).1, (bcell hb).2, hb.size⟩)
      clear hys hst
      have k1 : (k : Int) < (m : Int) := by omega
      have k0 : (0 : Int) ≤ (k : Int) := by omega
      go_wp2
      go_region_held3 (fun W => Below wr.heap.size wr W ∧ (∀ b x, b < wr.heap.size → W.cell? ⟨b, x, none⟩ = wr.cell? ⟨b, x, none⟩))
        (first | (with_reducible exact doS_0) | (with_reducible exact doS_1) | (with_reducible exact doS_2 ‹_›) | (with_reducible exact doS_3 ‹_›) | (with_reducible exact doS_4 ‹_›) | (with_reducible exact doS_5 ‹_›))
        (first | (go_at_call 118; refine (HCd.out _).mono ?_; rintro e w9 ⟨rfl, hB9, hc9, hf9, hz9⟩))
      all_goals
        first
        | (have hX : Below wr.heap.size wr (w9.alloc (.cells #[.int .i16 y0, .int .i16 y1, .int .i16 y2, .int .i16 y3, .int .i16 y4, .int .i16 y5, .int .i16 y6, .int .i16 y7] 37)) ∧ (w9.alloc (.cells #[.int .i16 y0, .int .i16 y1, .int .i16 y2, .int .i16 y3, .int .i16 y4, .int .i16 y5, .int .i16 y6, .int .i16 y7] 37)).heap[w9.heap.size]? = some (.cells #[.int .i16 y0, .int .i16 y1, .int .i16 y2, .int .i16 y3, .int .i16 y4, .int .i16 y5, .int .i16 y6, .int .i16 y7] 37) := ⟨(doS_4 hB9).1, heap_alloc_new w9 _⟩
           clear hB9 hc9 hf9 hz9
           generalize w9.heap.size = gc at *
           generalize w9.alloc (.cells #[.int .i16 y0, .int .i16 y1, .int .i16 y2, .int .i16 y3, .int .i16 y4, .int .i16 y5, .int .i16 y6, .int .i16 y7] 37) = W6 at *)
        | (have hX : Below wr.heap.size wr ((((((((w9.setCell ⟨wr.heap.size, 0, none⟩ (.int .i16 y0)).setCell ⟨wr.heap.size, 1, none⟩ (.int .i16 y1)).setCell ⟨wr.heap.size, 2, none⟩ (.int .i16 y2)).setCell ⟨wr.heap.size, 3, none⟩ (.int .i16 y3)).setCell ⟨wr.heap.size, 4, none⟩ (.int .i16 y4)).setCell ⟨wr.heap.size, 5, none⟩ (.int .i16 y5)).setCell ⟨wr.heap.size, 6, none⟩ (.int .i16 y6)).setCell ⟨wr.heap.size, 7, none⟩ (.int .i16 y7)) ∧ ((((((((w9.setCell ⟨wr.heap.size, 0, none⟩ (.int .i16 y0)).setCell ⟨wr.heap.size, 1, none⟩ (.int .i16 y1)).setCell ⟨wr.heap.size, 2, none⟩ (.int .i16 y2)).setCell ⟨wr.heap.size, 3, none⟩ (.int .i16 y3)).setCell ⟨wr.heap.size, 4, none⟩ (.int .i16 y4)).setCell ⟨wr.heap.size, 5, none⟩ (.int .i16 y5)).setCell ⟨wr.heap.size, 6, none⟩ (.int .i16 y6)).setCell ⟨wr.heap.size, 7, none⟩ (.int .i16 y7)).heap[wr.heap.size]? = some (.cells #[.int .i16 y0, .int .i16 y1, .int .i16 y2, .int .i16 y3, .int .i16 y4, .int .i16 y5, .int .i16 y6, .int .i16 y7] 37) := ⟨(doS_5 hB9).1, set8 ((hB9.block wr.heap.size (by show _ < (wr.alloc _).heap.size; simp)).trans (heap_alloc_new wr _)) (.int .i16 y0) (.int .i16 y1) (.int .i16 y2) (.int .i16 y3) (.int .i16 y4) (.int .i16 y5) (.int .i16 y6) (.int .i16 y7)⟩
           clear hB9 hc9 hf9 hz9
           generalize hgc : wr.heap.size = gc at *
           generalize (((((((((w9.setCell ⟨gc, 0, none⟩ (.int .i16 y0)).setCell ⟨gc, 1, none⟩ (.int .i16 y1)).setCell ⟨gc, 2, none⟩ (.int .i16 y2)).setCell ⟨gc, 3, none⟩ (.int .i16 y3)).setCell ⟨gc, 4, none⟩ (.int .i16 y4)).setCell ⟨gc, 5, none⟩ (.int .i16 y5)).setCell ⟨gc, 6, none⟩ (.int .i16 y6)).setCell ⟨gc, 7, none⟩ (.int .i16 y7))) = W6 at *
           obtain ⟨hX1, hX2⟩ := hX
           rw [← hgc] at hX1 hg hgR
           have hX := And.intro hX1 hX2
           clear hgc hX1 hX2)
        have HS6 : Hid (RBox W6 g pre post ⟨d, sf, n, [z0, z1, z2, z3, z4, z5, z6, z7]⟩) := (hX.1.block g hg).trans HL.out.box
        obtain ⟨⟨_, _, _, p0, p1, p2, p3, p4, p5, p6, p7⟩, f6, hg6⟩ := box_cells HS6.out
        rw [HOff.out] at p0 p1 p2 p3 p4 p5 p6 p7
        obtain ⟨cg, fg, zg⟩ := heap_cells hX.2
        have HS7 : Hid _ := box_set8 HS6.out y0 y1 y2 y3 y4 y5 y6 y7
        have HB6 : Hid (Below wr.heap.size wr W6) := hX.1
        go_wp2
        clear p0 p1 p2 p3 p4 p5 p6 p7 cg fg f6 hX e0 e1 e2 e3 e4 e5 e6 e7
        rw [HOff.out] at HS7
        have hW7 : (((((((W6.setCell ⟨g, off + 3, none⟩ (.int .i16 y0)).setCell ⟨g, off + 4, none⟩ (.int .i16 y1)).setCell ⟨g, off + 5, none⟩ (.int .i16 y2)).setCell ⟨g, off + 6, none⟩ (.int .i16 y3)).setCell ⟨g, off + 7, none⟩ (.int .i16 y4)).setCell ⟨g, off + 8, none⟩ (.int .i16 y5)).setCell ⟨g, off + 9, none⟩ (.int .i16 y6)).setCell ⟨g, off + 10, none⟩ (.int .i16 y7) = set8o W6 g off y0 y1 y2 y3 y4 y5 y6 y7 := rfl
        rw [hW7]
        have HN : Hid (DoAt w (set8o W6 g off y0 y1 y2 y3 y4 y5 y6 y7) g pre post d sf n cs [y0, y1, y2, y3, y4, y5, y6, y7] (some ⟨gR, ofr, none⟩) m rs (k + 1)) := by
          have hKK : Kept (fun x => x = g) wr (set8o W6 g off y0 y1 y2 y3 y4 y5 y6 y7) := (Kept.of HB6.out).trans HS7.out.2 (fun _ _ hf => hf)
          refine ⟨HS7.out.1, rfl, HL.out.kept.trans hKK (fun _ _ hf => hf), HL.out.row.same hKK.size (fun ad had => ?_), HL.out.lt, HL.out.left.trans HDr.out⟩
          obtain rfl : (⟨gR, ofr, none⟩ : Addr) = ad := Option.some.inj had
          exact hKK.block gR hgR HFree.out.2
        clear HS7 HS6 HB6 hW7
        generalize set8o W6 g off y0 y1 y2 y3 y4 y5 y6 y7 = W7 at *
        go_wp2
        go_roundw
        case rel => exact ⟨k + 1, _, by go_num, by omega, HN⟩
        case measure => simp [intOf]; omega
    · have hkm' : k = m := by omega
      subst hkm'
      have HE : Hid (didRecs cs rs = cs') := by
        show _ = _
        rw [HL.out.left, List.drop_of_length_le (by omega)]; rfl
      obtain ⟨z0, z1, z2, z3, z4, z5, z6, z7, hzs⟩ := list8' cs' HL.out.len
      subst hzs
      obtain ⟨⟨_, _, e2, _⟩, fz, hg⟩ := box_cells HL.out.box
      rw [HOff.out] at e2
      have HP : Hid (RepPost g pre post ⟨d, sf, n + 1, [z0, z1, z2, z3, z4, z5, z6, z7]⟩ w (wr.setCell ⟨g, off + 2, none⟩ (.int .i64 ((n : Int) + 1)))) := by
        refine ⟨?_, Kept.set (F := fun k => k = g) HL.out.kept (.inl rfl) _⟩
        rw [← HOff.out]
        exact box_set (x' := ⟨d, sf, n + 1, [z0, z1, z2, z3, z4, z5, z6, z7]⟩) HL.out.box (j := 2) (by rw [prep_len rfl]; decide) rfl
      have hw : IntKind.i64.wrap ((n : Int) + 1) = (n : Int) + 1 := wrap_i64_id (by omega) (by omega)
      go_wp2
      go_end0
      exact ⟨rfl, by rw [HE.out]; exact HP.out⟩

end Go.Proofs.YtccckonckddadabGreat
namespace Go.Proofs.YtccckonckddadabGreat
open Go.RowKit
set_option linter.unusedVariables false

theorem rbox_below {w w' : World} {g : Nat} {pre post : List Value} {x : RepV} (h : RBox w g pre post x) (hb : Below w.heap.size w w') : RBox w' g pre post x := (hb.block g (heap_cells h).2.2).trans h
theorem RepPost.below {w w' : World} {g : Nat} {pre post : List Value} {x : RepV} (h : RBox w g pre post x) (hb : Below w.heap.size w w') : RepPost g pre post x w w' := ⟨rbox_below h hb, Kept.of hb⟩

/-! ### Take -/
def takeV (x : RepV) (n : Nat) (b : ByteArray) (rs : List RecV) : RepV × Int := if n < x.count then (x, 12) else if x.count < n then (x, 13) else (⟨x.disk ++ b, x.safe, x.count + 1, didRecs x.cells rs⟩, 0)

theorem rtake_no (g : Nat) (pre post : List Value) (x : RepV) (n : Int) (w : World) (h : RBox w g pre post x) :
    Calls Tryz.prog 68 #[.pointer (some ⟨g, pre.length, none⟩), .int .i64 n, .string ⟨#[]⟩] w fun e w' => e = .returned (.int .i64 10) ∧ RepPost g pre post x w w' := by
  have H : Hid _ := h
  clear h
  generalize pre.length = off at *
  go_enter Tryz.func68, Tryz.ntmps68
  go_wp2_with fail
  refine (read_none n w).mono ?_
  rintro e w1 ⟨rfl, hb⟩
  have HB : Hid _ := hb
  clear hb
  go_wp2
  go_ret
  exact ⟨rfl, RepPost.below H.out HB.out⟩

set_option maxRecDepth 100000 in
set_option maxHeartbeats 4000000 in
theorem rtake_any (g : Nat) (pre post : List Value) (d : ByteArray) (sf c : Nat) (cs : List Int) (n : Nat) (b : ByteArray) (rs : List RecV) (w : World) (h : RBox w g pre post ⟨d, sf, c, cs⟩) (h8 : cs.length = 8) (hc : c ≤ 200) (hn : n ≤ 199) (hd : d.size ≤ 2000000) (hbs : b.size ≤ 4232) (hb : b.data.toList = Dk.epoch n (recs rs)) (hf : Dk.frameOk (n : Int) (recs rs) = true) :
    Calls Tryz.prog 68 #[.pointer (some ⟨g, pre.length, none⟩), .int .i64 (n : Int), .string b] w fun e w' => e = .returned (.int .i64 (takeV ⟨d, sf, c, cs⟩ n b rs).2) ∧ RepPost g pre post (takeV ⟨d, sf, c, cs⟩ n b rs).1 w w' := by
  have HRd : Hid (Dk.readV n b.data.toList = some (recs rs, [])) := by
    show _ = _
    rw [hb, ← List.append_nil (Dk.epoch n (recs rs))]
    exact Dk.read_of [] hf
  have H : Hid _ := h
  have HV : Hid (takeV ⟨d, sf, c, cs⟩ n b rs = if n < c then (⟨d, sf, c, cs⟩, 12) else if c < n then (⟨d, sf, c, cs⟩, 13) else (⟨d ++ b, sf, c + 1, didRecs cs rs⟩, 0)) := rfl
  clear h hb hf
  obtain ⟨off, hoff⟩ : ∃ x, pre.length = x := ⟨_, rfl⟩
  have HOff : Hid (pre.length = off) := hoff
  rewrite [hoff]
  clear hoff
  go_enter Tryz.func68, Tryz.ntmps68
  go_wp2_with fail
  refine (read_any n b w (by omega) (by unfold maxLen; omega)).mono ?_
  rintro e w1 ⟨a, m, ca, b1, rfl, hv, hB⟩
  obtain ⟨_, rv, hrv, hrow, hm, hfr⟩ := hv _ _ HRd.out
  obtain rfl := recs_inj hrv
  have HB : Hid _ := hB
  have HRow : Hid _ := hrow
  have HFr : Hid _ := hfr
  have HBx : Hid (RBox w1 g pre post ⟨d, sf, c, cs⟩) := rbox_below H.out hB
  have hgw : g < w.heap.size := (heap_cells H.out).2.2
  rewrite [HRd.out]
  obtain ⟨z0, z1, z2, z3, z4, z5, z6, z7, hzs⟩ := list8' cs h8
  have e02 : w1.cell? ⟨g, off, none⟩ = some (.string d) ∧ w1.cell? ⟨g, off + 2, none⟩ = some (.int .i64 (c : Int)) ∧ (∀ y, w1.frozen? ⟨g, y, none⟩ = false) ∧ g < w1.heap.size := by
    have h1 := HBx.out
    rw [hzs] at h1
    obtain ⟨⟨q0, _, q2, _⟩, fz, hg⟩ := box_cells h1
    rw [HOff.out] at q0 q2
    exact ⟨q0, q2, fz, hg⟩
  obtain ⟨e0, e2, fz, hg1⟩ := e02
  clear hv hrv hrow hB hfr hzs
  by_cases h1 : n < c
  · have h1i : (n : Int) < (c : Int) := by omega
    have HX : Hid (takeV ⟨d, sf, c, cs⟩ n b rs = (⟨d, sf, c, cs⟩, 12)) := by show _ = _; rw [HV.out, if_pos h1]
    go_wp2
    go_ret
    rw [HX.out]
    exact ⟨rfl, RepPost.below H.out HB.out⟩
  · have h1i : ¬ (n : Int) < (c : Int) := by omega
    by_cases h2 : c < n
    · have h2i : (c : Int) < (n : Int) := by omega
      have HX : Hid (takeV ⟨d, sf, c, cs⟩ n b rs = (⟨d, sf, c, cs⟩, 13)) := by show _ = _; rw [HV.out, if_neg h1, if_pos h2]
      go_wp2
      go_ret
      rw [HX.out]
      exact ⟨rfl, RepPost.below H.out HB.out⟩
    · have h2i : ¬ (c : Int) < (n : Int) := by omega
      have HX : Hid (takeV ⟨d, sf, c, cs⟩ n b rs = (⟨d ++ b, sf, c + 1, didRecs cs rs⟩, 0)) := by show _ = _; rw [HV.out, if_neg h1, if_neg h2]
      have y1 : ¬ 9223372036854775807 < d.size + b.size := by omega
      have HB2 : Hid (RBox (w1.setCell ⟨g, off, none⟩ (.string (d ++ b))) g pre post ⟨d ++ b, sf, c, cs⟩ ∧ Kept (fun k => k = g) w1 (w1.setCell ⟨g, off, none⟩ (.string (d ++ b)))) := by
        refine ⟨?_, Kept.set (F := fun k => k = g) (Kept.refl _ _) (.inl rfl) _⟩
        have := box_set (x' := ⟨d ++ b, sf, c, cs⟩) HBx.out (j := 0) (v := .string (d ++ b)) (by rw [prep_len h8]; decide) rfl
        rw [HOff.out] at this
        exact this
      have HR2 : Hid (RecRow (w1.setCell ⟨g, off, none⟩ (.string (d ++ b))) a m rs ∧ ∀ ad, a = some ad → ad.block < (w1.setCell ⟨g, off, none⟩ (.string (d ++ b))).heap.size ∧ ad.block ≠ g) := by
        refine ⟨HRow.out.same HB2.out.2.size (fun ad had => ?_), fun ad had => ?_⟩
        · have h3 := HFr.out ad had
          exact HB2.out.2.block _ h3.2 (by show ¬ ad.block = g; omega)
        · have h3 := HFr.out ad had
          have h4 := HB2.out.2.size
          exact ⟨by omega, by omega⟩
      go_wp2_with fail
      rw [← HOff.out] at HB2 HR2 ⊢
      refine (repdo_any g pre post (d ++ b) sf c cs a m ca rs _ HB2.out.1 h8 (by omega) HR2.out.1 HR2.out.2 hm).mono ?_
      rintro e w3 ⟨rfl, hP⟩
      have HP : Hid _ := hP
      clear hP
      go_wp2
      go_ret
      rw [HX.out]
      exact ⟨rfl, HP.out.1, ((Kept.of HB.out).trans HB2.out.2 (fun _ _ hh => hh)).trans HP.out.2 (fun _ _ hh => hh)⟩

/-! ### Sync, Disk, Count -/
theorem rsync_any (g : Nat) (pre post : List Value) (d : ByteArray) (sf c : Nat) (cs : List Int) (w : World) (h : RBox w g pre post ⟨d, sf, c, cs⟩) (h8 : cs.length = 8) :
    Calls Tryz.prog 69 #[.pointer (some ⟨g, pre.length, none⟩)] w fun e w' => e = .returned (.tuple #[]) ∧ RepPost g pre post ⟨d, d.size, c, cs⟩ w w' := by
  obtain ⟨z0, z1, z2, z3, z4, z5, z6, z7, rfl⟩ := list8' cs h8
  obtain ⟨⟨e0, e1, _⟩, fz, hg⟩ := box_cells h
  have HP : Hid (RepPost g pre post ⟨d, d.size, c, [z0, z1, z2, z3, z4, z5, z6, z7]⟩ w (w.setCell ⟨g, pre.length + 1, none⟩ (.int .i64 (d.size : Int)))) :=
    ⟨box_set (x' := ⟨d, d.size, c, [z0, z1, z2, z3, z4, z5, z6, z7]⟩) h (j := 1) (by rw [prep_len rfl]; decide) rfl, Kept.set (F := fun k => k = g) (Kept.refl _ _) (.inl rfl) _⟩
  clear h
  generalize pre.length = off at *
  go_enter Tryz.func69, Tryz.ntmps69
  go_wp2
  go_end0
  exact ⟨rfl, HP.out⟩
theorem rdisk_any (g : Nat) (pre post : List Value) (d : ByteArray) (sf c : Nat) (cs : List Int) (w : World) (h : RBox w g pre post ⟨d, sf, c, cs⟩) (h8 : cs.length = 8) :
    Calls Tryz.prog 74 #[.pointer (some ⟨g, pre.length, none⟩)] w fun e w' => e = .returned (.string d) ∧ w' = w := by
  obtain ⟨z0, z1, z2, z3, z4, z5, z6, z7, rfl⟩ := list8' cs h8
  obtain ⟨⟨e0, _⟩, fz, hg⟩ := box_cells h
  clear h
  generalize pre.length = off at *
  go_enter Tryz.func74, Tryz.ntmps74
  go_wp2
  go_ret
  exact ⟨rfl, rfl⟩
theorem rcount_any (g : Nat) (pre post : List Value) (d : ByteArray) (sf c : Nat) (cs : List Int) (w : World) (h : RBox w g pre post ⟨d, sf, c, cs⟩) (h8 : cs.length = 8) :
    Calls Tryz.prog 75 #[.pointer (some ⟨g, pre.length, none⟩)] w fun e w' => e = .returned (.int .i64 (c : Int)) ∧ w' = w := by
  obtain ⟨z0, z1, z2, z3, z4, z5, z6, z7, rfl⟩ := list8' cs h8
  obtain ⟨⟨_, _, e2, _⟩, fz, hg⟩ := box_cells h
  clear h
  generalize pre.length = off at *
  go_enter Tryz.func75, Tryz.ntmps75
  go_wp2
  go_ret
  exact ⟨rfl, rfl⟩

/-! ### Get -/
theorem key_cases {k : ByteArray} (h : keyOk k = true) : ∃ j : Nat, j < 8 ∧ k = ⟨#[UInt8.ofNat (97 + j)]⟩ := by
  unfold keyOk at h
  simp only [Bool.and_eq_true, decide_eq_true_eq] at h
  obtain ⟨h1, h2⟩ := h
  obtain ⟨l, hl⟩ : ∃ l, k.data.toList = l := ⟨_, rfl⟩
  have hlen : l.length = 1 := by rw [← hl, len_list]; exact h1
  match l, hlen, hl with
  | [x], _, hl =>
    rw [hl] at h2
    have h3 : 97 ≤ (x.toNat : Int) ∧ (x.toNat : Int) ≤ 104 := of_decide_eq_true h2
    refine ⟨x.toNat - 97, by omega, bytes_eq ?_⟩
    rw [hl]
    show [x] = [UInt8.ofNat (97 + (x.toNat - 97))]
    rw [show 97 + (x.toNat - 97) = x.toNat from by omega]
    simp
set_option maxHeartbeats 4000000 in
theorem rget_yes (g : Nat) (pre post : List Value) (d : ByteArray) (sf c : Nat) (cs : List Int) (j : Nat) (w : World) (h : RBox w g pre post ⟨d, sf, c, cs⟩) (h8 : cs.length = 8) (h16 : Dk.All16 cs) (hj : j < 8) :
    Calls Tryz.prog 76 #[.pointer (some ⟨g, pre.length, none⟩), .string ⟨#[UInt8.ofNat (97 + j)]⟩] w fun e w' => e = .returned (.tuple #[.int .i64 (cs.getD j 0), .int .i64 0]) ∧ Below w.heap.size w w' := by
  obtain ⟨z0, z1, z2, z3, z4, z5, z6, z7, rfl⟩ := list8' cs h8
  obtain ⟨⟨_, _, _, e0, e1, e2, e3, e4, e5, e6, e7⟩, fz, hg⟩ := box_cells h
  have hw : ∀ x ∈ [z0, z1, z2, z3, z4, z5, z6, z7], IntKind.i64.wrap x = x := fun x hx => by
    have := h16 x hx
    unfold Dk.In16 at this
    unfold IntKind.wrap
    simp [IntKind.bits, IntKind.signed]
    omega
  simp only [List.mem_cons, List.not_mem_nil, or_false, forall_eq_or_imp, forall_eq] at hw
  obtain ⟨w0, w1, w2, w3, w4, w5, w6, w7⟩ := hw
  clear h
  generalize pre.length = off at *
  have hb0 : ∀ (c : UInt8) h, ((⟨#[c]⟩ : ByteArray)[0]'h) = c := fun _ _ => rfl
  have hjj : j = 0 ∨ j = 1 ∨ j = 2 ∨ j = 3 ∨ j = 4 ∨ j = 5 ∨ j = 6 ∨ j = 7 := by omega
  rcases hjj with rfl | rfl | rfl | rfl | rfl | rfl | rfl | rfl
  all_goals
    go_enter Tryz.func76, Tryz.ntmps76
    go_wp2
    go_region
    go_wp2
    go_ret2
    exact ⟨rfl, (Below.refl _ _).drew⟩
set_option maxHeartbeats 4000000 in
theorem rget_no (g off : Nat) (k : ByteArray) (w : World) (hs : k.size ≤ maxLen) (hk : keyOk k = false) :
    Calls Tryz.prog 76 #[.pointer (some ⟨g, off, none⟩), .string k] w fun e w' => e = .returned (.tuple #[.int .i64 0, .int .i64 14]) ∧ Below w.heap.size w w' := by
  unfold maxLen at hs
  by_cases h1 : k.size = 1
  · have hk0 : (k[0]'(by omega)).toNat < 97 ∨ 104 < (k[0]'(by omega)).toNat := by
      unfold keyOk at hk
      rw [decide_eq_true h1, Bool.true_and] at hk
      unfold Dk.isK at hk
      have e : k.data.toList.headD 0 = k[0]'(by omega) := by
        have h2 := getD_list k 0 (by omega)
        rw [← h2]
        cases hl : k.data.toList with
        | nil => rfl
        | cons a b => rfl
      rw [e] at hk
      simp only [decide_eq_false_iff_not] at hk
      omega
    have j0 : (0 : Int) < (k.size : Int) := by omega
    have k0 : 0 < k.size := by omega
    have hb := byte_bd (k[0]'(by omega))
    have h1i : ((k.size : Int) != 1) = false := by rw [bne_eq_false_iff_eq]; omega
    rcases hk0 with h2 | h2
    · have h2i : ((k[0]'(by omega)).toNat : Int) < 97 := by omega
      go_enter Tryz.func76, Tryz.ntmps76
      go_wp2
      go_ret2
      exact ⟨rfl, Below.refl _ _⟩
    · have h2i : (104 : Int) < ((k[0]'(by omega)).toNat : Int) := by omega
      have h3i : ¬ ((k[0]'(by omega)).toNat : Int) < 97 := by omega
      go_enter Tryz.func76, Tryz.ntmps76
      go_wp2
      go_ret2
      exact ⟨rfl, Below.refl _ _⟩
  · have h1i : ((k.size : Int) != 1) = true := by rw [bne_iff_ne]; omega
    go_enter Tryz.func76, Tryz.ntmps76
    go_wp2
    go_ret2
    exact ⟨rfl, Below.refl _ _⟩

end Go.Proofs.YtccckonckddadabGreat
namespace Go.Proofs.YtccckonckddadabGreat
open Go.RowKit
set_option linter.unusedVariables false

/-! ### leftBy -/
theorem ext_take (s : ByteArray) (p : Nat) : (s.extract 0 p).data.toList = s.data.toList.take p := by
  rw [ByteArray.data_extract, Array.toList_extract]
  simp
set_option maxHeartbeats 4000000 in
theorem rleft_any (g : Nat) (pre post : List Value) (d : ByteArray) (sf c : Nat) (cs : List Int) (keep : Int) (w : World) (h : RBox w g pre post ⟨d, sf, c, cs⟩) (h8 : cs.length = 8) (hd : d.size ≤ 2000000) (hs : sf ≤ d.size) :
    Calls Tryz.prog 101 #[.pointer (some ⟨g, pre.length, none⟩), .int .i64 keep] w fun e w' => (∃ b : ByteArray, e = .returned (.string b) ∧ b.data.toList = d.data.toList.take (leftN d.size sf keep)) ∧ Below w.heap.size w w' := by
  obtain ⟨z0, z1, z2, z3, z4, z5, z6, z7, rfl⟩ := list8' cs h8
  obtain ⟨⟨e0, e1, _⟩, fz, hg⟩ := box_cells h
  have HV : Hid (leftN d.size sf keep = if (d.size : Int) - sf ≤ 0 ∨ (d.size : Int) - sf ≤ keep then d.size else sf + keep.toNat) := rfl
  have HB1 : Hid (Below w.heap.size w w.drew) := (Below.refl _ _).drew
  have HB2 : Hid (Below w.heap.size w w.drew.drew) := (Below.refl _ _).drew.drew
  have HW : Hid (d.data.toList.take d.size = d.data.toList) := List.take_of_length_le (by rw [len_list]; exact Nat.le_refl _)
  clear h
  generalize pre.length = off at *
  have hw1 : IntKind.i64.wrap ((d.size : Int) - (sf : Int)) = (d.size : Int) - (sf : Int) := wrap_i64_id (by omega) (by omega)
  by_cases h1 : (d.size : Int) - sf ≤ 0
  · have HX : Hid (leftN d.size sf keep = d.size) := by show _ = _; rw [HV.out, if_pos (.inl h1)]
    go_enter Tryz.func101, Tryz.ntmps101
    go_wp2
    go_region
    go_wp2
    go_ret
    exact ⟨⟨d, rfl, by rw [HX.out, HW.out]⟩, HB1.out⟩
  by_cases h2 : (d.size : Int) - sf ≤ keep
  · have HX : Hid (leftN d.size sf keep = d.size) := by show _ = _; rw [HV.out, if_pos (.inr h2)]
    have h1' : ¬ ((d.size : Int) - sf ≤ 0) := h1
    go_enter Tryz.func101, Tryz.ntmps101
    go_wp2
    go_region
    go_wp2
    go_ret
    exact ⟨⟨d, rfl, by rw [HX.out, HW.out]⟩, HB1.out⟩
  have HX : Hid (leftN d.size sf keep = sf + keep.toNat) := by show _ = _; rw [HV.out, if_neg (by omega)]
  by_cases h3 : keep < 0
  · have hz : keep.toNat = 0 := by omega
    rw [hz, Nat.add_zero] at HX
    have hs1 : (sf : Int) ≤ (d.size : Int) := by omega
    have hs0 : (0 : Int) ≤ (sf : Int) := by omega
    go_enter Tryz.func101, Tryz.ntmps101
    go_wp2
    go_region
    go_wp2
    go_region
    go_wp2
    go_ret
    exact ⟨⟨_, rfl, by rw [HX.out]; exact ext_take d sf⟩, HB2.out⟩
  · obtain ⟨kn, rfl⟩ : ∃ kn : Nat, keep = kn := ⟨keep.toNat, by omega⟩
    rw [Int.toNat_natCast] at HX
    have hw2 : IntKind.i64.wrap ((sf : Int) + (kn : Int)) = (sf : Int) + (kn : Int) := wrap_i64_id (by omega) (by omega)
    have hs1 : (sf : Int) + (kn : Int) ≤ (d.size : Int) := by omega
    have hs0 : (0 : Int) ≤ (sf : Int) + (kn : Int) := by omega
    have h3' : ¬ (kn : Int) < 0 := h3
    go_enter Tryz.func101, Tryz.ntmps101
    go_wp2
    go_region
    go_wp2
    go_region
    go_wp2
    go_ret
    exact ⟨⟨_, rfl, by rw [HX.out]; exact ext_take d (sf + kn)⟩, HB2.out⟩

/-! ### startFrom -/
def didEps (cs : List Int) (es : List (List RecV)) : List Int := es.foldl didRecs cs
theorem didRecs_len : ∀ (rs : List RecV) {cs : List Int}, cs.length = 8 → (didRecs cs rs).length = 8
  | [], cs, h => h
  | r :: rs, cs, h => didRecs_len rs (rec_len8 h)
theorem didEps_len : ∀ (es : List (List RecV)) {cs : List Int}, cs.length = 8 → (didEps cs es).length = 8
  | [], cs, h => h
  | e :: es, cs, h => didEps_len es (didRecs_len e h)
theorem didEps_snoc (cs : List Int) (es : List (List RecV)) (rs : List RecV) : didEps cs (es ++ [rs]) = didRecs (didEps cs es) rs := by unfold didEps; rw [List.foldl_append]; rfl
theorem logFrom_cut {es : List (List Dk.Rec)} {k n : Nat} (hk : k < es.length) : Dk.logFrom (n + k) (es.drop k) = Dk.epoch (n + k) es[k] ++ Dk.logFrom (n + k + 1) (es.drop (k + 1)) := by
  rw [List.drop_eq_getElem_cons hk]; rfl

/-- Where startFrom's loop stands. -/
structure StartAt (w wr : World) (es : List (List RecV)) (r : List UInt8) (k : Nat) (rest : ByteArray) : Prop where
  box : RBox wr (w.heap.size + 1) [] [] ⟨⟨#[]⟩, 0, k, didEps [0, 0, 0, 0, 0, 0, 0, 0] (es.take k)⟩
  kept : Kept (fun x => x = w.heap.size + 1) ((w.alloc (.cells #[.string ⟨#[]⟩, .int .i64 0, .int .i64 0, .int .i16 0, .int .i16 0, .int .i16 0, .int .i16 0, .int .i16 0, .int .i16 0, .int .i16 0, .int .i16 0] 147)).alloc (.cells #[.string ⟨#[]⟩, .int .i64 0, .int .i64 0, .int .i16 0, .int .i16 0, .int .i16 0, .int .i16 0, .int .i16 0, .int .i16 0, .int .i16 0, .int .i16 0] 147)) wr
  rest : rest.data.toList = Dk.logFrom k ((es.map recs).drop k) ++ r

def set11 (w : World) (g off : Nat) (v0 v1 v2 v3 v4 v5 v6 v7 v8 v9 v10 : Value) : World := ((((((((((w.setCell ⟨g, off, none⟩ v0).setCell ⟨g, off + 1, none⟩ v1).setCell ⟨g, off + 2, none⟩ v2).setCell ⟨g, off + 3, none⟩ v3).setCell ⟨g, off + 4, none⟩ v4).setCell ⟨g, off + 5, none⟩ v5).setCell ⟨g, off + 6, none⟩ v6).setCell ⟨g, off + 7, none⟩ v7).setCell ⟨g, off + 8, none⟩ v8).setCell ⟨g, off + 9, none⟩ v9).setCell ⟨g, off + 10, none⟩ v10
theorem box_set11 {w : World} {g : Nat} {pre post : List Value} {x : RepV} (h : RBox w g pre post x) (h8 : x.cells.length = 8) (d : ByteArray) (sf n : Nat) (y0 y1 y2 y3 y4 y5 y6 y7 : Int) :
    RepPost g pre post ⟨d, sf, n, [y0, y1, y2, y3, y4, y5, y6, y7]⟩ w (set11 w g pre.length (.string d) (.int .i64 sf) (.int .i64 n) (.int .i16 y0) (.int .i16 y1) (.int .i16 y2) (.int .i16 y3) (.int .i16 y4) (.int .i16 y5) (.int .i16 y6) (.int .i16 y7)) := by
  obtain ⟨d0, s0, n0, cs⟩ := x
  obtain ⟨z0, z1, z2, z3, z4, z5, z6, z7, rfl⟩ := list8' cs h8
  have h0 := box_set (x' := ⟨d, s0, n0, [z0, z1, z2, z3, z4, z5, z6, z7]⟩) h (j := 0) (v := .string d) (by rw [prep_len rfl]; decide) rfl
  have h1 := box_set (x' := ⟨d, sf, n0, [z0, z1, z2, z3, z4, z5, z6, z7]⟩) h0 (j := 1) (v := .int .i64 sf) (by rw [prep_len rfl]; decide) rfl
  have h2 := box_set (x' := ⟨d, sf, n, [z0, z1, z2, z3, z4, z5, z6, z7]⟩) h1 (j := 2) (v := .int .i64 n) (by rw [prep_len rfl]; decide) rfl
  have k0 : Kept (fun k => k = g) w (((w.setCell ⟨g, pre.length, none⟩ (.string d)).setCell ⟨g, pre.length + 1, none⟩ (.int .i64 sf)).setCell ⟨g, pre.length + 2, none⟩ (.int .i64 n)) := by
    iterate 3 refine Kept.set (F := fun k => k = g) ?_ (.inl rfl) _
    exact Kept.refl _ w
  obtain ⟨h3, k3⟩ := box_set8 h2 y0 y1 y2 y3 y4 y5 y6 y7
  exact ⟨h3, k0.trans k3 (fun _ _ hh => hh)⟩

set_option maxRecDepth 100000 in
set_option maxHeartbeats 8000000 in
theorem rstart_any (es : List (List RecV)) (r : List UInt8) (b : ByteArray) (w : World) (hb : b.data.toList = Dk.logFrom 0 (es.map recs) ++ r) (hs : Dk.Sound 0 (es.map recs)) (hn : es.length ≤ 200) (hr : Dk.readV es.length r = none) (hbs : b.size ≤ 2000000) :
    Calls Tryz.prog 102 #[.string b] w fun e w' => (∃ (d : ByteArray) (y0 y1 y2 y3 y4 y5 y6 y7 : Int), e = .returned (.agg #[.string d, .int .i64 (d.size : Int), .int .i64 (es.length : Int), .int .i16 y0, .int .i16 y1, .int .i16 y2, .int .i16 y3, .int .i16 y4, .int .i16 y5, .int .i16 y6, .int .i16 y7]) ∧ d.data.toList = Dk.logFrom 0 (es.map recs) ∧ didEps [0, 0, 0, 0, 0, 0, 0, 0] es = [y0, y1, y2, y3, y4, y5, y6, y7]) ∧ Below w.heap.size w w' := by
  have HH : Hid (_ ∧ _ ∧ _) := ⟨hb, hs, hr⟩
  clear hb hs hr
  obtain ⟨K, hK⟩ : ∃ K, es.length = K := ⟨_, rfl⟩
  have HK : Hid (es.length = K) := hK
  rw [hK] at hn HH ⊢
  clear hK
  go_enter Tryz.func102, Tryz.ntmps102
  go_wp2
  have HS0 : Hid (StartAt w ((w.alloc (.cells #[.string ⟨#[]⟩, .int .i64 0, .int .i64 0, .int .i16 0, .int .i16 0, .int .i16 0, .int .i16 0, .int .i16 0, .int .i16 0, .int .i16 0, .int .i16 0] 147)).alloc (.cells #[.string ⟨#[]⟩, .int .i64 0, .int .i64 0, .int .i16 0, .int .i16 0, .int .i16 0, .int .i16 0, .int .i16 0, .int .i16 0, .int .i16 0, .int .i16 0] 147)) es r 0 b) :=
    ⟨heap_at (by simp), Kept.refl _ _, HH.out.1⟩
  go_loopw [4] (fun v4 wr => ∃ (k : Nat) (rest : ByteArray), v4 = .string rest ∧ k ≤ K ∧ rest.size ≤ b.size ∧ Hid (StartAt w wr es r k rest)) (fun v4 wr => 201 - (intOf ((wr.cell? ⟨w.heap.size + 1, 2, none⟩).getD (.int .i64 0))).toNat)
  case atStart => exact ⟨0, b, rfl, Nat.zero_le _, Nat.le_refl _, HS0⟩
  case round =>
    obtain ⟨k, rest, rfl, hk, hrs, HL⟩ := hrel
    clear HS0
    have hl8 := didEps_len (es.take k) (cs := [0, 0, 0, 0, 0, 0, 0, 0]) rfl
    obtain ⟨z0, z1, z2, z3, z4, z5, z6, z7, hzs⟩ := list8' _ hl8
    have hbox := HL.out.box
    rw [hzs] at hbox
    obtain ⟨⟨e0, e1, e2, f0, f1, f2, f3, f4, f5, f6, f7⟩, fz, hg⟩ := box_cells hbox
    simp only [List.length_nil, Nat.zero_add] at e0 e1 e2 f0 f1 f2 f3 f4 f5 f6 f7
    have HZ : Hid _ := hzs
    clear hzs hl8 hbox
    by_cases hkK : k < K
    · have hk2 : (k : Int) < 200 := by omega
      have HRd : Hid (Dk.readV k rest.data.toList = some (recs (es[k]'(by rw [HK.out]; exact hkK)), Dk.logFrom (k + 1) ((es.map recs).drop (k + 1)) ++ r)) := by
        show _ = _
        have hkm : k < (es.map recs).length := by rw [List.length_map, HK.out]; exact hkK
        have hcut := logFrom_cut (n := 0) hkm
        rw [Nat.zero_add] at hcut
        rw [HL.out.rest, hcut, List.append_assoc, List.getElem_map]
        refine Dk.read_of _ ?_
        have := HH.out.2.1 k _ (List.getElem?_eq_getElem hkm)
        rw [Nat.zero_add, List.getElem_map] at this
        exact this
      go_wp2_with fail
      refine (read_any k rest wr (by omega) (by unfold maxLen; omega)).mono ?_
      rintro e w1 ⟨a, m, ca, b1, rfl, hv, hB⟩
      obtain ⟨hq, rv, hrv, hrow, hm, hfr⟩ := hv _ _ HRd.out
      obtain rfl := recs_inj hrv
      rewrite [HRd.out]
      have HB : Hid (Below wr.heap.size wr w1) := hB
      have HRow : Hid (RecRow w1 a m (es[k]'(by rw [HK.out]; exact hkK)) ∧ ∀ ad, a = some ad → ad.block < w1.heap.size ∧ ad.block ≠ w.heap.size + 1) := ⟨hrow, fun ad had => by
        have h3 := hfr ad had
        exact ⟨h3.2, by omega⟩⟩
      have HQ : Hid (b1.data.toList = Dk.logFrom (k + 1) ((es.map recs).drop (k + 1)) ++ r) := hq
      have hb1 : b1.size ≤ b.size := by
        have h1 := congrArg List.length HQ.out
        have h2 := congrArg List.length (Dk.read_some HRd.out).2
        rw [len_list] at h1
        rw [len_list, List.length_append, ← h1] at h2
        omega
      have HBx : Hid (RBox w1 (w.heap.size + 1) [] [] ⟨⟨#[]⟩, 0, k, didEps [0, 0, 0, 0, 0, 0, 0, 0] (es.take k)⟩) := rbox_below HL.out.box hB
      clear hv hrv hrow hB hfr hq e0 e1 e2 f0 f1 f2 f3 f4 f5 f6 f7 fz
      go_wp2_with fail
      have hdo := repdo_any (w.heap.size + 1) [] [] ⟨#[]⟩ 0 k (didEps [0, 0, 0, 0, 0, 0, 0, 0] (es.take k)) a m ca (es[k]'(by rw [HK.out]; exact hkK)) w1 HBx.out (didEps_len _ rfl) (by omega) HRow.out.1 HRow.out.2 hm
      rw [List.length_nil] at hdo
      refine hdo.mono ?_
      rintro e w2 ⟨rfl, hP⟩
      have HN : Hid (StartAt w w2 es r (k + 1) b1) := by
        refine ⟨?_, ?_, HQ.out⟩
        · have h1 := hP.1
          rw [← didEps_snoc, ← List.take_succ_eq_append_getElem] at h1
          exact h1
        · exact (HL.out.kept.then HB.out).trans hP.2 (fun _ _ hh => hh)
      have e2' : w2.cell? ⟨w.heap.size + 1, 2, none⟩ = some (.int .i64 ((k + 1 : Nat) : Int)) := by
        have := box_cell (j := 2) (v := .int .i64 ((k + 1 : Nat) : Int)) HN.out.box rfl
        rw [List.length_nil, Nat.zero_add] at this
        exact this
      have e2o : wr.cell? ⟨w.heap.size + 1, 2, none⟩ = some (.int .i64 (k : Int)) := by
        have := box_cell (j := 2) (v := .int .i64 (k : Int)) HL.out.box rfl
        rw [List.length_nil, Nat.zero_add] at this
        exact this
      clear hP hdo
      go_wp2
      go_roundw
      case rel => exact ⟨k + 1, b1, rfl, by omega, hb1, HN⟩
      case measure => simp only [e2', e2o, Option.getD_some, intOf]; omega
    · have hkn : k = K := by omega
      subst hkn
      have HE : Hid (rest.data.toList = r ∧ es.take k = es) := by
        refine ⟨?_, List.take_of_length_le (by rw [HK.out]; exact Nat.le_refl _)⟩
        rw [HL.out.rest, List.drop_of_length_le (by rw [List.length_map, HK.out]; exact Nat.le_refl _)]
        rfl
      have HLen : Hid (b.size = (Dk.logFrom 0 (es.map recs)).length + rest.size) := by
        have h1 := congrArg List.length HH.out.1
        rw [len_list, List.length_append, ← HE.out.1, len_list] at h1
        exact h1
      obtain ⟨L, hL⟩ : ∃ L, (Dk.logFrom 0 (es.map recs)).length = L := ⟨_, rfl⟩
      have hbL : b.size = L + rest.size := by rw [← hL]; exact HLen.out
      have HD : Hid ((b.extract 0 L).data.toList = Dk.logFrom 0 (es.map recs) ∧ (b.extract 0 L).size = L) := by
        refine ⟨?_, by rw [ByteArray.size_extract]; omega⟩
        rw [ext_take, HH.out.1, ← hL, List.take_left]
      have hd : (b.size : Int) - (rest.size : Int) = (L : Int) := by omega
      have hLb : (L : Int) ≤ (b.size : Int) := by omega
      have hL0 : (0 : Int) ≤ (L : Int) := by omega
      have hwL : IntKind.i64.wrap (L : Int) = (L : Int) := wrap_i64_id (by omega) (by omega)
      rw [HE.out.2] at HZ
      have HBoxE : Hid (∀ W, Below wr.heap.size wr W → RBox W (w.heap.size + 1) [] [] ⟨⟨#[]⟩, 0, k, [z0, z1, z2, z3, z4, z5, z6, z7]⟩) := fun W hW => by
        have h1 := rbox_below HL.out.box hW
        rw [HE.out.2, HZ.out] at h1
        exact h1
      have HB0 : Hid (∀ W, Below wr.heap.size wr W → Below w.heap.size w W ∧ W.heap[w.heap.size]? = some (.cells #[.string ⟨#[]⟩, .int .i64 0, .int .i64 0, .int .i16 0, .int .i16 0, .int .i16 0, .int .i16 0, .int .i16 0, .int .i16 0, .int .i16 0, .int .i16 0] 147) ∧ w.heap.size + 1 < W.heap.size) := fun W hW => by
        have hKp := HL.out.kept.then hW
        have hz := hKp.size
        simp only [World.size_alloc] at hz
        refine ⟨⟨hKp.os, hKp.tape, hKp.output, by omega, fun i hi => ?_⟩, ?_, by omega⟩
        · rw [hKp.block i (by simp; omega) (by show ¬ i = _; omega), heap_old (by simp; omega), heap_old hi]
        · rw [hKp.block w.heap.size (by simp; omega) (by show ¬ w.heap.size = _; omega), heap_old (by simp)]
          exact heap_at rfl
      have HTail : Hid (∀ W, Below wr.heap.size wr W → RBox (W.setCell ⟨w.heap.size + 1, 0, none⟩ (.string (b.extract 0 L))) (w.heap.size + 1) [] [] ⟨b.extract 0 L, 0, k, [z0, z1, z2, z3, z4, z5, z6, z7]⟩) := fun W hW => box_set (x' := ⟨b.extract 0 L, 0, k, [z0, z1, z2, z3, z4, z5, z6, z7]⟩) (HBoxE.out W hW) (j := 0) (by rw [prep_len rfl]; decide) rfl
      by_cases hk200 : k < 200
      · have hk2 : (k : Int) < 200 := by omega
        have HRd : Hid (Dk.readV k rest.data.toList = none) := by
          show _ = _
          rw [HE.out.1]; exact HH.out.2.2
        go_wp2_with fail
        refine (read_any k rest wr (by omega) (by unfold maxLen; omega)).mono ?_
        rintro e w1 ⟨a, m, ca, b1, rfl, hv, hB⟩
        rewrite [HRd.out]
        have HB : Hid (Below wr.heap.size wr w1) := hB
        obtain ⟨hT1, hT2, hT3⟩ := HB0.out w1 hB
        have HT : Hid (_ ∧ _) := ⟨hT1, hT2⟩
        have hg1 := hT3
        have hbx := HBoxE.out w1 hB
        obtain ⟨⟨e0, _⟩, fz1, _⟩ := box_cells hbx
        simp only [List.length_nil] at e0
        clear hv hB hT1 hT2 hT3 hbx
        go_wp2_with fail
        have hsy := rsync_any (w.heap.size + 1) [] [] (b.extract 0 L) 0 k [z0, z1, z2, z3, z4, z5, z6, z7] (w1.setCell ⟨w.heap.size + 1, 0, none⟩ (.string (b.extract 0 L))) (HTail.out w1 HB.out) rfl
        rw [List.length_nil] at hsy
        refine hsy.mono ?_
        rintro e w3 ⟨rfl, hP⟩
        have HP : Hid (Below w.heap.size w w3 ∧ w3.heap[w.heap.size]? = some (.cells #[.string ⟨#[]⟩, .int .i64 0, .int .i64 0, .int .i16 0, .int .i16 0, .int .i16 0, .int .i16 0, .int .i16 0, .int .i16 0, .int .i16 0, .int .i16 0] 147)) := by
          have hK1 : Kept (fun x => x = w.heap.size + 1) w1 w3 := (Kept.set (F := fun x => x = w.heap.size + 1) (Kept.refl _ _) (.inl rfl) _).trans hP.2 (fun _ _ hh => hh)
          have hz := hK1.size
          refine ⟨⟨hK1.os.trans HT.out.1.os, hK1.tape.trans HT.out.1.tape, hK1.output.trans HT.out.1.output, by omega, fun i hi => ?_⟩, ?_⟩
          · rw [hK1.block i (by omega) (by show ¬ i = _; omega)]; exact HT.out.1.block i hi
          · rw [hK1.block w.heap.size (by omega) (by show ¬ w.heap.size = _; omega)]; exact HT.out.2
        obtain ⟨⟨q0, q1, q2, q3, q4, q5, q6, q7, q8, q9, q10⟩, fq, hq⟩ := box_cells hP.1
        simp only [List.length_nil, Nat.zero_add] at q0 q1 q2 q3 q4 q5 q6 q7 q8 q9 q10
        obtain ⟨cr, fr, zr⟩ := heap_cells HP.out.2
        rewrite [HD.out.2] at q1
        clear hP hsy
        go_wp2
        have HW : Hid _ := box_set11 (x := ⟨⟨#[]⟩, 0, 0, [0, 0, 0, 0, 0, 0, 0, 0]⟩) (pre := []) (post := []) (g := w.heap.size) (w := w3) HP.out.2 rfl (b.extract 0 L) L k z0 z1 z2 z3 z4 z5 z6 z7
        have hW : set11 w3 w.heap.size ([] : List Value).length (.string (b.extract 0 L)) (.int .i64 (L : Int)) (.int .i64 (k : Int)) (.int .i16 z0) (.int .i16 z1) (.int .i16 z2) (.int .i16 z3) (.int .i16 z4) (.int .i16 z5) (.int .i16 z6) (.int .i16 z7) = ((((((((((w3.setCell ⟨w.heap.size, 0, none⟩ (.string (b.extract 0 L))).setCell ⟨w.heap.size, 1, none⟩ (.int .i64 (L : Int))).setCell ⟨w.heap.size, 2, none⟩ (.int .i64 (k : Int))).setCell ⟨w.heap.size, 3, none⟩ (.int .i16 z0)).setCell ⟨w.heap.size, 4, none⟩ (.int .i16 z1)).setCell ⟨w.heap.size, 5, none⟩ (.int .i16 z2)).setCell ⟨w.heap.size, 6, none⟩ (.int .i16 z3)).setCell ⟨w.heap.size, 7, none⟩ (.int .i16 z4)).setCell ⟨w.heap.size, 8, none⟩ (.int .i16 z5)).setCell ⟨w.heap.size, 9, none⟩ (.int .i16 z6)).setCell ⟨w.heap.size, 10, none⟩ (.int .i16 z7) := rfl
        rw [hW] at HW
        clear hW q0 q1 q2 q3 q4 q5 q6 q7 q8 q9 q10 fq hq cr fr zr
        generalize ((((((((((w3.setCell ⟨w.heap.size, 0, none⟩ (.string (b.extract 0 L))).setCell ⟨w.heap.size, 1, none⟩ (.int .i64 (L : Int))).setCell ⟨w.heap.size, 2, none⟩ (.int .i64 (k : Int))).setCell ⟨w.heap.size, 3, none⟩ (.int .i16 z0)).setCell ⟨w.heap.size, 4, none⟩ (.int .i16 z1)).setCell ⟨w.heap.size, 5, none⟩ (.int .i16 z2)).setCell ⟨w.heap.size, 6, none⟩ (.int .i16 z3)).setCell ⟨w.heap.size, 7, none⟩ (.int .i16 z4)).setCell ⟨w.heap.size, 8, none⟩ (.int .i16 z5)).setCell ⟨w.heap.size, 9, none⟩ (.int .i16 z6)).setCell ⟨w.heap.size, 10, none⟩ (.int .i16 z7) = W9 at HW ⊢
        obtain ⟨⟨q0, q1, q2, q3, q4, q5, q6, q7, q8, q9, q10⟩, fq, hq⟩ := box_cells HW.out.1
        simp only [List.length_nil, Nat.zero_add] at q0 q1 q2 q3 q4 q5 q6 q7 q8 q9 q10
        refine bodyPost_ret (v := .agg #[.string (b.extract 0 L), .int .i64 (L : Int), .int .i64 (k : Int), .int .i16 z0, .int .i16 z1, .int .i16 z2, .int .i16 z3, .int .i16 z4, .int .i16 z5, .int .i16 z6, .int .i16 z7]) (by simp [results, Tryz.results102, go_sem, q0, q1, q2, q3, q4, q5, q6, q7, q8, q9, q10]) rfl ?_
        refine ⟨⟨b.extract 0 L, z0, z1, z2, z3, z4, z5, z6, z7, by rw [HD.out.2], HD.out.1, HZ.out⟩, ?_⟩
        have hKw := HW.out.2
        have hz := hKw.size
        have hz1 := HP.out.1.size
        refine ⟨hKw.os.trans HP.out.1.os, hKw.tape.trans HP.out.1.tape, hKw.output.trans HP.out.1.output, by omega, fun i hi => ?_⟩
        rw [hKw.block i (by omega) (by show ¬ i = _; omega)]; exact HP.out.1.block i hi
      · have hk2 : ¬ (k : Int) < 200 := by omega
        have HB : Hid (Below wr.heap.size wr wr) := Below.refl _ _
        obtain ⟨hT1, hT2, hT3⟩ := HB0.out wr HB.out
        have HT : Hid (_ ∧ _) := ⟨hT1, hT2⟩
        have hg1 := hT3
        have fz1 := fz
        clear hT1 hT2 hT3
        go_wp2_with fail
        have hsy := rsync_any (w.heap.size + 1) [] [] (b.extract 0 L) 0 k [z0, z1, z2, z3, z4, z5, z6, z7] (wr.setCell ⟨w.heap.size + 1, 0, none⟩ (.string (b.extract 0 L))) (HTail.out wr HB.out) rfl
        rw [List.length_nil] at hsy
        refine hsy.mono ?_
        rintro e w3 ⟨rfl, hP⟩
        have HP : Hid (Below w.heap.size w w3 ∧ w3.heap[w.heap.size]? = some (.cells #[.string ⟨#[]⟩, .int .i64 0, .int .i64 0, .int .i16 0, .int .i16 0, .int .i16 0, .int .i16 0, .int .i16 0, .int .i16 0, .int .i16 0, .int .i16 0] 147)) := by
          have hK1 : Kept (fun x => x = w.heap.size + 1) wr w3 := (Kept.set (F := fun x => x = w.heap.size + 1) (Kept.refl _ _) (.inl rfl) _).trans hP.2 (fun _ _ hh => hh)
          have hz := hK1.size
          refine ⟨⟨hK1.os.trans HT.out.1.os, hK1.tape.trans HT.out.1.tape, hK1.output.trans HT.out.1.output, by omega, fun i hi => ?_⟩, ?_⟩
          · rw [hK1.block i (by omega) (by show ¬ i = _; omega)]; exact HT.out.1.block i hi
          · rw [hK1.block w.heap.size (by omega) (by show ¬ w.heap.size = _; omega)]; exact HT.out.2
        obtain ⟨⟨q0, q1, q2, q3, q4, q5, q6, q7, q8, q9, q10⟩, fq, hq⟩ := box_cells hP.1
        simp only [List.length_nil, Nat.zero_add] at q0 q1 q2 q3 q4 q5 q6 q7 q8 q9 q10
        obtain ⟨cr, fr, zr⟩ := heap_cells HP.out.2
        rewrite [HD.out.2] at q1
        clear hP hsy
        go_wp2
        have HW : Hid _ := box_set11 (x := ⟨⟨#[]⟩, 0, 0, [0, 0, 0, 0, 0, 0, 0, 0]⟩) (pre := []) (post := []) (g := w.heap.size) (w := w3) HP.out.2 rfl (b.extract 0 L) L k z0 z1 z2 z3 z4 z5 z6 z7
        have hW : set11 w3 w.heap.size ([] : List Value).length (.string (b.extract 0 L)) (.int .i64 (L : Int)) (.int .i64 (k : Int)) (.int .i16 z0) (.int .i16 z1) (.int .i16 z2) (.int .i16 z3) (.int .i16 z4) (.int .i16 z5) (.int .i16 z6) (.int .i16 z7) = ((((((((((w3.setCell ⟨w.heap.size, 0, none⟩ (.string (b.extract 0 L))).setCell ⟨w.heap.size, 1, none⟩ (.int .i64 (L : Int))).setCell ⟨w.heap.size, 2, none⟩ (.int .i64 (k : Int))).setCell ⟨w.heap.size, 3, none⟩ (.int .i16 z0)).setCell ⟨w.heap.size, 4, none⟩ (.int .i16 z1)).setCell ⟨w.heap.size, 5, none⟩ (.int .i16 z2)).setCell ⟨w.heap.size, 6, none⟩ (.int .i16 z3)).setCell ⟨w.heap.size, 7, none⟩ (.int .i16 z4)).setCell ⟨w.heap.size, 8, none⟩ (.int .i16 z5)).setCell ⟨w.heap.size, 9, none⟩ (.int .i16 z6)).setCell ⟨w.heap.size, 10, none⟩ (.int .i16 z7) := rfl
        rw [hW] at HW
        clear hW q0 q1 q2 q3 q4 q5 q6 q7 q8 q9 q10 fq hq cr fr zr
        generalize ((((((((((w3.setCell ⟨w.heap.size, 0, none⟩ (.string (b.extract 0 L))).setCell ⟨w.heap.size, 1, none⟩ (.int .i64 (L : Int))).setCell ⟨w.heap.size, 2, none⟩ (.int .i64 (k : Int))).setCell ⟨w.heap.size, 3, none⟩ (.int .i16 z0)).setCell ⟨w.heap.size, 4, none⟩ (.int .i16 z1)).setCell ⟨w.heap.size, 5, none⟩ (.int .i16 z2)).setCell ⟨w.heap.size, 6, none⟩ (.int .i16 z3)).setCell ⟨w.heap.size, 7, none⟩ (.int .i16 z4)).setCell ⟨w.heap.size, 8, none⟩ (.int .i16 z5)).setCell ⟨w.heap.size, 9, none⟩ (.int .i16 z6)).setCell ⟨w.heap.size, 10, none⟩ (.int .i16 z7) = W9 at HW ⊢
        obtain ⟨⟨q0, q1, q2, q3, q4, q5, q6, q7, q8, q9, q10⟩, fq, hq⟩ := box_cells HW.out.1
        simp only [List.length_nil, Nat.zero_add] at q0 q1 q2 q3 q4 q5 q6 q7 q8 q9 q10
        refine bodyPost_ret (v := .agg #[.string (b.extract 0 L), .int .i64 (L : Int), .int .i64 (k : Int), .int .i16 z0, .int .i16 z1, .int .i16 z2, .int .i16 z3, .int .i16 z4, .int .i16 z5, .int .i16 z6, .int .i16 z7]) (by simp [results, Tryz.results102, go_sem, q0, q1, q2, q3, q4, q5, q6, q7, q8, q9, q10]) rfl ?_
        refine ⟨⟨b.extract 0 L, z0, z1, z2, z3, z4, z5, z6, z7, by rw [HD.out.2], HD.out.1, HZ.out⟩, ?_⟩
        have hKw := HW.out.2
        have hz := hKw.size
        have hz1 := HP.out.1.size
        refine ⟨hKw.os.trans HP.out.1.os, hKw.tape.trans HP.out.1.tape, hKw.output.trans HP.out.1.output, by omega, fun i hi => ?_⟩
        rw [hKw.block i (by omega) (by show ¬ i = _; omega)]; exact HP.out.1.block i hi

/-! ### Crash -/
set_option maxRecDepth 100000 in
set_option maxHeartbeats 4000000 in
theorem rcrash_any (g : Nat) (pre post : List Value) (d : ByteArray) (sf c : Nat) (cs : List Int) (keep : Int) (es : List (List RecV)) (r : List UInt8) (w : World) (h : RBox w g pre post ⟨d, sf, c, cs⟩) (h8 : cs.length = 8) (hd : d.size ≤ 2000000) (hsf : sf ≤ d.size)
    (hb : d.data.toList.take (leftN d.size sf keep) = Dk.logFrom 0 (es.map recs) ++ r) (hs : Dk.Sound 0 (es.map recs)) (hn : es.length ≤ 200) (hr : Dk.readV es.length r = none) :
    Calls Tryz.prog 70 #[.pointer (some ⟨g, pre.length, none⟩), .int .i64 keep] w fun e w' => e = .returned (.tuple #[]) ∧ RepPost g pre post ⟨bytesOf (Dk.logFrom 0 (es.map recs)), (Dk.logFrom 0 (es.map recs)).length, es.length, didEps [0, 0, 0, 0, 0, 0, 0, 0] es⟩ w w' := by
  have H : Hid _ := h
  have HH : Hid (_ ∧ _ ∧ _ ∧ _) := ⟨hb, hs, hn, hr⟩
  have HLe : Hid ((Dk.logFrom 0 (es.map recs) ++ r).length ≤ 2000000) := by
    show _ ≤ _
    rw [← hb, List.length_take, len_list]; omega
  have hgw := (heap_cells h).2.2
  clear h hb hs hn hr
  obtain ⟨off, hoff⟩ : ∃ x, pre.length = x := ⟨_, rfl⟩
  have HOff : Hid (pre.length = off) := hoff
  have hle := rleft_any g pre post d sf c cs keep w H.out h8 hd hsf
  rw [hoff] at hle
  rewrite [hoff]
  clear hoff
  go_enter Tryz.func70, Tryz.ntmps70
  go_wp2_with fail
  refine hle.mono ?_
  rintro e w1 ⟨⟨b, rfl, hbl⟩, hB1⟩
  have HB1 : Hid _ := hB1
  rw [HH.out.1] at hbl
  have HBl : Hid _ := hbl
  have hbs : b.size ≤ 2000000 := by
    have := congrArg List.length HBl.out
    rw [len_list] at this
    have h2 := HLe.out
    omega
  clear hbl hB1 hle
  go_wp2_with fail
  refine (rstart_any es r b w1 HBl.out HH.out.2.1 HH.out.2.2.1 HH.out.2.2.2 hbs).mono ?_
  rintro e w2 ⟨⟨d', y0, y1, y2, y3, y4, y5, y6, y7, rfl, hd', hy⟩, hB2⟩
  have HB2 : Hid (Below w.heap.size w w2) := HB1.out.trans (hB2.mono HB1.out.size)
  have HBx : Hid (RBox w2 g pre post ⟨d, sf, c, cs⟩) := rbox_below H.out HB2.out
  have HR : Hid (d' = bytesOf (Dk.logFrom 0 (es.map recs)) ∧ d'.size = (Dk.logFrom 0 (es.map recs)).length ∧ didEps [0, 0, 0, 0, 0, 0, 0, 0] es = [y0, y1, y2, y3, y4, y5, y6, y7]) := ⟨bytesOf_eq hd', by rw [← hd', len_list], hy⟩
  have HP : Hid _ := box_set11 HBx.out h8 d' d'.size es.length y0 y1 y2 y3 y4 y5 y6 y7
  rw [HOff.out] at HP
  have e0 : (w2.cell? ⟨g, off, none⟩).isSome ∧ (∀ y, w2.frozen? ⟨g, y, none⟩ = false) ∧ g < w2.heap.size := by
    have h1 := box_cell (j := 0) (v := .string d) HBx.out rfl
    rw [HOff.out, Nat.add_zero] at h1
    exact ⟨by rw [h1]; rfl, (heap_cells HBx.out).2.1, (heap_cells HBx.out).2.2⟩
  obtain ⟨z0, z1, z2, z3, z4, z5, z6, z7, hzs⟩ := list8' cs h8
  rw [hzs] at HBx
  obtain ⟨⟨q0, q1, q2, q3, q4, q5, q6, q7, q8, q9, q10⟩, fq, hq⟩ := box_cells HBx.out
  rw [HOff.out] at q0 q1 q2 q3 q4 q5 q6 q7 q8 q9 q10
  clear hd' hy hB2 hzs e0
  go_wp2
  go_end0
  refine ⟨rfl, ?_⟩
  rw [HR.out.2.2, ← HR.out.2.1, ← HR.out.1]
  exact ⟨HP.out.1, (Kept.of HB2.out).trans HP.out.2 (fun _ _ hh => hh)⟩

end Go.Proofs.YtccckonckddadabGreat
