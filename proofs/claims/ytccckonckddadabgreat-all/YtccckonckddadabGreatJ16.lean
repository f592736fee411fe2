import Derived.Test.YtccckonckddadabGreatJ14
import Derived.Test.YtccckonckddadabGreatJ01
import Derived.Test.YtccckonckddadabGreatJ08
import Derived.Test.YtccckonckddadabGreatJ02
import Derived.Deep.RegionHeld3
namespace Go.Proofs.YtccckonckddadabGreat
open Go.RowKit
set_option linter.unusedVariables false

/-- What Do answers. -/
def DoPost (ks : List Bool) (os : List Dk.Op) (cs : List Int) (w : World) (e : Ending) (w' : World) : Prop :=
  ∃ (y0 y1 y2 y3 y4 y5 y6 y7 : Int) (d : Bool), e = .returned (.tuple #[.agg #[.int .i16 y0, .int .i16 y1, .int .i16 y2, .int .i16 y3, .int .i16 y4, .int .i16 y5, .int .i16 y6, .int .i16 y7], .bool d]) ∧
    (([y0, y1, y2, y3, y4, y5, y6, y7], d) = match Dk.runV ks os cs with | some cs' => (cs', true) | none => (cs, false)) ∧ Below w.heap.size w w'

/-- An operation as Parse leaves it: its keys are cells. -/
def OpFit (o : Dk.Op) : Prop := 0 ≤ o.key ∧ o.key < 8 ∧ 0 ≤ o.akey ∧ o.akey < 8

theorem heap_cells {w : World} {g : Nat} {cs : Array Value} {t : TypeId} (h : w.heap[g]? = some (.cells cs t)) : (∀ x, w.cell? ⟨g, x, none⟩ = cs[x]?) ∧ (∀ x, w.frozen? ⟨g, x, none⟩ = false) ∧ g < w.heap.size := by
  refine ⟨fun x => ?_, fun x => ?_, (Array.getElem?_eq_some_iff.1 h).1⟩
  · simp [World.cell?, h]
  · simp [World.frozen?, h]

theorem opsCells_at : ∀ (os : List Dk.Op) (k j : Nat) (h : k < os.length), j < 5 → (opsCells os)[k * 5 + j]? = (opCells os[k])[j]?
  | [], k, j, h, _ => absurd h (by simp)
  | o :: r, 0, j, h, hj => by
    show (opCells o ++ opsCells r)[0 * 5 + j]? = _
    rw [List.getElem?_append_left (by simp [opCells]; omega)]; simp
  | o :: r, k + 1, j, h, hj => by
    show (opCells o ++ opsCells r)[(k + 1) * 5 + j]? = _
    rw [List.getElem?_append_right (by simp [opCells]; omega)]
    have e : (k + 1) * 5 + j - (opCells o).length = k * 5 + j := by simp [opCells]; omega
    rw [e, opsCells_at r k j (by simpa using h) hj]; simp

theorem ops_cell {w : World} {B n c : Nat} {a : Option Addr} {os : List Dk.Op} (h : w.ownsRow B 163 5 (.slice a n c) n (opsCells os)) (hn : n = os.length) {k : Nat} (hk : k < n) :
    ∃ g, a = some ⟨g, 0, none⟩ ∧ g < w.heap.size ∧ ∃ o, os[k]? = some o ∧ w.cell? ⟨g, k * 5, none⟩ = some (.int .i64 o.key) ∧ w.cell? ⟨g, k * 5 + 1, none⟩ = some (.int .u8 o.sign) ∧ w.cell? ⟨g, k * 5 + 2, none⟩ = some (.bool o.isKey) ∧
      w.cell? ⟨g, k * 5 + 3, none⟩ = some (.int .i64 o.akey) ∧ w.cell? ⟨g, k * 5 + 4, none⟩ = some (.int .i16 o.num) := by
  rcases h.2 with ⟨_, h0⟩ | ⟨g, cap, cur, hv, _, hg, _, _, hcs, ht⟩
  · omega
  · obtain ⟨rfl, _⟩ : a = some ⟨g, 0, none⟩ ∧ c = cap := by simpa using hv
    have hk' : k < os.length := by omega
    have hx : ∀ j, j < 5 → w.cell? ⟨g, k * 5 + j, none⟩ = (opCells os[k])[j]? := fun j hj => by
      rw [(heap_cells hg).1, ← opsCells_at os k j hk' hj, ← ht, ← Array.getElem?_toList, List.getElem?_take_of_lt (by omega)]
    refine ⟨g, rfl, (heap_cells hg).2.2, os[k], List.getElem?_eq_getElem hk', ?_⟩
    exact ⟨hx 0 (by omega), hx 1 (by omega), hx 2 (by omega), hx 3 (by omega), hx 4 (by omega)⟩

/-- Eight stores into one block. -/
theorem set8 {w : World} {g : Nat} {t : TypeId} {y0 y1 y2 y3 y4 y5 y6 y7 : Value} (h : w.heap[g]? = some (.cells #[y0, y1, y2, y3, y4, y5, y6, y7] t)) (z0 z1 z2 z3 z4 z5 z6 z7 : Value) :
    ((((((((w.setCell ⟨g, 0, none⟩ z0).setCell ⟨g, 1, none⟩ z1).setCell ⟨g, 2, none⟩ z2).setCell ⟨g, 3, none⟩ z3).setCell ⟨g, 4, none⟩ z4).setCell ⟨g, 5, none⟩ z5).setCell ⟨g, 6, none⟩ z6).setCell ⟨g, 7, none⟩ z7).heap[g]? = some (.cells #[z0, z1, z2, z3, z4, z5, z6, z7] t) := by
  simp [World.setCell, Array.getElem?_modify, h]
theorem set8_ne {w : World} {g k : Nat} (hk : k ≠ g) (z0 z1 z2 z3 z4 z5 z6 z7 : Value) :
    ((((((((w.setCell ⟨g, 0, none⟩ z0).setCell ⟨g, 1, none⟩ z1).setCell ⟨g, 2, none⟩ z2).setCell ⟨g, 3, none⟩ z3).setCell ⟨g, 4, none⟩ z4).setCell ⟨g, 5, none⟩ z5).setCell ⟨g, 6, none⟩ z6).setCell ⟨g, 7, none⟩ z7).heap[k]? = w.heap[k]? := by
  iterate 8 rw [Below.heap_setCell _ _ _ _ hk]
theorem set8_size {w : World} {g : Nat} (z0 z1 z2 z3 z4 z5 z6 z7 : Value) : ((((((((w.setCell ⟨g, 0, none⟩ z0).setCell ⟨g, 1, none⟩ z1).setCell ⟨g, 2, none⟩ z2).setCell ⟨g, 3, none⟩ z3).setCell ⟨g, 4, none⟩ z4).setCell ⟨g, 5, none⟩ z5).setCell ⟨g, 6, none⟩ z6).setCell ⟨g, 7, none⟩ z7).heap.size = w.heap.size := by
  simp [World.setCell]
theorem set8_below {w w0 : World} {B g : Nat} (h : Below B w0 w) (hg : B ≤ g) (z0 z1 z2 z3 z4 z5 z6 z7 : Value) : Below B w0 ((((((((w.setCell ⟨g, 0, none⟩ z0).setCell ⟨g, 1, none⟩ z1).setCell ⟨g, 2, none⟩ z2).setCell ⟨g, 3, none⟩ z3).setCell ⟨g, 4, none⟩ z4).setCell ⟨g, 5, none⟩ z5).setCell ⟨g, 6, none⟩ z6).setCell ⟨g, 7, none⟩ z7) := by
  iterate 8 refine Below.setCell ?_ hg _
  exact h

/-- What holds of every world inside the region of a round: all that was there reads as it did. -/
theorem doS_of {wr W : World} (h : Below wr.heap.size wr W) : Below wr.heap.size wr W ∧ (∀ b x, b < wr.heap.size → W.cell? ⟨b, x, none⟩ = wr.cell? ⟨b, x, none⟩) := ⟨h, (bcell h).1⟩
theorem doS_0 {wr : World} : Below wr.heap.size wr wr.drew ∧ (∀ b x, b < wr.heap.size → wr.drew.cell? ⟨b, x, none⟩ = wr.cell? ⟨b, x, none⟩) := doS_of (Below.refl _ _).drew
theorem doS_1 {wr : World} {o : Obj} : Below wr.heap.size wr (wr.alloc o).drew ∧ (∀ b x, b < wr.heap.size → (wr.alloc o).drew.cell? ⟨b, x, none⟩ = wr.cell? ⟨b, x, none⟩) := doS_of ((Below.refl _ _).alloc (Nat.le_refl _) _).drew
theorem doS_2 {wr W : World} (hb : Below wr.drew.heap.size wr.drew W) : Below wr.heap.size wr W ∧ (∀ b x, b < wr.heap.size → W.cell? ⟨b, x, none⟩ = wr.cell? ⟨b, x, none⟩) := doS_of ((Below.refl _ _).drew.trans hb)
theorem doS_3 {wr W : World} {o : Obj} (hb : Below (wr.alloc o).drew.heap.size (wr.alloc o).drew W) : Below wr.heap.size wr W ∧ (∀ b x, b < wr.heap.size → W.cell? ⟨b, x, none⟩ = wr.cell? ⟨b, x, none⟩) :=
  doS_of (((Below.refl _ _).alloc (Nat.le_refl _) _).drew.trans (hb.mono (by show _ ≤ (wr.alloc o).heap.size; simp)))
theorem doS_4 {wr W : World} {o : Obj} (hb : Below wr.drew.heap.size wr.drew W) : Below wr.heap.size wr (W.alloc o) ∧ (∀ b x, b < wr.heap.size → (W.alloc o).cell? ⟨b, x, none⟩ = wr.cell? ⟨b, x, none⟩) := doS_of ((doS_2 hb).1.alloc (doS_2 hb).1.size _)
theorem doS_5 {wr W : World} {o : Obj} {z0 z1 z2 z3 z4 z5 z6 z7 : Value} (hb : Below (wr.alloc o).drew.heap.size (wr.alloc o).drew W) :
    Below wr.heap.size wr ((((((((W.setCell ⟨wr.heap.size, 0, none⟩ z0).setCell ⟨wr.heap.size, 1, none⟩ z1).setCell ⟨wr.heap.size, 2, none⟩ z2).setCell ⟨wr.heap.size, 3, none⟩ z3).setCell ⟨wr.heap.size, 4, none⟩ z4).setCell ⟨wr.heap.size, 5, none⟩ z5).setCell ⟨wr.heap.size, 6, none⟩ z6).setCell ⟨wr.heap.size, 7, none⟩ z7) ∧ (∀ b x, b < wr.heap.size → ((((((((W.setCell ⟨wr.heap.size, 0, none⟩ z0).setCell ⟨wr.heap.size, 1, none⟩ z1).setCell ⟨wr.heap.size, 2, none⟩ z2).setCell ⟨wr.heap.size, 3, none⟩ z3).setCell ⟨wr.heap.size, 4, none⟩ z4).setCell ⟨wr.heap.size, 5, none⟩ z5).setCell ⟨wr.heap.size, 6, none⟩ z6).setCell ⟨wr.heap.size, 7, none⟩ z7).cell? ⟨b, x, none⟩ = wr.cell? ⟨b, x, none⟩) := doS_of (set8_below (doS_3 hb).1 (Nat.le_refl _) z0 z1 z2 z3 z4 z5 z6 z7)

/-- The world in a round of Do: the boxes of its arguments, its result, the cells so far. -/
structure DoW (w wr : World) (T C Y : Array Value) : Prop where
  t : wr.heap[w.heap.size]? = some (.cells T 119)
  c : wr.heap[w.heap.size + 1]? = some (.cells C 37)
  r : wr.heap[w.heap.size + 2]? = some (.cells #[.int .i16 0, .int .i16 0, .int .i16 0, .int .i16 0, .int .i16 0, .int .i16 0, .int .i16 0, .int .i16 0] 37)
  y : wr.heap[w.heap.size + 3]? = some (.cells Y 37)
  b : Below w.heap.size w wr

/-- .. and behind the region: what the step has left, in a block of its own. -/
structure DoX (w W : World) (T C Y Z : Array Value) (g : Nat) : Prop where
  s : DoW w W T C Y
  z : W.heap[g]? = some (.cells Z 37)

theorem DoW.kept {w wr W : World} {T C Y : Array Value} (h : DoW w wr T C Y) (hb : Below wr.heap.size wr W) : DoW w W T C Y :=
  ⟨(hb.block _ (heap_cells h.t).2.2).trans h.t, (hb.block _ (heap_cells h.c).2.2).trans h.c, (hb.block _ (heap_cells h.r).2.2).trans h.r, (hb.block _ (heap_cells h.y).2.2).trans h.y, h.b.trans (hb.mono h.b.size)⟩

theorem DoW.put {w W : World} {T C : Array Value} {y0 y1 y2 y3 y4 y5 y6 y7 : Value} (h : DoW w W T C #[y0, y1, y2, y3, y4, y5, y6, y7]) (z0 z1 z2 z3 z4 z5 z6 z7 : Value) : DoW w ((((((((W.setCell ⟨w.heap.size + 3, 0, none⟩ z0).setCell ⟨w.heap.size + 3, 1, none⟩ z1).setCell ⟨w.heap.size + 3, 2, none⟩ z2).setCell ⟨w.heap.size + 3, 3, none⟩ z3).setCell ⟨w.heap.size + 3, 4, none⟩ z4).setCell ⟨w.heap.size + 3, 5, none⟩ z5).setCell ⟨w.heap.size + 3, 6, none⟩ z6).setCell ⟨w.heap.size + 3, 7, none⟩ z7) T C #[z0, z1, z2, z3, z4, z5, z6, z7] :=
  ⟨(set8_ne (by omega) ..).trans h.t, (set8_ne (by omega) ..).trans h.c, (set8_ne (by omega) ..).trans h.r, set8 h.y .., set8_below h.b (by omega) ..⟩

theorem doW_start (w : World) (T C Y : Array Value) : DoW w ((((w.alloc (.cells T 119)).alloc (.cells C 37)).alloc (.cells #[.int .i16 0, .int .i16 0, .int .i16 0, .int .i16 0, .int .i16 0, .int .i16 0, .int .i16 0, .int .i16 0] 37)).alloc (.cells Y 37)) T C Y := by
  have e : ∀ (W : World) (o : Obj) (k : Nat), k < W.heap.size → (W.alloc o).heap[k]? = W.heap[k]? := fun W o k h => Below.heap_alloc W o k h
  have n : ∀ (W : World) (o : Obj) (k : Nat), k = W.heap.size → (W.alloc o).heap[k]? = some o := fun W o k h => by rw [h]; exact heap_alloc_new W o
  refine ⟨?_, ?_, ?_, n _ _ _ (by simp), ?_⟩
  · rw [e _ _ _ (by simp <;> omega), e _ _ _ (by simp <;> omega), e _ _ _ (by simp), n _ _ _ rfl]
  · rw [e _ _ _ (by simp <;> omega), e _ _ _ (by simp), n _ _ _ (by simp)]
  · rw [e _ _ _ (by simp), n _ _ _ (by simp)]
  · exact ((((Below.refl _ _).alloc (Nat.le_refl _) _).alloc (by simp) _).alloc (by simp; omega) _).alloc (by simp; omega) _

theorem doX_A {w wr w1 : World} {T C Y Z : Array Value} (h : DoW w wr T C Y) (hb : Below wr.drew.heap.size wr.drew w1) : DoX w (w1.alloc (.cells Z 37)) T C Y Z w1.heap.size :=
  ⟨h.kept (doS_4 hb).1, heap_alloc_new w1 _⟩

theorem doX_B {w wr w1 : World} {T C Y : Array Value} {z0 z1 z2 z3 z4 z5 z6 z7 : Value} (h : DoW w wr T C Y) (hb : Below (wr.alloc (.cells #[.int .i16 0, .int .i16 0, .int .i16 0, .int .i16 0, .int .i16 0, .int .i16 0, .int .i16 0, .int .i16 0] 37)).drew.heap.size (wr.alloc (.cells #[.int .i16 0, .int .i16 0, .int .i16 0, .int .i16 0, .int .i16 0, .int .i16 0, .int .i16 0, .int .i16 0] 37)).drew w1) :
    DoX w ((((((((w1.setCell ⟨wr.heap.size, 0, none⟩ z0).setCell ⟨wr.heap.size, 1, none⟩ z1).setCell ⟨wr.heap.size, 2, none⟩ z2).setCell ⟨wr.heap.size, 3, none⟩ z3).setCell ⟨wr.heap.size, 4, none⟩ z4).setCell ⟨wr.heap.size, 5, none⟩ z5).setCell ⟨wr.heap.size, 6, none⟩ z6).setCell ⟨wr.heap.size, 7, none⟩ z7) T C Y #[z0, z1, z2, z3, z4, z5, z6, z7] wr.heap.size :=
  ⟨h.kept (doS_5 hb).1, set8 ((hb.block wr.heap.size (by show _ < (wr.alloc _).heap.size; simp)).trans (heap_alloc_new wr _)) z0 z1 z2 z3 z4 z5 z6 z7⟩

set_option maxHeartbeats 1000000 in
theorem do_any (b0 b1 b2 b3 b4 b5 b6 b7 : Bool) (a : Option Addr) (n c B : Nat) (os : List Dk.Op) (x0 x1 x2 x3 x4 x5 x6 x7 : Int) (w : World)
    (hn : n = os.length) (h8 : n ≤ 8) (hown : w.ownsRow B 163 5 (.slice a n c) n (opsCells os)) (hfit : ∀ o ∈ os, OpFit o) :
    Calls Tryz.prog 48 #[.agg #[.bool b0, .bool b1, .bool b2, .bool b3, .bool b4, .bool b5, .bool b6, .bool b7, .slice a n c],
      .agg #[.int .i16 x0, .int .i16 x1, .int .i16 x2, .int .i16 x3, .int .i16 x4, .int .i16 x5, .int .i16 x6, .int .i16 x7]] w (DoPost [b0, b1, b2, b3, b4, b5, b6, b7] os [x0, x1, x2, x3, x4, x5, x6, x7] w) := by
  have HO : Hid (_ ∧ _ ∧ _) := ⟨hown, hfit, hn⟩
  clear hown hfit hn
  go_enter Tryz.func48, Tryz.ntmps48
  go_wp2
  go_loopw [7] (fun i wr => ∃ (k : Nat) (y0 y1 y2 y3 y4 y5 y6 y7 : Int), k ≤ n ∧ i = .int .i64 k ∧
      Hid (Dk.runV [b0, b1, b2, b3, b4, b5, b6, b7] os [x0, x1, x2, x3, x4, x5, x6, x7] = Dk.runV [b0, b1, b2, b3, b4, b5, b6, b7] (os.drop k) [y0, y1, y2, y3, y4, y5, y6, y7]) ∧
      DoW w wr #[.bool b0, .bool b1, .bool b2, .bool b3, .bool b4, .bool b5, .bool b6, .bool b7, .slice a n c] #[.int .i16 x0, .int .i16 x1, .int .i16 x2, .int .i16 x3, .int .i16 x4, .int .i16 x5, .int .i16 x6, .int .i16 x7] #[.int .i16 y0, .int .i16 y1, .int .i16 y2, .int .i16 y3, .int .i16 y4, .int .i16 y5, .int .i16 y6, .int .i16 y7]) (fun i _ => n - (intOf i).toNat)
  case atStart =>
    exact ⟨0, x0, x1, x2, x3, x4, x5, x6, x7, Nat.zero_le _, rfl, rfl, doW_start _ _ _ _⟩
  case round =>
    obtain ⟨k, y0, y1, y2, y3, y4, y5, y6, y7, hk, rfl, HR, hW⟩ := hrel
    obtain ⟨ct, ft, zt⟩ := heap_cells hW.t
    obtain ⟨cc, fc, zc⟩ := heap_cells hW.c
    obtain ⟨cr, fr, zr⟩ := heap_cells hW.r
    obtain ⟨cy, fy, zy⟩ := heap_cells hW.y
    have HW : Hid _ := hW
    clear hW
    by_cases hlt : k < n
    · obtain ⟨g, rfl, hg, o, ho, c0, c1, c2, c3, c4⟩ := ops_cell HO.out.1 HO.out.2.2 hlt
      have e0 := (HW.out.b.cell (p := ⟨g, k * 5, none⟩) hg).trans c0
      have e1 := (HW.out.b.cell (p := ⟨g, k * 5 + 1, none⟩) hg).trans c1
      have e2 := (HW.out.b.cell (p := ⟨g, k * 5 + 2, none⟩) hg).trans c2
      have e3 := (HW.out.b.cell (p := ⟨g, k * 5 + 3, none⟩) hg).trans c3
      have e4 := (HW.out.b.cell (p := ⟨g, k * 5 + 4, none⟩) hg).trans c4
      have hgr : g < wr.heap.size := Nat.lt_trans hg zt
      have hof := HO.out.2.1 o (List.mem_of_getElem? ho)
      have HQ : Hid _ := ho
      clear c0 c1 c2 c3 c4 ho
      obtain ⟨ok, osg, ob, oa, on⟩ := o
      simp only at e0 e1 e2 e3 e4
      obtain ⟨f0, f1, f2, f3⟩ := hof
      simp only at f0 f1 f2 f3
      obtain ⟨z0, z1, z2, z3, z4, z5, z6, z7, sd, hstep⟩ := Dk.stepV_8 [b0, b1, b2, b3, b4, b5, b6, b7] ⟨ok, osg, ob, oa, on⟩ y0 y1 y2 y3 y4 y5 y6 y7
      have HC : Hid (∀ W, Calls Tryz.prog 82 #[.agg #[.bool b0, .bool b1, .bool b2, .bool b3, .bool b4, .bool b5, .bool b6, .bool b7, .slice (some ⟨g, 0, none⟩) n c], .agg #[.int .i64 ok, .int .u8 osg, .bool ob, .int .i64 oa, .int .i16 on],
          .agg #[.int .i16 y0, .int .i16 y1, .int .i16 y2, .int .i16 y3, .int .i16 y4, .int .i16 y5, .int .i16 y6, .int .i16 y7]] W fun e w' => e = .returned (.tuple #[.agg #[.int .i16 z0, .int .i16 z1, .int .i16 z2, .int .i16 z3, .int .i16 z4, .int .i16 z5, .int .i16 z6, .int .i16 z7], .bool sd]) ∧ Below W.heap.size W w' ∧ (∀ b x, b < W.heap.size → w'.cell? ⟨b, x, none⟩ = W.cell? ⟨b, x, none⟩) ∧ (∀ b x, b < W.heap.size → w'.frozen? ⟨b, x, none⟩ = W.frozen? ⟨b, x, none⟩) ∧ W.heap.size ≤ w'.heap.size) := fun W => (step_any b0 b1 b2 b3 b4 b5 b6 b7 _ n c ok osg ob oa on y0 y1 y2 y3 y4 y5 y6 y7 W f0 f1 f2 f3).mono (by
        rintro e w1 ⟨q0, q1, q2, q3, q4, q5, q6, q7, rfl, hq, hb⟩
        rw [hstep] at hq ⊢
        simp only [List.cons.injEq, and_true] at hq
        obtain ⟨rfl, rfl, rfl, rfl, rfl, rfl, rfl, rfl⟩ := hq
        exact ⟨rfl, hb, (bcell hb).1, (bcell hb).2, hb.size⟩)
      have HT : Hid _ := hstep
      clear hstep
      cases sd
      · go_wp2
        go_region_held3 (fun W => Below wr.heap.size wr W ∧ (∀ b x, b < wr.heap.size → W.cell? ⟨b, x, none⟩ = wr.cell? ⟨b, x, none⟩))
          (first | (with_reducible exact doS_0) | (with_reducible exact doS_1) | (with_reducible exact doS_2 ‹_›) | (with_reducible exact doS_3 ‹_›) | (with_reducible exact doS_4 ‹_›) | (with_reducible exact doS_5 ‹_›))
          (first | (go_at_call 82; refine (HC.out _).mono ?_; rintro e w1 ⟨rfl, hb, hc, hf, hz1⟩))
        · have hX := doX_A (Z := #[.int .i16 z0, .int .i16 z1, .int .i16 z2, .int .i16 z3, .int .i16 z4, .int .i16 z5, .int .i16 z6, .int .i16 z7]) HW.out hb
          clear hb hc hf hz1
          generalize w1.heap.size = g8 at *
          generalize w1.alloc (.cells #[.int .i16 z0, .int .i16 z1, .int .i16 z2, .int .i16 z3, .int .i16 z4, .int .i16 z5, .int .i16 z6, .int .i16 z7] 37) = W2 at *
          obtain ⟨cc2, fc2, _⟩ := heap_cells hX.s.c
          obtain ⟨cr2, fr2, _⟩ := heap_cells hX.s.r
          obtain ⟨cy2, fy2, _⟩ := heap_cells hX.s.y
          obtain ⟨cz2, fz2, _⟩ := heap_cells hX.z
          have HX : Hid _ := hX
          clear hX
          go_wp2
          refine bodyPost_ret (v := .tuple #[.agg #[.int .i16 x0, .int .i16 x1, .int .i16 x2, .int .i16 x3, .int .i16 x4, .int .i16 x5, .int .i16 x6, .int .i16 x7], .bool false]) (by simp [results, Tryz.results48, go_sem, cr2]) rfl ?_
          refine ⟨x0, x1, x2, x3, x4, x5, x6, x7, false, rfl, ?_, ?_⟩
          · rw [HR.out, Dk.runV_drop_no HQ.out HT.out]
          · iterate 8 refine Below.setCell ?_ (by show w.heap.size ≤ w.heap.size + 1 + 1; omega) _
            exact HX.out.s.b
        · have hX := doX_B (z0 := .int .i16 z0) (z1 := .int .i16 z1) (z2 := .int .i16 z2) (z3 := .int .i16 z3) (z4 := .int .i16 z4) (z5 := .int .i16 z5) (z6 := .int .i16 z6) (z7 := .int .i16 z7) HW.out hb
          clear hb hc hf hz1
          generalize ((((((((w1.setCell ⟨wr.heap.size, 0, none⟩ (.int .i16 z0)).setCell ⟨wr.heap.size, 1, none⟩ (.int .i16 z1)).setCell ⟨wr.heap.size, 2, none⟩ (.int .i16 z2)).setCell ⟨wr.heap.size, 3, none⟩ (.int .i16 z3)).setCell ⟨wr.heap.size, 4, none⟩ (.int .i16 z4)).setCell ⟨wr.heap.size, 5, none⟩ (.int .i16 z5)).setCell ⟨wr.heap.size, 6, none⟩ (.int .i16 z6)).setCell ⟨wr.heap.size, 7, none⟩ (.int .i16 z7)) = W2 at *
          generalize hg8 : wr.heap.size = g8 at hX ⊢
          clear hg8
          obtain ⟨cc2, fc2, _⟩ := heap_cells hX.s.c
          obtain ⟨cr2, fr2, _⟩ := heap_cells hX.s.r
          obtain ⟨cy2, fy2, _⟩ := heap_cells hX.s.y
          obtain ⟨cz2, fz2, _⟩ := heap_cells hX.z
          have HX : Hid _ := hX
          clear hX
          go_wp2
          refine bodyPost_ret (v := .tuple #[.agg #[.int .i16 x0, .int .i16 x1, .int .i16 x2, .int .i16 x3, .int .i16 x4, .int .i16 x5, .int .i16 x6, .int .i16 x7], .bool false]) (by simp [results, Tryz.results48, go_sem, cr2]) rfl ?_
          refine ⟨x0, x1, x2, x3, x4, x5, x6, x7, false, rfl, ?_, ?_⟩
          · rw [HR.out, Dk.runV_drop_no HQ.out HT.out]
          · iterate 8 refine Below.setCell ?_ (by show w.heap.size ≤ w.heap.size + 1 + 1; omega) _
            exact HX.out.s.b
      · go_wp2
        go_region_held3 (fun W => Below wr.heap.size wr W ∧ (∀ b x, b < wr.heap.size → W.cell? ⟨b, x, none⟩ = wr.cell? ⟨b, x, none⟩))
          (first | (with_reducible exact doS_0) | (with_reducible exact doS_1) | (with_reducible exact doS_2 ‹_›) | (with_reducible exact doS_3 ‹_›) | (with_reducible exact doS_4 ‹_›) | (with_reducible exact doS_5 ‹_›))
          (first | (go_at_call 82; refine (HC.out _).mono ?_; rintro e w1 ⟨rfl, hb, hc, hf, hz1⟩))
        · have hX := doX_A (Z := #[.int .i16 z0, .int .i16 z1, .int .i16 z2, .int .i16 z3, .int .i16 z4, .int .i16 z5, .int .i16 z6, .int .i16 z7]) HW.out hb
          clear hb hc hf hz1
          generalize w1.heap.size = g8 at *
          generalize w1.alloc (.cells #[.int .i16 z0, .int .i16 z1, .int .i16 z2, .int .i16 z3, .int .i16 z4, .int .i16 z5, .int .i16 z6, .int .i16 z7] 37) = W2 at *
          obtain ⟨cc2, fc2, _⟩ := heap_cells hX.s.c
          obtain ⟨cr2, fr2, _⟩ := heap_cells hX.s.r
          obtain ⟨cy2, fy2, _⟩ := heap_cells hX.s.y
          obtain ⟨cz2, fz2, _⟩ := heap_cells hX.z
          have HX : Hid _ := hX
          clear hX
          go_wp2
          go_roundw
          case rel =>
            refine ⟨k + 1, z0, z1, z2, z3, z4, z5, z6, z7, by omega, by go_num, ?_, ?_⟩
            · show _ = _
              rw [HR.out, Dk.runV_drop_yes HQ.out HT.out]
            · exact HX.out.s.put _ _ _ _ _ _ _ _
          case measure => simp [intOf]; omega
        · have hX := doX_B (z0 := .int .i16 z0) (z1 := .int .i16 z1) (z2 := .int .i16 z2) (z3 := .int .i16 z3) (z4 := .int .i16 z4) (z5 := .int .i16 z5) (z6 := .int .i16 z6) (z7 := .int .i16 z7) HW.out hb
          clear hb hc hf hz1
          generalize ((((((((w1.setCell ⟨wr.heap.size, 0, none⟩ (.int .i16 z0)).setCell ⟨wr.heap.size, 1, none⟩ (.int .i16 z1)).setCell ⟨wr.heap.size, 2, none⟩ (.int .i16 z2)).setCell ⟨wr.heap.size, 3, none⟩ (.int .i16 z3)).setCell ⟨wr.heap.size, 4, none⟩ (.int .i16 z4)).setCell ⟨wr.heap.size, 5, none⟩ (.int .i16 z5)).setCell ⟨wr.heap.size, 6, none⟩ (.int .i16 z6)).setCell ⟨wr.heap.size, 7, none⟩ (.int .i16 z7)) = W2 at *
          generalize hg8 : wr.heap.size = g8 at hX ⊢
          clear hg8
          obtain ⟨cc2, fc2, _⟩ := heap_cells hX.s.c
          obtain ⟨cr2, fr2, _⟩ := heap_cells hX.s.r
          obtain ⟨cy2, fy2, _⟩ := heap_cells hX.s.y
          obtain ⟨cz2, fz2, _⟩ := heap_cells hX.z
          have HX : Hid _ := hX
          clear hX
          go_wp2
          go_roundw
          case rel =>
            refine ⟨k + 1, z0, z1, z2, z3, z4, z5, z6, z7, by omega, by go_num, ?_, ?_⟩
            · show _ = _
              rw [HR.out, Dk.runV_drop_yes HQ.out HT.out]
            · exact HX.out.s.put _ _ _ _ _ _ _ _
          case measure => simp [intOf]; omega
    · go_wp2
      refine bodyPost_ret (v := .tuple #[.agg #[.int .i16 y0, .int .i16 y1, .int .i16 y2, .int .i16 y3, .int .i16 y4, .int .i16 y5, .int .i16 y6, .int .i16 y7], .bool true]) (by simp [results, Tryz.results48, go_sem, cr]) rfl ?_
      refine ⟨y0, y1, y2, y3, y4, y5, y6, y7, true, rfl, ?_, ?_⟩
      · rw [HR.out, Dk.runV_end (by have := HO.out.2.2; omega)]
      · iterate 8 refine Below.setCell ?_ (by show w.heap.size ≤ w.heap.size + 1 + 1; omega) _
        exact HW.out.b

end Go.Proofs.YtccckonckddadabGreat
namespace Go.Proofs.YtccckonckddadabGreat
open Go.RowKit
set_option linter.unusedVariables false

theorem heap_at {W : World} {o : Obj} {k : Nat} (h : k = W.heap.size) : (W.alloc o).heap[k]? = some o := by rw [h]; exact heap_alloc_new W o
theorem heap_old {W : World} {o : Obj} {k : Nat} (h : k < W.heap.size) : (W.alloc o).heap[k]? = W.heap[k]? := Below.heap_alloc W o k h

/-- One, two, three boxes, and what leaves them alone. -/
theorem below_one {w w1 : World} {o : Obj} (hb : Below (w.alloc o).heap.size (w.alloc o) w1) : w1.heap[w.heap.size]? = some o ∧ Below w.heap.size w w1 :=
  ⟨(hb.block _ (by simp)).trans (heap_at rfl), below_of_new hb⟩
theorem below_two {w w1 : World} {o o' : Obj} (hb : Below ((w.alloc o).alloc o').heap.size ((w.alloc o).alloc o') w1) : w1.heap[w.heap.size]? = some o ∧ w1.heap[w.heap.size + 1]? = some o' ∧ Below w.heap.size w w1 := by
  refine ⟨(hb.block _ (by simp <;> omega)).trans ?_, (hb.block _ (by simp)).trans (heap_at (by simp)), below_of_new (below_of_new hb)⟩
  rw [heap_old (by simp), heap_at rfl]
theorem below_three {w w1 : World} {o o' o'' : Obj} (hb : Below (((w.alloc o).alloc o').alloc o'').heap.size (((w.alloc o).alloc o').alloc o'') w1) : w1.heap[w.heap.size]? = some o ∧ w1.heap[w.heap.size + 1]? = some o' ∧ w1.heap[w.heap.size + 2]? = some o'' ∧ Below w.heap.size w w1 := by
  refine ⟨(hb.block _ (by simp <;> omega)).trans ?_, (hb.block _ (by simp <;> omega)).trans ?_, (hb.block _ (by simp)).trans (heap_at (by simp)), below_of_new (below_of_new (below_of_new hb))⟩
  · rw [heap_old (by simp <;> omega), heap_old (by simp), heap_at rfl]
  · rw [heap_old (by simp), heap_at (by simp)]

/-- What Apply answers. -/
def ApplyPost (l : List UInt8) (cs : List Int) (w : World) (e : Ending) (w' : World) : Prop :=
  ∃ (y0 y1 y2 y3 y4 y5 y6 y7 : Int) (d : Bool) (er : Int), e = .returned (.tuple #[.agg #[.int .i16 y0, .int .i16 y1, .int .i16 y2, .int .i16 y3, .int .i16 y4, .int .i16 y5, .int .i16 y6, .int .i16 y7], .bool d, .int .i64 er]) ∧
    ([y0, y1, y2, y3, y4, y5, y6, y7], d, er) = Dk.applyV l cs ∧ Below w.heap.size w w'

set_option maxHeartbeats 1000000 in
theorem apply_any (s : ByteArray) (x0 x1 x2 x3 x4 x5 x6 x7 : Int) (w : World) (hs : s.size ≤ maxLen) :
    Calls Tryz.prog 19 #[.string s, .agg #[.int .i16 x0, .int .i16 x1, .int .i16 x2, .int .i16 x3, .int .i16 x4, .int .i16 x5, .int .i16 x6, .int .i16 x7]] w (ApplyPost s.data.toList [x0, x1, x2, x3, x4, x5, x6, x7] w) := by
  go_enter Tryz.func19, Tryz.ntmps19
  go_wp2_with fail
  refine (parse_any s _ hs).mono ?_
  rintro e w1 ⟨b0, b1, b2, b3, b4, b5, b6, b7, a, n, c, rfl, hp, hb⟩
  have HP : Hid _ := hp
  clear hp
  obtain ⟨g0, g1, hb1⟩ := below_two hb
  obtain ⟨c0, f0, z0⟩ := heap_cells g0
  obtain ⟨c1, f1, z1⟩ := heap_cells g1
  have HB : Hid (Below w.heap.size w w1) := hb1
  have HG : Hid (_ ∧ _) := ⟨g0, g1⟩
  clear hb hb1 g0 g1
  cases hok : Dk.parseOk s.data.toList
  · have HN : Hid _ := Dk.applyV_no (cs := [x0, x1, x2, x3, x4, x5, x6, x7]) hok
    clear hok
    go_wp2
    refine bodyPost_ret (v := .tuple #[.agg #[.int .i16 x0, .int .i16 x1, .int .i16 x2, .int .i16 x3, .int .i16 x4, .int .i16 x5, .int .i16 x6, .int .i16 x7], .bool false, .int .i64 1]) (by simp [results, Tryz.results19, go_sem, c1, z1]) rfl ?_
    refine ⟨x0, x1, x2, x3, x4, x5, x6, x7, false, 1, rfl, HN.out.symm, ?_⟩
    refine Below.alloc ?_ (by simp; omega) _
    iterate 8 refine Below.setCell ?_ (by show w.heap.size ≤ w.heap.size + 1; omega) _
    exact HB.out
  · have HN : Hid _ := Dk.applyV_yes (cs := [x0, x1, x2, x3, x4, x5, x6, x7]) hok
    obtain ⟨hk, hn, hown⟩ := HP.out hok
    have hl := Dk.opsOf_len hok
    have HK : Hid (_ ∧ _ ∧ _ ∧ _) := ⟨hk, hn, own_base (B' := w.heap.size) hown (by simp; omega), hl⟩
    clear HP hok hk hn hown hl
    go_wp2_with fail
    have hd := do_any b0 b1 b2 b3 b4 b5 b6 b7 a n c w.heap.size (Dk.opsOf s.data.toList) x0 x1 x2 x3 x4 x5 x6 x7 (w1.alloc (.cells #[.bool b0, .bool b1, .bool b2, .bool b3, .bool b4, .bool b5, .bool b6, .bool b7, .slice a n c] 119)) HK.out.2.1 (by have := HK.out; omega) (HK.out.2.2.1.alloc _) (Dk.opsOf_bd _)
    refine hd.mono ?_
    rintro e w2 ⟨y0, y1, y2, y3, y4, y5, y6, y7, d, rfl, hy, hb⟩
    have HY : Hid _ := hy
    have HB2 := below_of_new hb
    obtain ⟨c2, f2, z2⟩ := heap_cells ((HB2.block _ z1).trans HG.out.2)
    have HB3 : Hid (Below w.heap.size w w2) := HB.out.trans (HB2.mono HB.out.size)
    clear hy hb hd HB2
    go_wp2
    refine bodyPost_ret (v := .tuple #[.agg #[.int .i16 y0, .int .i16 y1, .int .i16 y2, .int .i16 y3, .int .i16 y4, .int .i16 y5, .int .i16 y6, .int .i16 y7], .bool d, .int .i64 0]) (by simp [results, Tryz.results19, go_sem, c2, z2]) rfl ?_
    refine ⟨y0, y1, y2, y3, y4, y5, y6, y7, d, 0, rfl, ?_, ?_⟩
    · rw [HN.out]
      unfold Dk.doV
      rw [← HK.out.1]
      have h := HY.out
      cases hr : Dk.runV [b0, b1, b2, b3, b4, b5, b6, b7] (Dk.opsOf s.data.toList) [x0, x1, x2, x3, x4, x5, x6, x7]
      all_goals
        rw [hr] at h
        rw [Prod.mk.injEq] at h
        rw [h.1, h.2]
    · refine Below.alloc ?_ (by simp; omega) _
      iterate 8 refine Below.setCell ?_ (by show w.heap.size ≤ w.heap.size + 1; omega) _
      exact HB3.out

end Go.Proofs.YtccckonckddadabGreat
namespace Go.Proofs.YtccckonckddadabGreat
open Go.RowKit
set_option linter.unusedVariables false

theorem str_cell {w : World} {B n c : Nat} {a : Option Addr} {ps : List ByteArray} (h : w.ownsRow B 9 1 (.slice a n c) n (strs ps)) (hn : n = ps.length) (h0 : 0 < n) :
    ∃ g, a = some ⟨g, 0, none⟩ ∧ B ≤ g ∧ g < w.heap.size ∧ ∀ (k : Nat) (p : ByteArray), ps[k]? = some p → w.cell? ⟨g, k, none⟩ = some (.string p) := by
  rcases h.2 with ⟨_, h0'⟩ | ⟨g, cap, cur, hv, hB, hg, _, _, hcs, ht⟩
  · omega
  · obtain ⟨rfl, _⟩ : a = some ⟨g, 0, none⟩ ∧ c = cap := by simpa using hv
    refine ⟨g, rfl, hB, (heap_cells hg).2.2, fun k p hp => ?_⟩
    have hk : k < ps.length := (List.getElem?_eq_some_iff.1 hp).1
    rw [(heap_cells hg).1]
    have : (strs ps)[k]? = some (.string p) := by simp [strs, hp]
    rw [← ht, List.getElem?_take_of_lt (by omega)] at this
    rw [← Array.getElem?_toList]; exact this

def PartsPost (l : List UInt8) (w : World) (e : Ending) (w' : World) : Prop :=
  ∃ (mk : ByteArray) (a : Option Addr) (n c : Nat) (ps : List ByteArray), e = .returned (.tuple #[.string mk, .slice a n c, .bool (Dk.parseOk l)]) ∧
    (Dk.parseOk l = true → mk.data.toList = (Dk.cutAt 124 l).1 ∧ n = ps.length ∧ lists ps = Dk.splitAll 59 (Dk.cutAt 124 l).2.1 ∧ w'.ownsRow w.heap.size 9 1 (.slice a n c) n (strs ps)) ∧
    (Dk.parseOk l = false → n = 0) ∧ Below w.heap.size w w'

theorem parts_big (s : ByteArray) (w : World) (h : 60 < s.size) (hs : s.size ≤ maxLen) : Calls Tryz.prog 49 #[.string s] w (PartsPost s.data.toList w) := by
  have H : Hid (Dk.parseOk s.data.toList = false) := Dk.parse_long h
  unfold maxLen at hs
  go_enter Tryz.func49, Tryz.ntmps49
  go_wp2
  go_ret3
  exact ⟨⟨#[]⟩, none, 0, 0, [], by rw [H.out]; rfl, no_of H.out, fun _ => rfl, Below.refl _ _⟩

theorem two_of {ps : List ByteArray} (h : ps.length = 2) : ∃ p q, ps = [p, q] := by
  match ps, h with
  | [p, q], _ => exact ⟨p, q, rfl⟩

theorem parse_small_is {l p q : List UInt8} (h60 : l.length ≤ 60) (h : Dk.splitAll 124 l = [p, q]) : Dk.parseOk l = (Dk.rise (-1) p && Dk.opsOk q) ∧ (Dk.cutAt 124 l).1 = p ∧ (Dk.cutAt 124 l).2.1 = q := by
  obtain ⟨h1, h2, h3⟩ := Dk.parse_pair h
  refine ⟨?_, h2, h3⟩
  rw [Dk.parse_at h60 h1 rfl rfl, h2, h3]; rfl

set_option maxHeartbeats 1000000 in
theorem parts_small (s : ByteArray) (w : World) (h : s.size ≤ 60) : Calls Tryz.prog 49 #[.string s] w (PartsPost s.data.toList w) := by
  have hml : 60 ≤ maxLen := by unfold maxLen; omega
  go_enter Tryz.func49, Tryz.ntmps49
  go_wp2_with fail
  refine (split_any s 124 _ h).mono ?_
  rintro e w1 ⟨a, n, c, ps, rfl, hn, hps, hown, hb⟩
  by_cases h2 : n = 2
  · subst h2
    obtain ⟨p, q, rfl⟩ := two_of hn.symm
    obtain ⟨g, rfl, hgB, hg, hcell⟩ := str_cell hown rfl (by omega)
    have c0 := hcell 0 p rfl
    have c1 := hcell 1 q rfl
    obtain ⟨P1, P2, P3⟩ := parse_small_is h hps.symm
    have HP : Hid (_ ∧ _ ∧ _) := ⟨P1, P2, P3⟩
    have HB : Hid (Below w.heap.size w w1) := hb
    have hl := (Dk.cut_len (m := 124) s.data.toList).1
    rw [P2, P3, len_list, len_list, len_list] at hl
    clear hb hown hps hn hcell P1 P2 P3
    go_wp2_with fail
    refine (rising_any p _ (by omega)).mono ?_
    rintro e w2 ⟨rfl, nq, rfl⟩
    generalize Dk.rise (-1) p.data.toList = rs at *
    go_wp2_with fail
    refine (split_any q 59 _ (by omega)).mono ?_
    rintro e w3 ⟨a2, n2, c2, qs, rfl, hn2, hqs, hown2, hb2⟩
    have hb3 : Below w1.heap.size w1 w3 := (below_drewN (Below.refl _ w1) nq).trans (hb2.mono (by simp))
    have c0' := (hb3.cell (p := ⟨g, 0, none⟩) hg).trans c0
    have hown3 : w3.ownsRow w1.heap.size 9 1 (.slice a2 n2 c2) n2 (strs qs) := own_base hown2 (by simp)
    have HQ : Hid (_ ∧ _ ∧ _ ∧ _) := ⟨hn2, hqs, own_base hown3 HB.out.size, HB.out.trans (hb3.mono HB.out.size)⟩
    clear hn2 hqs hown2 hb2 c0 c1
    cases rs
    · have H : Hid (Dk.parseOk s.data.toList = false) := HP.out.1
      clear hown3 hb3
      go_wp2
      go_ret3
      exact ⟨⟨#[]⟩, none, 0, 0, [], by rw [H.out]; rfl, no_of H.out, fun _ => rfl, HQ.out.2.2.2⟩
    · by_cases h8 : 8 < n2
      · have H : Hid (Dk.parseOk s.data.toList = false) := by
          show _ = _
          rw [HP.out.1, Dk.opsOk_many (by rw [← HQ.out.2.1, lists, List.length_map, ← HQ.out.1]; exact h8)]; rfl
        clear hown3 hb3
        go_wp2
        go_ret3
        exact ⟨⟨#[]⟩, none, 0, 0, [], by rw [H.out]; rfl, no_of H.out, fun _ => rfl, HQ.out.2.2.2⟩
      · have HO3 : Hid _ := hown3
        clear hown3 hb3
        go_wp2
        go_loopw [8] (fun i wr => ∃ k : Nat, k ≤ n2 ∧ i = .int .i64 k ∧ wr = w3 ∧ Hid (((lists qs).take k).all Dk.opOk = true)) (fun i _ => n2 - (intOf i).toNat)
        case atStart => exact ⟨0, Nat.zero_le _, rfl, rfl, rfl⟩
        case round =>
          obtain ⟨k, hk, rfl, rfl, HK⟩ := hrel
          by_cases hlt : k < n2
          · obtain ⟨g2, rfl, _, hg2, hcell2⟩ := str_cell HO3.out HQ.out.1 (by omega)
            have hkq : k < qs.length := by rw [← HQ.out.1]; exact hlt
            have ck := hcell2 k qs[k] (List.getElem?_eq_getElem hkq)
            have HMem : Hid (qs[k].data.toList ∈ Dk.splitAll 59 q.data.toList) := by
              show _ ∈ _
              rw [← HQ.out.2.1]; exact List.mem_map.2 ⟨qs[k], List.getElem_mem hkq, rfl⟩
            have hsz : qs[k].size ≤ 60 := by have := Dk.split_len 59 _ _ HMem.out; rw [len_list, len_list] at this; omega
            have HSn : Hid ((lists qs).take (k + 1) = (lists qs).take k ++ [qs[k].data.toList]) := by
              show _ = _
              rw [List.take_succ_eq_append_getElem (by rw [lists, List.length_map]; exact hkq)]; simp [lists]
            clear hcell2
            generalize qs[k] = qk at *
            go_wp2_with fail
            refine (refop_any qk _ (by omega)).mono ?_
            rintro e w' ⟨rfl, rfl⟩
            cases hok : Dk.opOk qk.data.toList
            · have H : Hid (Dk.parseOk s.data.toList = false) := by
                show _ = _
                rw [HP.out.1, Dk.opsOk_one HMem.out hok]; rfl
              clear hok
              go_wp2
              go_ret3
              exact ⟨⟨#[]⟩, none, 0, 0, [], by rw [H.out]; rfl, no_of H.out, fun _ => rfl, HQ.out.2.2.2⟩
            · have HN : Hid (((lists qs).take (k + 1)).all Dk.opOk = true) := by
                show _ = _
                rw [HSn.out, List.all_append, HK.out]; simp [hok]
              clear hok
              go_wp2
              go_roundw
              case rel => exact ⟨k + 1, by omega, by go_num, by simp, HN.out⟩
              case measure => simp [intOf]; omega
          · have H : Hid (Dk.parseOk s.data.toList = true) := by
              show _ = _
              have hl8 : (Dk.splitAll 59 q.data.toList).length = n2 := by rw [← HQ.out.2.1, lists, List.length_map, ← HQ.out.1]
              have ha := HK.out
              rw [List.take_of_length_le (by rw [lists, List.length_map, ← HQ.out.1]; omega), HQ.out.2.1] at ha
              rw [HP.out.1, Dk.opsOk_all (by omega) ha]; rfl
            go_wp2
            go_ret3
            refine ⟨p, a2, n2, c2, qs, by rw [H.out]; rfl, fun _ => ⟨HP.out.2.1.symm, HQ.out.1, by rw [HP.out.2.2]; exact HQ.out.2.1, HQ.out.2.2.1⟩, (fun h => by rw [H.out] at h; cases h), HQ.out.2.2.2⟩
  · have H : Hid (Dk.parseOk s.data.toList = false) := Dk.parse_two (by rw [← hps, lists, List.length_map]; omega)
    have h2' : ((n : Int) != 2) = true := by rw [bne_iff_ne]; omega
    have HB : Hid (Below w.heap.size w w1) := hb
    clear hps hown hb h2 hn
    go_wp2
    go_ret3
    exact ⟨⟨#[]⟩, none, 0, 0, [], by rw [H.out]; rfl, no_of H.out, fun _ => rfl, HB.out⟩

theorem parts_any (s : ByteArray) (w : World) (hs : s.size ≤ maxLen) : Calls Tryz.prog 49 #[.string s] w (PartsPost s.data.toList w) := by
  by_cases h : s.size ≤ 60
  · exact parts_small s w h
  · exact parts_big s w (by omega) hs

end Go.Proofs.YtccckonckddadabGreat
namespace Go.Proofs.YtccckonckddadabGreat
open Go.RowKit
set_option linter.unusedVariables false

set_option maxHeartbeats 2000000 in
theorem ints_any (x0 x1 x2 x3 x4 x5 x6 x7 : Int) (w : World) (h0 : -32768 ≤ x0 ∧ x0 ≤ 32767) (h1 : -32768 ≤ x1 ∧ x1 ≤ 32767) (h2 : -32768 ≤ x2 ∧ x2 ≤ 32767) (h3 : -32768 ≤ x3 ∧ x3 ≤ 32767) (h4 : -32768 ≤ x4 ∧ x4 ≤ 32767) (h5 : -32768 ≤ x5 ∧ x5 ≤ 32767) (h6 : -32768 ≤ x6 ∧ x6 ≤ 32767) (h7 : -32768 ≤ x7 ∧ x7 ≤ 32767) :
    Calls Tryz.prog 51 #[.agg #[.int .i16 x0, .int .i16 x1, .int .i16 x2, .int .i16 x3, .int .i16 x4, .int .i16 x5, .int .i16 x6, .int .i16 x7]] w fun e w' => e = .returned (.agg #[.int .i64 x0, .int .i64 x1, .int .i64 x2, .int .i64 x3, .int .i64 x4, .int .i64 x5, .int .i64 x6, .int .i64 x7]) ∧ Below w.heap.size w w' := by
  go_enter Tryz.func51, Tryz.ntmps51
  go_wp2
  refine wp_loop_rounds 9 ?_
  iterate 9
    rw [rounds_succ]
    go_wp2
  exact bodyPost_ret (v := .agg #[.int .i64 x0, .int .i64 x1, .int .i64 x2, .int .i64 x3, .int .i64 x4, .int .i64 x5, .int .i64 x6, .int .i64 x7]) (by simp [results, Tryz.results51, go_sem]) rfl
    ⟨rfl, ((((Below.refl _ _).alloc (Nat.le_refl _) _).alloc (by simp) _).alloc (by simp; omega) _)⟩

set_option maxHeartbeats 2000000 in
theorem cells_any (x0 x1 x2 x3 x4 x5 x6 x7 : Int) (w : World) (h0 : -32768 ≤ x0 ∧ x0 ≤ 32767) (h1 : -32768 ≤ x1 ∧ x1 ≤ 32767) (h2 : -32768 ≤ x2 ∧ x2 ≤ 32767) (h3 : -32768 ≤ x3 ∧ x3 ≤ 32767) (h4 : -32768 ≤ x4 ∧ x4 ≤ 32767) (h5 : -32768 ≤ x5 ∧ x5 ≤ 32767) (h6 : -32768 ≤ x6 ∧ x6 ≤ 32767) (h7 : -32768 ≤ x7 ∧ x7 ≤ 32767) :
    Calls Tryz.prog 52 #[.agg #[.int .i64 x0, .int .i64 x1, .int .i64 x2, .int .i64 x3, .int .i64 x4, .int .i64 x5, .int .i64 x6, .int .i64 x7]] w fun e w' => e = .returned (.agg #[.int .i16 x0, .int .i16 x1, .int .i16 x2, .int .i16 x3, .int .i16 x4, .int .i16 x5, .int .i16 x6, .int .i16 x7]) ∧ Below w.heap.size w w' := by
  go_enter Tryz.func52, Tryz.ntmps52
  go_wp2
  refine wp_loop_rounds 9 ?_
  iterate 9
    rw [rounds_succ]
    go_wp2
  exact bodyPost_ret (v := .agg #[.int .i16 x0, .int .i16 x1, .int .i16 x2, .int .i16 x3, .int .i16 x4, .int .i16 x5, .int .i16 x6, .int .i16 x7]) (by simp [results, Tryz.results52, go_sem]) rfl
    ⟨rfl, ((((Below.refl _ _).alloc (Nat.le_refl _) _).alloc (by simp) _).alloc (by simp; omega) _)⟩

/-! ### argument -/
def ArgRPost (l : List UInt8) (cs : List Int) (w : World) (e : Ending) (w' : World) : Prop :=
  ∃ kb : ByteArray, e = .returned (.tuple #[.int .i64 (Dk.argVal (Dk.opV l) cs), .string kb]) ∧ kb.data.toList = (if Dk.argKey (l.drop 2) then (l.take 3).drop 2 else []) ∧ Below w.heap.size w w'

set_option maxHeartbeats 1000000 in
theorem argument_num (s : ByteArray) (x0 x1 x2 x3 x4 x5 x6 x7 : Int) (w : World) (hs : s.size ≤ maxLen) (hop : Dk.opOk s.data.toList = true) (hk : Dk.argKey (s.data.toList.drop 2) = false) :
    Calls Tryz.prog 86 #[.string s, .agg #[.int .i64 x0, .int .i64 x1, .int .i64 x2, .int .i64 x3, .int .i64 x4, .int .i64 x5, .int .i64 x6, .int .i64 x7]] w (ArgRPost s.data.toList [x0, x1, x2, x3, x4, x5, x6, x7] w) := by
  have h3 : 3 ≤ s.size := Dk.opOk_len hop
  have h2 : 2 < s.size := by omega
  have hI : Hid (Dk.isK s[2].toNat = false) := by
    show _ = _
    rw [← drop2_head s h2, Dk.opOk_key hop, hk]
  have HV : Hid (Dk.argVal (Dk.opV s.data.toList) [x0, x1, x2, x3, x4, x5, x6, x7] = Dk.numV (s.data.toList.drop 2)) := Dk.argVal_num hk
  have HN : Hid (Dk.numOk (s.data.toList.drop 2) = true) := Dk.opOk_num hop hk
  have HK : Hid (Dk.argKey (s.data.toList.drop 2) = false) := hk
  have HD2 : Hid ((s.extract 2 s.size).data.toList = s.data.toList.drop 2) := drop2_list s
  have ht : (s.extract 2 s.size).size ≤ maxLen := by simp; omega
  clear hop hk
  unfold maxLen at hs
  go_enter Tryz.func86, Tryz.ntmps86
  go_wp2_with fail
  refine (inK_any _ _).mono ?_
  rintro e w' ⟨rfl, rfl⟩
  rewrite [hI.out]
  go_wp2_with fail
  refine (refnum_any _ _ ht).mono ?_
  rintro e w' ⟨v, rfl, hv, rfl⟩
  have HW : Hid (Dk.numV (s.data.toList.drop 2) = v) := by
    show _ = _
    have := hv (by rw [HD2.out]; exact HN.out)
    rw [this, HD2.out]
  rewrite [HD2.out, HN.out]
  clear hv
  go_wp2
  go_ret2
  exact ⟨⟨#[]⟩, by rw [HV.out, HW.out]; rfl, by rw [HK.out]; rfl, (Below.refl _ _).alloc (Nat.le_refl _) _⟩

set_option maxHeartbeats 4000000 in
theorem argument_key (s : ByteArray) (x0 x1 x2 x3 x4 x5 x6 x7 : Int) (w : World) (hop : Dk.opOk s.data.toList = true) (hk : Dk.argKey (s.data.toList.drop 2) = true) :
    Calls Tryz.prog 86 #[.string s, .agg #[.int .i64 x0, .int .i64 x1, .int .i64 x2, .int .i64 x3, .int .i64 x4, .int .i64 x5, .int .i64 x6, .int .i64 x7]] w (ArgRPost s.data.toList [x0, x1, x2, x3, x4, x5, x6, x7] w) := by
  have h3 : 3 ≤ s.size := Dk.opOk_len hop
  have hs3 : s.size = 3 := Dk.opOk_len3 hk h3
  have h2 : 2 < s.size := by omega
  have hK : Dk.isK s[2].toNat = true := by rw [← drop2_head s h2, Dk.opOk_key hop, hk]
  have hI : Hid (Dk.isK s[2].toNat = true) := hK
  have HK : Hid (Dk.argKey (s.data.toList.drop 2) = true) := hk
  have HD : Hid ((s.data.toList.drop 2).headD 0 = s[2]) := drop2_head s h2
  have HE : Hid ((s.data.toList.take 3).drop 2 = if true = true then (s.data.toList.take 3).drop 2 else []) := rfl
  obtain ⟨k0, k1⟩ := Dk.of_isK hK
  obtain ⟨j, hj, hjs⟩ : ∃ j : Nat, j < 8 ∧ (s[2].toNat : Int) = 97 + j := ⟨s[2].toNat - 97, by omega, by omega⟩
  have hkv : Dk.keyV s[2].toNat = (j : Int) := by rw [Dk.keyV_yes k0 k1]; omega
  have hc : (Dk.keyV s[2].toNat).toNat = j := by rw [hkv]; simp
  clear hop hk hK k0 k1 hkv
  obtain rfl | rfl | rfl | rfl | rfl | rfl | rfl | rfl : j = 0 ∨ j = 1 ∨ j = 2 ∨ j = 3 ∨ j = 4 ∨ j = 5 ∨ j = 6 ∨ j = 7 := by omega
  all_goals
    simp at hjs
  all_goals
    have hI2 := hI.out
    rw [hjs] at hI2
    have HC : Hid _ := hc
    clear hc
    obtain ⟨v, hv⟩ : ∃ v, Dk.argVal (Dk.opV s.data.toList) [x0, x1, x2, x3, x4, x5, x6, x7] = v := ⟨_, rfl⟩
    have hv2 := hv
    rw [Dk.argVal_cell HK.out, HD.out, HC.out] at hv2
    simp at hv2
    have HV : Hid _ := hv
    have HV2 : Hid _ := hv2
    clear hv hv2
    go_enter Tryz.func86, Tryz.ntmps86
    go_wp2_with fail
    refine (inK_any _ _).mono ?_
    rintro e w' ⟨rfl, rfl⟩
    go_wp2
    go_quiet (fail)
    go_wp2
    go_ret2
    exact ⟨s.extract 2 3, by rw [HV.out, ← HV2.out]; rfl, by rw [ext_list, HK.out]; exact HE.out, below_drewN ((Below.refl _ _).alloc (Nat.le_refl _) _) _⟩

theorem argument_any (s : ByteArray) (x0 x1 x2 x3 x4 x5 x6 x7 : Int) (w : World) (hs : s.size ≤ maxLen) (hop : Dk.opOk s.data.toList = true) :
    Calls Tryz.prog 86 #[.string s, .agg #[.int .i64 x0, .int .i64 x1, .int .i64 x2, .int .i64 x3, .int .i64 x4, .int .i64 x5, .int .i64 x6, .int .i64 x7]] w (ArgRPost s.data.toList [x0, x1, x2, x3, x4, x5, x6, x7] w) := by
  cases hk : Dk.argKey (s.data.toList.drop 2)
  · exact argument_num s x0 x1 x2 x3 x4 x5 x6 x7 w hs hop hk
  · exact argument_key s x0 x1 x2 x3 x4 x5 x6 x7 w hop hk

end Go.Proofs.YtccckonckddadabGreat
namespace Go.Proofs.YtccckonckddadabGreat
open Go.RowKit
set_option linter.unusedVariables false

structure DoR (w wr : World) (X Y : Array Value) (sl : Value) (n : Nat) (ps : List ByteArray) : Prop where
  c : wr.heap[w.heap.size]? = some (.cells Y 109)
  r : wr.heap[w.heap.size + 1]? = some (.cells #[.int .i64 0, .int .i64 0, .int .i64 0, .int .i64 0, .int .i64 0, .int .i64 0, .int .i64 0, .int .i64 0] 109)
  x : wr.heap[w.heap.size + 2]? = some (.cells X 109)
  b : Below w.heap.size w wr
  o : wr.ownsRow (w.heap.size + 3) 9 1 sl n (strs ps)

theorem DoR.kept {w wr W : World} {X Y : Array Value} {sl : Value} {n : Nat} {ps : List ByteArray} (h : DoR w wr X Y sl n ps) (hb : Below wr.heap.size wr W) : DoR w W X Y sl n ps :=
  ⟨(hb.block _ (heap_cells h.c).2.2).trans h.c, (hb.block _ (heap_cells h.r).2.2).trans h.r, (hb.block _ (heap_cells h.x).2.2).trans h.x, h.b.trans (hb.mono h.b.size), own_below h.o hb⟩

theorem set_one {w : World} {g : Nat} {t : TypeId} {cs : Array Value} (h : w.heap[g]? = some (.cells cs t)) (j : Nat) (v : Value) : (w.setCell ⟨g, j, none⟩ v).heap[g]? = some (.cells (cs.setIfInBounds j v) t) := by
  simp [World.setCell, Array.getElem?_modify, h]

theorem DoR.put {w W : World} {X Y : Array Value} {sl : Value} {n : Nat} {ps : List ByteArray} (h : DoR w W X Y sl n ps) (j : Nat) (v : Value) : DoR w (W.setCell ⟨w.heap.size, j, none⟩ v) X (Y.setIfInBounds j v) sl n ps :=
  ⟨set_one h.c j v, (Below.heap_setCell _ _ _ _ (by show _ ≠ w.heap.size; omega)).trans h.r, (Below.heap_setCell _ _ _ _ (by show _ ≠ w.heap.size; omega)).trans h.x, h.b.setCell (Nat.le_refl _) _, ownsRow_setCell_below h.o (by show w.heap.size < _; omega) _⟩

theorem at8 (y0 y1 y2 y3 y4 y5 y6 y7 : Int) {j : Nat} (h : j < 8) : (#[.int .i64 y0, .int .i64 y1, .int .i64 y2, .int .i64 y3, .int .i64 y4, .int .i64 y5, .int .i64 y6, .int .i64 y7] : Array Value)[j]? = some (.int .i64 ([y0, y1, y2, y3, y4, y5, y6, y7].getD j 0)) := by
  obtain rfl | rfl | rfl | rfl | rfl | rfl | rfl | rfl : j = 0 ∨ j = 1 ∨ j = 2 ∨ j = 3 ∨ j = 4 ∨ j = 5 ∨ j = 6 ∨ j = 7 := by omega
  all_goals rfl
theorem put8 (y0 y1 y2 y3 y4 y5 y6 y7 v : Int) {j : Nat} (h : j < 8) : ∃ z0 z1 z2 z3 z4 z5 z6 z7, [y0, y1, y2, y3, y4, y5, y6, y7].set j v = [z0, z1, z2, z3, z4, z5, z6, z7] ∧ (#[.int .i64 y0, .int .i64 y1, .int .i64 y2, .int .i64 y3, .int .i64 y4, .int .i64 y5, .int .i64 y6, .int .i64 y7] : Array Value).setIfInBounds j (.int .i64 v) = #[.int .i64 z0, .int .i64 z1, .int .i64 z2, .int .i64 z3, .int .i64 z4, .int .i64 z5, .int .i64 z6, .int .i64 z7] := by
  obtain rfl | rfl | rfl | rfl | rfl | rfl | rfl | rfl : j = 0 ∨ j = 1 ∨ j = 2 ∨ j = 3 ∨ j = 4 ∨ j = 5 ∨ j = 6 ∨ j = 7 := by omega
  all_goals exact ⟨_, _, _, _, _, _, _, _, rfl, rfl⟩

theorem doR_start {w w1 : World} {X : Array Value} {sl : Value} {n : Nat} {ps : List ByteArray} (hb : Below (((w.alloc (.cells X 109)).alloc (.cells #[.int .i64 0, .int .i64 0, .int .i64 0, .int .i64 0, .int .i64 0, .int .i64 0, .int .i64 0, .int .i64 0] 109)).alloc (.cells X 109)).heap.size (((w.alloc (.cells X 109)).alloc (.cells #[.int .i64 0, .int .i64 0, .int .i64 0, .int .i64 0, .int .i64 0, .int .i64 0, .int .i64 0, .int .i64 0] 109)).alloc (.cells X 109)) w1)
    (ho : w1.ownsRow (((w.alloc (.cells X 109)).alloc (.cells #[.int .i64 0, .int .i64 0, .int .i64 0, .int .i64 0, .int .i64 0, .int .i64 0, .int .i64 0, .int .i64 0] 109)).alloc (.cells X 109)).heap.size 9 1 sl n (strs ps)) : DoR w w1 X X sl n ps := by
  obtain ⟨a, b, c, d⟩ := below_three hb
  exact ⟨a, b, c, d, own_base ho (by simp)⟩

def RDoPost (l : List UInt8) (cs : List Int) (w : World) (e : Ending) (w' : World) : Prop :=
  ∃ (y0 y1 y2 y3 y4 y5 y6 y7 : Int) (d : Bool), e = .returned (.tuple #[.agg #[.int .i64 y0, .int .i64 y1, .int .i64 y2, .int .i64 y3, .int .i64 y4, .int .i64 y5, .int .i64 y6, .int .i64 y7], .bool d]) ∧ ([y0, y1, y2, y3, y4, y5, y6, y7], d) = Dk.doV l cs ∧ Dk.All16 [y0, y1, y2, y3, y4, y5, y6, y7] ∧ Below w.heap.size w w'

theorem doV_none {l : List UInt8} {cs : List Int} (h : Dk.runV (Dk.keysOf l) (Dk.opsOf l) cs = none) : (cs, false) = Dk.doV l cs := by unfold Dk.doV; rw [h]
theorem doV_some {l : List UInt8} {cs ys : List Int} (h : Dk.runV (Dk.keysOf l) (Dk.opsOf l) cs = some ys) : (ys, true) = Dk.doV l cs := by unfold Dk.doV; rw [h]

/-- What is known of an operation's text in a round. -/
structure OpIs (l : List UInt8) (o : ByteArray) (mk : ByteArray) (j : Nat) : Prop where
  ok : Dk.opOk o.data.toList = true
  small : o.size ≤ 60
  big : 3 ≤ o.size
  j8 : j < 8
  key : (Dk.opV o.data.toList).key = j
  decl : Dk.decl (Dk.keysOf l) (Dk.opV o.data.toList).key = Dk.inB mk.data.toList (97 + j)

theorem opIs_of {l : List UInt8} {o mk : ByteArray} (hok : Dk.opOk o.data.toList = true) (hs : o.size ≤ 60) (hm : mk.data.toList = (Dk.cutAt 124 l).1) :
    ∃ j, OpIs l o mk j ∧ ∃ h0 : 0 < o.size, (o[0].toNat : Int) = 97 + j ∧ ∃ h1 : 1 < o.size, (Dk.opV o.data.toList).sign = o[1].toNat ∧ Dk.isSign o[1].toNat = true := by
  have h3 : 3 ≤ o.size := Dk.opOk_len hok
  have hk0 := Dk.opOk_k0 hok
  rw [headD_list o (by omega)] at hk0
  obtain ⟨a, b⟩ := Dk.of_isK hk0
  have hj : ((o[0].toNat - 97 : Nat) : Int) = (o[0].toNat : Int) - 97 := by omega
  have hkey : (Dk.opV o.data.toList).key = ((o[0].toNat - 97 : Nat) : Int) := by
    show Dk.keyV ((o.data.toList.headD 0).toNat) = _
    rw [headD_list o (by omega), Dk.keyV_yes a b, hj]
  have hsg : (Dk.opV o.data.toList).sign = o[1].toNat := by
    show (((o.data.toList.drop 1).headD 0).toNat : Int) = _
    rw [drop1_list o (by omega)]
  have hsign : Dk.isSign o[1].toNat = true := by
    have := hok
    simp only [Dk.opOk, Bool.and_eq_true, decide_eq_true_eq] at this
    have h2 := this.1.2
    rw [drop1_list o (by omega)] at h2
    exact h2
  refine ⟨o[0].toNat - 97, ⟨hok, hs, h3, by omega, hkey, ?_⟩, by omega, by omega, by omega, hsg, hsign⟩
  rw [hkey, Dk.decl_in (by omega), hm]

end Go.Proofs.YtccckonckddadabGreat
