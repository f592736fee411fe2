import Derived.Test.YtccckonckddadaaWalkJ
import Derived.Test.YtccckonckddadaaPlainD
import Derived.Deep.RegionHeld3
namespace Go.Proofs.Ytccckonckddadaa
open Go.RowKit
set_option linter.unusedVariables false

/-- What Do answers. -/
def DoPost (ks : List Bool) (os : List Dk.Op) (cs : List Int) (w : World) (e : Ending) (w' : World) : Prop :=
  ∃ (y0 y1 y2 y3 y4 y5 y6 y7 : Int) (d : Bool), e = .returned (.tuple #[.agg #[.int .i16 y0, .int .i16 y1, .int .i16 y2, .int .i16 y3, .int .i16 y4, .int .i16 y5, .int .i16 y6, .int .i16 y7], .bool d]) ∧
    (([y0, y1, y2, y3, y4, y5, y6, y7], d) = match Dk.runV ks os cs with | some cs' => (cs', true) | none => (cs, false)) ∧ Below w.heap.size w w'

/-- An operation as Parse leaves it: its keys are cells. -/
def OpFit (o : Dk.Op) : Prop := 0 ≤ o.key ∧ o.key < 8 ∧ 0 ≤ o.akey ∧ o.akey < 8

theorem heap_cells {w : World} {g : Nat} {cs : Array Value} {t : TypeId} (h : w.heap[g]? = some (.cells cs t)) : (∀ x, w.cell? ⟨g, x, none⟩ = cs[x]?) ∧ (∀ x, w.frozen? ⟨g, x, none⟩ = false) ∧ g < w.heap.size := by
  refine ⟨fun x => ?_, fun x => ?_, (Array.getElem?_eq_some_iff.1 h).1⟩
  · simp [World.cell?, h]
  · simp [World.frozen?, h]

theorem opsCells_at : ∀ (os : List Dk.Op) (k j : Nat) (h : k < os.length), j < 5 → (opsCells os)[k * 5 + j]? = (opCells os[k])[j]?
  | [], k, j, h, _ => absurd h (by simp)
  | o :: r, 0, j, h, hj => by
    show (opCells o ++ opsCells r)[0 * 5 + j]? = _
    rw [List.getElem?_append_left (by simp [opCells]; omega)]; simp
  | o :: r, k + 1, j, h, hj => by
    show (opCells o ++ opsCells r)[(k + 1) * 5 + j]? = _
    rw [List.getElem?_append_right (by simp [opCells]; omega)]
    have e : (k + 1) * 5 + j - (opCells o).length = k * 5 + j := by simp [opCells]; omega
    rw [e, opsCells_at r k j (by simpa using h) hj]; simp

theorem ops_cell {w : World} {B n c : Nat} {a : Option Addr} {os : List Dk.Op} (h : w.ownsRow B 139 5 (.slice a n c) n (opsCells os)) (hn : n = os.length) {k : Nat} (hk : k < n) :
    ∃ g, a = some ⟨g, 0, none⟩ ∧ g < w.heap.size ∧ ∃ o, os[k]? = some o ∧ w.cell? ⟨g, k * 5, none⟩ = some (.int .i64 o.key) ∧ w.cell? ⟨g, k * 5 + 1, none⟩ = some (.int .u8 o.sign) ∧ w.cell? ⟨g, k * 5 + 2, none⟩ = some (.bool o.isKey) ∧
      w.cell? ⟨g, k * 5 + 3, none⟩ = some (.int .i64 o.akey) ∧ w.cell? ⟨g, k * 5 + 4, none⟩ = some (.int .i16 o.num) := by
  rcases h.2 with ⟨_, h0⟩ | ⟨g, cap, cur, hv, _, hg, _, _, hcs, ht⟩
  · omega
  · obtain ⟨rfl, _⟩ : a = some ⟨g, 0, none⟩ ∧ c = cap := by simpa using hv
    have hk' : k < os.length := by omega
    have hx : ∀ j, j < 5 → w.cell? ⟨g, k * 5 + j, none⟩ = (opCells os[k])[j]? := fun j hj => by
      rw [(heap_cells hg).1, ← opsCells_at os k j hk' hj, ← ht, ← Array.getElem?_toList, List.getElem?_take_of_lt (by omega)]
    refine ⟨g, rfl, (heap_cells hg).2.2, os[k], List.getElem?_eq_getElem hk', ?_⟩
    exact ⟨hx 0 (by omega), hx 1 (by omega), hx 2 (by omega), hx 3 (by omega), hx 4 (by omega)⟩

/-- Eight stores into one block. -/
theorem set8 {w : World} {g : Nat} {t : TypeId} {y0 y1 y2 y3 y4 y5 y6 y7 : Value} (h : w.heap[g]? = some (.cells #[y0, y1, y2, y3, y4, y5, y6, y7] t)) (z0 z1 z2 z3 z4 z5 z6 z7 : Value) :
    ((((((((w.setCell ⟨g, 0, none⟩ z0).setCell ⟨g, 1, none⟩ z1).setCell ⟨g, 2, none⟩ z2).setCell ⟨g, 3, none⟩ z3).setCell ⟨g, 4, none⟩ z4).setCell ⟨g, 5, none⟩ z5).setCell ⟨g, 6, none⟩ z6).setCell ⟨g, 7, none⟩ z7).heap[g]? = some (.cells #[z0, z1, z2, z3, z4, z5, z6, z7] t) := by
  simp [World.setCell, Array.getElem?_modify, h]
theorem set8_ne {w : World} {g k : Nat} (hk : k ≠ g) (z0 z1 z2 z3 z4 z5 z6 z7 : Value) :
    ((((((((w.setCell ⟨g, 0, none⟩ z0).setCell ⟨g, 1, none⟩ z1).setCell ⟨g, 2, none⟩ z2).setCell ⟨g, 3, none⟩ z3).setCell ⟨g, 4, none⟩ z4).setCell ⟨g, 5, none⟩ z5).setCell ⟨g, 6, none⟩ z6).setCell ⟨g, 7, none⟩ z7).heap[k]? = w.heap[k]? := by
  iterate 8 rw [Below.heap_setCell _ _ _ _ hk]
theorem set8_size {w : World} {g : Nat} (z0 z1 z2 z3 z4 z5 z6 z7 : Value) : ((((((((w.setCell ⟨g, 0, none⟩ z0).setCell ⟨g, 1, none⟩ z1).setCell ⟨g, 2, none⟩ z2).setCell ⟨g, 3, none⟩ z3).setCell ⟨g, 4, none⟩ z4).setCell ⟨g, 5, none⟩ z5).setCell ⟨g, 6, none⟩ z6).setCell ⟨g, 7, none⟩ z7).heap.size = w.heap.size := by
  simp [World.setCell]
theorem set8_below {w w0 : World} {B g : Nat} (h : Below B w0 w) (hg : B ≤ g) (z0 z1 z2 z3 z4 z5 z6 z7 : Value) : Below B w0 ((((((((w.setCell ⟨g, 0, none⟩ z0).setCell ⟨g, 1, none⟩ z1).setCell ⟨g, 2, none⟩ z2).setCell ⟨g, 3, none⟩ z3).setCell ⟨g, 4, none⟩ z4).setCell ⟨g, 5, none⟩ z5).setCell ⟨g, 6, none⟩ z6).setCell ⟨g, 7, none⟩ z7) := by
  iterate 8 refine Below.setCell ?_ hg _
  exact h

/-- What holds of every world inside the region of a round: all that was there reads as it did. -/
theorem doS_of {wr W : World} (h : Below wr.heap.size wr W) : Below wr.heap.size wr W ∧ (∀ b x, b < wr.heap.size → W.cell? ⟨b, x, none⟩ = wr.cell? ⟨b, x, none⟩) := ⟨h, (bcell h).1⟩
theorem doS_0 {wr : World} : Below wr.heap.size wr wr.drew ∧ (∀ b x, b < wr.heap.size → wr.drew.cell? ⟨b, x, none⟩ = wr.cell? ⟨b, x, none⟩) := doS_of (Below.refl _ _).drew
theorem doS_1 {wr : World} {o : Obj} : Below wr.heap.size wr (wr.alloc o).drew ∧ (∀ b x, b < wr.heap.size → (wr.alloc o).drew.cell? ⟨b, x, none⟩ = wr.cell? ⟨b, x, none⟩) := doS_of ((Below.refl _ _).alloc (Nat.le_refl _) _).drew
theorem doS_2 {wr W : World} (hb : Below wr.drew.heap.size wr.drew W) : Below wr.heap.size wr W ∧ (∀ b x, b < wr.heap.size → W.cell? ⟨b, x, none⟩ = wr.cell? ⟨b, x, none⟩) := doS_of ((Below.refl _ _).drew.trans hb)
theorem doS_3 {wr W : World} {o : Obj} (hb : Below (wr.alloc o).drew.heap.size (wr.alloc o).drew W) : Below wr.heap.size wr W ∧ (∀ b x, b < wr.heap.size → W.cell? ⟨b, x, none⟩ = wr.cell? ⟨b, x, none⟩) :=
  doS_of (((Below.refl _ _).alloc (Nat.le_refl _) _).drew.trans (hb.mono (by show _ ≤ (wr.alloc o).heap.size; simp)))
theorem doS_4 {wr W : World} {o : Obj} (hb : Below wr.drew.heap.size wr.drew W) : Below wr.heap.size wr (W.alloc o) ∧ (∀ b x, b < wr.heap.size → (W.alloc o).cell? ⟨b, x, none⟩ = wr.cell? ⟨b, x, none⟩) := doS_of ((doS_2 hb).1.alloc (doS_2 hb).1.size _)
theorem doS_5 {wr W : World} {o : Obj} {z0 z1 z2 z3 z4 z5 z6 z7 : Value} (hb : Below (wr.alloc o).drew.heap.size (wr.alloc o).drew W) :
    Below wr.heap.size wr ((((((((W.setCell ⟨wr.heap.size, 0, none⟩ z0).setCell ⟨wr.heap.size, 1, none⟩ z1).setCell ⟨wr.heap.size, 2, none⟩ z2).setCell ⟨wr.heap.size, 3, none⟩ z3).setCell ⟨wr.heap.size, 4, none⟩ z4).setCell ⟨wr.heap.size, 5, none⟩ z5).setCell ⟨wr.heap.size, 6, none⟩ z6).setCell ⟨wr.heap.size, 7, none⟩ z7) ∧ (∀ b x, b < wr.heap.size → ((((((((W.setCell ⟨wr.heap.size, 0, none⟩ z0).setCell ⟨wr.heap.size, 1, none⟩ z1).setCell ⟨wr.heap.size, 2, none⟩ z2).setCell ⟨wr.heap.size, 3, none⟩ z3).setCell ⟨wr.heap.size, 4, none⟩ z4).setCell ⟨wr.heap.size, 5, none⟩ z5).setCell ⟨wr.heap.size, 6, none⟩ z6).setCell ⟨wr.heap.size, 7, none⟩ z7).cell? ⟨b, x, none⟩ = wr.cell? ⟨b, x, none⟩) := doS_of (set8_below (doS_3 hb).1 (Nat.le_refl _) z0 z1 z2 z3 z4 z5 z6 z7)

/-- The world in a round of Do: the boxes of its arguments, its result, the cells so far. -/
structure DoW (w wr : World) (T C Y : Array Value) : Prop where
  t : wr.heap[w.heap.size]? = some (.cells T 94)
  c : wr.heap[w.heap.size + 1]? = some (.cells C 24)
  r : wr.heap[w.heap.size + 2]? = some (.cells #[.int .i16 0, .int .i16 0, .int .i16 0, .int .i16 0, .int .i16 0, .int .i16 0, .int .i16 0, .int .i16 0] 24)
  y : wr.heap[w.heap.size + 3]? = some (.cells Y 24)
  b : Below w.heap.size w wr

/-- .. and behind the region: what the step has left, in a block of its own. -/
structure DoX (w W : World) (T C Y Z : Array Value) (g : Nat) : Prop where
  s : DoW w W T C Y
  z : W.heap[g]? = some (.cells Z 24)

theorem DoW.kept {w wr W : World} {T C Y : Array Value} (h : DoW w wr T C Y) (hb : Below wr.heap.size wr W) : DoW w W T C Y :=
  ⟨(hb.block _ (heap_cells h.t).2.2).trans h.t, (hb.block _ (heap_cells h.c).2.2).trans h.c, (hb.block _ (heap_cells h.r).2.2).trans h.r, (hb.block _ (heap_cells h.y).2.2).trans h.y, h.b.trans (hb.mono h.b.size)⟩

theorem DoW.put {w W : World} {T C : Array Value} {y0 y1 y2 y3 y4 y5 y6 y7 : Value} (h : DoW w W T C #[y0, y1, y2, y3, y4, y5, y6, y7]) (z0 z1 z2 z3 z4 z5 z6 z7 : Value) : DoW w ((((((((W.setCell ⟨w.heap.size + 3, 0, none⟩ z0).setCell ⟨w.heap.size + 3, 1, none⟩ z1).setCell ⟨w.heap.size + 3, 2, none⟩ z2).setCell ⟨w.heap.size + 3, 3, none⟩ z3).setCell ⟨w.heap.size + 3, 4, none⟩ z4).setCell ⟨w.heap.size + 3, 5, none⟩ z5).setCell ⟨w.heap.size + 3, 6, none⟩ z6).setCell ⟨w.heap.size + 3, 7, none⟩ z7) T C #[z0, z1, z2, z3, z4, z5, z6, z7] :=
  ⟨(set8_ne (by omega) ..).trans h.t, (set8_ne (by omega) ..).trans h.c, (set8_ne (by omega) ..).trans h.r, set8 h.y .., set8_below h.b (by omega) ..⟩

theorem doW_start (w : World) (T C Y : Array Value) : DoW w ((((w.alloc (.cells T 94)).alloc (.cells C 24)).alloc (.cells #[.int .i16 0, .int .i16 0, .int .i16 0, .int .i16 0, .int .i16 0, .int .i16 0, .int .i16 0, .int .i16 0] 24)).alloc (.cells Y 24)) T C Y := by
  have e : ∀ (W : World) (o : Obj) (k : Nat), k < W.heap.size → (W.alloc o).heap[k]? = W.heap[k]? := fun W o k h => Below.heap_alloc W o k h
  have n : ∀ (W : World) (o : Obj) (k : Nat), k = W.heap.size → (W.alloc o).heap[k]? = some o := fun W o k h => by rw [h]; exact heap_alloc_new W o
  refine ⟨?_, ?_, ?_, n _ _ _ (by simp), ?_⟩
  · rw [e _ _ _ (by simp <;> omega), e _ _ _ (by simp <;> omega), e _ _ _ (by simp), n _ _ _ rfl]
  · rw [e _ _ _ (by simp <;> omega), e _ _ _ (by simp), n _ _ _ (by simp)]
  · rw [e _ _ _ (by simp), n _ _ _ (by simp)]
  · exact ((((Below.refl _ _).alloc (Nat.le_refl _) _).alloc (by simp) _).alloc (by simp; omega) _).alloc (by simp; omega) _

theorem doX_A {w wr w1 : World} {T C Y Z : Array Value} (h : DoW w wr T C Y) (hb : Below wr.drew.heap.size wr.drew w1) : DoX w (w1.alloc (.cells Z 24)) T C Y Z w1.heap.size :=
  ⟨h.kept (doS_4 hb).1, heap_alloc_new w1 _⟩

theorem doX_B {w wr w1 : World} {T C Y : Array Value} {z0 z1 z2 z3 z4 z5 z6 z7 : Value} (h : DoW w wr T C Y) (hb : Below (wr.alloc (.cells #[.int .i16 0, .int .i16 0, .int .i16 0, .int .i16 0, .int .i16 0, .int .i16 0, .int .i16 0, .int .i16 0] 24)).drew.heap.size (wr.alloc (.cells #[.int .i16 0, .int .i16 0, .int .i16 0, .int .i16 0, .int .i16 0, .int .i16 0, .int .i16 0, .int .i16 0] 24)).drew w1) :
    DoX w ((((((((w1.setCell ⟨wr.heap.size, 0, none⟩ z0).setCell ⟨wr.heap.size, 1, none⟩ z1).setCell ⟨wr.heap.size, 2, none⟩ z2).setCell ⟨wr.heap.size, 3, none⟩ z3).setCell ⟨wr.heap.size, 4, none⟩ z4).setCell ⟨wr.heap.size, 5, none⟩ z5).setCell ⟨wr.heap.size, 6, none⟩ z6).setCell ⟨wr.heap.size, 7, none⟩ z7) T C Y #[z0, z1, z2, z3, z4, z5, z6, z7] wr.heap.size :=
  ⟨h.kept (doS_5 hb).1, set8 ((hb.block wr.heap.size (by show _ < (wr.alloc _).heap.size; simp)).trans (heap_alloc_new wr _)) z0 z1 z2 z3 z4 z5 z6 z7⟩

set_option maxHeartbeats 1000000 in
theorem do_any (b0 b1 b2 b3 b4 b5 b6 b7 : Bool) (a : Option Addr) (n c B : Nat) (os : List Dk.Op) (x0 x1 x2 x3 x4 x5 x6 x7 : Int) (w : World)
    (hn : n = os.length) (h8 : n ≤ 8) (hown : w.ownsRow B 139 5 (.slice a n c) n (opsCells os)) (hfit : ∀ o ∈ os, OpFit o) :
    Calls Try.prog 41 #[.agg #[.bool b0, .bool b1, .bool b2, .bool b3, .bool b4, .bool b5, .bool b6, .bool b7, .slice a n c],
      .agg #[.int .i16 x0, .int .i16 x1, .int .i16 x2, .int .i16 x3, .int .i16 x4, .int .i16 x5, .int .i16 x6, .int .i16 x7]] w (DoPost [b0, b1, b2, b3, b4, b5, b6, b7] os [x0, x1, x2, x3, x4, x5, x6, x7] w) := by
  have HO : Hid (_ ∧ _ ∧ _) := ⟨hown, hfit, hn⟩
  clear hown hfit hn
  go_enter Try.func41, Try.ntmps41
  go_wp2
  go_loopw [7] (fun i wr => ∃ (k : Nat) (y0 y1 y2 y3 y4 y5 y6 y7 : Int), k ≤ n ∧ i = .int .i64 k ∧
      Hid (Dk.runV [b0, b1, b2, b3, b4, b5, b6, b7] os [x0, x1, x2, x3, x4, x5, x6, x7] = Dk.runV [b0, b1, b2, b3, b4, b5, b6, b7] (os.drop k) [y0, y1, y2, y3, y4, y5, y6, y7]) ∧
      DoW w wr #[.bool b0, .bool b1, .bool b2, .bool b3, .bool b4, .bool b5, .bool b6, .bool b7, .slice a n c] #[.int .i16 x0, .int .i16 x1, .int .i16 x2, .int .i16 x3, .int .i16 x4, .int .i16 x5, .int .i16 x6, .int .i16 x7] #[.int .i16 y0, .int .i16 y1, .int .i16 y2, .int .i16 y3, .int .i16 y4, .int .i16 y5, .int .i16 y6, .int .i16 y7]) (fun i _ => n - (intOf i).toNat)
  case atStart =>
    exact ⟨0, x0, x1, x2, x3, x4, x5, x6, x7, Nat.zero_le _, rfl, rfl, doW_start _ _ _ _⟩
  case round =>
    obtain ⟨k, y0, y1, y2, y3, y4, y5, y6, y7, hk, rfl, HR, hW⟩ := hrel
    obtain ⟨ct, ft, zt⟩ := heap_cells hW.t
    obtain ⟨cc, fc, zc⟩ := heap_cells hW.c
    obtain ⟨cr, fr, zr⟩ := heap_cells hW.r
    obtain ⟨cy, fy, zy⟩ := heap_cells hW.y
    have HW : Hid _ := hW
    clear hW
    by_cases hlt : k < n
    · obtain ⟨g, rfl, hg, o, ho, c0, c1, c2, c3, c4⟩ := ops_cell HO.out.1 HO.out.2.2 hlt
      have e0 := (HW.out.b.cell (p := ⟨g, k * 5, none⟩) hg).trans c0
      have e1 := (HW.out.b.cell (p := ⟨g, k * 5 + 1, none⟩) hg).trans c1
      have e2 := (HW.out.b.cell (p := ⟨g, k * 5 + 2, none⟩) hg).trans c2
      have e3 := (HW.out.b.cell (p := ⟨g, k * 5 + 3, none⟩) hg).trans c3
      have e4 := (HW.out.b.cell (p := ⟨g, k * 5 + 4, none⟩) hg).trans c4
      have hgr : g < wr.heap.size := Nat.lt_trans hg zt
      have hof := HO.out.2.1 o (List.mem_of_getElem? ho)
      have HQ : Hid _ := ho
      clear c0 c1 c2 c3 c4 ho
      obtain ⟨ok, osg, ob, oa, on⟩ := o
      simp only at e0 e1 e2 e3 e4
      obtain ⟨f0, f1, f2, f3⟩ := hof
      simp only at f0 f1 f2 f3
      obtain ⟨z0, z1, z2, z3, z4, z5, z6, z7, sd, hstep⟩ := Dk.stepV_8 [b0, b1, b2, b3, b4, b5, b6, b7] ⟨ok, osg, ob, oa, on⟩ y0 y1 y2 y3 y4 y5 y6 y7
      have HC : Hid (∀ W, Calls Try.prog 67 #[.agg #[.bool b0, .bool b1, .bool b2, .bool b3, .bool b4, .bool b5, .bool b6, .bool b7, .slice (some ⟨g, 0, none⟩) n c], .agg #[.int .i64 ok, .int .u8 osg, .bool ob, .int .i64 oa, .int .i16 on],
          .agg #[.int .i16 y0, .int .i16 y1, .int .i16 y2, .int .i16 y3, .int .i16 y4, .int .i16 y5, .int .i16 y6, .int .i16 y7]] W fun e w' => e = .returned (.tuple #[.agg #[.int .i16 z0, .int .i16 z1, .int .i16 z2, .int .i16 z3, .int .i16 z4, .int .i16 z5, .int .i16 z6, .int .i16 z7], .bool sd]) ∧ Below W.heap.size W w' ∧ (∀ b x, b < W.heap.size → w'.cell? ⟨b, x, none⟩ = W.cell? ⟨b, x, none⟩) ∧ (∀ b x, b < W.heap.size → w'.frozen? ⟨b, x, none⟩ = W.frozen? ⟨b, x, none⟩) ∧ W.heap.size ≤ w'.heap.size) := fun W => (step_any b0 b1 b2 b3 b4 b5 b6 b7 _ n c ok osg ob oa on y0 y1 y2 y3 y4 y5 y6 y7 W f0 f1 f2 f3).mono (by
        rintro e w1 ⟨q0, q1, q2, q3, q4, q5, q6, q7, rfl, hq, hb⟩
        rw [hstep] at hq ⊢
        simp only [List.cons.injEq, and_true] at hq
        obtain ⟨rfl, rfl, rfl, rfl, rfl, rfl, rfl, rfl⟩ := hq
        exact ⟨rfl, hb, (bcell hb).1, (bcell hb).2, hb.size⟩)
      have HT : Hid _ := hstep
      clear hstep
      cases sd
      · go_wp2
        go_region_held3 (fun W => Below wr.heap.size wr W ∧ (∀ b x, b < wr.heap.size → W.cell? ⟨b, x, none⟩ = wr.cell? ⟨b, x, none⟩))
          (first | (with_reducible exact doS_0) | (with_reducible exact doS_1) | (with_reducible exact doS_2 ‹_›) | (with_reducible exact doS_3 ‹_›) | (with_reducible exact doS_4 ‹_›) | (with_reducible exact doS_5 ‹_›))
          (first | (go_at_call 67; refine (HC.out _).mono ?_; rintro e w1 ⟨rfl, hb, hc, hf, hz1⟩))
        · have hX := doX_A (Z := #[.int .i16 z0, .int .i16 z1, .int .i16 z2, .int .i16 z3, .int .i16 z4, .int .i16 z5, .int .i16 z6, .int .i16 z7]) HW.out hb
          clear hb hc hf hz1
          generalize w1.heap.size = g8 at *
          generalize w1.alloc (.cells #[.int .i16 z0, .int .i16 z1, .int .i16 z2, .int .i16 z3, .int .i16 z4, .int .i16 z5, .int .i16 z6, .int .i16 z7] 24) = W2 at *
          obtain ⟨cc2, fc2, _⟩ := heap_cells hX.s.c
          obtain ⟨cr2, fr2, _⟩ := heap_cells hX.s.r
          obtain ⟨cy2, fy2, _⟩ := heap_cells hX.s.y
          obtain ⟨cz2, fz2, _⟩ := heap_cells hX.z
          have HX : Hid _ := hX
          clear hX
          go_wp2
          refine bodyPost_ret (v := .tuple #[.agg #[.int .i16 x0, .int .i16 x1, .int .i16 x2, .int .i16 x3, .int .i16 x4, .int .i16 x5, .int .i16 x6, .int .i16 x7], .bool false]) (by simp [results, Try.results41, go_sem, cr2]) rfl ?_
          refine ⟨x0, x1, x2, x3, x4, x5, x6, x7, false, rfl, ?_, ?_⟩
          · rw [HR.out, Dk.runV_drop_no HQ.out HT.out]
          · iterate 8 refine Below.setCell ?_ (by show w.heap.size ≤ w.heap.size + 1 + 1; omega) _
            exact HX.out.s.b
        · have hX := doX_B (z0 := .int .i16 z0) (z1 := .int .i16 z1) (z2 := .int .i16 z2) (z3 := .int .i16 z3) (z4 := .int .i16 z4) (z5 := .int .i16 z5) (z6 := .int .i16 z6) (z7 := .int .i16 z7) HW.out hb
          clear hb hc hf hz1
          generalize ((((((((w1.setCell ⟨wr.heap.size, 0, none⟩ (.int .i16 z0)).setCell ⟨wr.heap.size, 1, none⟩ (.int .i16 z1)).setCell ⟨wr.heap.size, 2, none⟩ (.int .i16 z2)).setCell ⟨wr.heap.size, 3, none⟩ (.int .i16 z3)).setCell ⟨wr.heap.size, 4, none⟩ (.int .i16 z4)).setCell ⟨wr.heap.size, 5, none⟩ (.int .i16 z5)).setCell ⟨wr.heap.size, 6, none⟩ (.int .i16 z6)).setCell ⟨wr.heap.size, 7, none⟩ (.int .i16 z7)) = W2 at *
          generalize hg8 : wr.heap.size = g8 at hX ⊢
          clear hg8
          obtain ⟨cc2, fc2, _⟩ := heap_cells hX.s.c
          obtain ⟨cr2, fr2, _⟩ := heap_cells hX.s.r
          obtain ⟨cy2, fy2, _⟩ := heap_cells hX.s.y
          obtain ⟨cz2, fz2, _⟩ := heap_cells hX.z
          have HX : Hid _ := hX
          clear hX
          go_wp2
          refine bodyPost_ret (v := .tuple #[.agg #[.int .i16 x0, .int .i16 x1, .int .i16 x2, .int .i16 x3, .int .i16 x4, .int .i16 x5, .int .i16 x6, .int .i16 x7], .bool false]) (by simp [results, Try.results41, go_sem, cr2]) rfl ?_
          refine ⟨x0, x1, x2, x3, x4, x5, x6, x7, false, rfl, ?_, ?_⟩
          · rw [HR.out, Dk.runV_drop_no HQ.out HT.out]
          · iterate 8 refine Below.setCell ?_ (by show w.heap.size ≤ w.heap.size + 1 + 1; omega) _
            exact HX.out.s.b
      · go_wp2
        go_region_held3 (fun W => Below wr.heap.size wr W ∧ (∀ b x, b < wr.heap.size → W.cell? ⟨b, x, none⟩ = wr.cell? ⟨b, x, none⟩))
          (first | (with_reducible exact doS_0) | (with_reducible exact doS_1) | (with_reducible exact doS_2 ‹_›) | (with_reducible exact doS_3 ‹_›) | (with_reducible exact doS_4 ‹_›) | (with_reducible exact doS_5 ‹_›))
          (first | (go_at_call 67; refine (HC.out _).mono ?_; rintro e w1 ⟨rfl, hb, hc, hf, hz1⟩))
        · have hX := doX_A (Z := #[.int .i16 z0, .int .i16 z1, .int .i16 z2, .int .i16 z3, .int .i16 z4, .int .i16 z5, .int .i16 z6, .int .i16 z7]) HW.out hb
          clear hb hc hf hz1
          generalize w1.heap.size = g8 at *
          generalize w1.alloc (.cells #[.int .i16 z0, .int .i16 z1, .int .i16 z2, .int .i16 z3, .int .i16 z4, .int .i16 z5, .int .i16 z6, .int .i16 z7] 24) = W2 at *
          obtain ⟨cc2, fc2, _⟩ := heap_cells hX.s.c
          obtain ⟨cr2, fr2, _⟩ := heap_cells hX.s.r
          obtain ⟨cy2, fy2, _⟩ := heap_cells hX.s.y
          obtain ⟨cz2, fz2, _⟩ := heap_cells hX.z
          have HX : Hid _ := hX
          clear hX
          go_wp2
          go_roundw
          case rel =>
            refine ⟨k + 1, z0, z1, z2, z3, z4, z5, z6, z7, by omega, by go_num, ?_, ?_⟩
            · show _ = _
              rw [HR.out, Dk.runV_drop_yes HQ.out HT.out]
            · exact HX.out.s.put _ _ _ _ _ _ _ _
          case measure => simp [intOf]; omega
        · have hX := doX_B (z0 := .int .i16 z0) (z1 := .int .i16 z1) (z2 := .int .i16 z2) (z3 := .int .i16 z3) (z4 := .int .i16 z4) (z5 := .int .i16 z5) (z6 := .int .i16 z6) (z7 := .int .i16 z7) HW.out hb
          clear hb hc hf hz1
          generalize ((((((((w1.setCell ⟨wr.heap.size, 0, none⟩ (.int .i16 z0)).setCell ⟨wr.heap.size, 1, none⟩ (.int .i16 z1)).setCell ⟨wr.heap.size, 2, none⟩ (.int .i16 z2)).setCell ⟨wr.heap.size, 3, none⟩ (.int .i16 z3)).setCell ⟨wr.heap.size, 4, none⟩ (.int .i16 z4)).setCell ⟨wr.heap.size, 5, none⟩ (.int .i16 z5)).setCell ⟨wr.heap.size, 6, none⟩ (.int .i16 z6)).setCell ⟨wr.heap.size, 7, none⟩ (.int .i16 z7)) = W2 at *
          generalize hg8 : wr.heap.size = g8 at hX ⊢
          clear hg8
          obtain ⟨cc2, fc2, _⟩ := heap_cells hX.s.c
          obtain ⟨cr2, fr2, _⟩ := heap_cells hX.s.r
          obtain ⟨cy2, fy2, _⟩ := heap_cells hX.s.y
          obtain ⟨cz2, fz2, _⟩ := heap_cells hX.z
          have HX : Hid _ := hX
          clear hX
          go_wp2
          go_roundw
          case rel =>
            refine ⟨k + 1, z0, z1, z2, z3, z4, z5, z6, z7, by omega, by go_num, ?_, ?_⟩
            · show _ = _
              rw [HR.out, Dk.runV_drop_yes HQ.out HT.out]
            · exact HX.out.s.put _ _ _ _ _ _ _ _
          case measure => simp [intOf]; omega
    · go_wp2
      refine bodyPost_ret (v := .tuple #[.agg #[.int .i16 y0, .int .i16 y1, .int .i16 y2, .int .i16 y3, .int .i16 y4, .int .i16 y5, .int .i16 y6, .int .i16 y7], .bool true]) (by simp [results, Try.results41, go_sem, cr]) rfl ?_
      refine ⟨y0, y1, y2, y3, y4, y5, y6, y7, true, rfl, ?_, ?_⟩
      · rw [HR.out, Dk.runV_end (by have := HO.out.2.2; omega)]
      · iterate 8 refine Below.setCell ?_ (by show w.heap.size ≤ w.heap.size + 1 + 1; omega) _
        exact HW.out.b

end Go.Proofs.Ytccckonckddadaa
