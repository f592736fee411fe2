import Derived.Test.YtccckonckddadaaWalkR7
import Derived.Test.YtccckonckddadaaPlainU
namespace Go.Proofs.Ytccckonckddadaa
open Go.RowKit
set_option linter.unusedVariables false

structure DoR (w wr : World) (X Y : Array Value) (sl : Value) (n : Nat) (ps : List ByteArray) : Prop where
  c : wr.heap[w.heap.size]? = some (.cells Y 75)
  r : wr.heap[w.heap.size + 1]? = some (.cells #[.int .i64 0, .int .i64 0, .int .i64 0, .int .i64 0, .int .i64 0, .int .i64 0, .int .i64 0, .int .i64 0] 75)
  x : wr.heap[w.heap.size + 2]? = some (.cells X 75)
  b : Below w.heap.size w wr
  o : wr.ownsRow (w.heap.size + 3) 9 1 sl n (strs ps)

theorem DoR.kept {w wr W : World} {X Y : Array Value} {sl : Value} {n : Nat} {ps : List ByteArray} (h : DoR w wr X Y sl n ps) (hb : Below wr.heap.size wr W) : DoR w W X Y sl n ps :=
  ⟨(hb.block _ (heap_cells h.c).2.2).trans h.c, (hb.block _ (heap_cells h.r).2.2).trans h.r, (hb.block _ (heap_cells h.x).2.2).trans h.x, h.b.trans (hb.mono h.b.size), own_below h.o hb⟩

theorem set_one {w : World} {g : Nat} {t : TypeId} {cs : Array Value} (h : w.heap[g]? = some (.cells cs t)) (j : Nat) (v : Value) : (w.setCell ⟨g, j, none⟩ v).heap[g]? = some (.cells (cs.setIfInBounds j v) t) := by
  simp [World.setCell, Array.getElem?_modify, h]

theorem DoR.put {w W : World} {X Y : Array Value} {sl : Value} {n : Nat} {ps : List ByteArray} (h : DoR w W X Y sl n ps) (j : Nat) (v : Value) : DoR w (W.setCell ⟨w.heap.size, j, none⟩ v) X (Y.setIfInBounds j v) sl n ps :=
  ⟨set_one h.c j v, (Below.heap_setCell _ _ _ _ (by show _ ≠ w.heap.size; omega)).trans h.r, (Below.heap_setCell _ _ _ _ (by show _ ≠ w.heap.size; omega)).trans h.x, h.b.setCell (Nat.le_refl _) _, ownsRow_setCell_below h.o (by show w.heap.size < _; omega) _⟩

theorem at8 (y0 y1 y2 y3 y4 y5 y6 y7 : Int) {j : Nat} (h : j < 8) : (#[.int .i64 y0, .int .i64 y1, .int .i64 y2, .int .i64 y3, .int .i64 y4, .int .i64 y5, .int .i64 y6, .int .i64 y7] : Array Value)[j]? = some (.int .i64 ([y0, y1, y2, y3, y4, y5, y6, y7].getD j 0)) := by
  obtain rfl | rfl | rfl | rfl | rfl | rfl | rfl | rfl : j = 0 ∨ j = 1 ∨ j = 2 ∨ j = 3 ∨ j = 4 ∨ j = 5 ∨ j = 6 ∨ j = 7 := by omega
  all_goals rfl
theorem put8 (y0 y1 y2 y3 y4 y5 y6 y7 v : Int) {j : Nat} (h : j < 8) : ∃ z0 z1 z2 z3 z4 z5 z6 z7, [y0, y1, y2, y3, y4, y5, y6, y7].set j v = [z0, z1, z2, z3, z4, z5, z6, z7] ∧ (#[.int .i64 y0, .int .i64 y1, .int .i64 y2, .int .i64 y3, .int .i64 y4, .int .i64 y5, .int .i64 y6, .int .i64 y7] : Array Value).setIfInBounds j (.int .i64 v) = #[.int .i64 z0, .int .i64 z1, .int .i64 z2, .int .i64 z3, .int .i64 z4, .int .i64 z5, .int .i64 z6, .int .i64 z7] := by
  obtain rfl | rfl | rfl | rfl | rfl | rfl | rfl | rfl : j = 0 ∨ j = 1 ∨ j = 2 ∨ j = 3 ∨ j = 4 ∨ j = 5 ∨ j = 6 ∨ j = 7 := by omega
  all_goals exact ⟨_, _, _, _, _, _, _, _, rfl, rfl⟩

theorem doR_start {w w1 : World} {X : Array Value} {sl : Value} {n : Nat} {ps : List ByteArray} (hb : Below (((w.alloc (.cells X 75)).alloc (.cells #[.int .i64 0, .int .i64 0, .int .i64 0, .int .i64 0, .int .i64 0, .int .i64 0, .int .i64 0, .int .i64 0] 75)).alloc (.cells X 75)).heap.size (((w.alloc (.cells X 75)).alloc (.cells #[.int .i64 0, .int .i64 0, .int .i64 0, .int .i64 0, .int .i64 0, .int .i64 0, .int .i64 0, .int .i64 0] 75)).alloc (.cells X 75)) w1)
    (ho : w1.ownsRow (((w.alloc (.cells X 75)).alloc (.cells #[.int .i64 0, .int .i64 0, .int .i64 0, .int .i64 0, .int .i64 0, .int .i64 0, .int .i64 0, .int .i64 0] 75)).alloc (.cells X 75)).heap.size 9 1 sl n (strs ps)) : DoR w w1 X X sl n ps := by
  obtain ⟨a, b, c, d⟩ := below_three hb
  exact ⟨a, b, c, d, own_base ho (by simp)⟩

def RDoPost (l : List UInt8) (cs : List Int) (w : World) (e : Ending) (w' : World) : Prop :=
  ∃ (y0 y1 y2 y3 y4 y5 y6 y7 : Int) (d : Bool), e = .returned (.tuple #[.agg #[.int .i64 y0, .int .i64 y1, .int .i64 y2, .int .i64 y3, .int .i64 y4, .int .i64 y5, .int .i64 y6, .int .i64 y7], .bool d]) ∧ ([y0, y1, y2, y3, y4, y5, y6, y7], d) = Dk.doV l cs ∧ Dk.All16 [y0, y1, y2, y3, y4, y5, y6, y7] ∧ Below w.heap.size w w'

theorem doV_none {l : List UInt8} {cs : List Int} (h : Dk.runV (Dk.keysOf l) (Dk.opsOf l) cs = none) : (cs, false) = Dk.doV l cs := by unfold Dk.doV; rw [h]
theorem doV_some {l : List UInt8} {cs ys : List Int} (h : Dk.runV (Dk.keysOf l) (Dk.opsOf l) cs = some ys) : (ys, true) = Dk.doV l cs := by unfold Dk.doV; rw [h]

/-- What is known of an operation's text in a round. -/
structure OpIs (l : List UInt8) (o : ByteArray) (mk : ByteArray) (j : Nat) : Prop where
  ok : Dk.opOk o.data.toList = true
  small : o.size ≤ 60
  big : 3 ≤ o.size
  j8 : j < 8
  key : (Dk.opV o.data.toList).key = j
  decl : Dk.decl (Dk.keysOf l) (Dk.opV o.data.toList).key = Dk.inB mk.data.toList (97 + j)

theorem opIs_of {l : List UInt8} {o mk : ByteArray} (hok : Dk.opOk o.data.toList = true) (hs : o.size ≤ 60) (hm : mk.data.toList = (Dk.cutAt 124 l).1) :
    ∃ j, OpIs l o mk j ∧ ∃ h0 : 0 < o.size, (o[0].toNat : Int) = 97 + j ∧ ∃ h1 : 1 < o.size, (Dk.opV o.data.toList).sign = o[1].toNat ∧ Dk.isSign o[1].toNat = true := by
  have h3 : 3 ≤ o.size := Dk.opOk_len hok
  have hk0 := Dk.opOk_k0 hok
  rw [headD_list o (by omega)] at hk0
  obtain ⟨a, b⟩ := Dk.of_isK hk0
  have hj : ((o[0].toNat - 97 : Nat) : Int) = (o[0].toNat : Int) - 97 := by omega
  have hkey : (Dk.opV o.data.toList).key = ((o[0].toNat - 97 : Nat) : Int) := by
    show Dk.keyV ((o.data.toList.headD 0).toNat) = _
    rw [headD_list o (by omega), Dk.keyV_yes a b, hj]
  have hsg : (Dk.opV o.data.toList).sign = o[1].toNat := by
    show (((o.data.toList.drop 1).headD 0).toNat : Int) = _
    rw [drop1_list o (by omega)]
  have hsign : Dk.isSign o[1].toNat = true := by
    have := hok
    simp only [Dk.opOk, Bool.and_eq_true, decide_eq_true_eq] at this
    have h2 := this.1.2
    rw [drop1_list o (by omega)] at h2
    exact h2
  refine ⟨o[0].toNat - 97, ⟨hok, hs, h3, by omega, hkey, ?_⟩, by omega, by omega, by omega, hsg, hsign⟩
  rw [hkey, Dk.decl_in (by omega), hm]

end Go.Proofs.Ytccckonckddadaa
