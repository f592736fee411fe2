import Derived.Test.YtccckonckddadabGreatJ49
import Derived.Test.YtccckonckddadabGreatJ51
import Derived.Test.YtccckonckddadabGreatJ50
namespace Go.Proofs.YtccckonckddadabGreat
open Go.RowKit
set_option linter.unusedVariables false

theorem does_sync' (B N : Nat) (gW : Nat) (ps : List Pair) (lab : Nat → Nat) (oa ob oc ok : Int) (os : ByteArray) (x1 x2 x3 x4 x5 z0 z1 z2 z3 z4 z5 z6 z7 : Int) (ra : Option Addr) (rm rc : Nat) (k : Nat) (w : World) (h : WldAt B N w gW ps lab) (hk : k < ps.length) :
    Calls Tryz.prog 13 #[.pointer (some ⟨gW, 0, none⟩), .int .i64 (k : Int), .agg #[.int .i64 7, .int .i64 oa, .int .i64 ob, .int .i64 oc, .int .i64 ok, .string os, .int .i64 x1, .int .i64 x2, .int .i64 x3, .int .i64 x4, .int .i64 x5, .int .i16 z0, .int .i16 z1, .int .i16 z2, .int .i16 z3, .int .i16 z4, .int .i16 z5, .int .i16 z6, .int .i16 z7, .slice ra rm rc]] w (WPost B N gW ps.length w) :=
  does_sync B N gW ps lab ⟨7, oa, ob, oc, ok, os, ⟨x1, x2, x3, x4, x5⟩, z0, z1, z2, z3, z4, z5, z6, z7, ra, rm, rc⟩ k w h hk rfl

set_option maxRecDepth 100000 in
set_option maxHeartbeats 8000000 in
theorem step_sync (B N : Nat) (gW : Nat) (ps : List Pair) (lab : Nat → Nat) (oa ob oc ok : Int) (os : ByteArray) (x1 x2 x3 x4 x5 z0 z1 z2 z3 z4 z5 z6 z7 : Int) (ra : Option Addr) (rm rc : Nat) (w : World) (h : WldAt B N w gW ps lab) (hs : os.size ≤ maxLen) (hk0 : -9223372036854775808 ≤ ok) (hk1 : ok < 9223372036854775808) (hn : ps.length + 1 ≤ 10000000000000) (h0 : 0 < ps.length) :
    Calls Tryz.prog 5 #[.pointer (some ⟨gW, 0, none⟩), .agg #[.int .i64 7, .int .i64 oa, .int .i64 ob, .int .i64 oc, .int .i64 ok, .string os, .int .i64 x1, .int .i64 x2, .int .i64 x3, .int .i64 x4, .int .i64 x5, .int .i16 z0, .int .i16 z1, .int .i16 z2, .int .i16 z3, .int .i16 z4, .int .i16 z5, .int .i16 z6, .int .i16 z7, .slice ra rm rc]] w (NPost B N gW ps.length w) := by
  have HB : Hid _ := h.base
  have H : Hid _ := h
  clear h
  obtain ⟨W1, hW1⟩ : ∃ W1, W1 = w.alloc (.cells #[.int .i64 7, .int .i64 oa, .int .i64 ob, .int .i64 oc, .int .i64 ok, .string os, .int .i64 x1, .int .i64 x2, .int .i64 x3, .int .i64 x4, .int .i64 x5, .int .i16 z0, .int .i16 z1, .int .i16 z2, .int .i16 z3, .int .i16 z4, .int .i16 z5, .int .i16 z6, .int .i16 z7, .slice ra rm rc] 40) := ⟨_, rfl⟩
  have HBw : Hid (Below w.heap.size w W1) := by rw [hW1]; exact (Below.refl _ _).alloc (Nat.le_refl _) _
  have HBx : Hid (W1.heap[w.heap.size]? = some (.cells #[.int .i64 7, .int .i64 oa, .int .i64 ob, .int .i64 oc, .int .i64 ok, .string os, .int .i64 x1, .int .i64 x2, .int .i64 x3, .int .i64 x4, .int .i64 x5, .int .i16 z0, .int .i16 z1, .int .i16 z2, .int .i16 z3, .int .i16 z4, .int .i16 z5, .int .i16 z6, .int .i16 z7, .slice ra rm rc] 40)) := by rw [hW1]; exact heap_at rfl
  have HW1 : Hid (WldAt B N W1 gW ps lab) := H.out.below HBw.out
  obtain ⟨aC, cC, aR, cR, vH, m1, _⟩ := HW1.out.mem
  have hgW1 := (heap_cells m1).2.2
  have c0 : W1.cell? ⟨gW, 0, none⟩ = some (.slice aC ps.length cC) := by rw [(heap_cells m1).1]; rfl
  have hgW : gW < w.heap.size := by obtain ⟨_, _, _, _, _, q1, _⟩ := H.out.mem; exact (heap_cells q1).2.2
  have c0w : w.cell? ⟨gW, 0, none⟩ = some (.slice aC ps.length cC) := (HBw.out.cell (p := ⟨gW, 0, none⟩) hgW).symm.trans c0
  clear m1
  obtain ⟨n, hnn⟩ : ∃ n, ps.length = n := ⟨_, rfl⟩
  have HNn : Hid _ := hnn
  rw [hnn] at c0 c0w hn ⊢
  have hnb : ((n : Int) == 0) = false := by rw [beq_eq_false_iff_ne]; omega
  have hn0 : (0 : Int) < (n : Int) := by omega
  go_enter Tryz.func5, Tryz.ntmps5
  go_wp2
  rewrite [← hW1]
  clear c0w hW1
  obtain ⟨b0, bf, bz⟩ := heap_cells HBx.out
  have x4c : W1.cell? ⟨w.heap.size, 4, none⟩ = some (.int .i64 ok) := by rw [b0]; rfl
  clear b0 bf
  go_region_held3 (fun W => W.cell? ⟨gW, 0, none⟩ = some (.slice aC n cC) ∧ W.cell? ⟨w.heap.size, 4, none⟩ = some (.int .i64 ok))
    (first | (exact ⟨c0, x4c⟩))
    (first | (go_at_call 12; refine (lpick_any ok (n : Int) _ hk0 hk1 hn0 (by omega)).mono ?_; rintro e w1 ⟨r, rfl, hr0, hr1, rfl⟩))
  have HBd : Hid (Below w.heap.size w W1.drew) := HBw.out.drew
  have HWd : Hid (WldAt B N W1.drew gW ps lab) := HW1.out.below (Below.refl _ _).drew
  have HBy : Hid (W1.drew.heap[w.heap.size]? = some (.cells #[.int .i64 7, .int .i64 oa, .int .i64 ob, .int .i64 oc, .int .i64 ok, .string os, .int .i64 x1, .int .i64 x2, .int .i64 x3, .int .i64 x4, .int .i64 x5, .int .i16 z0, .int .i16 z1, .int .i16 z2, .int .i16 z3, .int .i16 z4, .int .i16 z5, .int .i16 z6, .int .i16 z7, .slice ra rm rc] 40)) := HBx.out
  generalize W1.drew = W2 at *
  clear HW1 HBx HBw c0 x4c bz
  obtain ⟨b0, bf, bz⟩ := heap_cells HBy.out
  have HRg : Hid (W2.rangeAt w.heap.size 0 [.int .i64 7, .int .i64 oa, .int .i64 ob, .int .i64 oc, .int .i64 ok, .string os, .int .i64 x1, .int .i64 x2, .int .i64 x3, .int .i64 x4, .int .i64 x5, .int .i16 z0, .int .i16 z1, .int .i16 z2, .int .i16 z3, .int .i16 z4, .int .i16 z5, .int .i16 z6, .int .i16 z7, .slice ra rm rc]) := fun j v hv => by rw [Nat.zero_add, b0, List.getElem?_toArray]; exact hv
  have y0 : W2.cell? ⟨w.heap.size, 0, none⟩ = some (.int .i64 7) := by rw [b0]; rfl
  clear b0 bf
  obtain ⟨k, hk⟩ : ∃ k : Nat, r = (k : Int) := ⟨r.toNat, by omega⟩
  subst hk
  have hkn : k < ps.length := by rw [HNn.out]; omega
  have HFin : Hid (∀ {e : Ending} {w' : World}, NPost B N gW ps.length W2 e w' → NPost B N gW n w e w') := fun hN => by
    obtain ⟨q1, ⟨ps', lab', q2, q3⟩, q4⟩ := hN
    exact ⟨q1, ⟨ps', lab', by rw [← HNn.out]; exact q2, q3⟩, (HBd.out.mono HB.out).trans q4⟩
  go_wp2_with (refine wpList_load_mid rfl 40 (.tmp 3) rfl w.heap.size 0 rfl [.int .i64 7, .int .i64 oa, .int .i64 ob, .int .i64 oc, .int .i64 ok, .string os, .int .i64 x1, .int .i64 x2, .int .i64 x3, .int .i64 x4, .int .i64 x5, .int .i16 z0, .int .i16 z1, .int .i16 z2, .int .i16 z3, .int .i16 z4, .int .i16 z5, .int .i16 z6, .int .i16 z7, .slice ra rm rc] _ HRg.out Tryz.underlying40 rfl info_opsize ?_)
  refine (does_sync' B N gW ps lab oa ob oc ok os x1 x2 x3 x4 x5 z0 z1 z2 z3 z4 z5 z6 z7 ra rm rc k W2 HWd.out hkn).mono ?_
  rintro e w3 hP
  have hN := HFin.out (WPost.more hP)
  obtain ⟨rfl, hN2⟩ := hN
  have HP : Hid _ := hN2
  clear hP hN2
  go_wp2
  go_ret
  exact ⟨rfl, HP.out⟩

end Go.Proofs.YtccckonckddadabGreat
namespace Go.Proofs.YtccckonckddadabGreat
open Go.RowKit
set_option linter.unusedVariables false

theorem does_crash' (B N : Nat) (gW : Nat) (ps : List Pair) (lab : Nat → Nat) (oa ob oc ok : Int) (os : ByteArray) (x1 x2 x3 x4 x5 z0 z1 z2 z3 z4 z5 z6 z7 : Int) (ra : Option Addr) (rm rc : Nat) (k : Nat) (w : World) (h : WldAt B N w gW ps lab) (hk : k < ps.length) :
    Calls Tryz.prog 13 #[.pointer (some ⟨gW, 0, none⟩), .int .i64 (k : Int), .agg #[.int .i64 8, .int .i64 oa, .int .i64 ob, .int .i64 oc, .int .i64 ok, .string os, .int .i64 x1, .int .i64 x2, .int .i64 x3, .int .i64 x4, .int .i64 x5, .int .i16 z0, .int .i16 z1, .int .i16 z2, .int .i16 z3, .int .i16 z4, .int .i16 z5, .int .i16 z6, .int .i16 z7, .slice ra rm rc]] w (WPost B N gW ps.length w) :=
  does_crash B N gW ps lab ⟨8, oa, ob, oc, ok, os, ⟨x1, x2, x3, x4, x5⟩, z0, z1, z2, z3, z4, z5, z6, z7, ra, rm, rc⟩ k w h hk rfl

set_option maxRecDepth 100000 in
set_option maxHeartbeats 8000000 in
theorem step_crash (B N : Nat) (gW : Nat) (ps : List Pair) (lab : Nat → Nat) (oa ob oc ok : Int) (os : ByteArray) (x1 x2 x3 x4 x5 z0 z1 z2 z3 z4 z5 z6 z7 : Int) (ra : Option Addr) (rm rc : Nat) (w : World) (h : WldAt B N w gW ps lab) (hs : os.size ≤ maxLen) (hk0 : -9223372036854775808 ≤ ok) (hk1 : ok < 9223372036854775808) (hn : ps.length + 1 ≤ 10000000000000) (h0 : 0 < ps.length) :
    Calls Tryz.prog 5 #[.pointer (some ⟨gW, 0, none⟩), .agg #[.int .i64 8, .int .i64 oa, .int .i64 ob, .int .i64 oc, .int .i64 ok, .string os, .int .i64 x1, .int .i64 x2, .int .i64 x3, .int .i64 x4, .int .i64 x5, .int .i16 z0, .int .i16 z1, .int .i16 z2, .int .i16 z3, .int .i16 z4, .int .i16 z5, .int .i16 z6, .int .i16 z7, .slice ra rm rc]] w (NPost B N gW ps.length w) := by
  have HB : Hid _ := h.base
  have H : Hid _ := h
  clear h
  obtain ⟨W1, hW1⟩ : ∃ W1, W1 = w.alloc (.cells #[.int .i64 8, .int .i64 oa, .int .i64 ob, .int .i64 oc, .int .i64 ok, .string os, .int .i64 x1, .int .i64 x2, .int .i64 x3, .int .i64 x4, .int .i64 x5, .int .i16 z0, .int .i16 z1, .int .i16 z2, .int .i16 z3, .int .i16 z4, .int .i16 z5, .int .i16 z6, .int .i16 z7, .slice ra rm rc] 40) := ⟨_, rfl⟩
  have HBw : Hid (Below w.heap.size w W1) := by rw [hW1]; exact (Below.refl _ _).alloc (Nat.le_refl _) _
  have HBx : Hid (W1.heap[w.heap.size]? = some (.cells #[.int .i64 8, .int .i64 oa, .int .i64 ob, .int .i64 oc, .int .i64 ok, .string os, .int .i64 x1, .int .i64 x2, .int .i64 x3, .int .i64 x4, .int .i64 x5, .int .i16 z0, .int .i16 z1, .int .i16 z2, .int .i16 z3, .int .i16 z4, .int .i16 z5, .int .i16 z6, .int .i16 z7, .slice ra rm rc] 40)) := by rw [hW1]; exact heap_at rfl
  have HW1 : Hid (WldAt B N W1 gW ps lab) := H.out.below HBw.out
  obtain ⟨aC, cC, aR, cR, vH, m1, _⟩ := HW1.out.mem
  have hgW1 := (heap_cells m1).2.2
  have c0 : W1.cell? ⟨gW, 0, none⟩ = some (.slice aC ps.length cC) := by rw [(heap_cells m1).1]; rfl
  have hgW : gW < w.heap.size := by obtain ⟨_, _, _, _, _, q1, _⟩ := H.out.mem; exact (heap_cells q1).2.2
  have c0w : w.cell? ⟨gW, 0, none⟩ = some (.slice aC ps.length cC) := (HBw.out.cell (p := ⟨gW, 0, none⟩) hgW).symm.trans c0
  clear m1
  obtain ⟨n, hnn⟩ : ∃ n, ps.length = n := ⟨_, rfl⟩
  have HNn : Hid _ := hnn
  rw [hnn] at c0 c0w hn ⊢
  have hnb : ((n : Int) == 0) = false := by rw [beq_eq_false_iff_ne]; omega
  have hn0 : (0 : Int) < (n : Int) := by omega
  go_enter Tryz.func5, Tryz.ntmps5
  go_wp2
  rewrite [← hW1]
  clear c0w hW1
  obtain ⟨b0, bf, bz⟩ := heap_cells HBx.out
  have x4c : W1.cell? ⟨w.heap.size, 4, none⟩ = some (.int .i64 ok) := by rw [b0]; rfl
  clear b0 bf
  go_region_held3 (fun W => W.cell? ⟨gW, 0, none⟩ = some (.slice aC n cC) ∧ W.cell? ⟨w.heap.size, 4, none⟩ = some (.int .i64 ok))
    (first | (exact ⟨c0, x4c⟩))
    (first | (go_at_call 12; refine (lpick_any ok (n : Int) _ hk0 hk1 hn0 (by omega)).mono ?_; rintro e w1 ⟨r, rfl, hr0, hr1, rfl⟩))
  have HBd : Hid (Below w.heap.size w W1.drew) := HBw.out.drew
  have HWd : Hid (WldAt B N W1.drew gW ps lab) := HW1.out.below (Below.refl _ _).drew
  have HBy : Hid (W1.drew.heap[w.heap.size]? = some (.cells #[.int .i64 8, .int .i64 oa, .int .i64 ob, .int .i64 oc, .int .i64 ok, .string os, .int .i64 x1, .int .i64 x2, .int .i64 x3, .int .i64 x4, .int .i64 x5, .int .i16 z0, .int .i16 z1, .int .i16 z2, .int .i16 z3, .int .i16 z4, .int .i16 z5, .int .i16 z6, .int .i16 z7, .slice ra rm rc] 40)) := HBx.out
  generalize W1.drew = W2 at *
  clear HW1 HBx HBw c0 x4c bz
  obtain ⟨b0, bf, bz⟩ := heap_cells HBy.out
  have HRg : Hid (W2.rangeAt w.heap.size 0 [.int .i64 8, .int .i64 oa, .int .i64 ob, .int .i64 oc, .int .i64 ok, .string os, .int .i64 x1, .int .i64 x2, .int .i64 x3, .int .i64 x4, .int .i64 x5, .int .i16 z0, .int .i16 z1, .int .i16 z2, .int .i16 z3, .int .i16 z4, .int .i16 z5, .int .i16 z6, .int .i16 z7, .slice ra rm rc]) := fun j v hv => by rw [Nat.zero_add, b0, List.getElem?_toArray]; exact hv
  have y0 : W2.cell? ⟨w.heap.size, 0, none⟩ = some (.int .i64 8) := by rw [b0]; rfl
  clear b0 bf
  obtain ⟨k, hk⟩ : ∃ k : Nat, r = (k : Int) := ⟨r.toNat, by omega⟩
  subst hk
  have hkn : k < ps.length := by rw [HNn.out]; omega
  have HFin : Hid (∀ {e : Ending} {w' : World}, NPost B N gW ps.length W2 e w' → NPost B N gW n w e w') := fun hN => by
    obtain ⟨q1, ⟨ps', lab', q2, q3⟩, q4⟩ := hN
    exact ⟨q1, ⟨ps', lab', by rw [← HNn.out]; exact q2, q3⟩, (HBd.out.mono HB.out).trans q4⟩
  go_wp2_with (refine wpList_load_mid rfl 40 (.tmp 3) rfl w.heap.size 0 rfl [.int .i64 8, .int .i64 oa, .int .i64 ob, .int .i64 oc, .int .i64 ok, .string os, .int .i64 x1, .int .i64 x2, .int .i64 x3, .int .i64 x4, .int .i64 x5, .int .i16 z0, .int .i16 z1, .int .i16 z2, .int .i16 z3, .int .i16 z4, .int .i16 z5, .int .i16 z6, .int .i16 z7, .slice ra rm rc] _ HRg.out Tryz.underlying40 rfl info_opsize ?_)
  refine (does_crash' B N gW ps lab oa ob oc ok os x1 x2 x3 x4 x5 z0 z1 z2 z3 z4 z5 z6 z7 ra rm rc k W2 HWd.out hkn).mono ?_
  rintro e w3 hP
  have hN := HFin.out (WPost.more hP)
  obtain ⟨rfl, hN2⟩ := hN
  have HP : Hid _ := hN2
  clear hP hN2
  go_wp2
  go_ret
  exact ⟨rfl, HP.out⟩

end Go.Proofs.YtccckonckddadabGreat
namespace Go.Proofs.YtccckonckddadabGreat
open Go.RowKit
set_option linter.unusedVariables false

set_option maxRecDepth 100000 in
set_option maxHeartbeats 8000000 in
theorem step_disk (B N : Nat) (gW : Nat) (ps : List Pair) (lab : Nat → Nat) (oa ob oc ok : Int) (os : ByteArray) (x1 x2 x3 x4 x5 z0 z1 z2 z3 z4 z5 z6 z7 : Int) (ra : Option Addr) (rm rc : Nat) (w : World) (h : WldAt B N w gW ps lab) (hs : os.size ≤ maxLen) (hk0 : -9223372036854775808 ≤ ok) (hk1 : ok < 9223372036854775808) (hn : ps.length + 1 ≤ 10000000000000) (h0 : 0 < ps.length) :
    Calls Tryz.prog 5 #[.pointer (some ⟨gW, 0, none⟩), .agg #[.int .i64 9, .int .i64 oa, .int .i64 ob, .int .i64 oc, .int .i64 ok, .string os, .int .i64 x1, .int .i64 x2, .int .i64 x3, .int .i64 x4, .int .i64 x5, .int .i16 z0, .int .i16 z1, .int .i16 z2, .int .i16 z3, .int .i16 z4, .int .i16 z5, .int .i16 z6, .int .i16 z7, .slice ra rm rc]] w (NPost B N gW ps.length w) := by
  have HB : Hid _ := h.base
  have H : Hid _ := h
  clear h
  obtain ⟨W1, hW1⟩ : ∃ W1, W1 = w.alloc (.cells #[.int .i64 9, .int .i64 oa, .int .i64 ob, .int .i64 oc, .int .i64 ok, .string os, .int .i64 x1, .int .i64 x2, .int .i64 x3, .int .i64 x4, .int .i64 x5, .int .i16 z0, .int .i16 z1, .int .i16 z2, .int .i16 z3, .int .i16 z4, .int .i16 z5, .int .i16 z6, .int .i16 z7, .slice ra rm rc] 40) := ⟨_, rfl⟩
  have HBw : Hid (Below w.heap.size w W1) := by rw [hW1]; exact (Below.refl _ _).alloc (Nat.le_refl _) _
  have HBx : Hid (W1.heap[w.heap.size]? = some (.cells #[.int .i64 9, .int .i64 oa, .int .i64 ob, .int .i64 oc, .int .i64 ok, .string os, .int .i64 x1, .int .i64 x2, .int .i64 x3, .int .i64 x4, .int .i64 x5, .int .i16 z0, .int .i16 z1, .int .i16 z2, .int .i16 z3, .int .i16 z4, .int .i16 z5, .int .i16 z6, .int .i16 z7, .slice ra rm rc] 40)) := by rw [hW1]; exact heap_at rfl
  have HW1 : Hid (WldAt B N W1 gW ps lab) := H.out.below HBw.out
  obtain ⟨aC, cC, aR, cR, vH, m1, _⟩ := HW1.out.mem
  have hgW1 := (heap_cells m1).2.2
  have c0 : W1.cell? ⟨gW, 0, none⟩ = some (.slice aC ps.length cC) := by rw [(heap_cells m1).1]; rfl
  have hgW : gW < w.heap.size := by obtain ⟨_, _, _, _, _, q1, _⟩ := H.out.mem; exact (heap_cells q1).2.2
  have c0w : w.cell? ⟨gW, 0, none⟩ = some (.slice aC ps.length cC) := (HBw.out.cell (p := ⟨gW, 0, none⟩) hgW).symm.trans c0
  clear m1
  obtain ⟨n, hnn⟩ : ∃ n, ps.length = n := ⟨_, rfl⟩
  have HNn : Hid _ := hnn
  rw [hnn] at c0 c0w hn ⊢
  have hnb : ((n : Int) == 0) = false := by rw [beq_eq_false_iff_ne]; omega
  have hn0 : (0 : Int) < (n : Int) := by omega
  go_enter Tryz.func5, Tryz.ntmps5
  go_wp2
  rewrite [← hW1]
  clear c0w hW1
  obtain ⟨b0, bf, bz⟩ := heap_cells HBx.out
  have x4c : W1.cell? ⟨w.heap.size, 4, none⟩ = some (.int .i64 ok) := by rw [b0]; rfl
  clear b0 bf
  go_region_held3 (fun W => W.cell? ⟨gW, 0, none⟩ = some (.slice aC n cC) ∧ W.cell? ⟨w.heap.size, 4, none⟩ = some (.int .i64 ok))
    (first | (exact ⟨c0, x4c⟩))
    (first | (go_at_call 12; refine (lpick_any ok (n : Int) _ hk0 hk1 hn0 (by omega)).mono ?_; rintro e w1 ⟨r, rfl, hr0, hr1, rfl⟩))
  have HBd : Hid (Below w.heap.size w W1.drew) := HBw.out.drew
  have HWd : Hid (WldAt B N W1.drew gW ps lab) := HW1.out.below (Below.refl _ _).drew
  have HBy : Hid (W1.drew.heap[w.heap.size]? = some (.cells #[.int .i64 9, .int .i64 oa, .int .i64 ob, .int .i64 oc, .int .i64 ok, .string os, .int .i64 x1, .int .i64 x2, .int .i64 x3, .int .i64 x4, .int .i64 x5, .int .i16 z0, .int .i16 z1, .int .i16 z2, .int .i16 z3, .int .i16 z4, .int .i16 z5, .int .i16 z6, .int .i16 z7, .slice ra rm rc] 40)) := HBx.out
  generalize W1.drew = W2 at *
  clear HW1 HBx HBw c0 x4c bz
  obtain ⟨b0, bf, bz⟩ := heap_cells HBy.out
  obtain ⟨k, hk⟩ : ∃ k : Nat, r = (k : Int) := ⟨r.toNat, by omega⟩
  subst hk
  have hkn : k < ps.length := by rw [HNn.out]; omega
  have HFin : Hid (∀ {e : Ending} {w' : World}, NPost B N gW ps.length W2 e w' → NPost B N gW n w e w') := fun hN => by
    obtain ⟨q1, ⟨ps', lab', q2, q3⟩, q4⟩ := hN
    exact ⟨q1, ⟨ps', lab', by rw [← HNn.out]; exact q2, q3⟩, (HBd.out.mono HB.out).trans q4⟩
  go_wp2_with fail
  refine (tells_disk B N gW ps lab oa os k W2 HWd.out hkn).mono ?_
  rintro e w3 hP
  have hN := HFin.out (WPost.more hP)
  obtain ⟨rfl, hN2⟩ := hN
  have HP : Hid _ := hN2
  clear hP hN2
  go_wp2
  go_ret
  exact ⟨rfl, HP.out⟩

end Go.Proofs.YtccckonckddadabGreat
namespace Go.Proofs.YtccckonckddadabGreat
open Go.RowKit
set_option linter.unusedVariables false

set_option maxRecDepth 100000 in
set_option maxHeartbeats 8000000 in
theorem step_count (B N : Nat) (gW : Nat) (ps : List Pair) (lab : Nat → Nat) (oa ob oc ok : Int) (os : ByteArray) (x1 x2 x3 x4 x5 z0 z1 z2 z3 z4 z5 z6 z7 : Int) (ra : Option Addr) (rm rc : Nat) (w : World) (h : WldAt B N w gW ps lab) (hs : os.size ≤ maxLen) (hk0 : -9223372036854775808 ≤ ok) (hk1 : ok < 9223372036854775808) (hn : ps.length + 1 ≤ 10000000000000) (h0 : 0 < ps.length) :
    Calls Tryz.prog 5 #[.pointer (some ⟨gW, 0, none⟩), .agg #[.int .i64 10, .int .i64 oa, .int .i64 ob, .int .i64 oc, .int .i64 ok, .string os, .int .i64 x1, .int .i64 x2, .int .i64 x3, .int .i64 x4, .int .i64 x5, .int .i16 z0, .int .i16 z1, .int .i16 z2, .int .i16 z3, .int .i16 z4, .int .i16 z5, .int .i16 z6, .int .i16 z7, .slice ra rm rc]] w (NPost B N gW ps.length w) := by
  have HB : Hid _ := h.base
  have H : Hid _ := h
  clear h
  obtain ⟨W1, hW1⟩ : ∃ W1, W1 = w.alloc (.cells #[.int .i64 10, .int .i64 oa, .int .i64 ob, .int .i64 oc, .int .i64 ok, .string os, .int .i64 x1, .int .i64 x2, .int .i64 x3, .int .i64 x4, .int .i64 x5, .int .i16 z0, .int .i16 z1, .int .i16 z2, .int .i16 z3, .int .i16 z4, .int .i16 z5, .int .i16 z6, .int .i16 z7, .slice ra rm rc] 40) := ⟨_, rfl⟩
  have HBw : Hid (Below w.heap.size w W1) := by rw [hW1]; exact (Below.refl _ _).alloc (Nat.le_refl _) _
  have HBx : Hid (W1.heap[w.heap.size]? = some (.cells #[.int .i64 10, .int .i64 oa, .int .i64 ob, .int .i64 oc, .int .i64 ok, .string os, .int .i64 x1, .int .i64 x2, .int .i64 x3, .int .i64 x4, .int .i64 x5, .int .i16 z0, .int .i16 z1, .int .i16 z2, .int .i16 z3, .int .i16 z4, .int .i16 z5, .int .i16 z6, .int .i16 z7, .slice ra rm rc] 40)) := by rw [hW1]; exact heap_at rfl
  have HW1 : Hid (WldAt B N W1 gW ps lab) := H.out.below HBw.out
  obtain ⟨aC, cC, aR, cR, vH, m1, _⟩ := HW1.out.mem
  have hgW1 := (heap_cells m1).2.2
  have c0 : W1.cell? ⟨gW, 0, none⟩ = some (.slice aC ps.length cC) := by rw [(heap_cells m1).1]; rfl
  have hgW : gW < w.heap.size := by obtain ⟨_, _, _, _, _, q1, _⟩ := H.out.mem; exact (heap_cells q1).2.2
  have c0w : w.cell? ⟨gW, 0, none⟩ = some (.slice aC ps.length cC) := (HBw.out.cell (p := ⟨gW, 0, none⟩) hgW).symm.trans c0
  clear m1
  obtain ⟨n, hnn⟩ : ∃ n, ps.length = n := ⟨_, rfl⟩
  have HNn : Hid _ := hnn
  rw [hnn] at c0 c0w hn ⊢
  have hnb : ((n : Int) == 0) = false := by rw [beq_eq_false_iff_ne]; omega
  have hn0 : (0 : Int) < (n : Int) := by omega
  go_enter Tryz.func5, Tryz.ntmps5
  go_wp2
  rewrite [← hW1]
  clear c0w hW1
  obtain ⟨b0, bf, bz⟩ := heap_cells HBx.out
  have x4c : W1.cell? ⟨w.heap.size, 4, none⟩ = some (.int .i64 ok) := by rw [b0]; rfl
  clear b0 bf
  go_region_held3 (fun W => W.cell? ⟨gW, 0, none⟩ = some (.slice aC n cC) ∧ W.cell? ⟨w.heap.size, 4, none⟩ = some (.int .i64 ok))
    (first | (exact ⟨c0, x4c⟩))
    (first | (go_at_call 12; refine (lpick_any ok (n : Int) _ hk0 hk1 hn0 (by omega)).mono ?_; rintro e w1 ⟨r, rfl, hr0, hr1, rfl⟩))
  have HBd : Hid (Below w.heap.size w W1.drew) := HBw.out.drew
  have HWd : Hid (WldAt B N W1.drew gW ps lab) := HW1.out.below (Below.refl _ _).drew
  have HBy : Hid (W1.drew.heap[w.heap.size]? = some (.cells #[.int .i64 10, .int .i64 oa, .int .i64 ob, .int .i64 oc, .int .i64 ok, .string os, .int .i64 x1, .int .i64 x2, .int .i64 x3, .int .i64 x4, .int .i64 x5, .int .i16 z0, .int .i16 z1, .int .i16 z2, .int .i16 z3, .int .i16 z4, .int .i16 z5, .int .i16 z6, .int .i16 z7, .slice ra rm rc] 40)) := HBx.out
  generalize W1.drew = W2 at *
  clear HW1 HBx HBw c0 x4c bz
  obtain ⟨b0, bf, bz⟩ := heap_cells HBy.out
  obtain ⟨k, hk⟩ : ∃ k : Nat, r = (k : Int) := ⟨r.toNat, by omega⟩
  subst hk
  have hkn : k < ps.length := by rw [HNn.out]; omega
  have HFin : Hid (∀ {e : Ending} {w' : World}, NPost B N gW ps.length W2 e w' → NPost B N gW n w e w') := fun hN => by
    obtain ⟨q1, ⟨ps', lab', q2, q3⟩, q4⟩ := hN
    exact ⟨q1, ⟨ps', lab', by rw [← HNn.out]; exact q2, q3⟩, (HBd.out.mono HB.out).trans q4⟩
  go_wp2_with fail
  refine (tells_count B N gW ps lab oa os k W2 HWd.out hkn).mono ?_
  rintro e w3 hP
  have hN := HFin.out (WPost.more hP)
  obtain ⟨rfl, hN2⟩ := hN
  have HP : Hid _ := hN2
  clear hP hN2
  go_wp2
  go_ret
  exact ⟨rfl, HP.out⟩

end Go.Proofs.YtccckonckddadabGreat
namespace Go.Proofs.YtccckonckddadabGreat
open Go.RowKit
set_option linter.unusedVariables false

set_option maxRecDepth 100000 in
set_option maxHeartbeats 8000000 in
theorem step_get (B N : Nat) (gW : Nat) (ps : List Pair) (lab : Nat → Nat) (oa ob oc ok : Int) (os : ByteArray) (x1 x2 x3 x4 x5 z0 z1 z2 z3 z4 z5 z6 z7 : Int) (ra : Option Addr) (rm rc : Nat) (w : World) (h : WldAt B N w gW ps lab) (hs : os.size ≤ maxLen) (hk0 : -9223372036854775808 ≤ ok) (hk1 : ok < 9223372036854775808) (hn : ps.length + 1 ≤ 10000000000000) (h0 : 0 < ps.length) :
    Calls Tryz.prog 5 #[.pointer (some ⟨gW, 0, none⟩), .agg #[.int .i64 11, .int .i64 oa, .int .i64 ob, .int .i64 oc, .int .i64 ok, .string os, .int .i64 x1, .int .i64 x2, .int .i64 x3, .int .i64 x4, .int .i64 x5, .int .i16 z0, .int .i16 z1, .int .i16 z2, .int .i16 z3, .int .i16 z4, .int .i16 z5, .int .i16 z6, .int .i16 z7, .slice ra rm rc]] w (NPost B N gW ps.length w) := by
  have HB : Hid _ := h.base
  have H : Hid _ := h
  clear h
  obtain ⟨W1, hW1⟩ : ∃ W1, W1 = w.alloc (.cells #[.int .i64 11, .int .i64 oa, .int .i64 ob, .int .i64 oc, .int .i64 ok, .string os, .int .i64 x1, .int .i64 x2, .int .i64 x3, .int .i64 x4, .int .i64 x5, .int .i16 z0, .int .i16 z1, .int .i16 z2, .int .i16 z3, .int .i16 z4, .int .i16 z5, .int .i16 z6, .int .i16 z7, .slice ra rm rc] 40) := ⟨_, rfl⟩
  have HBw : Hid (Below w.heap.size w W1) := by rw [hW1]; exact (Below.refl _ _).alloc (Nat.le_refl _) _
  have HBx : Hid (W1.heap[w.heap.size]? = some (.cells #[.int .i64 11, .int .i64 oa, .int .i64 ob, .int .i64 oc, .int .i64 ok, .string os, .int .i64 x1, .int .i64 x2, .int .i64 x3, .int .i64 x4, .int .i64 x5, .int .i16 z0, .int .i16 z1, .int .i16 z2, .int .i16 z3, .int .i16 z4, .int .i16 z5, .int .i16 z6, .int .i16 z7, .slice ra rm rc] 40)) := by rw [hW1]; exact heap_at rfl
  have HW1 : Hid (WldAt B N W1 gW ps lab) := H.out.below HBw.out
  obtain ⟨aC, cC, aR, cR, vH, m1, _⟩ := HW1.out.mem
  have hgW1 := (heap_cells m1).2.2
  have c0 : W1.cell? ⟨gW, 0, none⟩ = some (.slice aC ps.length cC) := by rw [(heap_cells m1).1]; rfl
  have hgW : gW < w.heap.size := by obtain ⟨_, _, _, _, _, q1, _⟩ := H.out.mem; exact (heap_cells q1).2.2
  have c0w : w.cell? ⟨gW, 0, none⟩ = some (.slice aC ps.length cC) := (HBw.out.cell (p := ⟨gW, 0, none⟩) hgW).symm.trans c0
  clear m1
  obtain ⟨n, hnn⟩ : ∃ n, ps.length = n := ⟨_, rfl⟩
  have HNn : Hid _ := hnn
  rw [hnn] at c0 c0w hn ⊢
  have hnb : ((n : Int) == 0) = false := by rw [beq_eq_false_iff_ne]; omega
  have hn0 : (0 : Int) < (n : Int) := by omega
  go_enter Tryz.func5, Tryz.ntmps5
  go_wp2
  rewrite [← hW1]
  clear c0w hW1
  obtain ⟨b0, bf, bz⟩ := heap_cells HBx.out
  have x4c : W1.cell? ⟨w.heap.size, 4, none⟩ = some (.int .i64 ok) := by rw [b0]; rfl
  clear b0 bf
  go_region_held3 (fun W => W.cell? ⟨gW, 0, none⟩ = some (.slice aC n cC) ∧ W.cell? ⟨w.heap.size, 4, none⟩ = some (.int .i64 ok))
    (first | (exact ⟨c0, x4c⟩))
    (first | (go_at_call 12; refine (lpick_any ok (n : Int) _ hk0 hk1 hn0 (by omega)).mono ?_; rintro e w1 ⟨r, rfl, hr0, hr1, rfl⟩))
  have HBd : Hid (Below w.heap.size w W1.drew) := HBw.out.drew
  have HWd : Hid (WldAt B N W1.drew gW ps lab) := HW1.out.below (Below.refl _ _).drew
  have HBy : Hid (W1.drew.heap[w.heap.size]? = some (.cells #[.int .i64 11, .int .i64 oa, .int .i64 ob, .int .i64 oc, .int .i64 ok, .string os, .int .i64 x1, .int .i64 x2, .int .i64 x3, .int .i64 x4, .int .i64 x5, .int .i16 z0, .int .i16 z1, .int .i16 z2, .int .i16 z3, .int .i16 z4, .int .i16 z5, .int .i16 z6, .int .i16 z7, .slice ra rm rc] 40)) := HBx.out
  generalize W1.drew = W2 at *
  clear HW1 HBx HBw c0 x4c bz
  obtain ⟨b0, bf, bz⟩ := heap_cells HBy.out
  obtain ⟨k, hk⟩ : ∃ k : Nat, r = (k : Int) := ⟨r.toNat, by omega⟩
  subst hk
  have hkn : k < ps.length := by rw [HNn.out]; omega
  have HFin : Hid (∀ {e : Ending} {w' : World}, NPost B N gW ps.length W2 e w' → NPost B N gW n w e w') := fun hN => by
    obtain ⟨q1, ⟨ps', lab', q2, q3⟩, q4⟩ := hN
    exact ⟨q1, ⟨ps', lab', by rw [← HNn.out]; exact q2, q3⟩, (HBd.out.mono HB.out).trans q4⟩
  go_wp2_with fail
  refine (tells_get B N gW ps lab oa os k W2 HWd.out hkn hs).mono ?_
  rintro e w3 hP
  have hN := HFin.out (WPost.more hP)
  obtain ⟨rfl, hN2⟩ := hN
  have HP : Hid _ := hN2
  clear hP hN2
  go_wp2
  go_ret
  exact ⟨rfl, HP.out⟩

end Go.Proofs.YtccckonckddadabGreat
namespace Go.Proofs.YtccckonckddadabGreat
open Go.RowKit
set_option linter.unusedVariables false

/-! ### ends -/
def abc : ByteArray := ⟨#[97, 98, 99, 100, 101, 102, 103, 104]⟩
set_option maxRecDepth 100000 in
set_option maxHeartbeats 8000000 in
theorem wends_any (B N : Nat) (gW : Nat) (ps : List Pair) (lab : Nat → Nat) (k : Nat) (a : Option Addr) (m c : Nat) (ops : List OpV) (w0 w : World) (h : WldAt B N w gW ps lab) (hk : k < ps.length) (h0 : OpsRow w0 a m ops) (hB : B = w0.heap.size) (hb : Below B w0 w) (hm : m ≤ 5000000000000) :
    Calls Tryz.prog 7 #[.pointer (some ⟨gW, 0, none⟩), .int .i64 (k : Int), .slice a m c] w (WPost B N gW ps.length w) := by
  have H : Hid _ := h
  have H0 : Hid (_ ∧ _ ∧ _) := ⟨h0, hB, hb⟩
  clear h h0 hB hb
  obtain ⟨n, hn⟩ : ∃ n, ps.length = n := ⟨_, rfl⟩
  have HN : Hid _ := hn
  rw [hn] at hk
  rewrite [hn]
  go_enter Tryz.func7, Tryz.ntmps7
  go_wp2_with fail
  refine (tells_log B N gW ps lab 0 ⟨#[]⟩ k w H.out (by rw [HN.out]; exact hk)).mono ?_
  rintro e w1 ⟨rfl, hP⟩
  have HP : Hid ((∃ ps' lab', ps'.length = n ∧ WldAt B N w1 gW ps' lab') ∧ Below B w w1) := by rw [HN.out] at hP; exact hP
  clear hP hn
  go_wp2
  go_loopw [7, 8] (fun v7 v8 wr => ∃ (j : Nat), v7 = .bool true ∧ v8 = .int .i64 j ∧ j ≤ m ∧ Hid ((∃ ps' lab', ps'.length = n ∧ WldAt B N wr gW ps' lab') ∧ Below B w wr)) (fun _ v8 _ => m - (intOf v8).toNat)
  case atStart => exact ⟨0, rfl, rfl, Nat.zero_le _, HP⟩
  case round =>
    obtain ⟨j, rfl, rfl, hj, HR⟩ := hrel
    clear HP
    by_cases hlt : j < m
    · have HOr : Hid (OpsRow wr a m ops) := H0.out.1.kept H0.out.2.1 (H0.out.2.2.trans HR.out.2)
      have hjl : j < ops.length := by rw [H0.out.1.len]; exact hlt
      obtain ⟨gS, off, rfl, hgS, hcell⟩ : ∃ g off, a = some ⟨g, off, none⟩ ∧ g < wr.heap.size ∧ ∀ (k : Nat) (o : OpV), ops[k]? = some o → wr.rangeAt g (off + k * 20) o.arr.toList := by
        rcases HOr.out.cells with h0 | h0
        · omega
        · exact h0
      have hrg := hcell j ops[j] (List.getElem?_eq_getElem hjl)
      clear hcell HOr
      generalize ops[j] = o at *
      have d0 : wr.cell? ⟨gS, off + j * 20, none⟩ = some (.int .i64 o.kind) := hrg 0 _ rfl
      have d2 : wr.cell? ⟨gS, off + j * 20 + 2, none⟩ = some (.int .i64 o.b) := hrg 2 _ rfl
      clear hrg
      have j1 : (j : Int) < (m : Int) := by omega
      have j0 : (0 : Int) ≤ (j : Int) := by omega
      by_cases hk2 : o.kind = 2
      · have hkb : (o.kind != 2) = false := by rw [bne_eq_false_iff_eq]; exact hk2
        obtain ⟨ps1, lab1, hl1, hW1⟩ := HR.out.1
        have HW1 : Hid (_ ∧ _) := ⟨hl1, hW1⟩
        clear hl1 hW1 hk2
        go_wp2_with fail
        refine (tells_reply B N gW ps1 lab1 o.b ⟨#[]⟩ k wr HW1.out.2 (by rw [HW1.out.1]; exact hk)).mono ?_
        rintro e w2 ⟨rfl, hP⟩
        have HP : Hid ((∃ ps' lab', ps'.length = n ∧ WldAt B N w2 gW ps' lab') ∧ Below B w w2) := by
          rw [HW1.out.1] at hP
          exact ⟨hP.1, HR.out.2.trans hP.2⟩
        clear hP d0 d2
        go_wp2
        go_roundw
        case rel => exact ⟨j + 1, rfl, by go_num, by omega, HP⟩
        case measure => simp [intOf]; omega
      · have hkb : (o.kind != 2) = true := by rw [bne_iff_ne]; exact hk2
        clear hk2
        go_wp2
        go_roundw
        case rel => exact ⟨j + 1, rfl, by go_num, by omega, HR⟩
        case measure => simp [intOf]; omega
    · have hje : j = m := by omega
      subst hje
      have hjj : decide ((j : Int) < (j : Int)) = false := decide_eq_false (by omega)
      go_wp2
      go_loopw [7, 9] (fun v7 v9 wx => ∃ (i : Nat), v7 = .bool true ∧ v9 = .int .i64 i ∧ i ≤ 4 ∧ Hid ((∃ ps' lab', ps'.length = n ∧ WldAt B N wx gW ps' lab') ∧ Below B w wx)) (fun _ v9 _ => 4 - (intOf v9).toNat)
      case atStart => exact ⟨0, rfl, rfl, Nat.zero_le _, HR⟩
      case round =>
        obtain ⟨i, rfl, rfl, hi, HS⟩ := hrel
        clear HR hjj
        by_cases hi4 : i < 4
        · have i1 : (i : Int) < 4 := by omega
          obtain ⟨ps1, lab1, hl1, hW1⟩ := HS.out.1
          have HW1 : Hid (_ ∧ _) := ⟨hl1, hW1⟩
          clear hl1 hW1
          go_wp2_with fail
          refine (tells_disk B N gW ps1 lab1 (i : Int) ⟨#[]⟩ k wr HW1.out.2 (by rw [HW1.out.1]; exact hk)).mono ?_
          rintro e w2 ⟨rfl, ⟨ps2, lab2, hl2, hW2⟩, hB2⟩
          have HW2 : Hid (ps2.length = n ∧ WldAt B N w2 gW ps2 lab2 ∧ Below B w w2) := ⟨hl2.trans HW1.out.1, hW2, HS.out.2.trans hB2⟩
          clear hl2 hW2 hB2 HW1
          go_wp2_with fail
          refine (tells_count B N gW ps2 lab2 (i : Int) ⟨#[]⟩ k w2 HW2.out.2.1 (by rw [HW2.out.1]; exact hk)).mono ?_
          rintro e w3 ⟨rfl, ⟨ps3, lab3, hl3, hW3⟩, hB3⟩
          have HW3 : Hid ((∃ ps' lab', ps'.length = n ∧ WldAt B N w3 gW ps' lab') ∧ Below B w w3) := ⟨⟨ps3, lab3, hl3.trans HW2.out.1, hW3⟩, HW2.out.2.2.trans hB3⟩
          clear hl3 hW3 hB3 HW2
          go_wp2
          go_loopw [7, 12] (fun v7 v12 wy => ∃ (q : Nat), v7 = .bool true ∧ v12 = .int .i64 q ∧ q ≤ 8 ∧ Hid ((∃ ps' lab', ps'.length = n ∧ WldAt B N wy gW ps' lab') ∧ Below B w wy)) (fun _ v12 _ => 8 - (intOf v12).toNat)
          case atStart => exact ⟨0, rfl, rfl, Nat.zero_le _, HW3⟩
          case round =>
            obtain ⟨q, rfl, rfl, hq, HQ⟩ := hrel
            clear HW3 HS
            by_cases hq8 : q < 8
            · have q1 : (q : Int) < 8 := by omega
              have q2 : (q : Int) + 1 ≤ 8 := by omega
              have q3 : (q : Int) ≤ (q : Int) + 1 := by omega
              have q0 : (0 : Int) ≤ (q : Int) := by omega
              have hwq : IntKind.i64.wrap ((q : Int) + 1) = (q : Int) + 1 := wrap_i64_id (by omega) (by omega)
              obtain ⟨ps1, lab1, hl1, hW1⟩ := HQ.out.1
              have HW1 : Hid (_ ∧ _) := ⟨hl1, hW1⟩
              clear hl1 hW1
              go_wp2_with fail
              refine (tells_get B N gW ps1 lab1 (i : Int) _ k wr HW1.out.2 (by rw [HW1.out.1]; exact hk) (by first | (rw [ByteArray.size_extract]; unfold maxLen; show _ ≤ _; omega) | (simp; unfold maxLen; omega))).mono ?_
              rintro e w2 ⟨rfl, hP⟩
              have HP : Hid ((∃ ps' lab', ps'.length = n ∧ WldAt B N w2 gW ps' lab') ∧ Below B w w2) := by
                rw [HW1.out.1] at hP
                exact ⟨hP.1, HQ.out.2.trans hP.2⟩
              clear hP
              go_wp2
              go_roundw
              case rel => exact ⟨q + 1, rfl, by go_num, by omega, HP⟩
              case measure => simp [intOf]; omega
            · have hqe : q = 8 := by omega
              subst hqe
              go_wp2
              go_roundw
              case rel => exact ⟨i + 1, rfl, by go_num, by omega, HQ⟩
              case measure => simp [intOf]; omega
        · have hie : i = 4 := by omega
          subst hie
          go_wp2
          go_ret
          exact ⟨rfl, HS.out⟩

end Go.Proofs.YtccckonckddadabGreat
