import Derived.Test.YtccckonckddadaaGreatJ29
import Derived.Deep.MidRow
namespace Go.Proofs.YtccckonckddadaaGreat
open Go.RowKit
set_option linter.unusedVariables false

set_option maxRecDepth 100000 in
set_option maxHeartbeats 8000000 in
theorem step_other (B N : Nat) (gW : Nat) (ps : List Pair) (lab : Nat → Nat) (kind : Int) (oa ob oc ok : Int) (os : ByteArray) (x1 x2 x3 x4 x5 z0 z1 z2 z3 z4 z5 z6 z7 : Int) (ra : Option Addr) (rm rc : Nat) (w : World) (h : WldAt B N w gW ps lab) (hs : os.size ≤ maxLen) (hk0 : -9223372036854775808 ≤ ok) (hk1 : ok < 9223372036854775808) (hn : ps.length + 1 ≤ 10000000000000) (h0 : 0 < ps.length) (h5 : kind < 1) :
    Calls Tryz.prog 5 #[.pointer (some ⟨gW, 0, none⟩), .agg #[.int .i64 kind, .int .i64 oa, .int .i64 ob, .int .i64 oc, .int .i64 ok, .string os, .int .i64 x1, .int .i64 x2, .int .i64 x3, .int .i64 x4, .int .i64 x5, .int .i16 z0, .int .i16 z1, .int .i16 z2, .int .i16 z3, .int .i16 z4, .int .i16 z5, .int .i16 z6, .int .i16 z7, .slice ra rm rc]] w (NPost B N gW ps.length w) := by
  have n1 : (kind == 1) = false := by rw [beq_eq_false_iff_ne]; omega
  have n2 : (kind == 2) = false := by rw [beq_eq_false_iff_ne]; omega
  have n3 : (kind == 3) = false := by rw [beq_eq_false_iff_ne]; omega
  have n6 : (kind == 6) = false := by rw [beq_eq_false_iff_ne]; omega
  have n7 : (kind == 7) = false := by rw [beq_eq_false_iff_ne]; omega
  have n8 : (kind == 8) = false := by rw [beq_eq_false_iff_ne]; omega
  have n12 : (kind == 12) = false := by rw [beq_eq_false_iff_ne]; omega
  have n13 : (kind == 13) = false := by rw [beq_eq_false_iff_ne]; omega
  have n14 : (kind == 14) = false := by rw [beq_eq_false_iff_ne]; omega
  have HB : Hid _ := h.base
  have H : Hid _ := h
  clear h
  obtain ⟨W1, hW1⟩ : ∃ W1, W1 = w.alloc (.cells #[.int .i64 kind, .int .i64 oa, .int .i64 ob, .int .i64 oc, .int .i64 ok, .string os, .int .i64 x1, .int .i64 x2, .int .i64 x3, .int .i64 x4, .int .i64 x5, .int .i16 z0, .int .i16 z1, .int .i16 z2, .int .i16 z3, .int .i16 z4, .int .i16 z5, .int .i16 z6, .int .i16 z7, .slice ra rm rc] 38) := ⟨_, rfl⟩
  have HBw : Hid (Below w.heap.size w W1) := by rw [hW1]; exact (Below.refl _ _).alloc (Nat.le_refl _) _
  have HBx : Hid (W1.heap[w.heap.size]? = some (.cells #[.int .i64 kind, .int .i64 oa, .int .i64 ob, .int .i64 oc, .int .i64 ok, .string os, .int .i64 x1, .int .i64 x2, .int .i64 x3, .int .i64 x4, .int .i64 x5, .int .i16 z0, .int .i16 z1, .int .i16 z2, .int .i16 z3, .int .i16 z4, .int .i16 z5, .int .i16 z6, .int .i16 z7, .slice ra rm rc] 38)) := by rw [hW1]; exact heap_at rfl
  have HW1 : Hid (WldAt B N W1 gW ps lab) := H.out.below HBw.out
  obtain ⟨aC, cC, aR, cR, vH, m1, _⟩ := HW1.out.mem
  have hgW1 := (heap_cells m1).2.2
  have c0 : W1.cell? ⟨gW, 0, none⟩ = some (.slice aC ps.length cC) := by rw [(heap_cells m1).1]; rfl
  have hgW : gW < w.heap.size := by obtain ⟨_, _, _, _, _, q1, _⟩ := H.out.mem; exact (heap_cells q1).2.2
  have c0w : w.cell? ⟨gW, 0, none⟩ = some (.slice aC ps.length cC) := (HBw.out.cell (p := ⟨gW, 0, none⟩) hgW).symm.trans c0
  clear m1
  obtain ⟨n, hnn⟩ : ∃ n, ps.length = n := ⟨_, rfl⟩
  have HNn : Hid _ := hnn
  rw [hnn] at c0 c0w hn ⊢
  have hnb : ((n : Int) == 0) = false := by rw [beq_eq_false_iff_ne]; omega
  have hn0 : (0 : Int) < (n : Int) := by omega
  go_enter Tryz.func5, Tryz.ntmps5
  go_wp2
  rewrite [← hW1]
  clear c0w hW1
  obtain ⟨b0, bf, bz⟩ := heap_cells HBx.out
  have x4c : W1.cell? ⟨w.heap.size, 4, none⟩ = some (.int .i64 ok) := by rw [b0]; rfl
  clear b0 bf
  go_region_held3 (fun W => W.cell? ⟨gW, 0, none⟩ = some (.slice aC n cC) ∧ W.cell? ⟨w.heap.size, 4, none⟩ = some (.int .i64 ok))
    (first | (exact ⟨c0, x4c⟩))
    (first | (go_at_call 12; refine (lpick_any ok (n : Int) _ hk0 hk1 hn0 (by omega)).mono ?_; rintro e w1 ⟨r, rfl, hr0, hr1, rfl⟩))
  have HBd : Hid (Below w.heap.size w W1.drew) := HBw.out.drew
  have HWd : Hid (WldAt B N W1.drew gW ps lab) := HW1.out.below (Below.refl _ _).drew
  have HBy : Hid (W1.drew.heap[w.heap.size]? = some (.cells #[.int .i64 kind, .int .i64 oa, .int .i64 ob, .int .i64 oc, .int .i64 ok, .string os, .int .i64 x1, .int .i64 x2, .int .i64 x3, .int .i64 x4, .int .i64 x5, .int .i16 z0, .int .i16 z1, .int .i16 z2, .int .i16 z3, .int .i16 z4, .int .i16 z5, .int .i16 z6, .int .i16 z7, .slice ra rm rc] 38)) := HBx.out
  generalize W1.drew = W2 at *
  clear HW1 HBx HBw c0 x4c bz
  obtain ⟨b0, bf, bz⟩ := heap_cells HBy.out
  obtain ⟨k, hk⟩ : ∃ k : Nat, r = (k : Int) := ⟨r.toNat, by omega⟩
  subst hk
  have hkn : k < ps.length := by rw [HNn.out]; omega
  have HFin : Hid (∀ {e : Ending} {w' : World}, NPost B N gW ps.length W2 e w' → NPost B N gW n w e w') := fun hN => by
    obtain ⟨q1, ⟨ps', lab', q2, q3⟩, q4⟩ := hN
    exact ⟨q1, ⟨ps', lab', by rw [← HNn.out]; exact q2, q3⟩, (HBd.out.mono HB.out).trans q4⟩
  go_wp2_with fail
  refine (tells_other B N gW ps lab kind oa os k W2 HWd.out hkn (by omega)).mono ?_
  rintro e w3 hP
  have hN := HFin.out (WPost.more hP)
  obtain ⟨rfl, hN2⟩ := hN
  have HP : Hid _ := hN2
  clear hP hN2
  go_wp2
  go_ret
  exact ⟨rfl, HP.out⟩

end Go.Proofs.YtccckonckddadaaGreat
namespace Go.Proofs.YtccckonckddadaaGreat
open Go.RowKit
set_option linter.unusedVariables false

theorem info_opsize : (Tryz.prog.info? 38).map (·.size) = some 20 := by kernel_rfl

set_option maxRecDepth 100000 in
set_option maxHeartbeats 8000000 in
theorem step_submit (B N : Nat) (gW : Nat) (ps : List Pair) (lab : Nat → Nat) (oa ob oc ok : Int) (os : ByteArray) (x1 x2 x3 x4 x5 z0 z1 z2 z3 z4 z5 z6 z7 : Int) (ra : Option Addr) (rm rc : Nat) (w : World) (h : WldAt B N w gW ps lab) (hs : os.size ≤ maxLen) (hk0 : -9223372036854775808 ≤ ok) (hk1 : ok < 9223372036854775808) (hn : ps.length + 1 ≤ 10000000000000) (h0 : 0 < ps.length) :
    Calls Tryz.prog 5 #[.pointer (some ⟨gW, 0, none⟩), .agg #[.int .i64 2, .int .i64 oa, .int .i64 ob, .int .i64 oc, .int .i64 ok, .string os, .int .i64 x1, .int .i64 x2, .int .i64 x3, .int .i64 x4, .int .i64 x5, .int .i16 z0, .int .i16 z1, .int .i16 z2, .int .i16 z3, .int .i16 z4, .int .i16 z5, .int .i16 z6, .int .i16 z7, .slice ra rm rc]] w (NPost B N gW ps.length w) := by
  have HB : Hid _ := h.base
  have H : Hid _ := h
  clear h
  obtain ⟨W1, hW1⟩ : ∃ W1, W1 = w.alloc (.cells #[.int .i64 2, .int .i64 oa, .int .i64 ob, .int .i64 oc, .int .i64 ok, .string os, .int .i64 x1, .int .i64 x2, .int .i64 x3, .int .i64 x4, .int .i64 x5, .int .i16 z0, .int .i16 z1, .int .i16 z2, .int .i16 z3, .int .i16 z4, .int .i16 z5, .int .i16 z6, .int .i16 z7, .slice ra rm rc] 38) := ⟨_, rfl⟩
  have HBw : Hid (Below w.heap.size w W1) := by rw [hW1]; exact (Below.refl _ _).alloc (Nat.le_refl _) _
  have HBx : Hid (W1.heap[w.heap.size]? = some (.cells #[.int .i64 2, .int .i64 oa, .int .i64 ob, .int .i64 oc, .int .i64 ok, .string os, .int .i64 x1, .int .i64 x2, .int .i64 x3, .int .i64 x4, .int .i64 x5, .int .i16 z0, .int .i16 z1, .int .i16 z2, .int .i16 z3, .int .i16 z4, .int .i16 z5, .int .i16 z6, .int .i16 z7, .slice ra rm rc] 38)) := by rw [hW1]; exact heap_at rfl
  have HW1 : Hid (WldAt B N W1 gW ps lab) := H.out.below HBw.out
  obtain ⟨aC, cC, aR, cR, vH, m1, _⟩ := HW1.out.mem
  have hgW1 := (heap_cells m1).2.2
  have c0 : W1.cell? ⟨gW, 0, none⟩ = some (.slice aC ps.length cC) := by rw [(heap_cells m1).1]; rfl
  have hgW : gW < w.heap.size := by obtain ⟨_, _, _, _, _, q1, _⟩ := H.out.mem; exact (heap_cells q1).2.2
  have c0w : w.cell? ⟨gW, 0, none⟩ = some (.slice aC ps.length cC) := (HBw.out.cell (p := ⟨gW, 0, none⟩) hgW).symm.trans c0
  clear m1
  obtain ⟨n, hnn⟩ : ∃ n, ps.length = n := ⟨_, rfl⟩
  have HNn : Hid _ := hnn
  rw [hnn] at c0 c0w hn ⊢
  have hnb : ((n : Int) == 0) = false := by rw [beq_eq_false_iff_ne]; omega
  have hn0 : (0 : Int) < (n : Int) := by omega
  go_enter Tryz.func5, Tryz.ntmps5
  go_wp2
  rewrite [← hW1]
  clear c0w hW1
  obtain ⟨b0, bf, bz⟩ := heap_cells HBx.out
  have x4c : W1.cell? ⟨w.heap.size, 4, none⟩ = some (.int .i64 ok) := by rw [b0]; rfl
  clear b0 bf
  go_region_held3 (fun W => W.cell? ⟨gW, 0, none⟩ = some (.slice aC n cC) ∧ W.cell? ⟨w.heap.size, 4, none⟩ = some (.int .i64 ok))
    (first | (exact ⟨c0, x4c⟩))
    (first | (go_at_call 12; refine (lpick_any ok (n : Int) _ hk0 hk1 hn0 (by omega)).mono ?_; rintro e w1 ⟨r, rfl, hr0, hr1, rfl⟩))
  have HBd : Hid (Below w.heap.size w W1.drew) := HBw.out.drew
  have HWd : Hid (WldAt B N W1.drew gW ps lab) := HW1.out.below (Below.refl _ _).drew
  have HBy : Hid (W1.drew.heap[w.heap.size]? = some (.cells #[.int .i64 2, .int .i64 oa, .int .i64 ob, .int .i64 oc, .int .i64 ok, .string os, .int .i64 x1, .int .i64 x2, .int .i64 x3, .int .i64 x4, .int .i64 x5, .int .i16 z0, .int .i16 z1, .int .i16 z2, .int .i16 z3, .int .i16 z4, .int .i16 z5, .int .i16 z6, .int .i16 z7, .slice ra rm rc] 38)) := HBx.out
  generalize W1.drew = W2 at *
  clear HW1 HBx HBw c0 x4c bz
  obtain ⟨b0, bf, bz⟩ := heap_cells HBy.out
  have HRg : Hid (W2.rangeAt w.heap.size 0 [.int .i64 2, .int .i64 oa, .int .i64 ob, .int .i64 oc, .int .i64 ok, .string os, .int .i64 x1, .int .i64 x2, .int .i64 x3, .int .i64 x4, .int .i64 x5, .int .i16 z0, .int .i16 z1, .int .i16 z2, .int .i16 z3, .int .i16 z4, .int .i16 z5, .int .i16 z6, .int .i16 z7, .slice ra rm rc]) := fun j v hv => by rw [Nat.zero_add, b0, List.getElem?_toArray]; exact hv
  have y0 : W2.cell? ⟨w.heap.size, 0, none⟩ = some (.int .i64 2) := by rw [b0]; rfl
  clear b0 bf
  obtain ⟨k, hk⟩ : ∃ k : Nat, r = (k : Int) := ⟨r.toNat, by omega⟩
  subst hk
  have hkn : k < ps.length := by rw [HNn.out]; omega
  have HFin : Hid (∀ {e : Ending} {w' : World}, NPost B N gW ps.length W2 e w' → NPost B N gW n w e w') := fun hN => by
    obtain ⟨q1, ⟨ps', lab', q2, q3⟩, q4⟩ := hN
    exact ⟨q1, ⟨ps', lab', by rw [← HNn.out]; exact q2, q3⟩, (HBd.out.mono HB.out).trans q4⟩
  go_wp2_with (refine wpList_load_mid rfl 38 (.tmp 3) rfl w.heap.size 0 rfl [.int .i64 2, .int .i64 oa, .int .i64 ob, .int .i64 oc, .int .i64 ok, .string os, .int .i64 x1, .int .i64 x2, .int .i64 x3, .int .i64 x4, .int .i64 x5, .int .i16 z0, .int .i16 z1, .int .i16 z2, .int .i16 z3, .int .i16 z4, .int .i16 z5, .int .i16 z6, .int .i16 z7, .slice ra rm rc] _ HRg.out Tryz.underlying38 rfl info_opsize ?_)
  refine (does_submit' B N gW ps lab oa ob oc ok os x1 x2 x3 x4 x5 z0 z1 z2 z3 z4 z5 z6 z7 ra rm rc k W2 HWd.out hkn hs).mono ?_
  rintro e w3 hP
  have hN := HFin.out (WPost.more hP)
  obtain ⟨rfl, hN2⟩ := hN
  have HP : Hid _ := hN2
  clear hP hN2
  go_wp2
  go_ret
  exact ⟨rfl, HP.out⟩

end Go.Proofs.YtccckonckddadaaGreat
namespace Go.Proofs.YtccckonckddadaaGreat
open Go.RowKit
set_option linter.unusedVariables false

set_option maxRecDepth 100000 in
set_option maxHeartbeats 8000000 in
theorem step_fill (B N : Nat) (gW : Nat) (ps : List Pair) (lab : Nat → Nat) (oa ob oc ok : Int) (os : ByteArray) (x1 x2 x3 x4 x5 z0 z1 z2 z3 z4 z5 z6 z7 : Int) (ra : Option Addr) (rm rc : Nat) (w : World) (h : WldAt B N w gW ps lab) (hs : os.size ≤ maxLen) (hk0 : -9223372036854775808 ≤ ok) (hk1 : ok < 9223372036854775808) (hn : ps.length + 1 ≤ 10000000000000) (h0 : 0 < ps.length) :
    Calls Tryz.prog 5 #[.pointer (some ⟨gW, 0, none⟩), .agg #[.int .i64 3, .int .i64 oa, .int .i64 ob, .int .i64 oc, .int .i64 ok, .string os, .int .i64 x1, .int .i64 x2, .int .i64 x3, .int .i64 x4, .int .i64 x5, .int .i16 z0, .int .i16 z1, .int .i16 z2, .int .i16 z3, .int .i16 z4, .int .i16 z5, .int .i16 z6, .int .i16 z7, .slice ra rm rc]] w (NPost B N gW ps.length w) := by
  have HB : Hid _ := h.base
  have H : Hid _ := h
  clear h
  obtain ⟨W1, hW1⟩ : ∃ W1, W1 = w.alloc (.cells #[.int .i64 3, .int .i64 oa, .int .i64 ob, .int .i64 oc, .int .i64 ok, .string os, .int .i64 x1, .int .i64 x2, .int .i64 x3, .int .i64 x4, .int .i64 x5, .int .i16 z0, .int .i16 z1, .int .i16 z2, .int .i16 z3, .int .i16 z4, .int .i16 z5, .int .i16 z6, .int .i16 z7, .slice ra rm rc] 38) := ⟨_, rfl⟩
  have HBw : Hid (Below w.heap.size w W1) := by rw [hW1]; exact (Below.refl _ _).alloc (Nat.le_refl _) _
  have HBx : Hid (W1.heap[w.heap.size]? = some (.cells #[.int .i64 3, .int .i64 oa, .int .i64 ob, .int .i64 oc, .int .i64 ok, .string os, .int .i64 x1, .int .i64 x2, .int .i64 x3, .int .i64 x4, .int .i64 x5, .int .i16 z0, .int .i16 z1, .int .i16 z2, .int .i16 z3, .int .i16 z4, .int .i16 z5, .int .i16 z6, .int .i16 z7, .slice ra rm rc] 38)) := by rw [hW1]; exact heap_at rfl
  have HW1 : Hid (WldAt B N W1 gW ps lab) := H.out.below HBw.out
  obtain ⟨aC, cC, aR, cR, vH, m1, _⟩ := HW1.out.mem
  have hgW1 := (heap_cells m1).2.2
  have c0 : W1.cell? ⟨gW, 0, none⟩ = some (.slice aC ps.length cC) := by rw [(heap_cells m1).1]; rfl
  have hgW : gW < w.heap.size := by obtain ⟨_, _, _, _, _, q1, _⟩ := H.out.mem; exact (heap_cells q1).2.2
  have c0w : w.cell? ⟨gW, 0, none⟩ = some (.slice aC ps.length cC) := (HBw.out.cell (p := ⟨gW, 0, none⟩) hgW).symm.trans c0
  clear m1
  obtain ⟨n, hnn⟩ : ∃ n, ps.length = n := ⟨_, rfl⟩
  have HNn : Hid _ := hnn
  rw [hnn] at c0 c0w hn ⊢
  have hnb : ((n : Int) == 0) = false := by rw [beq_eq_false_iff_ne]; omega
  have hn0 : (0 : Int) < (n : Int) := by omega
  go_enter Tryz.func5, Tryz.ntmps5
  go_wp2
  rewrite [← hW1]
  clear c0w hW1
  obtain ⟨b0, bf, bz⟩ := heap_cells HBx.out
  have x4c : W1.cell? ⟨w.heap.size, 4, none⟩ = some (.int .i64 ok) := by rw [b0]; rfl
  clear b0 bf
  go_region_held3 (fun W => W.cell? ⟨gW, 0, none⟩ = some (.slice aC n cC) ∧ W.cell? ⟨w.heap.size, 4, none⟩ = some (.int .i64 ok))
    (first | (exact ⟨c0, x4c⟩))
    (first | (go_at_call 12; refine (lpick_any ok (n : Int) _ hk0 hk1 hn0 (by omega)).mono ?_; rintro e w1 ⟨r, rfl, hr0, hr1, rfl⟩))
  have HBd : Hid (Below w.heap.size w W1.drew) := HBw.out.drew
  have HWd : Hid (WldAt B N W1.drew gW ps lab) := HW1.out.below (Below.refl _ _).drew
  have HBy : Hid (W1.drew.heap[w.heap.size]? = some (.cells #[.int .i64 3, .int .i64 oa, .int .i64 ob, .int .i64 oc, .int .i64 ok, .string os, .int .i64 x1, .int .i64 x2, .int .i64 x3, .int .i64 x4, .int .i64 x5, .int .i16 z0, .int .i16 z1, .int .i16 z2, .int .i16 z3, .int .i16 z4, .int .i16 z5, .int .i16 z6, .int .i16 z7, .slice ra rm rc] 38)) := HBx.out
  generalize W1.drew = W2 at *
  clear HW1 HBx HBw c0 x4c bz
  obtain ⟨b0, bf, bz⟩ := heap_cells HBy.out
  have HRg : Hid (W2.rangeAt w.heap.size 0 [.int .i64 3, .int .i64 oa, .int .i64 ob, .int .i64 oc, .int .i64 ok, .string os, .int .i64 x1, .int .i64 x2, .int .i64 x3, .int .i64 x4, .int .i64 x5, .int .i16 z0, .int .i16 z1, .int .i16 z2, .int .i16 z3, .int .i16 z4, .int .i16 z5, .int .i16 z6, .int .i16 z7, .slice ra rm rc]) := fun j v hv => by rw [Nat.zero_add, b0, List.getElem?_toArray]; exact hv
  have y0 : W2.cell? ⟨w.heap.size, 0, none⟩ = some (.int .i64 3) := by rw [b0]; rfl
  clear b0 bf
  obtain ⟨k, hk⟩ : ∃ k : Nat, r = (k : Int) := ⟨r.toNat, by omega⟩
  subst hk
  have hkn : k < ps.length := by rw [HNn.out]; omega
  have HFin : Hid (∀ {e : Ending} {w' : World}, NPost B N gW ps.length W2 e w' → NPost B N gW n w e w') := fun hN => by
    obtain ⟨q1, ⟨ps', lab', q2, q3⟩, q4⟩ := hN
    exact ⟨q1, ⟨ps', lab', by rw [← HNn.out]; exact q2, q3⟩, (HBd.out.mono HB.out).trans q4⟩
  go_wp2_with (refine wpList_load_mid rfl 38 (.tmp 3) rfl w.heap.size 0 rfl [.int .i64 3, .int .i64 oa, .int .i64 ob, .int .i64 oc, .int .i64 ok, .string os, .int .i64 x1, .int .i64 x2, .int .i64 x3, .int .i64 x4, .int .i64 x5, .int .i16 z0, .int .i16 z1, .int .i16 z2, .int .i16 z3, .int .i16 z4, .int .i16 z5, .int .i16 z6, .int .i16 z7, .slice ra rm rc] _ HRg.out Tryz.underlying38 rfl info_opsize ?_)
  refine (does_fill' B N gW ps lab oa ob oc ok os x1 x2 x3 x4 x5 z0 z1 z2 z3 z4 z5 z6 z7 ra rm rc k W2 HWd.out hkn).mono ?_
  rintro e w3 hP
  have hN := HFin.out (WPost.more hP)
  obtain ⟨rfl, hN2⟩ := hN
  have HP : Hid _ := hN2
  clear hP hN2
  go_wp2
  go_ret
  exact ⟨rfl, HP.out⟩

end Go.Proofs.YtccckonckddadaaGreat
namespace Go.Proofs.YtccckonckddadaaGreat
open Go.RowKit
set_option linter.unusedVariables false

/-- The steps of a script that came in. -/
structure OpsRow (w : World) (a : Option Addr) (m : Nat) (ops : List OpV) : Prop where
  len : ops.length = m
  ok : ∀ o ∈ ops, o.s.size ≤ maxLen ∧ -9223372036854775808 ≤ o.k ∧ o.k < 9223372036854775808
  cells : m = 0 ∨ ∃ g off, a = some ⟨g, off, none⟩ ∧ g < w.heap.size ∧ ∀ (k : Nat) (o : OpV), ops[k]? = some o → w.rangeAt g (off + k * 20) o.arr.toList
theorem OpsRow.kept {w W : World} {B : Nat} {a : Option Addr} {m : Nat} {ops : List OpV} (h : OpsRow w a m ops) (hB : B = w.heap.size) (hb : Below B w W) : OpsRow W a m ops := by
  subst hB
  refine ⟨h.len, h.ok, ?_⟩
  rcases h.cells with h0 | ⟨g, off, rfl, hg, hc⟩
  · exact .inl h0
  · refine .inr ⟨g, off, rfl, Nat.lt_of_lt_of_le hg hb.size, fun k o hk j v hv => ?_⟩
    exact (hb.cell (p := ⟨g, off + k * 20 + j, none⟩) hg).trans (hc k o hk j v hv)

theorem wld_empty {w : World} {B N : Nat} (hB : B = w.heap.size) : WldAt B N (w.alloc (.cells #[.slice none 0 0, .slice none 0 0, .slice none 0 0] 30)) w.heap.size [] (fun _ => 0) := by
  refine ⟨by omega, rfl, ⟨none, 0, none, 0, .slice none 0 0, heap_at rfl, World.ownsRow_nil _ _ _ _, World.ownsRow_nil _ _ _ _, (fun k hk => by cases hk), (fun k hk => by cases hk), none, 0, [], rfl, Nat.zero_le _, World.ownsRow_nil _ _ _ _, (fun k hk => by cases hk), (fun x hx => by cases hx)⟩, (fun i x hx => by simp at hx)⟩

/-- One step, of whatever kind up to Reply. -/
theorem wstep_any (B N : Nat) (gW : Nat) (ps : List Pair) (lab : Nat → Nat) (o : OpV) (w : World) (h : WldAt B N w gW ps lab) (h5 : o.kind ≤ 5) (hs : o.s.size ≤ maxLen) (hk0 : -9223372036854775808 ≤ o.k) (hk1 : o.k < 9223372036854775808) (hn : ps.length + 1 ≤ 10000000000000) :
    Calls Tryz.prog 5 #[.pointer (some ⟨gW, 0, none⟩), .agg o.arr] w (NPost B N gW ps.length w) := by
  by_cases h1 : o.kind = 1
  · exact step_new B N gW ps lab o w h h1 hn
  obtain ⟨kind, oa, ob, oc, ok, os, ⟨x1, x2, x3, x4, x5⟩, z0, z1, z2, z3, z4, z5, z6, z7, ra, rm, rc⟩ := o
  simp only at h1 h5 hs hk0 hk1
  by_cases h0 : ps.length = 0
  · exact step_none B N gW ps lab kind oa ob oc ok os x1 x2 x3 x4 x5 z0 z1 z2 z3 z4 z5 z6 z7 ra rm rc w h hs hk0 hk1 hn h0 (by omega) h1
  have h0' : 0 < ps.length := by omega
  by_cases h2 : kind = 2
  · subst h2
    exact step_submit B N gW ps lab oa ob oc ok os x1 x2 x3 x4 x5 z0 z1 z2 z3 z4 z5 z6 z7 ra rm rc w h hs hk0 hk1 hn h0'
  by_cases h3 : kind = 3
  · subst h3
    exact step_fill B N gW ps lab oa ob oc ok os x1 x2 x3 x4 x5 z0 z1 z2 z3 z4 z5 z6 z7 ra rm rc w h hs hk0 hk1 hn h0'
  by_cases h4 : kind = 4
  · subst h4
    exact step_log B N gW ps lab oa ob oc ok os x1 x2 x3 x4 x5 z0 z1 z2 z3 z4 z5 z6 z7 ra rm rc w h hs hk0 hk1 hn h0'
  by_cases h6 : kind = 5
  · subst h6
    exact step_reply B N gW ps lab oa ob oc ok os x1 x2 x3 x4 x5 z0 z1 z2 z3 z4 z5 z6 z7 ra rm rc w h hs hk0 hk1 hn h0'
  · exact step_other B N gW ps lab kind oa ob oc ok os x1 x2 x3 x4 x5 z0 z1 z2 z3 z4 z5 z6 z7 ra rm rc w h hs hk0 hk1 hn h0' (by omega)

set_option maxRecDepth 100000 in
set_option maxHeartbeats 4000000 in
theorem sequenced_walk (a : Option Addr) (m c : Nat) (ops : List OpV) (w : World) (h : OpsRow w a m ops) (hm : m ≤ 5000000000000) :
    Calls Tryz.prog 3 #[.slice a m c] w fun e w' => e = .returned (.bool true) ∧ Below w.heap.size w w' := by
  have H : Hid _ := h
  clear h
  obtain ⟨B, hB⟩ : ∃ B, B = w.heap.size := ⟨_, rfl⟩
  have HE : Hid _ := wld_empty (N := 0) hB
  have HB0 : Hid (Below B w (w.alloc (.cells #[.slice none 0 0, .slice none 0 0, .slice none 0 0] 30))) := by rw [hB]; exact (Below.refl _ _).alloc (Nat.le_refl _) _
  have HBe : Hid _ := hB
  go_enter Tryz.func3, Tryz.ntmps3
  go_wp2
  rewrite [← hB]
  rw [← hB] at HE
  clear hB
  go_loopw [4] (fun v4 wr => ∃ (k : Nat) (ps : List Pair) (lab : Nat → Nat), v4 = .int .i64 k ∧ k ≤ m ∧ ps.length ≤ k ∧ Hid (WldAt B 0 wr B ps lab) ∧ Hid (Below B w wr)) (fun v4 _ => m - (intOf v4).toNat)
  case atStart => exact ⟨0, [], fun _ => 0, rfl, Nat.zero_le _, Nat.le_refl _, HE, HB0⟩
  case round =>
    obtain ⟨k, ps, lab, rfl, hk, hpk, HW, HB⟩ := hrel
    clear HE HB0
    by_cases hlt : k < m
    · have HR : Hid (OpsRow wr a m ops) := H.out.kept HBe.out HB.out
      have hkl : k < ops.length := by rw [H.out.len]; exact hlt
      obtain ⟨gS, off, rfl, hgS, hcell⟩ : ∃ g off, a = some ⟨g, off, none⟩ ∧ g < wr.heap.size ∧ ∀ (k : Nat) (o : OpV), ops[k]? = some o → wr.rangeAt g (off + k * 20) o.arr.toList := by
        rcases HR.out.cells with h0 | h0
        · omega
        · exact h0
      have HRg : Hid _ := hcell k ops[k] (List.getElem?_eq_getElem hkl)
      obtain ⟨hs, hk0, hk1⟩ := H.out.ok ops[k] (List.getElem_mem hkl)
      clear hcell HR
      generalize ops[k] = o at *
      have d0 : wr.cell? ⟨gS, off + k * 20, none⟩ = some (.int .i64 o.kind) := HRg.out 0 _ rfl
      have k1 : (k : Int) < (m : Int) := by omega
      have k0 : (0 : Int) ≤ (k : Int) := by omega
      by_cases h5 : 5 < o.kind
      · go_wp2
        go_roundw
        case rel => exact ⟨k + 1, ps, lab, by go_num, by omega, by omega, HW, HB⟩
        case measure => simp [intOf]; omega
      · have h5' : o.kind ≤ 5 := by omega
        go_wp2_with (refine wpList_load_mid rfl 38 (.tmp 25) rfl gS (off + k * 20) rfl o.arr.toList _ HRg.out Tryz.underlying38 rfl info_opsize ?_)
        refine (wstep_any B 0 B ps lab o wr HW.out h5' hs hk0 hk1 (by omega)).mono ?_
        rintro e w1 ⟨rfl, ⟨ps', lab', hl', hW'⟩, hB'⟩
        have HW' : Hid _ := hW'
        have HB' : Hid (Below B w w1) := HB.out.trans hB'
        clear hW' hB' d0
        go_wp2
        go_roundw
        case rel => exact ⟨k + 1, ps', lab', by go_num, by omega, by omega, HW', HB'⟩
        case measure => simp [intOf]; omega
    · have hkm : k = m := by omega
      subst hkm
      have hkk : decide ((k : Int) < (k : Int)) = false := decide_eq_false (by omega)
      obtain ⟨n, hn⟩ : ∃ n, ps.length = n := ⟨_, rfl⟩
      have HN : Hid _ := hn
      rw [hn] at hpk
      clear hn
      go_wp2
      go_loopw [6] (fun v6 wx => ∃ (j : Nat) (ps : List Pair) (lab : Nat → Nat), v6 = .int .i64 j ∧ j ≤ n ∧ Hid (ps.length = n) ∧ Hid (WldAt B 0 wx B ps lab) ∧ Hid (Below B w wx)) (fun v6 _ => n - (intOf v6).toNat)
      case atStart => exact ⟨0, ps, lab, rfl, Nat.zero_le _, HN, HW, HB⟩
      case round =>
        obtain ⟨j, ps2, lab2, rfl, hj, HN2, HW2, HB2⟩ := hrel
        clear HW HB HN
        obtain ⟨aC, cC, aR, cR, vH, m1, _⟩ := HW2.out.mem
        have hgW := (heap_cells m1).2.2
        have c0 : wr.cell? ⟨B, 0, none⟩ = some (.slice aC n cC) := by
          rw [(heap_cells m1).1, ← HN2.out]; rfl
        clear m1
        by_cases hjl : j < n
        · have j1 : (j : Int) < (n : Int) := by omega
          have j0 : (0 : Int) ≤ (j : Int) := by omega
          go_wp2_with fail
          refine (tells_log B 0 B ps2 lab2 0 ⟨#[]⟩ j wr HW2.out (by rw [HN2.out]; exact hjl)).mono ?_
          rintro e w1 ⟨rfl, ⟨ps', lab', hl', hW'⟩, hB'⟩
          have HW' : Hid _ := hW'
          have HB' : Hid (Below B w w1) := HB2.out.trans hB'
          have HN' : Hid (ps'.length = n) := hl'.trans HN2.out
          clear hW' hB' hl' c0
          go_wp2
          go_roundw
          case rel => exact ⟨j + 1, ps', lab', by go_num, by omega, HN', HW', HB'⟩
          case measure => simp [intOf]; omega
        · have hje : j = n := by omega
          subst hje
          have hjj : decide ((j : Int) < (j : Int)) = false := decide_eq_false (by omega)
          go_wp2
          go_ret
          exact ⟨rfl, by have := HB2.out; rw [HBe.out] at this; exact this⟩

end Go.Proofs.YtccckonckddadaaGreat
