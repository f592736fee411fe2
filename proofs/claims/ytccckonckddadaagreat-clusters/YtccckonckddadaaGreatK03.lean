import Derived.Test.YtccckonckddadaaGreatJ29
import Derived.Test.YtccckonckddadaaGreatK02
import Derived.Test.YtccckonckddadaaGreatK01
import Derived.Test.YtccckonckddadaaGreatJ30
namespace Go.Proofs.YtccckonckddadaaGreat
open Go.RowKit
set_option linter.unusedVariables false

set_option maxRecDepth 100000 in
set_option maxHeartbeats 4000000 in
theorem tells_disk (B N : Nat) (gW : Nat) (ps : List Pair) (lab : Nat → Nat) (a : Int) (s : ByteArray) (k : Nat) (w : World) (h : WldAt B N w gW ps lab) (hk : k < ps.length) :
    Calls Tryz.prog 6 #[.pointer (some ⟨gW, 0, none⟩), .int .i64 (k : Int), .int .i64 9, .int .i64 a, .string s] w (WPost B N gW ps.length w) := by
  have hxk := List.getElem?_eq_getElem hk
  generalize ps[k] = x at hxk
  have HB : Hid _ := h.base
  obtain ⟨gC, cC, gR, cR, l0, l1, l2, l3, hgW, hgC, hgR⟩ := h.look hxk
  have H : Hid _ := h
  have HP : Hid _ := h.pair k x hxk
  clear h hxk
  generalize hn : ps.length = n at *
  have k1 : (k : Int) < (n : Int) := by omega
  have k0 : (0 : Int) ≤ (k : Int) := by omega
  go_enter Tryz.func6, Tryz.ntmps6
  go_wp2_with fail
  refine (pdisk_any x.g x.F x.p x.s a w HP.out.seq HP.out.sim).mono ?_
  rintro e w1 ⟨rfl, hw1⟩
  obtain ⟨⟨r1, r2⟩, hr⟩ : ∃ y, diskV x.s a = y := ⟨_, rfl⟩
  have HR : Hid _ := hr
  rewrite [hr]
  clear hr
  simp only
  have HB1 : Hid (Below w.heap.size w w1) := hw1
  clear hw1 l0 l1 l2 l3
  generalize hb1 : bytesOf r1 = b1 at *
  go_wp2_with fail
  refine (refdisk_any x.gr x.Fr x.s a w1 (HP.out.clu.below HB1.out) HP.out.sim.rep).mono ?_
  rintro e w2 ⟨b2, rfl, hb2, hB2⟩
  rw [HR.out] at hb2
  rewrite [HR.out]
  have hbb : b1 = b2 := by rw [← hb1]; exact (bytesOf_eq hb2).symm
  subst hbb
  have HB2 : Hid (Below w.heap.size w w2) := HB1.out.trans (hB2.mono HB1.out.size)
  clear hb2 hB2 hb1
  have hbe : (b1.toList == b1.toList) = true := by simp
  simp only
  go_wp2_with fail
  refine (num_any r2 w2).mono ?_
  rintro e w4 ⟨rfl, hw4⟩
  obtain rfl := hw4.symm
  go_wp2
  go_ret
  exact ⟨rfl, ⟨ps, lab, hn, H.out.below HB2.out⟩, HB2.out.mono HB.out⟩

set_option maxRecDepth 100000 in
set_option maxHeartbeats 4000000 in
theorem tells_count (B N : Nat) (gW : Nat) (ps : List Pair) (lab : Nat → Nat) (a : Int) (s : ByteArray) (k : Nat) (w : World) (h : WldAt B N w gW ps lab) (hk : k < ps.length) :
    Calls Tryz.prog 6 #[.pointer (some ⟨gW, 0, none⟩), .int .i64 (k : Int), .int .i64 10, .int .i64 a, .string s] w (WPost B N gW ps.length w) := by
  have hxk := List.getElem?_eq_getElem hk
  generalize ps[k] = x at hxk
  have HB : Hid _ := h.base
  obtain ⟨gC, cC, gR, cR, l0, l1, l2, l3, hgW, hgC, hgR⟩ := h.look hxk
  have H : Hid _ := h
  have HP : Hid _ := h.pair k x hxk
  clear h hxk
  generalize hn : ps.length = n at *
  have k1 : (k : Int) < (n : Int) := by omega
  have k0 : (0 : Int) ≤ (k : Int) := by omega
  go_enter Tryz.func6, Tryz.ntmps6
  go_wp2_with fail
  refine (pcount_any x.g x.F x.p x.s a w HP.out.seq HP.out.sim).mono ?_
  rintro e w1 ⟨rfl, hw1⟩
  obtain ⟨⟨r1, r2⟩, hr⟩ : ∃ y, countV x.s a = y := ⟨_, rfl⟩
  have HR : Hid _ := hr
  rewrite [hr]
  clear hr
  simp only
  have HB1 : Hid (Below w.heap.size w w1) := hw1
  clear hw1 l0 l1 l2 l3
  go_wp2_with fail
  refine (refcount_any x.gr x.Fr x.s a w1 (HP.out.clu.below HB1.out)).mono ?_
  rintro e w2 ⟨rfl, hB2⟩
  rewrite [HR.out]
  have HB2 : Hid (Below w.heap.size w w2) := HB1.out.trans (hB2.mono HB1.out.size)
  clear hB2
  simp only
  go_wp2_with fail
  refine (num_any r2 w2).mono ?_
  rintro e w4 ⟨rfl, hw4⟩
  obtain rfl := hw4.symm
  go_wp2
  go_ret
  exact ⟨rfl, ⟨ps, lab, hn, H.out.below HB2.out⟩, HB2.out.mono HB.out⟩

set_option maxRecDepth 100000 in
set_option maxHeartbeats 4000000 in
theorem tells_get (B N : Nat) (gW : Nat) (ps : List Pair) (lab : Nat → Nat) (a : Int) (s : ByteArray) (k : Nat) (w : World) (h : WldAt B N w gW ps lab) (hk : k < ps.length) (hs : s.size ≤ maxLen) :
    Calls Tryz.prog 6 #[.pointer (some ⟨gW, 0, none⟩), .int .i64 (k : Int), .int .i64 11, .int .i64 a, .string s] w (WPost B N gW ps.length w) := by
  have hxk := List.getElem?_eq_getElem hk
  generalize ps[k] = x at hxk
  have HB : Hid _ := h.base
  obtain ⟨gC, cC, gR, cR, l0, l1, l2, l3, hgW, hgC, hgR⟩ := h.look hxk
  have H : Hid _ := h
  have HP : Hid _ := h.pair k x hxk
  clear h hxk
  generalize hn : ps.length = n at *
  have k1 : (k : Int) < (n : Int) := by omega
  have k0 : (0 : Int) ≤ (k : Int) := by omega
  go_enter Tryz.func6, Tryz.ntmps6
  go_wp2_with fail
  refine (pget_any x.g x.F x.p x.s a s w HP.out.seq HP.out.sim hs).mono ?_
  rintro e w1 ⟨rfl, hw1⟩
  obtain ⟨⟨r1, r2⟩, hr⟩ : ∃ y, getV x.s a s = y := ⟨_, rfl⟩
  have HR : Hid _ := hr
  rewrite [hr]
  clear hr
  simp only
  have HB1 : Hid (Below w.heap.size w w1) := hw1
  clear hw1 l0 l1 l2 l3
  go_wp2_with fail
  refine (refget_any x.gr x.Fr x.s a s w1 (HP.out.clu.below HB1.out) HP.out.sim.rep hs).mono ?_
  rintro e w2 ⟨rfl, hB2⟩
  rewrite [HR.out]
  have HB2 : Hid (Below w.heap.size w w2) := HB1.out.trans (hB2.mono HB1.out.size)
  clear hB2
  simp only
  go_wp2_with fail
  refine (num_any r2 w2).mono ?_
  rintro e w4 ⟨rfl, hw4⟩
  obtain rfl := hw4.symm
  go_wp2
  go_ret
  exact ⟨rfl, ⟨ps, lab, hn, H.out.below HB2.out⟩, HB2.out.mono HB.out⟩

end Go.Proofs.YtccckonckddadaaGreat
namespace Go.Proofs.YtccckonckddadaaGreat
open Go.RowKit
set_option linter.unusedVariables false

set_option maxRecDepth 100000 in
set_option maxHeartbeats 8000000 in
theorem step_disk (B N : Nat) (gW : Nat) (ps : List Pair) (lab : Nat → Nat) (oa ob oc ok : Int) (os : ByteArray) (x1 x2 x3 x4 x5 z0 z1 z2 z3 z4 z5 z6 z7 : Int) (ra : Option Addr) (rm rc : Nat) (w : World) (h : WldAt B N w gW ps lab) (hs : os.size ≤ maxLen) (hk0 : -9223372036854775808 ≤ ok) (hk1 : ok < 9223372036854775808) (hn : ps.length + 1 ≤ 10000000000000) (h0 : 0 < ps.length) :
    Calls Tryz.prog 5 #[.pointer (some ⟨gW, 0, none⟩), .agg #[.int .i64 9, .int .i64 oa, .int .i64 ob, .int .i64 oc, .int .i64 ok, .string os, .int .i64 x1, .int .i64 x2, .int .i64 x3, .int .i64 x4, .int .i64 x5, .int .i16 z0, .int .i16 z1, .int .i16 z2, .int .i16 z3, .int .i16 z4, .int .i16 z5, .int .i16 z6, .int .i16 z7, .slice ra rm rc]] w (NPost B N gW ps.length w) := by
  have HB : Hid _ := h.base
  have H : Hid _ := h
  clear h
  obtain ⟨W1, hW1⟩ : ∃ W1, W1 = w.alloc (.cells #[.int .i64 9, .int .i64 oa, .int .i64 ob, .int .i64 oc, .int .i64 ok, .string os, .int .i64 x1, .int .i64 x2, .int .i64 x3, .int .i64 x4, .int .i64 x5, .int .i16 z0, .int .i16 z1, .int .i16 z2, .int .i16 z3, .int .i16 z4, .int .i16 z5, .int .i16 z6, .int .i16 z7, .slice ra rm rc] 38) := ⟨_, rfl⟩
  have HBw : Hid (Below w.heap.size w W1) := by rw [hW1]; exact (Below.refl _ _).alloc (Nat.le_refl _) _
  have HBx : Hid (W1.heap[w.heap.size]? = some (.cells #[.int .i64 9, .int .i64 oa, .int .i64 ob, .int .i64 oc, .int .i64 ok, .string os, .int .i64 x1, .int .i64 x2, .int .i64 x3, .int .i64 x4, .int .i64 x5, .int .i16 z0, .int .i16 z1, .int .i16 z2, .int .i16 z3, .int .i16 z4, .int .i16 z5, .int .i16 z6, .int .i16 z7, .slice ra rm rc] 38)) := by rw [hW1]; exact heap_at rfl
  have HW1 : Hid (WldAt B N W1 gW ps lab) := H.out.below HBw.out
  obtain ⟨aC, cC, aR, cR, vH, m1, _⟩ := HW1.out.mem
  have hgW1 := (heap_cells m1).2.2
  have c0 : W1.cell? ⟨gW, 0, none⟩ = some (.slice aC ps.length cC) := by rw [(heap_cells m1).1]; rfl
  have hgW : gW < w.heap.size := by obtain ⟨_, _, _, _, _, q1, _⟩ := H.out.mem; exact (heap_cells q1).2.2
  have c0w : w.cell? ⟨gW, 0, none⟩ = some (.slice aC ps.length cC) := (HBw.out.cell (p := ⟨gW, 0, none⟩) hgW).symm.trans c0
  clear m1
  obtain ⟨n, hnn⟩ : ∃ n, ps.length = n := ⟨_, rfl⟩
  have HNn : Hid _ := hnn
  rw [hnn] at c0 c0w hn ⊢
  have hnb : ((n : Int) == 0) = false := by rw [beq_eq_false_iff_ne]; omega
  have hn0 : (0 : Int) < (n : Int) := by omega
  go_enter Tryz.func5, Tryz.ntmps5
  go_wp2
  rewrite [← hW1]
  clear c0w hW1
  obtain ⟨b0, bf, bz⟩ := heap_cells HBx.out
  have x4c : W1.cell? ⟨w.heap.size, 4, none⟩ = some (.int .i64 ok) := by rw [b0]; rfl
  clear b0 bf
  go_region_held3 (fun W => W.cell? ⟨gW, 0, none⟩ = some (.slice aC n cC) ∧ W.cell? ⟨w.heap.size, 4, none⟩ = some (.int .i64 ok))
    (first | (exact ⟨c0, x4c⟩))
    (first | (go_at_call 12; refine (lpick_any ok (n : Int) _ hk0 hk1 hn0 (by omega)).mono ?_; rintro e w1 ⟨r, rfl, hr0, hr1, rfl⟩))
  have HBd : Hid (Below w.heap.size w W1.drew) := HBw.out.drew
  have HWd : Hid (WldAt B N W1.drew gW ps lab) := HW1.out.below (Below.refl _ _).drew
  have HBy : Hid (W1.drew.heap[w.heap.size]? = some (.cells #[.int .i64 9, .int .i64 oa, .int .i64 ob, .int .i64 oc, .int .i64 ok, .string os, .int .i64 x1, .int .i64 x2, .int .i64 x3, .int .i64 x4, .int .i64 x5, .int .i16 z0, .int .i16 z1, .int .i16 z2, .int .i16 z3, .int .i16 z4, .int .i16 z5, .int .i16 z6, .int .i16 z7, .slice ra rm rc] 38)) := HBx.out
  generalize W1.drew = W2 at *
  clear HW1 HBx HBw c0 x4c bz
  obtain ⟨b0, bf, bz⟩ := heap_cells HBy.out
  obtain ⟨k, hk⟩ : ∃ k : Nat, r = (k : Int) := ⟨r.toNat, by omega⟩
  subst hk
  have hkn : k < ps.length := by rw [HNn.out]; omega
  have HFin : Hid (∀ {e : Ending} {w' : World}, NPost B N gW ps.length W2 e w' → NPost B N gW n w e w') := fun hN => by
    obtain ⟨q1, ⟨ps', lab', q2, q3⟩, q4⟩ := hN
    exact ⟨q1, ⟨ps', lab', by rw [← HNn.out]; exact q2, q3⟩, (HBd.out.mono HB.out).trans q4⟩
  go_wp2_with fail
  refine (tells_disk B N gW ps lab oa os k W2 HWd.out hkn).mono ?_
  rintro e w3 hP
  have hN := HFin.out (WPost.more hP)
  obtain ⟨rfl, hN2⟩ := hN
  have HP : Hid _ := hN2
  clear hP hN2
  go_wp2
  go_ret
  exact ⟨rfl, HP.out⟩

end Go.Proofs.YtccckonckddadaaGreat
namespace Go.Proofs.YtccckonckddadaaGreat
open Go.RowKit
set_option linter.unusedVariables false

set_option maxRecDepth 100000 in
set_option maxHeartbeats 8000000 in
theorem step_count (B N : Nat) (gW : Nat) (ps : List Pair) (lab : Nat → Nat) (oa ob oc ok : Int) (os : ByteArray) (x1 x2 x3 x4 x5 z0 z1 z2 z3 z4 z5 z6 z7 : Int) (ra : Option Addr) (rm rc : Nat) (w : World) (h : WldAt B N w gW ps lab) (hs : os.size ≤ maxLen) (hk0 : -9223372036854775808 ≤ ok) (hk1 : ok < 9223372036854775808) (hn : ps.length + 1 ≤ 10000000000000) (h0 : 0 < ps.length) :
    Calls Tryz.prog 5 #[.pointer (some ⟨gW, 0, none⟩), .agg #[.int .i64 10, .int .i64 oa, .int .i64 ob, .int .i64 oc, .int .i64 ok, .string os, .int .i64 x1, .int .i64 x2, .int .i64 x3, .int .i64 x4, .int .i64 x5, .int .i16 z0, .int .i16 z1, .int .i16 z2, .int .i16 z3, .int .i16 z4, .int .i16 z5, .int .i16 z6, .int .i16 z7, .slice ra rm rc]] w (NPost B N gW ps.length w) := by
  have HB : Hid _ := h.base
  have H : Hid _ := h
  clear h
  obtain ⟨W1, hW1⟩ : ∃ W1, W1 = w.alloc (.cells #[.int .i64 10, .int .i64 oa, .int .i64 ob, .int .i64 oc, .int .i64 ok, .string os, .int .i64 x1, .int .i64 x2, .int .i64 x3, .int .i64 x4, .int .i64 x5, .int .i16 z0, .int .i16 z1, .int .i16 z2, .int .i16 z3, .int .i16 z4, .int .i16 z5, .int .i16 z6, .int .i16 z7, .slice ra rm rc] 38) := ⟨_, rfl⟩
  have HBw : Hid (Below w.heap.size w W1) := by rw [hW1]; exact (Below.refl _ _).alloc (Nat.le_refl _) _
  have HBx : Hid (W1.heap[w.heap.size]? = some (.cells #[.int .i64 10, .int .i64 oa, .int .i64 ob, .int .i64 oc, .int .i64 ok, .string os, .int .i64 x1, .int .i64 x2, .int .i64 x3, .int .i64 x4, .int .i64 x5, .int .i16 z0, .int .i16 z1, .int .i16 z2, .int .i16 z3, .int .i16 z4, .int .i16 z5, .int .i16 z6, .int .i16 z7, .slice ra rm rc] 38)) := by rw [hW1]; exact heap_at rfl
  have HW1 : Hid (WldAt B N W1 gW ps lab) := H.out.below HBw.out
  obtain ⟨aC, cC, aR, cR, vH, m1, _⟩ := HW1.out.mem
  have hgW1 := (heap_cells m1).2.2
  have c0 : W1.cell? ⟨gW, 0, none⟩ = some (.slice aC ps.length cC) := by rw [(heap_cells m1).1]; rfl
  have hgW : gW < w.heap.size := by obtain ⟨_, _, _, _, _, q1, _⟩ := H.out.mem; exact (heap_cells q1).2.2
  have c0w : w.cell? ⟨gW, 0, none⟩ = some (.slice aC ps.length cC) := (HBw.out.cell (p := ⟨gW, 0, none⟩) hgW).symm.trans c0
  clear m1
  obtain ⟨n, hnn⟩ : ∃ n, ps.length = n := ⟨_, rfl⟩
  have HNn : Hid _ := hnn
  rw [hnn] at c0 c0w hn ⊢
  have hnb : ((n : Int) == 0) = false := by rw [beq_eq_false_iff_ne]; omega
  have hn0 : (0 : Int) < (n : Int) := by omega
  go_enter Tryz.func5, Tryz.ntmps5
  go_wp2
  rewrite [← hW1]
  clear c0w hW1
  obtain ⟨b0, bf, bz⟩ := heap_cells HBx.out
  have x4c : W1.cell? ⟨w.heap.size, 4, none⟩ = some (.int .i64 ok) := by rw [b0]; rfl
  clear b0 bf
  go_region_held3 (fun W => W.cell? ⟨gW, 0, none⟩ = some (.slice aC n cC) ∧ W.cell? ⟨w.heap.size, 4, none⟩ = some (.int .i64 ok))
    (first | (exact ⟨c0, x4c⟩))
    (first | (go_at_call 12; refine (lpick_any ok (n : Int) _ hk0 hk1 hn0 (by omega)).mono ?_; rintro e w1 ⟨r, rfl, hr0, hr1, rfl⟩))
  have HBd : Hid (Below w.heap.size w W1.drew) := HBw.out.drew
  have HWd : Hid (WldAt B N W1.drew gW ps lab) := HW1.out.below (Below.refl _ _).drew
  have HBy : Hid (W1.drew.heap[w.heap.size]? = some (.cells #[.int .i64 10, .int .i64 oa, .int .i64 ob, .int .i64 oc, .int .i64 ok, .string os, .int .i64 x1, .int .i64 x2, .int .i64 x3, .int .i64 x4, .int .i64 x5, .int .i16 z0, .int .i16 z1, .int .i16 z2, .int .i16 z3, .int .i16 z4, .int .i16 z5, .int .i16 z6, .int .i16 z7, .slice ra rm rc] 38)) := HBx.out
  generalize W1.drew = W2 at *
  clear HW1 HBx HBw c0 x4c bz
  obtain ⟨b0, bf, bz⟩ := heap_cells HBy.out
  obtain ⟨k, hk⟩ : ∃ k : Nat, r = (k : Int) := ⟨r.toNat, by omega⟩
  subst hk
  have hkn : k < ps.length := by rw [HNn.out]; omega
  have HFin : Hid (∀ {e : Ending} {w' : World}, NPost B N gW ps.length W2 e w' → NPost B N gW n w e w') := fun hN => by
    obtain ⟨q1, ⟨ps', lab', q2, q3⟩, q4⟩ := hN
    exact ⟨q1, ⟨ps', lab', by rw [← HNn.out]; exact q2, q3⟩, (HBd.out.mono HB.out).trans q4⟩
  go_wp2_with fail
  refine (tells_count B N gW ps lab oa os k W2 HWd.out hkn).mono ?_
  rintro e w3 hP
  have hN := HFin.out (WPost.more hP)
  obtain ⟨rfl, hN2⟩ := hN
  have HP : Hid _ := hN2
  clear hP hN2
  go_wp2
  go_ret
  exact ⟨rfl, HP.out⟩

end Go.Proofs.YtccckonckddadaaGreat
namespace Go.Proofs.YtccckonckddadaaGreat
open Go.RowKit
set_option linter.unusedVariables false

set_option maxRecDepth 100000 in
set_option maxHeartbeats 8000000 in
theorem step_get (B N : Nat) (gW : Nat) (ps : List Pair) (lab : Nat → Nat) (oa ob oc ok : Int) (os : ByteArray) (x1 x2 x3 x4 x5 z0 z1 z2 z3 z4 z5 z6 z7 : Int) (ra : Option Addr) (rm rc : Nat) (w : World) (h : WldAt B N w gW ps lab) (hs : os.size ≤ maxLen) (hk0 : -9223372036854775808 ≤ ok) (hk1 : ok < 9223372036854775808) (hn : ps.length + 1 ≤ 10000000000000) (h0 : 0 < ps.length) :
    Calls Tryz.prog 5 #[.pointer (some ⟨gW, 0, none⟩), .agg #[.int .i64 11, .int .i64 oa, .int .i64 ob, .int .i64 oc, .int .i64 ok, .string os, .int .i64 x1, .int .i64 x2, .int .i64 x3, .int .i64 x4, .int .i64 x5, .int .i16 z0, .int .i16 z1, .int .i16 z2, .int .i16 z3, .int .i16 z4, .int .i16 z5, .int .i16 z6, .int .i16 z7, .slice ra rm rc]] w (NPost B N gW ps.length w) := by
  have HB : Hid _ := h.base
  have H : Hid _ := h
  clear h
  obtain ⟨W1, hW1⟩ : ∃ W1, W1 = w.alloc (.cells #[.int .i64 11, .int .i64 oa, .int .i64 ob, .int .i64 oc, .int .i64 ok, .string os, .int .i64 x1, .int .i64 x2, .int .i64 x3, .int .i64 x4, .int .i64 x5, .int .i16 z0, .int .i16 z1, .int .i16 z2, .int .i16 z3, .int .i16 z4, .int .i16 z5, .int .i16 z6, .int .i16 z7, .slice ra rm rc] 38) := ⟨_, rfl⟩
  have HBw : Hid (Below w.heap.size w W1) := by rw [hW1]; exact (Below.refl _ _).alloc (Nat.le_refl _) _
  have HBx : Hid (W1.heap[w.heap.size]? = some (.cells #[.int .i64 11, .int .i64 oa, .int .i64 ob, .int .i64 oc, .int .i64 ok, .string os, .int .i64 x1, .int .i64 x2, .int .i64 x3, .int .i64 x4, .int .i64 x5, .int .i16 z0, .int .i16 z1, .int .i16 z2, .int .i16 z3, .int .i16 z4, .int .i16 z5, .int .i16 z6, .int .i16 z7, .slice ra rm rc] 38)) := by rw [hW1]; exact heap_at rfl
  have HW1 : Hid (WldAt B N W1 gW ps lab) := H.out.below HBw.out
  obtain ⟨aC, cC, aR, cR, vH, m1, _⟩ := HW1.out.mem
  have hgW1 := (heap_cells m1).2.2
  have c0 : W1.cell? ⟨gW, 0, none⟩ = some (.slice aC ps.length cC) := by rw [(heap_cells m1).1]; rfl
  have hgW : gW < w.heap.size := by obtain ⟨_, _, _, _, _, q1, _⟩ := H.out.mem; exact (heap_cells q1).2.2
  have c0w : w.cell? ⟨gW, 0, none⟩ = some (.slice aC ps.length cC) := (HBw.out.cell (p := ⟨gW, 0, none⟩) hgW).symm.trans c0
  clear m1
  obtain ⟨n, hnn⟩ : ∃ n, ps.length = n := ⟨_, rfl⟩
  have HNn : Hid _ := hnn
  rw [hnn] at c0 c0w hn ⊢
  have hnb : ((n : Int) == 0) = false := by rw [beq_eq_false_iff_ne]; omega
  have hn0 : (0 : Int) < (n : Int) := by omega
  go_enter Tryz.func5, Tryz.ntmps5
  go_wp2
  rewrite [← hW1]
  clear c0w hW1
  obtain ⟨b0, bf, bz⟩ := heap_cells HBx.out
  have x4c : W1.cell? ⟨w.heap.size, 4, none⟩ = some (.int .i64 ok) := by rw [b0]; rfl
  clear b0 bf
  go_region_held3 (fun W => W.cell? ⟨gW, 0, none⟩ = some (.slice aC n cC) ∧ W.cell? ⟨w.heap.size, 4, none⟩ = some (.int .i64 ok))
    (first | (exact ⟨c0, x4c⟩))
    (first | (go_at_call 12; refine (lpick_any ok (n : Int) _ hk0 hk1 hn0 (by omega)).mono ?_; rintro e w1 ⟨r, rfl, hr0, hr1, rfl⟩))
  have HBd : Hid (Below w.heap.size w W1.drew) := HBw.out.drew
  have HWd : Hid (WldAt B N W1.drew gW ps lab) := HW1.out.below (Below.refl _ _).drew
  have HBy : Hid (W1.drew.heap[w.heap.size]? = some (.cells #[.int .i64 11, .int .i64 oa, .int .i64 ob, .int .i64 oc, .int .i64 ok, .string os, .int .i64 x1, .int .i64 x2, .int .i64 x3, .int .i64 x4, .int .i64 x5, .int .i16 z0, .int .i16 z1, .int .i16 z2, .int .i16 z3, .int .i16 z4, .int .i16 z5, .int .i16 z6, .int .i16 z7, .slice ra rm rc] 38)) := HBx.out
  generalize W1.drew = W2 at *
  clear HW1 HBx HBw c0 x4c bz
  obtain ⟨b0, bf, bz⟩ := heap_cells HBy.out
  obtain ⟨k, hk⟩ : ∃ k : Nat, r = (k : Int) := ⟨r.toNat, by omega⟩
  subst hk
  have hkn : k < ps.length := by rw [HNn.out]; omega
  have HFin : Hid (∀ {e : Ending} {w' : World}, NPost B N gW ps.length W2 e w' → NPost B N gW n w e w') := fun hN => by
    obtain ⟨q1, ⟨ps', lab', q2, q3⟩, q4⟩ := hN
    exact ⟨q1, ⟨ps', lab', by rw [← HNn.out]; exact q2, q3⟩, (HBd.out.mono HB.out).trans q4⟩
  go_wp2_with fail
  refine (tells_get B N gW ps lab oa os k W2 HWd.out hkn hs).mono ?_
  rintro e w3 hP
  have hN := HFin.out (WPost.more hP)
  obtain ⟨rfl, hN2⟩ := hN
  have HP : Hid _ := hN2
  clear hP hN2
  go_wp2
  go_ret
  exact ⟨rfl, HP.out⟩

end Go.Proofs.YtccckonckddadaaGreat
namespace Go.Proofs.YtccckonckddadaaGreat
open Go.RowKit
set_option linter.unusedVariables false

/-! ### dry, of the world's lists -/
theorem heldRow_at : ∀ (hs : List HeldV) (k : Nat) (x : HeldV), hs[k]? = some x → (heldRow hs)[k * 2]? = some (.slice (some ⟨x.g, 0, none⟩) x.n x.n) ∧ (heldRow hs)[k * 2 + 1]? = some (.int .i64 x.m)
  | [], k, x, h => by simp at h
  | y :: hs, 0, x, h => by
    have : y = x := by simpa using h
    subst this
    exact ⟨rfl, rfl⟩
  | y :: hs, k + 1, x, h => by
    have ih := heldRow_at hs k x (by simpa using h)
    have e : heldRow (y :: hs) = .slice (some ⟨y.g, 0, none⟩) y.n y.n :: .int .i64 y.m :: heldRow hs := rfl
    rw [e, show (k + 1) * 2 = k * 2 + 2 from by omega, show k * 2 + 2 + 1 = k * 2 + 1 + 2 from by omega]
    exact ih
theorem heldRow_cell {w : World} {B n c : Nat} {a : Option Addr} {hs : List HeldV} (h : w.ownsRow B 88 2 (.slice a n c) n (heldRow hs)) {k : Nat} {x : HeldV} (hx : hs[k]? = some x) (hk : k < n) :
    ∃ g, a = some ⟨g, 0, none⟩ ∧ g < w.heap.size ∧ w.cell? ⟨g, k * 2, none⟩ = some (.slice (some ⟨x.g, 0, none⟩) x.n x.n) ∧ w.cell? ⟨g, k * 2 + 1, none⟩ = some (.int .i64 x.m) := by
  rcases h.2 with ⟨_, h0⟩ | ⟨g, cap, cur, hv, _, hg, _, _, hcs, ht⟩
  · omega
  · obtain ⟨rfl, _⟩ : a = some ⟨g, 0, none⟩ ∧ c = cap := by simpa using hv
    obtain ⟨h1, h2⟩ := heldRow_at hs k x hx
    refine ⟨g, rfl, (heap_cells hg).2.2, ?_, ?_⟩
    · rw [(heap_cells hg).1, ← h1, ← ht, ← Array.getElem?_toList, List.getElem?_take_of_lt (by omega)]
    · rw [(heap_cells hg).1, ← h2, ← ht, ← Array.getElem?_toList, List.getElem?_take_of_lt (by omega)]

set_option maxHeartbeats 1000000 in
theorem marked_any2 (n : Int) (w : World) (h0 : 0 ≤ n) (h1 : n < 1000000000000000) :
    Calls Tryz.prog 31 #[.int .i64 n] w fun e w' => e = .returned (.agg #[.int .i64 (-n), .int .i64 n, .bool true, .string ⟨#[109, 97, 114, 107]⟩]) ∧ Below w.heap.size w w' := by
  go_enter Tryz.func31, Tryz.ntmps31
  go_wp2
  refine bodyPost_ret (v := .agg #[.int .i64 (-n), .int .i64 n, .bool true, .string ⟨#[109, 97, 114, 107]⟩]) (by simp [results, Tryz.results31, go_sem]) rfl ?_
  exact ⟨rfl, (Below.refl _ _).alloc (Nat.le_refl _) _⟩
set_option maxRecDepth 100000 in
set_option maxHeartbeats 4000000 in
theorem wdry_any (B N : Nat) (gW : Nat) (ps : List Pair) (lab : Nat → Nat) (w : World) (h : WldAt B N w gW ps lab) (hN : N ≤ 10000000000000) :
    Calls Tryz.prog 25 #[.pointer (some ⟨gW, 2, none⟩)] w fun e w' => e = .returned (.bool true) ∧ Below w.heap.size w w' := by
  obtain ⟨aC, cC, aR, cR, vH, m1, _, _, _, _, a, c, hs, hv, hnN, hown, _, hall⟩ := h.mem
  have zh := (heap_cells m1).2.2
  subst hv
  have c2 : w.cell? ⟨gW, 2, none⟩ = some (.slice a hs.length c) := by rw [(heap_cells m1).1]; rfl
  have HG : Hid (_ ∧ _) := ⟨hown, hall⟩
  clear h hown hall m1
  obtain ⟨n, hn⟩ : ∃ n, hs.length = n := ⟨_, rfl⟩
  rw [hn] at c2 hnN HG
  have heq := equal_rec
  have hgd := guard_rec
  go_enter Tryz.func25, Tryz.ntmps25
  go_wp2
  go_loopw [3] (fun i wr => ∃ (j : Nat), j ≤ n ∧ i = .int .i64 j ∧ Hid (Below w.heap.size w wr)) (fun i _ => n - (intOf i).toNat)
  case atStart => exact ⟨0, by omega, rfl, Below.refl _ _⟩
  case round =>
    obtain ⟨j, hj, rfl, HB⟩ := hrel
    have ch := (HB.out.cell (p := ⟨gW, 2, none⟩) zh).trans c2
    have zhr := Nat.lt_of_lt_of_le zh HB.out.size
    by_cases hlt : j < n
    · have hjl : j < hs.length := by omega
      obtain ⟨g, rfl, hg, d0, d1⟩ := heldRow_cell HG.out.1 (List.getElem?_eq_getElem hjl) hlt
      obtain ⟨hA, _, _, hL0, hL, hx0, hx1⟩ := HG.out.2 hs[j] (List.getElem_mem hjl)
      generalize hs[j] = x at d0 d1 hA hx0 hx1 hL hL0
      obtain ⟨G, L, M⟩ := x
      simp only at d0 d1 hA hx0 hx1 hL hL0
      have e0 := (HB.out.cell (p := ⟨g, j * 2, none⟩) hg).trans d0
      have e1 := (HB.out.cell (p := ⟨g, j * 2 + 1, none⟩) hg).trans d1
      have hgr : g < wr.heap.size := Nat.lt_of_lt_of_le hg HB.out.size
      have HA : Hid _ := hA
      have HAr : Hid (AllAt wr G (List.replicate L (mark M))) := hA.kept HB.out
      have hwz : w.heap.size ≤ wr.heap.size := HB.out.size
      clear d0 d1 hA
      have j1 : (j : Int) < (n : Int) := by omega
      have j0 : (0 : Int) ≤ (j : Int) := by omega
      go_wp2
      have HX : Hid (AllAt (wr.alloc (.cells #[.slice (some ⟨G, 0, none⟩) L L, .int .i64 M] 88)) G (List.replicate L (mark M)) ∧ (wr.alloc (.cells #[.slice (some ⟨G, 0, none⟩) L L, .int .i64 M] 88)).heap[wr.heap.size]? = some (.cells #[.slice (some ⟨G, 0, none⟩) L L, .int .i64 M] 88) ∧ Below w.heap.size w (wr.alloc (.cells #[.slice (some ⟨G, 0, none⟩) L L, .int .i64 M] 88))) :=
        ⟨HAr.out.kept ((Below.refl _ _).alloc (Nat.le_refl _) _), heap_at rfl, HB.out.alloc hwz _⟩
      clear e0 e1 HAr HA ch zhr HB
      generalize wr.alloc (.cells #[.slice (some ⟨G, 0, none⟩) L L, .int .i64 M] 88) = W1 at *
      generalize wr.heap.size = gx at *
      go_loopw [5] (fun i wr2 => ∃ (q : Nat), q ≤ L ∧ i = .int .i64 q ∧ Hid (AllAt wr2 G (List.replicate L (mark M)) ∧ wr2.heap[gx]? = some (.cells #[.slice (some ⟨G, 0, none⟩) L L, .int .i64 M] 88) ∧ Below w.heap.size w wr2)) (fun i _ => L - (intOf i).toNat)
      case atStart => exact ⟨0, by omega, rfl, HX⟩
      case round =>
        obtain ⟨q, hq, rfl, HR⟩ := hrel
        obtain ⟨cx, fx, zx⟩ := heap_cells HR.out.2.1
        by_cases hql : q < L
        · obtain ⟨c0, c1, c2, c3⟩ := HR.out.1.cell (k := q) (r := mark M) (by rw [List.getElem?_replicate, if_pos hql])
          simp only [mark] at c0 c1 c2 c3
          have hzG := (heap_cells HR.out.1).2.2
          have hqI : (q : Int) < (L : Int) := by omega
          have hq0 : (0 : Int) ≤ (q : Int) := by omega
          go_wp2
          go_region_held3 (fun W => Below wr.heap.size wr W ∧ (∀ b x, b < wr.heap.size → W.cell? ⟨b, x, none⟩ = wr.cell? ⟨b, x, none⟩))
            (first | (with_reducible exact doS_0) | (with_reducible exact doS_2 ‹_›))
            (first | (go_at_call 31; refine (marked_any2 M _ hx0 (by omega)).mono ?_; rintro e w9 ⟨rfl, hB9⟩))
          have hB10 := (doS_2 hB9).1
          have HN : Hid (AllAt w9 G (List.replicate L (mark M)) ∧ w9.heap[gx]? = some (.cells #[.slice (some ⟨G, 0, none⟩) L L, .int .i64 M] 88) ∧ Below w.heap.size w w9) :=
            ⟨HR.out.1.kept hB10, (hB10.block gx zx).trans HR.out.2.1, HR.out.2.2.trans (hB10.mono HR.out.2.2.size)⟩
          clear hB9 hB10 c0 c1 c2 c3 cx fx
          go_wp2
          go_roundw
          case rel => exact ⟨q + 1, by omega, by go_num, HN⟩
          case measure => simp [intOf]; omega
        · have hqL : q = L := by omega
          subst hqL
          have HB : Hid _ := HR.out.2.2
          go_wp2
          go_roundw
          case rel => exact ⟨j + 1, by omega, by go_num, HB⟩
          case measure => simp [intOf]; omega
    · have hjn : j = n := by omega
      subst hjn
      go_wp2
      go_ret
      exact ⟨rfl, HB.out⟩

end Go.Proofs.YtccckonckddadaaGreat
namespace Go.Proofs.YtccckonckddadaaGreat
open Go.RowKit
set_option linter.unusedVariables false

/-! ### ends -/
def abc : ByteArray := ⟨#[97, 98, 99, 100, 101, 102, 103, 104]⟩
set_option maxRecDepth 100000 in
set_option maxHeartbeats 8000000 in
theorem wends_any (B N : Nat) (gW : Nat) (ps : List Pair) (lab : Nat → Nat) (k : Nat) (a : Option Addr) (m c : Nat) (ops : List OpV) (w0 w : World) (h : WldAt B N w gW ps lab) (hk : k < ps.length) (h0 : OpsRow w0 a m ops) (hB : B = w0.heap.size) (hb : Below B w0 w) (hm : m ≤ 5000000000000) :
    Calls Tryz.prog 26 #[.pointer (some ⟨gW, 0, none⟩), .int .i64 (k : Int), .slice a m c] w (WPost B N gW ps.length w) := by
  have H : Hid _ := h
  have H0 : Hid (_ ∧ _ ∧ _) := ⟨h0, hB, hb⟩
  clear h h0 hB hb
  obtain ⟨n, hn⟩ : ∃ n, ps.length = n := ⟨_, rfl⟩
  have HN : Hid _ := hn
  rw [hn] at hk
  rewrite [hn]
  go_enter Tryz.func26, Tryz.ntmps26
  go_wp2_with fail
  refine (tells_log B N gW ps lab 0 ⟨#[]⟩ k w H.out (by rw [HN.out]; exact hk)).mono ?_
  rintro e w1 ⟨rfl, hP⟩
  have HP : Hid ((∃ ps' lab', ps'.length = n ∧ WldAt B N w1 gW ps' lab') ∧ Below B w w1) := by rw [HN.out] at hP; exact hP
  clear hP hn
  go_wp2
  go_loopw [7, 8] (fun v7 v8 wr => ∃ (j : Nat), v7 = .bool true ∧ v8 = .int .i64 j ∧ j ≤ m ∧ Hid ((∃ ps' lab', ps'.length = n ∧ WldAt B N wr gW ps' lab') ∧ Below B w wr)) (fun _ v8 _ => m - (intOf v8).toNat)
  case atStart => exact ⟨0, rfl, rfl, Nat.zero_le _, HP⟩
  case round =>
    obtain ⟨j, rfl, rfl, hj, HR⟩ := hrel
    clear HP
    by_cases hlt : j < m
    · have HOr : Hid (OpsRow wr a m ops) := H0.out.1.kept H0.out.2.1 (H0.out.2.2.trans HR.out.2)
      have hjl : j < ops.length := by rw [H0.out.1.len]; exact hlt
      obtain ⟨gS, off, rfl, hgS, hcell⟩ : ∃ g off, a = some ⟨g, off, none⟩ ∧ g < wr.heap.size ∧ ∀ (k : Nat) (o : OpV), ops[k]? = some o → wr.rangeAt g (off + k * 20) o.arr.toList := by
        rcases HOr.out.cells with h0 | h0
        · omega
        · exact h0
      have hrg := hcell j ops[j] (List.getElem?_eq_getElem hjl)
      clear hcell HOr
      generalize ops[j] = o at *
      have d0 : wr.cell? ⟨gS, off + j * 20, none⟩ = some (.int .i64 o.kind) := hrg 0 _ rfl
      have d2 : wr.cell? ⟨gS, off + j * 20 + 2, none⟩ = some (.int .i64 o.b) := hrg 2 _ rfl
      clear hrg
      have j1 : (j : Int) < (m : Int) := by omega
      have j0 : (0 : Int) ≤ (j : Int) := by omega
      by_cases hk2 : o.kind = 2
      · have hkb : (o.kind != 2) = false := by rw [bne_eq_false_iff_eq]; exact hk2
        obtain ⟨ps1, lab1, hl1, hW1⟩ := HR.out.1
        have HW1 : Hid (_ ∧ _) := ⟨hl1, hW1⟩
        clear hl1 hW1 hk2
        go_wp2_with fail
        refine (tells_reply B N gW ps1 lab1 o.b ⟨#[]⟩ k wr HW1.out.2 (by rw [HW1.out.1]; exact hk)).mono ?_
        rintro e w2 ⟨rfl, hP⟩
        have HP : Hid ((∃ ps' lab', ps'.length = n ∧ WldAt B N w2 gW ps' lab') ∧ Below B w w2) := by
          rw [HW1.out.1] at hP
          exact ⟨hP.1, HR.out.2.trans hP.2⟩
        clear hP d0 d2
        go_wp2
        go_roundw
        case rel => exact ⟨j + 1, rfl, by go_num, by omega, HP⟩
        case measure => simp [intOf]; omega
      · have hkb : (o.kind != 2) = true := by rw [bne_iff_ne]; exact hk2
        clear hk2
        go_wp2
        go_roundw
        case rel => exact ⟨j + 1, rfl, by go_num, by omega, HR⟩
        case measure => simp [intOf]; omega
    · have hje : j = m := by omega
      subst hje
      have hjj : decide ((j : Int) < (j : Int)) = false := decide_eq_false (by omega)
      go_wp2
      go_loopw [7, 9] (fun v7 v9 wx => ∃ (i : Nat), v7 = .bool true ∧ v9 = .int .i64 i ∧ i ≤ 4 ∧ Hid ((∃ ps' lab', ps'.length = n ∧ WldAt B N wx gW ps' lab') ∧ Below B w wx)) (fun _ v9 _ => 4 - (intOf v9).toNat)
      case atStart => exact ⟨0, rfl, rfl, Nat.zero_le _, HR⟩
      case round =>
        obtain ⟨i, rfl, rfl, hi, HS⟩ := hrel
        clear HR hjj
        by_cases hi4 : i < 4
        · have i1 : (i : Int) < 4 := by omega
          obtain ⟨ps1, lab1, hl1, hW1⟩ := HS.out.1
          have HW1 : Hid (_ ∧ _) := ⟨hl1, hW1⟩
          clear hl1 hW1
          go_wp2_with fail
          refine (tells_disk B N gW ps1 lab1 (i : Int) ⟨#[]⟩ k wr HW1.out.2 (by rw [HW1.out.1]; exact hk)).mono ?_
          rintro e w2 ⟨rfl, ⟨ps2, lab2, hl2, hW2⟩, hB2⟩
          have HW2 : Hid (ps2.length = n ∧ WldAt B N w2 gW ps2 lab2 ∧ Below B w w2) := ⟨hl2.trans HW1.out.1, hW2, HS.out.2.trans hB2⟩
          clear hl2 hW2 hB2 HW1
          go_wp2_with fail
          refine (tells_count B N gW ps2 lab2 (i : Int) ⟨#[]⟩ k w2 HW2.out.2.1 (by rw [HW2.out.1]; exact hk)).mono ?_
          rintro e w3 ⟨rfl, ⟨ps3, lab3, hl3, hW3⟩, hB3⟩
          have HW3 : Hid ((∃ ps' lab', ps'.length = n ∧ WldAt B N w3 gW ps' lab') ∧ Below B w w3) := ⟨⟨ps3, lab3, hl3.trans HW2.out.1, hW3⟩, HW2.out.2.2.trans hB3⟩
          clear hl3 hW3 hB3 HW2
          go_wp2
          go_loopw [7, 12] (fun v7 v12 wy => ∃ (q : Nat), v7 = .bool true ∧ v12 = .int .i64 q ∧ q ≤ 8 ∧ Hid ((∃ ps' lab', ps'.length = n ∧ WldAt B N wy gW ps' lab') ∧ Below B w wy)) (fun _ v12 _ => 8 - (intOf v12).toNat)
          case atStart => exact ⟨0, rfl, rfl, Nat.zero_le _, HW3⟩
          case round =>
            obtain ⟨q, rfl, rfl, hq, HQ⟩ := hrel
            clear HW3 HS
            by_cases hq8 : q < 8
            · have q1 : (q : Int) < 8 := by omega
              have q2 : (q : Int) + 1 ≤ 8 := by omega
              have q3 : (q : Int) ≤ (q : Int) + 1 := by omega
              have q0 : (0 : Int) ≤ (q : Int) := by omega
              have hwq : IntKind.i64.wrap ((q : Int) + 1) = (q : Int) + 1 := wrap_i64_id (by omega) (by omega)
              obtain ⟨ps1, lab1, hl1, hW1⟩ := HQ.out.1
              have HW1 : Hid (_ ∧ _) := ⟨hl1, hW1⟩
              clear hl1 hW1
              go_wp2_with fail
              refine (tells_get B N gW ps1 lab1 (i : Int) _ k wr HW1.out.2 (by rw [HW1.out.1]; exact hk) (by first | (rw [ByteArray.size_extract]; unfold maxLen; show _ ≤ _; omega) | (simp; unfold maxLen; omega))).mono ?_
              rintro e w2 ⟨rfl, hP⟩
              have HP : Hid ((∃ ps' lab', ps'.length = n ∧ WldAt B N w2 gW ps' lab') ∧ Below B w w2) := by
                rw [HW1.out.1] at hP
                exact ⟨hP.1, HQ.out.2.trans hP.2⟩
              clear hP
              go_wp2
              go_roundw
              case rel => exact ⟨q + 1, rfl, by go_num, by omega, HP⟩
              case measure => simp [intOf]; omega
            · have hqe : q = 8 := by omega
              subst hqe
              go_wp2
              go_roundw
              case rel => exact ⟨i + 1, rfl, by go_num, by omega, HQ⟩
              case measure => simp [intOf]; omega
        · have hie : i = 4 := by omega
          subst hie
          go_wp2
          go_ret
          exact ⟨rfl, HS.out⟩

end Go.Proofs.YtccckonckddadaaGreat
namespace Go.Proofs.YtccckonckddadaaGreat
open Go.RowKit
set_option linter.unusedVariables false

/-- One step, of whatever kind up to Get. -/
theorem wstep11_any (B N : Nat) (gW : Nat) (ps : List Pair) (lab : Nat → Nat) (o : OpV) (w : World) (h : WldAt B N w gW ps lab) (h5 : o.kind ≤ 11) (hs : o.s.size ≤ maxLen) (hk0 : -9223372036854775808 ≤ o.k) (hk1 : o.k < 9223372036854775808) (hn : ps.length + 1 ≤ 10000000000000) :
    Calls Tryz.prog 5 #[.pointer (some ⟨gW, 0, none⟩), .agg o.arr] w (NPost B N gW ps.length w) := by
  by_cases h55 : o.kind ≤ 5
  · exact wstep_any B N gW ps lab o w h h55 hs hk0 hk1 hn
  obtain ⟨kind, oa, ob, oc, ok, os, ⟨x1, x2, x3, x4, x5⟩, z0, z1, z2, z3, z4, z5, z6, z7, ra, rm, rc⟩ := o
  simp only at h55 h5 hs hk0 hk1
  by_cases h0 : ps.length = 0
  · exact step_none B N gW ps lab kind oa ob oc ok os x1 x2 x3 x4 x5 z0 z1 z2 z3 z4 z5 z6 z7 ra rm rc w h hs hk0 hk1 hn h0 h5 (by omega)
  have h0' : 0 < ps.length := by omega
  by_cases h2 : kind = 6
  · subst h2
    exact step_send B N gW ps lab oa ob oc ok os x1 x2 x3 x4 x5 z0 z1 z2 z3 z4 z5 z6 z7 ra rm rc w h hs hk0 hk1 hn h0'
  by_cases h3 : kind = 7
  · subst h3
    exact step_sync B N gW ps lab oa ob oc ok os x1 x2 x3 x4 x5 z0 z1 z2 z3 z4 z5 z6 z7 ra rm rc w h hs hk0 hk1 hn h0'
  by_cases h4 : kind = 8
  · subst h4
    exact step_crash B N gW ps lab oa ob oc ok os x1 x2 x3 x4 x5 z0 z1 z2 z3 z4 z5 z6 z7 ra rm rc w h hs hk0 hk1 hn h0'
  by_cases h6 : kind = 9
  · subst h6
    exact step_disk B N gW ps lab oa ob oc ok os x1 x2 x3 x4 x5 z0 z1 z2 z3 z4 z5 z6 z7 ra rm rc w h hs hk0 hk1 hn h0'
  by_cases h7 : kind = 10
  · subst h7
    exact step_count B N gW ps lab oa ob oc ok os x1 x2 x3 x4 x5 z0 z1 z2 z3 z4 z5 z6 z7 ra rm rc w h hs hk0 hk1 hn h0'
  obtain rfl : kind = 11 := by omega
  exact step_get B N gW ps lab oa ob oc ok os x1 x2 x3 x4 x5 z0 z1 z2 z3 z4 z5 z6 z7 ra rm rc w h hs hk0 hk1 hn h0'

set_option maxRecDepth 100000 in
set_option maxHeartbeats 4000000 in
theorem plays_walk (a : Option Addr) (m c : Nat) (ops : List OpV) (w : World) (h : OpsRow w a m ops) (hm : m ≤ 5000000000000) :
    Calls Tryz.prog 7 #[.slice a m c, .int .i64 11] w fun e w' => e = .returned (.bool true) ∧ Below w.heap.size w w' := by
  have H : Hid _ := h
  clear h
  obtain ⟨B, hB⟩ : ∃ B, B = w.heap.size := ⟨_, rfl⟩
  have HE : Hid _ := wld_empty (N := 0) hB
  have HB0 : Hid (Below B w (w.alloc (.cells #[.slice none 0 0, .slice none 0 0, .slice none 0 0] 30))) := by rw [hB]; exact (Below.refl _ _).alloc (Nat.le_refl _) _
  have HBe : Hid _ := hB
  go_enter Tryz.func7, Tryz.ntmps7
  go_wp2
  rewrite [← hB]
  rw [← hB] at HE
  clear hB
  go_loopw [6] (fun v4 wr => ∃ (k : Nat) (ps : List Pair) (lab : Nat → Nat), v4 = .int .i64 k ∧ k ≤ m ∧ ps.length ≤ k ∧ Hid (WldAt B 0 wr B ps lab) ∧ Hid (Below B w wr)) (fun v4 _ => m - (intOf v4).toNat)
  case atStart => exact ⟨0, [], fun _ => 0, rfl, Nat.zero_le _, Nat.le_refl _, HE, HB0⟩
  case round =>
    obtain ⟨k, ps, lab, rfl, hk, hpk, HW, HB⟩ := hrel
    clear HE HB0
    by_cases hlt : k < m
    · have HR : Hid (OpsRow wr a m ops) := H.out.kept HBe.out HB.out
      have hkl : k < ops.length := by rw [H.out.len]; exact hlt
      obtain ⟨gS, off, rfl, hgS, hcell⟩ : ∃ g off, a = some ⟨g, off, none⟩ ∧ g < wr.heap.size ∧ ∀ (k : Nat) (o : OpV), ops[k]? = some o → wr.rangeAt g (off + k * 20) o.arr.toList := by
        rcases HR.out.cells with h0 | h0
        · omega
        · exact h0
      have HRg : Hid _ := hcell k ops[k] (List.getElem?_eq_getElem hkl)
      obtain ⟨hs, hk0, hk1⟩ := H.out.ok ops[k] (List.getElem_mem hkl)
      clear hcell HR
      generalize ops[k] = o at *
      have d0 : wr.cell? ⟨gS, off + k * 20, none⟩ = some (.int .i64 o.kind) := HRg.out 0 _ rfl
      have k1 : (k : Int) < (m : Int) := by omega
      have k0 : (0 : Int) ≤ (k : Int) := by omega
      by_cases h5 : 11 < o.kind
      · go_wp2
        go_roundw
        case rel => exact ⟨k + 1, ps, lab, by go_num, by omega, by omega, HW, HB⟩
        case measure => simp [intOf]; omega
      · have h5' : o.kind ≤ 11 := by omega
        go_wp2_with (refine wpList_load_mid rfl 38 (.tmp 28) rfl gS (off + k * 20) rfl o.arr.toList _ HRg.out Tryz.underlying38 rfl info_opsize ?_)
        refine (wstep11_any B 0 B ps lab o wr HW.out h5' hs hk0 hk1 (by omega)).mono ?_
        rintro e w1 ⟨rfl, ⟨ps', lab', hl', hW'⟩, hB'⟩
        have HW' : Hid _ := hW'
        have HB' : Hid (Below B w w1) := HB.out.trans hB'
        have hBw : B < w1.heap.size := by obtain ⟨_, _, _, _, _, q1, _⟩ := hW'.mem; exact (heap_cells q1).2.2
        clear hW' hB' d0
        go_wp2_with fail
        refine (wdry_any B 0 B ps' lab' w1 HW'.out (by decide)).mono ?_
        rintro e w2 ⟨rfl, hB2⟩
        have HW2 : Hid _ := HW'.out.below hB2
        have HB2 : Hid (Below B w w2) := HB'.out.trans (hB2.mono HW'.out.base)
        clear hB2
        go_wp2
        go_roundw
        case rel => exact ⟨k + 1, ps', lab', by go_num, by omega, by omega, HW2, HB2⟩
        case measure => simp [intOf]; omega
    · have hkm : k = m := by omega
      subst hkm
      have hkk : decide ((k : Int) < (k : Int)) = false := decide_eq_false (by omega)
      obtain ⟨n, hn⟩ : ∃ n, ps.length = n := ⟨_, rfl⟩
      have HN : Hid _ := hn
      rw [hn] at hpk
      clear hn
      go_wp2
      go_loopw [8] (fun v6 wx => ∃ (j : Nat) (ps : List Pair) (lab : Nat → Nat), v6 = .int .i64 j ∧ j ≤ n ∧ Hid (ps.length = n) ∧ Hid (WldAt B 0 wx B ps lab) ∧ Hid (Below B w wx)) (fun v6 _ => n - (intOf v6).toNat)
      case atStart => exact ⟨0, ps, lab, rfl, Nat.zero_le _, HN, HW, HB⟩
      case round =>
        obtain ⟨j, ps2, lab2, rfl, hj, HN2, HW2, HB2⟩ := hrel
        clear HW HB HN
        obtain ⟨aC, cC, aR, cR, vH, m1, _⟩ := HW2.out.mem
        have hgW := (heap_cells m1).2.2
        have c0 : wr.cell? ⟨B, 0, none⟩ = some (.slice aC n cC) := by
          rw [(heap_cells m1).1, ← HN2.out]; rfl
        clear m1
        by_cases hjl : j < n
        · have j1 : (j : Int) < (n : Int) := by omega
          have j0 : (0 : Int) ≤ (j : Int) := by omega
          go_wp2_with fail
          refine (wends_any B 0 B ps2 lab2 j a k c ops w wr HW2.out (by rw [HN2.out]; exact hjl) H.out HBe.out HB2.out hm).mono ?_
          rintro e w1 ⟨rfl, ⟨ps', lab', hl', hW'⟩, hB'⟩
          have HW' : Hid _ := hW'
          have HB' : Hid (Below B w w1) := HB2.out.trans hB'
          have HN' : Hid (ps'.length = n) := hl'.trans HN2.out
          clear hW' hB' hl' c0
          go_wp2
          go_roundw
          case rel => exact ⟨j + 1, ps', lab', by go_num, by omega, HN', HW', HB'⟩
          case measure => simp [intOf]; omega
        · have hje : j = n := by omega
          subst hje
          have hjj : decide ((j : Int) < (j : Int)) = false := decide_eq_false (by omega)
          go_wp2
          go_ret
          exact ⟨rfl, by have := HB2.out; rw [HBe.out] at this; exact this⟩

set_option maxRecDepth 100000 in
set_option maxHeartbeats 4000000 in
theorem clusters_walk (a : Option Addr) (m c : Nat) (ops : List OpV) (w : World) (h : OpsRow w a m ops) (hm : m ≤ 5000000000000) :
    Calls Tryz.prog 4 #[.slice a m c] w fun e w' => e = .returned (.bool true) ∧ Below w.heap.size w w' := by
  have H : Hid _ := h
  clear h
  go_enter Tryz.func4, Tryz.ntmps4
  go_wp2_with fail
  refine (plays_walk a m c ops w H.out hm).mono ?_
  rintro e w1 ⟨rfl, hB1⟩
  have HB1 : Hid _ := hB1
  clear hB1
  go_wp2
  go_ret
  exact ⟨rfl, HB1.out⟩

end Go.Proofs.YtccckonckddadaaGreat
