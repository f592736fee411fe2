import Derived.Test.YtccckonckddadabGreatJ48
import Derived.Deep.RegionHeld3
import Derived.Deep.MidRow
namespace Go.Proofs.YtccckonckddadabGreat
open Go.RowKit
set_option linter.unusedVariables false

def NPost (B N : Nat) (gW : Nat) (n : Nat) (w : World) (e : Ending) (w' : World) : Prop := e = .returned (.bool true) ∧ (∃ ps' lab', ps'.length ≤ n + 1 ∧ WldAt B N w' gW ps' lab') ∧ Below B w w'

set_option maxRecDepth 100000 in
set_option maxHeartbeats 8000000 in
theorem news_any (B N : Nat) (gW : Nat) (ps : List Pair) (lab : Nat → Nat) (c : ConfV) (w : World) (h : WldAt B N w gW ps lab) (hn : ps.length + 1 ≤ 10000000000000) :
    Calls Tryz.prog 8 #[.pointer (some ⟨gW, 0, none⟩), .agg #[.int .i64 c.clients, .int .i64 c.queue, .int .i64 c.quantum, .int .i64 c.room, .int .i64 c.reps]] w (NPost B N gW ps.length w) := by
  obtain ⟨ti, hi, hz0, hz1, hz2⟩ := info_parts info_pc
  have HI : Hid (_ ∧ _ ∧ _ ∧ _) := ⟨hi, hz0, hz1, hz2⟩
  clear hi hz0 hz1 hz2
  obtain ⟨tj, hi, hz0, hz1, hz2⟩ := info_parts info_pr
  have HJ : Hid (_ ∧ _ ∧ _ ∧ _) := ⟨hi, hz0, hz1, hz2⟩
  clear hi hz0 hz1 hz2
  have HB : Hid _ := h.base
  obtain ⟨W1, hW1⟩ : ∃ W1, W1 = w.alloc (.cells #[.int .i64 c.clients, .int .i64 c.queue, .int .i64 c.quantum, .int .i64 c.room, .int .i64 c.reps] 34) := ⟨_, rfl⟩
  have HBw : Hid (Below w.heap.size w W1) := by rw [hW1]; exact (Below.refl _ _).alloc (Nat.le_refl _) _
  have HBx : Hid (W1.heap[w.heap.size]? = some (.cells #[.int .i64 c.clients, .int .i64 c.queue, .int .i64 c.quantum, .int .i64 c.room, .int .i64 c.reps] 34)) := by rw [hW1]; exact heap_at rfl
  have HW1 : Hid (WldAt B N W1 gW ps lab) := h.below HBw.out
  clear h
  go_enter Tryz.func8, Tryz.ntmps8
  go_wp2_with fail
  rewrite [← hW1]
  clear hW1
  refine (pnew_any c W1).mono ?_
  rintro e w1 (⟨hc, g, F, rfl, hS, hF, hb1⟩ | ⟨hc, rfl, hb1⟩)
  · have hbx : w1.heap[w.heap.size]? = _ := (hb1.block w.heap.size (heap_cells HBx.out).2.2).trans HBx.out
    obtain ⟨x0, _, xz⟩ := heap_cells hbx
    have HS : Hid _ := hS
    have HF : Hid _ := hF
    have HB1 : Hid _ := hb1
    have HC : Hid _ := hc
    clear hS hF hb1 hc hbx
    go_wp2_with fail
    refine (refnew_any c w1).mono ?_
    rintro e w2 (⟨_, gr, rfl, hS2, hF2, hb2⟩ | ⟨hc2, _⟩)
    rotate_left
    · rw [HC.out] at hc2; cases hc2
    have HS2 : Hid _ := hS2
    have HF2 : Hid _ := hF2
    have HB2 : Hid _ := hb2
    clear hS2 hF2 hb2 x0 xz
    obtain ⟨aC, cC, aR, cR, vH, m1, m2, m3, m4, m5, m6⟩ := HW1.out.mem
    have HM : Hid (_ ∧ _ ∧ _ ∧ _ ∧ _ ∧ _) := ⟨m1, m2, m3, m4, m5, m6⟩
    have hgW1 := (heap_cells m1).2.2
    have nC : (Value.slice aC ps.length cC).ownBlock ≠ some gW := fun e => by have := m4 gW e; rw [HW1.out.gl] at this; omega
    have nCR : ∀ k, (Value.slice aC ps.length cC).ownBlock = some k → (Value.slice aR ps.length cR).ownBlock ≠ some k := fun k e1 e2 => by have := m4 k e1; have := m5 k e2; omega
    have hblk2 : w2.heap[gW]? = _ := (HB2.out.block gW (Nat.lt_of_lt_of_le hgW1 HB1.out.size)).trans ((HB1.out.block gW hgW1).trans m1)
    obtain ⟨d0, df, dz⟩ := heap_cells hblk2
    have e0 : w2.cell? ⟨gW, 0, none⟩ = some (.slice aC ps.length cC) := by rw [d0]; rfl
    have HO2 : Hid (w2.ownsRow B 57 1 (.slice aC ps.length cC) ps.length (ptrC ps)) := own_below (own_below m2 HB1.out) HB2.out
    have HR2 : Hid (w2.ownsRow B 61 1 (.slice aR ps.length cR) ps.length (ptrR ps)) := own_below (own_below m3 HB1.out) HB2.out
    have HNc : Hid (_ ∧ _) := ⟨nC, nCR⟩
    have hBz : B ≤ w2.heap.size := Nat.le_trans HB.out (Nat.le_trans HBw.out.size (Nat.le_trans HB1.out.size HB2.out.size))
    have HBk : Hid (w2.heap[gW]? = some (.cells #[.slice aC ps.length cC, .slice aR ps.length cR, vH] 32)) := hblk2
    clear m1 m2 m3 m4 m5 m6 hblk2 d0 nC nCR
    go_wp2_with fail
    refine (num_any 0 w2).mono ?_
    rintro e w3 ⟨rfl, hw3⟩
    obtain rfl := hw3.symm
    obtain ⟨n, hnn⟩ : ∃ n, ps.length = n := ⟨_, rfl⟩
    have HNn : Hid _ := hnn
    rw [hnn] at e0 HO2 hn HR2 HBk HNc
    clear hnn
    go_wp2_with (at_builtin; refine wpList_append_lies _ rfl (.tmp 36) (.tmp 38) 26 rfl B 57 ti (.pointer none) 1 8 Tryz.underlying26 HI.out.1 HI.out.2.1 HI.out.2.2.1 HI.out.2.2.2 rfl (by decide) (.slice aC n cC) n (ptrC ps) rfl (HO2.out.alloc _) ⟨w2.heap.size, 0, none⟩ 1 1 [.pointer (some ⟨g, 0, none⟩)] rfl rfl ?c1 ?c2 ?c3 ?c4 ?c5 ?c6 _ rfl ?_)
    try (case c1 => exact cells_new _ _ rfl [.pointer (some ⟨g, 0, none⟩)] _)
    try (case c2 => first | rfl | (intro u hu; simp at hu; subst hu; rfl))
    try (case c3 => decide)
    try (case c4 => unfold maxLen; omega)
    try (case c5 => omega)
    try (case c6 => first | omega | (simp; omega))
    intro gN cap w4 hown4 hgr4 hat4 hlt4
    have hz4 : (w2.alloc (.cells #[.pointer (some ⟨g, 0, none⟩)] 57)).heap.size = w2.heap.size + 1 := by simp
    have hb4 : w4.heap[gW]? = _ := ((hgr4.block gW (by rw [hz4]; omega) (fun e => HNc.out.1 e.symm)).trans (heap_old dz)).trans HBk.out
    obtain ⟨q0, qf, qz⟩ := heap_cells hb4
    have f0 : w4.cell? ⟨gW, 0, none⟩ = some (.slice aC n cC) := by rw [q0]; rfl
    have HP4 : Hid (_ ∧ _ ∧ _) := ⟨hown4, hgr4, hat4⟩
    have hb5 := heap_set hb4 (x := 0) (.slice (some ⟨gN, 0, none⟩) (n + 1) cap)
    obtain ⟨r0, rf, rz⟩ := heap_cells hb5
    have s1 : (w4.setCell ⟨gW, 0, none⟩ (.slice (some ⟨gN, 0, none⟩) (n + 1) cap)).cell? ⟨gW, 1, none⟩ = some (.slice aR n cR) := by rw [r0]; rfl
    have HR5 : Hid ((w4.setCell ⟨gW, 0, none⟩ (.slice (some ⟨gN, 0, none⟩) (n + 1) cap)).ownsRow B 61 1 (.slice aR n cR) n (ptrR ps)) := by
      refine own_same HR2.out (fun k hk => ?_)
      have hkl := (World.ownsRow.lt HR2.out k hk).2
      have hkg : k ≠ gW := fun e => by
        have h1 := HM.out.2.2.2.2.1 gW (by rw [HNn.out, ← e]; exact hk)
        rw [HW1.out.gl] at h1
        omega
      rw [Below.heap_setCell _ _ _ _ (by exact hkg)]
      exact (hgr4.block k (by rw [hz4]; omega) (fun e => HNc.out.2 k e.symm hk)).trans (heap_old hkl)
    have hz5 : (w4.setCell ⟨gW, 0, none⟩ (.slice (some ⟨gN, 0, none⟩) (n + 1) cap)).heap.size = w4.heap.size := by simp [World.setCell]
    have hBz4 : B ≤ w4.heap.size := by have := hgr4.size; rw [hz4] at this; omega
    have HK5 : Hid ((w4.setCell ⟨gW, 0, none⟩ (.slice (some ⟨gN, 0, none⟩) (n + 1) cap)).heap[gW]? = _) := hb5
    clear hown4 hgr4 hat4 hb4 hb5 q0 r0
    go_wp2_with (at_builtin; refine wpList_append_lies _ rfl (.tmp 46) (.tmp 48) 27 rfl B 61 tj (.pointer none) 1 8 Tryz.underlying27 HJ.out.1 HJ.out.2.1 HJ.out.2.2.1 HJ.out.2.2.2 rfl (by decide) (.slice aR n cR) n (ptrR ps) rfl (HR5.out.alloc _) ⟨w4.heap.size, 0, none⟩ 1 1 [.pointer (some ⟨gr, 0, none⟩)] rfl rfl ?c1 ?c2 ?c3 ?c4 ?c5 ?c6 _ rfl ?_)
    try (case c1 => first | exact cells_new _ _ (by rw [hz5]) [.pointer (some ⟨gr, 0, none⟩)] _ | exact cells_new _ _ rfl [.pointer (some ⟨gr, 0, none⟩)] _)
    try (case c2 => first | rfl | (intro u hu; simp at hu; subst hu; rfl))
    try (case c3 => decide)
    try (case c4 => unfold maxLen; omega)
    try (case c5 => omega)
    try (case c6 => first | omega | (simp [World.setCell]; omega))
    intro gM cap' w6 hown6 hgr6 hat6 hlt6
    have hz6 : ((w4.setCell ⟨gW, 0, none⟩ (.slice (some ⟨gN, 0, none⟩) (n + 1) cap)).alloc (.cells #[.pointer (some ⟨gr, 0, none⟩)] 61)).heap.size = w4.heap.size + 1 := by simp [World.setCell]
    have nR : (Value.slice aR n cR).ownBlock ≠ some gW := fun e => by
      have h1 := HM.out.2.2.2.2.1 gW (by rw [HNn.out]; exact e)
      rw [HW1.out.gl] at h1
      omega
    have hb6 : w6.heap[gW]? = _ := ((hgr6.block gW (by rw [hz6]; omega) (fun e => nR e.symm)).trans (heap_old rz)).trans HK5.out
    obtain ⟨p0, pf, pz⟩ := heap_cells hb6
    have y1 : w6.cell? ⟨gW, 1, none⟩ = some (.slice aR n cR) := by rw [p0]; rfl
    have HP6 : Hid (_ ∧ _ ∧ _) := ⟨hown6, hgr6, hat6⟩
    clear hb6 p0 s1 f0 hown6 hgr6 hat6
    go_wp2
    go_ret
    have hnn := HNn.out
    subst hnn
    have hN : OutsOk (pNewV c) := ⟨Nat.zero_le _, fun y hy => by cases hy⟩
    obtain ⟨⟨lab', hW'⟩, hBB⟩ := wld_news (x := ⟨g, F, pNewV c, gr, fun k => k = gr, newV c⟩) HW1.out HM.out.1 HM.out.2.1 HM.out.2.2.1 HM.out.2.2.2.1 HM.out.2.2.2.2.1 HM.out.2.2.2.2.2 HB1.out HB2.out (HS.out.below HB2.out) HS2.out (fun k hk => ⟨HF.out k hk, HS.out.own k hk⟩) (fun k hk => by have e : k = gr := hk; rw [e]; exact HF2.out) ⟨new_sim HC.out, new_rsim HC.out, HS2.out.fit, newV_rest HC.out, newV_rep c⟩ (newV_rest HC.out) hN
      HP4.out.1 HP4.out.2.1 (by rcases HP4.out.2.2 with e | e; exact .inl e; exact .inr (by first | exact e | simpa using e)) HP6.out.1 HP6.out.2.1 (by rcases HP6.out.2.2 with e | e; exact .inl e; exact .inr (by first | exact e | simpa [World.setCell] using e))
    exact ⟨rfl, ⟨_, lab', by rw [List.length_append]; exact Nat.le_refl _, hW'⟩, (HBw.out.mono HB.out).trans hBB⟩
  · have hbx : w1.heap[w.heap.size]? = _ := (hb1.block w.heap.size (heap_cells HBx.out).2.2).trans HBx.out
    obtain ⟨x0, _, xz⟩ := heap_cells hbx
    have HB1 : Hid _ := hb1
    have HC : Hid _ := hc
    clear hb1 hc hbx
    go_wp2_with fail
    refine (refnew_any c w1).mono ?_
    rintro e w2 (⟨hc2, _⟩ | ⟨_, rfl, hb2⟩)
    · rw [HC.out] at hc2; cases hc2
    have HB2 : Hid _ := hb2
    clear hb2 x0 xz
    go_wp2_with fail
    refine (num_any 3 w2).mono ?_
    rintro e w3 ⟨rfl, hw3⟩
    obtain rfl := hw3.symm
    go_wp2
    go_ret
    have hb : Below W1.heap.size W1 w2 := HB1.out.trans (HB2.out.mono HB1.out.size)
    exact ⟨rfl, ⟨ps, lab, by omega, HW1.out.below hb⟩, (HBw.out.mono HB.out).trans (hb.mono (Nat.le_trans HB.out HBw.out.size))⟩

end Go.Proofs.YtccckonckddadabGreat
namespace Go.Proofs.YtccckonckddadabGreat
open Go.RowKit
set_option linter.unusedVariables false

theorem WPost.more {B N gW n : Nat} {w : World} {e : Ending} {w' : World} (h : WPost B N gW n w e w') : NPost B N gW n w e w' := by
  obtain ⟨h1, ⟨ps, lab, h2, h3⟩, h4⟩ := h
  exact ⟨h1, ⟨ps, lab, by omega, h3⟩, h4⟩

set_option maxRecDepth 100000 in
set_option maxHeartbeats 4000000 in
theorem step_new (B N : Nat) (gW : Nat) (ps : List Pair) (lab : Nat → Nat) (o : OpV) (w : World) (h : WldAt B N w gW ps lab) (ho : o.kind = 1) (hn : ps.length + 1 ≤ 10000000000000) :
    Calls Tryz.prog 5 #[.pointer (some ⟨gW, 0, none⟩), .agg o.arr] w (NPost B N gW ps.length w) := by
  obtain ⟨kind, oa, ob, oc, ok, os, ⟨x1, x2, x3, x4, x5⟩, z0, z1, z2, z3, z4, z5, z6, z7, ra, rm, rc⟩ := o
  simp only at ho
  subst ho
  show Calls Tryz.prog 5 #[.pointer (some ⟨gW, 0, none⟩), .agg #[.int .i64 1, .int .i64 oa, .int .i64 ob, .int .i64 oc, .int .i64 ok, .string os, .int .i64 x1, .int .i64 x2, .int .i64 x3, .int .i64 x4, .int .i64 x5, .int .i16 z0, .int .i16 z1, .int .i16 z2, .int .i16 z3, .int .i16 z4, .int .i16 z5, .int .i16 z6, .int .i16 z7, .slice ra rm rc]] w _
  have HB : Hid _ := h.base
  have H : Hid _ := h
  clear h
  obtain ⟨W1, hW1⟩ : ∃ W1, W1 = w.alloc (.cells #[.int .i64 1, .int .i64 oa, .int .i64 ob, .int .i64 oc, .int .i64 ok, .string os, .int .i64 x1, .int .i64 x2, .int .i64 x3, .int .i64 x4, .int .i64 x5, .int .i16 z0, .int .i16 z1, .int .i16 z2, .int .i16 z3, .int .i16 z4, .int .i16 z5, .int .i16 z6, .int .i16 z7, .slice ra rm rc] 40) := ⟨_, rfl⟩
  have HBw : Hid (Below w.heap.size w W1) := by rw [hW1]; exact (Below.refl _ _).alloc (Nat.le_refl _) _
  go_enter Tryz.func5, Tryz.ntmps5
  go_wp2_with fail
  rewrite [← hW1]
  clear hW1
  refine (news_any B N gW ps lab ⟨x1, x2, x3, x4, x5⟩ W1 (H.out.below HBw.out) hn).mono ?_
  rintro e w1 ⟨rfl, hN, hB⟩
  have HN : Hid (_ ∧ _) := ⟨hN, hB⟩
  clear hN hB
  go_wp2
  go_ret
  exact ⟨rfl, HN.out.1, (HBw.out.mono HB.out).trans HN.out.2⟩

theorem does_submit' (B N : Nat) (gW : Nat) (ps : List Pair) (lab : Nat → Nat) (oa ob oc ok : Int) (os : ByteArray) (x1 x2 x3 x4 x5 z0 z1 z2 z3 z4 z5 z6 z7 : Int) (ra : Option Addr) (rm rc : Nat) (k : Nat) (w : World) (h : WldAt B N w gW ps lab) (hk : k < ps.length) (hs : os.size ≤ maxLen) :
    Calls Tryz.prog 13 #[.pointer (some ⟨gW, 0, none⟩), .int .i64 (k : Int), .agg #[.int .i64 2, .int .i64 oa, .int .i64 ob, .int .i64 oc, .int .i64 ok, .string os, .int .i64 x1, .int .i64 x2, .int .i64 x3, .int .i64 x4, .int .i64 x5, .int .i16 z0, .int .i16 z1, .int .i16 z2, .int .i16 z3, .int .i16 z4, .int .i16 z5, .int .i16 z6, .int .i16 z7, .slice ra rm rc]] w (WPost B N gW ps.length w) :=
  does_submit B N gW ps lab ⟨2, oa, ob, oc, ok, os, ⟨x1, x2, x3, x4, x5⟩, z0, z1, z2, z3, z4, z5, z6, z7, ra, rm, rc⟩ k w h hk rfl hs
theorem does_fill' (B N : Nat) (gW : Nat) (ps : List Pair) (lab : Nat → Nat) (oa ob oc ok : Int) (os : ByteArray) (x1 x2 x3 x4 x5 z0 z1 z2 z3 z4 z5 z6 z7 : Int) (ra : Option Addr) (rm rc : Nat) (k : Nat) (w : World) (h : WldAt B N w gW ps lab) (hk : k < ps.length) :
    Calls Tryz.prog 13 #[.pointer (some ⟨gW, 0, none⟩), .int .i64 (k : Int), .agg #[.int .i64 3, .int .i64 oa, .int .i64 ob, .int .i64 oc, .int .i64 ok, .string os, .int .i64 x1, .int .i64 x2, .int .i64 x3, .int .i64 x4, .int .i64 x5, .int .i16 z0, .int .i16 z1, .int .i16 z2, .int .i16 z3, .int .i16 z4, .int .i16 z5, .int .i16 z6, .int .i16 z7, .slice ra rm rc]] w (WPost B N gW ps.length w) :=
  does_fill B N gW ps lab ⟨3, oa, ob, oc, ok, os, ⟨x1, x2, x3, x4, x5⟩, z0, z1, z2, z3, z4, z5, z6, z7, ra, rm, rc⟩ k w h hk rfl

set_option maxRecDepth 100000 in
set_option maxHeartbeats 8000000 in
theorem step_none (B N : Nat) (gW : Nat) (ps : List Pair) (lab : Nat → Nat) (kind : Int) (oa ob oc ok : Int) (os : ByteArray) (x1 x2 x3 x4 x5 z0 z1 z2 z3 z4 z5 z6 z7 : Int) (ra : Option Addr) (rm rc : Nat) (w : World) (h : WldAt B N w gW ps lab) (hs : os.size ≤ maxLen) (hk0 : -9223372036854775808 ≤ ok) (hk1 : ok < 9223372036854775808) (hn : ps.length + 1 ≤ 10000000000000) (h0 : ps.length = 0) (h5 : kind ≤ 11) (ho : kind ≠ 1) :
    Calls Tryz.prog 5 #[.pointer (some ⟨gW, 0, none⟩), .agg #[.int .i64 kind, .int .i64 oa, .int .i64 ob, .int .i64 oc, .int .i64 ok, .string os, .int .i64 x1, .int .i64 x2, .int .i64 x3, .int .i64 x4, .int .i64 x5, .int .i16 z0, .int .i16 z1, .int .i16 z2, .int .i16 z3, .int .i16 z4, .int .i16 z5, .int .i16 z6, .int .i16 z7, .slice ra rm rc]] w (NPost B N gW ps.length w) := by
  have n1 : (kind == 1) = false := by rw [beq_eq_false_iff_ne]; omega
  have n12 : (kind == 12) = false := by rw [beq_eq_false_iff_ne]; omega
  have n13 : (kind == 13) = false := by rw [beq_eq_false_iff_ne]; omega
  have n14 : (kind == 14) = false := by rw [beq_eq_false_iff_ne]; omega
  have HB : Hid _ := h.base
  have H : Hid _ := h
  clear h
  obtain ⟨W1, hW1⟩ : ∃ W1, W1 = w.alloc (.cells #[.int .i64 kind, .int .i64 oa, .int .i64 ob, .int .i64 oc, .int .i64 ok, .string os, .int .i64 x1, .int .i64 x2, .int .i64 x3, .int .i64 x4, .int .i64 x5, .int .i16 z0, .int .i16 z1, .int .i16 z2, .int .i16 z3, .int .i16 z4, .int .i16 z5, .int .i16 z6, .int .i16 z7, .slice ra rm rc] 40) := ⟨_, rfl⟩
  have HBw : Hid (Below w.heap.size w W1) := by rw [hW1]; exact (Below.refl _ _).alloc (Nat.le_refl _) _
  have HBx : Hid (W1.heap[w.heap.size]? = some (.cells #[.int .i64 kind, .int .i64 oa, .int .i64 ob, .int .i64 oc, .int .i64 ok, .string os, .int .i64 x1, .int .i64 x2, .int .i64 x3, .int .i64 x4, .int .i64 x5, .int .i16 z0, .int .i16 z1, .int .i16 z2, .int .i16 z3, .int .i16 z4, .int .i16 z5, .int .i16 z6, .int .i16 z7, .slice ra rm rc] 40)) := by rw [hW1]; exact heap_at rfl
  have HW1 : Hid (WldAt B N W1 gW ps lab) := H.out.below HBw.out
  obtain ⟨aC, cC, aR, cR, vH, m1, _⟩ := HW1.out.mem
  have hgW1 := (heap_cells m1).2.2
  have c0 : W1.cell? ⟨gW, 0, none⟩ = some (.slice aC ps.length cC) := by rw [(heap_cells m1).1]; rfl
  have hgW : gW < w.heap.size := by obtain ⟨_, _, _, _, _, q1, _⟩ := H.out.mem; exact (heap_cells q1).2.2
  have c0w : w.cell? ⟨gW, 0, none⟩ = some (.slice aC ps.length cC) := (HBw.out.cell (p := ⟨gW, 0, none⟩) hgW).symm.trans c0
  clear m1
  obtain ⟨n, hnn⟩ : ∃ n, ps.length = n := ⟨_, rfl⟩
  have HNn : Hid _ := hnn
  rw [hnn] at c0 c0w hn ⊢
  rw [hnn] at h0
  subst h0
  clear c0
  go_enter Tryz.func5, Tryz.ntmps5
  go_wp2
  go_ret
  refine ⟨rfl, ⟨ps, lab, by omega, ?_⟩, HBw.out.mono HB.out |> fun hb => ?_⟩
  · rw [← hW1]; exact HW1.out
  · rw [← hW1]; exact hb

end Go.Proofs.YtccckonckddadabGreat
namespace Go.Proofs.YtccckonckddadabGreat
open Go.RowKit
set_option linter.unusedVariables false

set_option maxRecDepth 100000 in
set_option maxHeartbeats 8000000 in
theorem step_log (B N : Nat) (gW : Nat) (ps : List Pair) (lab : Nat → Nat) (oa ob oc ok : Int) (os : ByteArray) (x1 x2 x3 x4 x5 z0 z1 z2 z3 z4 z5 z6 z7 : Int) (ra : Option Addr) (rm rc : Nat) (w : World) (h : WldAt B N w gW ps lab) (hs : os.size ≤ maxLen) (hk0 : -9223372036854775808 ≤ ok) (hk1 : ok < 9223372036854775808) (hn : ps.length + 1 ≤ 10000000000000) (h0 : 0 < ps.length) :
    Calls Tryz.prog 5 #[.pointer (some ⟨gW, 0, none⟩), .agg #[.int .i64 4, .int .i64 oa, .int .i64 ob, .int .i64 oc, .int .i64 ok, .string os, .int .i64 x1, .int .i64 x2, .int .i64 x3, .int .i64 x4, .int .i64 x5, .int .i16 z0, .int .i16 z1, .int .i16 z2, .int .i16 z3, .int .i16 z4, .int .i16 z5, .int .i16 z6, .int .i16 z7, .slice ra rm rc]] w (NPost B N gW ps.length w) := by
  have HB : Hid _ := h.base
  have H : Hid _ := h
  clear h
  obtain ⟨W1, hW1⟩ : ∃ W1, W1 = w.alloc (.cells #[.int .i64 4, .int .i64 oa, .int .i64 ob, .int .i64 oc, .int .i64 ok, .string os, .int .i64 x1, .int .i64 x2, .int .i64 x3, .int .i64 x4, .int .i64 x5, .int .i16 z0, .int .i16 z1, .int .i16 z2, .int .i16 z3, .int .i16 z4, .int .i16 z5, .int .i16 z6, .int .i16 z7, .slice ra rm rc] 40) := ⟨_, rfl⟩
  have HBw : Hid (Below w.heap.size w W1) := by rw [hW1]; exact (Below.refl _ _).alloc (Nat.le_refl _) _
  have HBx : Hid (W1.heap[w.heap.size]? = some (.cells #[.int .i64 4, .int .i64 oa, .int .i64 ob, .int .i64 oc, .int .i64 ok, .string os, .int .i64 x1, .int .i64 x2, .int .i64 x3, .int .i64 x4, .int .i64 x5, .int .i16 z0, .int .i16 z1, .int .i16 z2, .int .i16 z3, .int .i16 z4, .int .i16 z5, .int .i16 z6, .int .i16 z7, .slice ra rm rc] 40)) := by rw [hW1]; exact heap_at rfl
  have HW1 : Hid (WldAt B N W1 gW ps lab) := H.out.below HBw.out
  obtain ⟨aC, cC, aR, cR, vH, m1, _⟩ := HW1.out.mem
  have hgW1 := (heap_cells m1).2.2
  have c0 : W1.cell? ⟨gW, 0, none⟩ = some (.slice aC ps.length cC) := by rw [(heap_cells m1).1]; rfl
  have hgW : gW < w.heap.size := by obtain ⟨_, _, _, _, _, q1, _⟩ := H.out.mem; exact (heap_cells q1).2.2
  have c0w : w.cell? ⟨gW, 0, none⟩ = some (.slice aC ps.length cC) := (HBw.out.cell (p := ⟨gW, 0, none⟩) hgW).symm.trans c0
  clear m1
  obtain ⟨n, hnn⟩ : ∃ n, ps.length = n := ⟨_, rfl⟩
  have HNn : Hid _ := hnn
  rw [hnn] at c0 c0w hn ⊢
  have hnb : ((n : Int) == 0) = false := by rw [beq_eq_false_iff_ne]; omega
  have hn0 : (0 : Int) < (n : Int) := by omega
  go_enter Tryz.func5, Tryz.ntmps5
  go_wp2
  rewrite [← hW1]
  clear c0w hW1
  obtain ⟨b0, bf, bz⟩ := heap_cells HBx.out
  have x4c : W1.cell? ⟨w.heap.size, 4, none⟩ = some (.int .i64 ok) := by rw [b0]; rfl
  clear b0 bf
  go_region_held3 (fun W => W.cell? ⟨gW, 0, none⟩ = some (.slice aC n cC) ∧ W.cell? ⟨w.heap.size, 4, none⟩ = some (.int .i64 ok))
    (first | (exact ⟨c0, x4c⟩))
    (first | (go_at_call 12; refine (lpick_any ok (n : Int) _ hk0 hk1 hn0 (by omega)).mono ?_; rintro e w1 ⟨r, rfl, hr0, hr1, rfl⟩))
  have HBd : Hid (Below w.heap.size w W1.drew) := HBw.out.drew
  have HWd : Hid (WldAt B N W1.drew gW ps lab) := HW1.out.below (Below.refl _ _).drew
  have HBy : Hid (W1.drew.heap[w.heap.size]? = some (.cells #[.int .i64 4, .int .i64 oa, .int .i64 ob, .int .i64 oc, .int .i64 ok, .string os, .int .i64 x1, .int .i64 x2, .int .i64 x3, .int .i64 x4, .int .i64 x5, .int .i16 z0, .int .i16 z1, .int .i16 z2, .int .i16 z3, .int .i16 z4, .int .i16 z5, .int .i16 z6, .int .i16 z7, .slice ra rm rc] 40)) := HBx.out
  generalize W1.drew = W2 at *
  clear HW1 HBx HBw c0 x4c bz
  obtain ⟨b0, bf, bz⟩ := heap_cells HBy.out
  obtain ⟨k, hk⟩ : ∃ k : Nat, r = (k : Int) := ⟨r.toNat, by omega⟩
  subst hk
  have hkn : k < ps.length := by rw [HNn.out]; omega
  have HFin : Hid (∀ {e : Ending} {w' : World}, NPost B N gW ps.length W2 e w' → NPost B N gW n w e w') := fun hN => by
    obtain ⟨q1, ⟨ps', lab', q2, q3⟩, q4⟩ := hN
    exact ⟨q1, ⟨ps', lab', by rw [← HNn.out]; exact q2, q3⟩, (HBd.out.mono HB.out).trans q4⟩
  go_wp2_with fail
  refine (tells_log B N gW ps lab oa os k W2 HWd.out hkn).mono ?_
  rintro e w3 hP
  have hN := HFin.out (WPost.more hP)
  obtain ⟨rfl, hN2⟩ := hN
  have HP : Hid _ := hN2
  clear hP hN2
  go_wp2
  go_ret
  exact ⟨rfl, HP.out⟩

set_option maxRecDepth 100000 in
set_option maxHeartbeats 8000000 in
theorem step_reply (B N : Nat) (gW : Nat) (ps : List Pair) (lab : Nat → Nat) (oa ob oc ok : Int) (os : ByteArray) (x1 x2 x3 x4 x5 z0 z1 z2 z3 z4 z5 z6 z7 : Int) (ra : Option Addr) (rm rc : Nat) (w : World) (h : WldAt B N w gW ps lab) (hs : os.size ≤ maxLen) (hk0 : -9223372036854775808 ≤ ok) (hk1 : ok < 9223372036854775808) (hn : ps.length + 1 ≤ 10000000000000) (h0 : 0 < ps.length) :
    Calls Tryz.prog 5 #[.pointer (some ⟨gW, 0, none⟩), .agg #[.int .i64 5, .int .i64 oa, .int .i64 ob, .int .i64 oc, .int .i64 ok, .string os, .int .i64 x1, .int .i64 x2, .int .i64 x3, .int .i64 x4, .int .i64 x5, .int .i16 z0, .int .i16 z1, .int .i16 z2, .int .i16 z3, .int .i16 z4, .int .i16 z5, .int .i16 z6, .int .i16 z7, .slice ra rm rc]] w (NPost B N gW ps.length w) := by
  have HB : Hid _ := h.base
  have H : Hid _ := h
  clear h
  obtain ⟨W1, hW1⟩ : ∃ W1, W1 = w.alloc (.cells #[.int .i64 5, .int .i64 oa, .int .i64 ob, .int .i64 oc, .int .i64 ok, .string os, .int .i64 x1, .int .i64 x2, .int .i64 x3, .int .i64 x4, .int .i64 x5, .int .i16 z0, .int .i16 z1, .int .i16 z2, .int .i16 z3, .int .i16 z4, .int .i16 z5, .int .i16 z6, .int .i16 z7, .slice ra rm rc] 40) := ⟨_, rfl⟩
  have HBw : Hid (Below w.heap.size w W1) := by rw [hW1]; exact (Below.refl _ _).alloc (Nat.le_refl _) _
  have HBx : Hid (W1.heap[w.heap.size]? = some (.cells #[.int .i64 5, .int .i64 oa, .int .i64 ob, .int .i64 oc, .int .i64 ok, .string os, .int .i64 x1, .int .i64 x2, .int .i64 x3, .int .i64 x4, .int .i64 x5, .int .i16 z0, .int .i16 z1, .int .i16 z2, .int .i16 z3, .int .i16 z4, .int .i16 z5, .int .i16 z6, .int .i16 z7, .slice ra rm rc] 40)) := by rw [hW1]; exact heap_at rfl
  have HW1 : Hid (WldAt B N W1 gW ps lab) := H.out.below HBw.out
  obtain ⟨aC, cC, aR, cR, vH, m1, _⟩ := HW1.out.mem
  have hgW1 := (heap_cells m1).2.2
  have c0 : W1.cell? ⟨gW, 0, none⟩ = some (.slice aC ps.length cC) := by rw [(heap_cells m1).1]; rfl
  have hgW : gW < w.heap.size := by obtain ⟨_, _, _, _, _, q1, _⟩ := H.out.mem; exact (heap_cells q1).2.2
  have c0w : w.cell? ⟨gW, 0, none⟩ = some (.slice aC ps.length cC) := (HBw.out.cell (p := ⟨gW, 0, none⟩) hgW).symm.trans c0
  clear m1
  obtain ⟨n, hnn⟩ : ∃ n, ps.length = n := ⟨_, rfl⟩
  have HNn : Hid _ := hnn
  rw [hnn] at c0 c0w hn ⊢
  have hnb : ((n : Int) == 0) = false := by rw [beq_eq_false_iff_ne]; omega
  have hn0 : (0 : Int) < (n : Int) := by omega
  go_enter Tryz.func5, Tryz.ntmps5
  go_wp2
  rewrite [← hW1]
  clear c0w hW1
  obtain ⟨b0, bf, bz⟩ := heap_cells HBx.out
  have x4c : W1.cell? ⟨w.heap.size, 4, none⟩ = some (.int .i64 ok) := by rw [b0]; rfl
  clear b0 bf
  go_region_held3 (fun W => W.cell? ⟨gW, 0, none⟩ = some (.slice aC n cC) ∧ W.cell? ⟨w.heap.size, 4, none⟩ = some (.int .i64 ok))
    (first | (exact ⟨c0, x4c⟩))
    (first | (go_at_call 12; refine (lpick_any ok (n : Int) _ hk0 hk1 hn0 (by omega)).mono ?_; rintro e w1 ⟨r, rfl, hr0, hr1, rfl⟩))
  have HBd : Hid (Below w.heap.size w W1.drew) := HBw.out.drew
  have HWd : Hid (WldAt B N W1.drew gW ps lab) := HW1.out.below (Below.refl _ _).drew
  have HBy : Hid (W1.drew.heap[w.heap.size]? = some (.cells #[.int .i64 5, .int .i64 oa, .int .i64 ob, .int .i64 oc, .int .i64 ok, .string os, .int .i64 x1, .int .i64 x2, .int .i64 x3, .int .i64 x4, .int .i64 x5, .int .i16 z0, .int .i16 z1, .int .i16 z2, .int .i16 z3, .int .i16 z4, .int .i16 z5, .int .i16 z6, .int .i16 z7, .slice ra rm rc] 40)) := HBx.out
  generalize W1.drew = W2 at *
  clear HW1 HBx HBw c0 x4c bz
  obtain ⟨b0, bf, bz⟩ := heap_cells HBy.out
  obtain ⟨k, hk⟩ : ∃ k : Nat, r = (k : Int) := ⟨r.toNat, by omega⟩
  subst hk
  have hkn : k < ps.length := by rw [HNn.out]; omega
  have HFin : Hid (∀ {e : Ending} {w' : World}, NPost B N gW ps.length W2 e w' → NPost B N gW n w e w') := fun hN => by
    obtain ⟨q1, ⟨ps', lab', q2, q3⟩, q4⟩ := hN
    exact ⟨q1, ⟨ps', lab', by rw [← HNn.out]; exact q2, q3⟩, (HBd.out.mono HB.out).trans q4⟩
  go_wp2_with fail
  refine (tells_reply B N gW ps lab oa os k W2 HWd.out hkn).mono ?_
  rintro e w3 hP
  have hN := HFin.out (WPost.more hP)
  obtain ⟨rfl, hN2⟩ := hN
  have HP : Hid _ := hN2
  clear hP hN2
  go_wp2
  go_ret
  exact ⟨rfl, HP.out⟩

end Go.Proofs.YtccckonckddadabGreat
namespace Go.Proofs.YtccckonckddadabGreat
open Go.RowKit
set_option linter.unusedVariables false

set_option maxRecDepth 100000 in
set_option maxHeartbeats 8000000 in
theorem step_other (B N : Nat) (gW : Nat) (ps : List Pair) (lab : Nat → Nat) (kind : Int) (oa ob oc ok : Int) (os : ByteArray) (x1 x2 x3 x4 x5 z0 z1 z2 z3 z4 z5 z6 z7 : Int) (ra : Option Addr) (rm rc : Nat) (w : World) (h : WldAt B N w gW ps lab) (hs : os.size ≤ maxLen) (hk0 : -9223372036854775808 ≤ ok) (hk1 : ok < 9223372036854775808) (hn : ps.length + 1 ≤ 10000000000000) (h0 : 0 < ps.length) (h5 : kind < 1) :
    Calls Tryz.prog 5 #[.pointer (some ⟨gW, 0, none⟩), .agg #[.int .i64 kind, .int .i64 oa, .int .i64 ob, .int .i64 oc, .int .i64 ok, .string os, .int .i64 x1, .int .i64 x2, .int .i64 x3, .int .i64 x4, .int .i64 x5, .int .i16 z0, .int .i16 z1, .int .i16 z2, .int .i16 z3, .int .i16 z4, .int .i16 z5, .int .i16 z6, .int .i16 z7, .slice ra rm rc]] w (NPost B N gW ps.length w) := by
  have n1 : (kind == 1) = false := by rw [beq_eq_false_iff_ne]; omega
  have n2 : (kind == 2) = false := by rw [beq_eq_false_iff_ne]; omega
  have n3 : (kind == 3) = false := by rw [beq_eq_false_iff_ne]; omega
  have n6 : (kind == 6) = false := by rw [beq_eq_false_iff_ne]; omega
  have n7 : (kind == 7) = false := by rw [beq_eq_false_iff_ne]; omega
  have n8 : (kind == 8) = false := by rw [beq_eq_false_iff_ne]; omega
  have n12 : (kind == 12) = false := by rw [beq_eq_false_iff_ne]; omega
  have n13 : (kind == 13) = false := by rw [beq_eq_false_iff_ne]; omega
  have n14 : (kind == 14) = false := by rw [beq_eq_false_iff_ne]; omega
  have HB : Hid _ := h.base
  have H : Hid _ := h
  clear h
  obtain ⟨W1, hW1⟩ : ∃ W1, W1 = w.alloc (.cells #[.int .i64 kind, .int .i64 oa, .int .i64 ob, .int .i64 oc, .int .i64 ok, .string os, .int .i64 x1, .int .i64 x2, .int .i64 x3, .int .i64 x4, .int .i64 x5, .int .i16 z0, .int .i16 z1, .int .i16 z2, .int .i16 z3, .int .i16 z4, .int .i16 z5, .int .i16 z6, .int .i16 z7, .slice ra rm rc] 40) := ⟨_, rfl⟩
  have HBw : Hid (Below w.heap.size w W1) := by rw [hW1]; exact (Below.refl _ _).alloc (Nat.le_refl _) _
  have HBx : Hid (W1.heap[w.heap.size]? = some (.cells #[.int .i64 kind, .int .i64 oa, .int .i64 ob, .int .i64 oc, .int .i64 ok, .string os, .int .i64 x1, .int .i64 x2, .int .i64 x3, .int .i64 x4, .int .i64 x5, .int .i16 z0, .int .i16 z1, .int .i16 z2, .int .i16 z3, .int .i16 z4, .int .i16 z5, .int .i16 z6, .int .i16 z7, .slice ra rm rc] 40)) := by rw [hW1]; exact heap_at rfl
  have HW1 : Hid (WldAt B N W1 gW ps lab) := H.out.below HBw.out
  obtain ⟨aC, cC, aR, cR, vH, m1, _⟩ := HW1.out.mem
  have hgW1 := (heap_cells m1).2.2
  have c0 : W1.cell? ⟨gW, 0, none⟩ = some (.slice aC ps.length cC) := by rw [(heap_cells m1).1]; rfl
  have hgW : gW < w.heap.size := by obtain ⟨_, _, _, _, _, q1, _⟩ := H.out.mem; exact (heap_cells q1).2.2
  have c0w : w.cell? ⟨gW, 0, none⟩ = some (.slice aC ps.length cC) := (HBw.out.cell (p := ⟨gW, 0, none⟩) hgW).symm.trans c0
  clear m1
  obtain ⟨n, hnn⟩ : ∃ n, ps.length = n := ⟨_, rfl⟩
  have HNn : Hid _ := hnn
  rw [hnn] at c0 c0w hn ⊢
  have hnb : ((n : Int) == 0) = false := by rw [beq_eq_false_iff_ne]; omega
  have hn0 : (0 : Int) < (n : Int) := by omega
  go_enter Tryz.func5, Tryz.ntmps5
  go_wp2
  rewrite [← hW1]
  clear c0w hW1
  obtain ⟨b0, bf, bz⟩ := heap_cells HBx.out
  have x4c : W1.cell? ⟨w.heap.size, 4, none⟩ = some (.int .i64 ok) := by rw [b0]; rfl
  clear b0 bf
  go_region_held3 (fun W => W.cell? ⟨gW, 0, none⟩ = some (.slice aC n cC) ∧ W.cell? ⟨w.heap.size, 4, none⟩ = some (.int .i64 ok))
    (first | (exact ⟨c0, x4c⟩))
    (first | (go_at_call 12; refine (lpick_any ok (n : Int) _ hk0 hk1 hn0 (by omega)).mono ?_; rintro e w1 ⟨r, rfl, hr0, hr1, rfl⟩))
  have HBd : Hid (Below w.heap.size w W1.drew) := HBw.out.drew
  have HWd : Hid (WldAt B N W1.drew gW ps lab) := HW1.out.below (Below.refl _ _).drew
  have HBy : Hid (W1.drew.heap[w.heap.size]? = some (.cells #[.int .i64 kind, .int .i64 oa, .int .i64 ob, .int .i64 oc, .int .i64 ok, .string os, .int .i64 x1, .int .i64 x2, .int .i64 x3, .int .i64 x4, .int .i64 x5, .int .i16 z0, .int .i16 z1, .int .i16 z2, .int .i16 z3, .int .i16 z4, .int .i16 z5, .int .i16 z6, .int .i16 z7, .slice ra rm rc] 40)) := HBx.out
  generalize W1.drew = W2 at *
  clear HW1 HBx HBw c0 x4c bz
  obtain ⟨b0, bf, bz⟩ := heap_cells HBy.out
  obtain ⟨k, hk⟩ : ∃ k : Nat, r = (k : Int) := ⟨r.toNat, by omega⟩
  subst hk
  have hkn : k < ps.length := by rw [HNn.out]; omega
  have HFin : Hid (∀ {e : Ending} {w' : World}, NPost B N gW ps.length W2 e w' → NPost B N gW n w e w') := fun hN => by
    obtain ⟨q1, ⟨ps', lab', q2, q3⟩, q4⟩ := hN
    exact ⟨q1, ⟨ps', lab', by rw [← HNn.out]; exact q2, q3⟩, (HBd.out.mono HB.out).trans q4⟩
  go_wp2_with fail
  refine (tells_other B N gW ps lab kind oa os k W2 HWd.out hkn (by omega)).mono ?_
  rintro e w3 hP
  have hN := HFin.out (WPost.more hP)
  obtain ⟨rfl, hN2⟩ := hN
  have HP : Hid _ := hN2
  clear hP hN2
  go_wp2
  go_ret
  exact ⟨rfl, HP.out⟩

end Go.Proofs.YtccckonckddadabGreat
namespace Go.Proofs.YtccckonckddadabGreat
open Go.RowKit
set_option linter.unusedVariables false

theorem info_opsize : (Tryz.prog.info? 40).map (·.size) = some 20 := by kernel_rfl

set_option maxRecDepth 100000 in
set_option maxHeartbeats 8000000 in
theorem step_submit (B N : Nat) (gW : Nat) (ps : List Pair) (lab : Nat → Nat) (oa ob oc ok : Int) (os : ByteArray) (x1 x2 x3 x4 x5 z0 z1 z2 z3 z4 z5 z6 z7 : Int) (ra : Option Addr) (rm rc : Nat) (w : World) (h : WldAt B N w gW ps lab) (hs : os.size ≤ maxLen) (hk0 : -9223372036854775808 ≤ ok) (hk1 : ok < 9223372036854775808) (hn : ps.length + 1 ≤ 10000000000000) (h0 : 0 < ps.length) :
    Calls Tryz.prog 5 #[.pointer (some ⟨gW, 0, none⟩), .agg #[.int .i64 2, .int .i64 oa, .int .i64 ob, .int .i64 oc, .int .i64 ok, .string os, .int .i64 x1, .int .i64 x2, .int .i64 x3, .int .i64 x4, .int .i64 x5, .int .i16 z0, .int .i16 z1, .int .i16 z2, .int .i16 z3, .int .i16 z4, .int .i16 z5, .int .i16 z6, .int .i16 z7, .slice ra rm rc]] w (NPost B N gW ps.length w) := by
  have HB : Hid _ := h.base
  have H : Hid _ := h
  clear h
  obtain ⟨W1, hW1⟩ : ∃ W1, W1 = w.alloc (.cells #[.int .i64 2, .int .i64 oa, .int .i64 ob, .int .i64 oc, .int .i64 ok, .string os, .int .i64 x1, .int .i64 x2, .int .i64 x3, .int .i64 x4, .int .i64 x5, .int .i16 z0, .int .i16 z1, .int .i16 z2, .int .i16 z3, .int .i16 z4, .int .i16 z5, .int .i16 z6, .int .i16 z7, .slice ra rm rc] 40) := ⟨_, rfl⟩
  have HBw : Hid (Below w.heap.size w W1) := by rw [hW1]; exact (Below.refl _ _).alloc (Nat.le_refl _) _
  have HBx : Hid (W1.heap[w.heap.size]? = some (.cells #[.int .i64 2, .int .i64 oa, .int .i64 ob, .int .i64 oc, .int .i64 ok, .string os, .int .i64 x1, .int .i64 x2, .int .i64 x3, .int .i64 x4, .int .i64 x5, .int .i16 z0, .int .i16 z1, .int .i16 z2, .int .i16 z3, .int .i16 z4, .int .i16 z5, .int .i16 z6, .int .i16 z7, .slice ra rm rc] 40)) := by rw [hW1]; exact heap_at rfl
  have HW1 : Hid (WldAt B N W1 gW ps lab) := H.out.below HBw.out
  obtain ⟨aC, cC, aR, cR, vH, m1, _⟩ := HW1.out.mem
  have hgW1 := (heap_cells m1).2.2
  have c0 : W1.cell? ⟨gW, 0, none⟩ = some (.slice aC ps.length cC) := by rw [(heap_cells m1).1]; rfl
  have hgW : gW < w.heap.size := by obtain ⟨_, _, _, _, _, q1, _⟩ := H.out.mem; exact (heap_cells q1).2.2
  have c0w : w.cell? ⟨gW, 0, none⟩ = some (.slice aC ps.length cC) := (HBw.out.cell (p := ⟨gW, 0, none⟩) hgW).symm.trans c0
  clear m1
  obtain ⟨n, hnn⟩ : ∃ n, ps.length = n := ⟨_, rfl⟩
  have HNn : Hid _ := hnn
  rw [hnn] at c0 c0w hn ⊢
  have hnb : ((n : Int) == 0) = false := by rw [beq_eq_false_iff_ne]; omega
  have hn0 : (0 : Int) < (n : Int) := by omega
  go_enter Tryz.func5, Tryz.ntmps5
  go_wp2
  rewrite [← hW1]
  clear c0w hW1
  obtain ⟨b0, bf, bz⟩ := heap_cells HBx.out
  have x4c : W1.cell? ⟨w.heap.size, 4, none⟩ = some (.int .i64 ok) := by rw [b0]; rfl
  clear b0 bf
  go_region_held3 (fun W => W.cell? ⟨gW, 0, none⟩ = some (.slice aC n cC) ∧ W.cell? ⟨w.heap.size, 4, none⟩ = some (.int .i64 ok))
    (first | (exact ⟨c0, x4c⟩))
    (first | (go_at_call 12; refine (lpick_any ok (n : Int) _ hk0 hk1 hn0 (by omega)).mono ?_; rintro e w1 ⟨r, rfl, hr0, hr1, rfl⟩))
  have HBd : Hid (Below w.heap.size w W1.drew) := HBw.out.drew
  have HWd : Hid (WldAt B N W1.drew gW ps lab) := HW1.out.below (Below.refl _ _).drew
  have HBy : Hid (W1.drew.heap[w.heap.size]? = some (.cells #[.int .i64 2, .int .i64 oa, .int .i64 ob, .int .i64 oc, .int .i64 ok, .string os, .int .i64 x1, .int .i64 x2, .int .i64 x3, .int .i64 x4, .int .i64 x5, .int .i16 z0, .int .i16 z1, .int .i16 z2, .int .i16 z3, .int .i16 z4, .int .i16 z5, .int .i16 z6, .int .i16 z7, .slice ra rm rc] 40)) := HBx.out
  generalize W1.drew = W2 at *
  clear HW1 HBx HBw c0 x4c bz
  obtain ⟨b0, bf, bz⟩ := heap_cells HBy.out
  have HRg : Hid (W2.rangeAt w.heap.size 0 [.int .i64 2, .int .i64 oa, .int .i64 ob, .int .i64 oc, .int .i64 ok, .string os, .int .i64 x1, .int .i64 x2, .int .i64 x3, .int .i64 x4, .int .i64 x5, .int .i16 z0, .int .i16 z1, .int .i16 z2, .int .i16 z3, .int .i16 z4, .int .i16 z5, .int .i16 z6, .int .i16 z7, .slice ra rm rc]) := fun j v hv => by rw [Nat.zero_add, b0, List.getElem?_toArray]; exact hv
  have y0 : W2.cell? ⟨w.heap.size, 0, none⟩ = some (.int .i64 2) := by rw [b0]; rfl
  clear b0 bf
  obtain ⟨k, hk⟩ : ∃ k : Nat, r = (k : Int) := ⟨r.toNat, by omega⟩
  subst hk
  have hkn : k < ps.length := by rw [HNn.out]; omega
  have HFin : Hid (∀ {e : Ending} {w' : World}, NPost B N gW ps.length W2 e w' → NPost B N gW n w e w') := fun hN => by
    obtain ⟨q1, ⟨ps', lab', q2, q3⟩, q4⟩ := hN
    exact ⟨q1, ⟨ps', lab', by rw [← HNn.out]; exact q2, q3⟩, (HBd.out.mono HB.out).trans q4⟩
  go_wp2_with (refine wpList_load_mid rfl 40 (.tmp 3) rfl w.heap.size 0 rfl [.int .i64 2, .int .i64 oa, .int .i64 ob, .int .i64 oc, .int .i64 ok, .string os, .int .i64 x1, .int .i64 x2, .int .i64 x3, .int .i64 x4, .int .i64 x5, .int .i16 z0, .int .i16 z1, .int .i16 z2, .int .i16 z3, .int .i16 z4, .int .i16 z5, .int .i16 z6, .int .i16 z7, .slice ra rm rc] _ HRg.out Tryz.underlying40 rfl info_opsize ?_)
  refine (does_submit' B N gW ps lab oa ob oc ok os x1 x2 x3 x4 x5 z0 z1 z2 z3 z4 z5 z6 z7 ra rm rc k W2 HWd.out hkn hs).mono ?_
  rintro e w3 hP
  have hN := HFin.out (WPost.more hP)
  obtain ⟨rfl, hN2⟩ := hN
  have HP : Hid _ := hN2
  clear hP hN2
  go_wp2
  go_ret
  exact ⟨rfl, HP.out⟩

end Go.Proofs.YtccckonckddadabGreat
