import Derived.Test.YtccckonckddadaaGreatJ16
import Derived.Test.YtccckonckddadaaGreatJ11
import Derived.Test.YtccckonckddadaaGreatJ10
import Derived.Test.YtccckonckddadaaGreatJ02
import Derived.Deep.RegionHeld3
namespace Go.Proofs.YtccckonckddadaaGreat
open Go.RowKit
set_option linter.unusedVariables false

/-! ### late -/
def lateGo (client : Int) : List Nat → CluV → List RecV → CluV × List RecV
  | [], s, l => (s, l)
  | q :: qs, s, l => match s.txs[q]? with
    | none => lateGo client qs s l
    | some t => if t.d < (s.epochs.length : Int) then lateGo client qs (endsV s q 3) (l ++ [⟨client, t.i, true, ⟨#[]⟩⟩]) else lateGo client qs s l
def lateV (s : CluV) (client : Int) : CluV × List RecV := lateGo client (queueV s.txs client) s []

theorem queue_lt (client : Int) : ∀ (l : List TxV) (k : Nat) (q : Nat), q ∈ queueFrom client k l → k ≤ q ∧ q < k + l.length
  | [], k, q, h => by simp [queueFrom] at h
  | t :: l, k, q, h => by
    rw [queueFrom] at h
    split at h
    · rcases List.mem_cons.1 h with rfl | h
      · simp
      · have := queue_lt client l (k + 1) q h
        rw [List.length_cons]; omega
    · have := queue_lt client l (k + 1) q h
      rw [List.length_cons]; omega

theorem queue_len (client : Int) : ∀ (l : List TxV) (k : Nat), (queueFrom client k l).length ≤ l.length
  | [], _ => Nat.le_refl _
  | t :: l, k => by
    have := queue_len client l (k + 1)
    rw [queueFrom]
    split
    · rw [List.length_cons, List.length_cons]; omega
    · rw [List.length_cons]; omega

theorem late_no {client : Int} {q : List Nat} {k x : Nat} {s : CluV} {l : List RecV} {t : TxV} (hk : q[k]? = some x) (hx : s.txs[x]? = some t) (hd : ¬ t.d < (s.epochs.length : Int)) : lateGo client (q.drop k) s l = lateGo client (q.drop (k + 1)) s l := by
  obtain ⟨hkl, rfl⟩ := List.getElem?_eq_some_iff.1 hk
  rw [List.drop_eq_getElem_cons hkl, lateGo, hx]
  simp only
  rw [if_neg hd]
theorem late_yes {client : Int} {q : List Nat} {k x : Nat} {s : CluV} {l : List RecV} {t : TxV} (hk : q[k]? = some x) (hx : s.txs[x]? = some t) (hd : t.d < (s.epochs.length : Int)) : lateGo client (q.drop k) s l = lateGo client (q.drop (k + 1)) (endsV s x 3) (l ++ [⟨client, t.i, true, ⟨#[]⟩⟩]) := by
  obtain ⟨hkl, rfl⟩ := List.getElem?_eq_some_iff.1 hk
  rw [List.drop_eq_getElem_cons hkl, lateGo, hx]
  simp only
  rw [if_pos hd]

/-- Where a round of late stands. -/
structure LateAt (w wr : World) (g : Nat) (F : Nat → Prop) (s0 s : CluV) (client : Int) (q : List Nat) (aQ : Option Addr) (cQ k : Nat) (l : List RecV) (a : Option Addr) (m c : Nat) : Prop where
  clu : CluAt wr g F s
  kept : Kept F w wr
  len : l.length = m
  small : ∀ r ∈ l, r.t.size ≤ maxLen
  own : wr.ownsRow w.heap.size 83 4 (.slice a m c) m (recsCells l)
  qown : wr.ownsRow w.heap.size 3 1 (.slice aQ q.length cQ) q.length (natCells q)
  left : lateGo client q s0 [] = lateGo client (q.drop k) s l
  same : s.txs.length = s0.txs.length ∧ s.epochs.length = s0.epochs.length
  apart : ∀ x, (Value.slice a m c).ownBlock = some x → (Value.slice aQ q.length cQ).ownBlock ≠ some x

theorem nat_cell {w : World} {B n c : Nat} {a : Option Addr} {q : List Nat} (h : w.ownsRow B 3 1 (.slice a n c) n (natCells q)) {k x : Nat} (hk : q[k]? = some x) (hn : k < n) : ∃ g, a = some ⟨g, 0, none⟩ ∧ g < w.heap.size ∧ w.cell? ⟨g, k, none⟩ = some (.int .i64 (x : Int)) := by
  obtain ⟨g, rfl, hg, hc, _⟩ := own_cell h (by omega)
  refine ⟨g, rfl, hg, hc k _ ?_⟩
  unfold natCells
  rw [List.getElem?_map, hk]; rfl

theorem own_kept {F : Nat → Prop} {w wr wr' : World} {e size n : Nat} {v : Value} {xs : List Value} (h : wr.ownsRow w.heap.size e size v n xs) (hk : Kept F wr wr') (hF : ∀ k, F k → k < w.heap.size) : wr'.ownsRow w.heap.size e size v n xs :=
  own_same h (fun k hk' => hk.block k (h.lt k hk').2 (fun hf => by have := hF k hf; have := (h.lt k hk').1; omega))

def LatePost (g : Nat) (F : Nat → Prop) (x : CluV × List RecV) (w : World) (e : Ending) (w' : World) : Prop :=
  ∃ (a : Option Addr) (m c : Nat), e = .returned (.slice a m c) ∧ CluAt w' g F x.1 ∧ Kept F w w' ∧ x.2.length = m ∧ (∀ r ∈ x.2, r.t.size ≤ maxLen) ∧ w'.ownsRow w.heap.size 83 4 (.slice a m c) m (recsCells x.2)

set_option maxRecDepth 100000 in
set_option maxHeartbeats 4000000 in
theorem late_any (g : Nat) (F : Nat → Prop) (s : CluV) (client : Int) (w : World) (h : CluAt w g F s) :
    Calls Tryz.prog 73 #[.pointer (some ⟨g, 0, none⟩), .int .i64 client] w (LatePost g F (lateV s client) w) := by
  obtain ⟨ti, hi, hz0, hz1, hz2⟩ := info_parts info_rec
  have HI : Hid (_ ∧ _ ∧ _ ∧ _) := ⟨hi, hz0, hz1, hz2⟩
  clear hi hz0 hz1 hz2
  have hFw := h.own
  have HFw : Hid _ := hFw
  have hfew := h.fit.few
  have H : Hid _ := h
  clear h hFw
  go_enter Tryz.func73, Tryz.ntmps73
  go_wp2_with fail
  refine (queue_any g F s client _ H.out).mono ?_
  rintro e w1 ⟨aQ, cQ, rfl, hQ⟩
  have HV : Hid (lateV s client = lateGo client (queueV s.txs client) s []) := rfl
  have HQM : Hid ((queueV s.txs client).length ≤ 1000000) := Nat.le_trans (queue_len client s.txs 0) hfew
  have HLt : Hid (∀ x ∈ queueV s.txs client, x < s.txs.length) := fun x hx => by have := queue_lt client s.txs 0 x hx; omega
  generalize queueV s.txs client = q at *
  have H0 : Hid (LateAt w w1 g F s s client q aQ cQ 0 [] none 0 0) := ⟨H.out.below hQ.bel, Kept.of hQ.bel, rfl, by simp, World.ownsRow_nil _ _ _ _, hQ.own, rfl, ⟨rfl, rfl⟩, (fun x hx => by cases hx)⟩
  clear hQ
  go_wp2
  go_loopw [5, 7] (fun v5 v7 wr => ∃ (k m c : Nat) (a : Option Addr) (s' : CluV) (l : List RecV), v5 = .slice a m c ∧ v7 = .int .i64 k ∧ k ≤ q.length ∧ m ≤ k ∧ Hid (LateAt w wr g F s s' client q aQ cQ k l a m c)) (fun _ v7 _ => q.length - (intOf v7).toNat)
  case atStart => exact ⟨0, 0, 0, none, s, [], rfl, rfl, Nat.zero_le _, Nat.le_refl _, H0⟩
  case round =>
    obtain ⟨k, m, c, a, s', l, rfl, rfl, hk, hmk, HL⟩ := hrel
    have hqM : q.length ≤ 1000000 := HQM.out
    by_cases hlt : k < q.length
    · have hqk := List.getElem?_eq_getElem hlt
      obtain ⟨gQ, rfl, hgQ, d0⟩ := nat_cell HL.out.qown hqk hlt
      have hxl : q[k] < s'.txs.length := by rw [HL.out.same.1]; exact HLt.out _ (List.getElem_mem hlt)
      have htx := List.getElem?_eq_getElem hxl
      obtain ⟨aT, aE, cT, cE, eas, m1, m2, m3, _⟩ := HL.out.clu.mem
      obtain ⟨gT, rfl, hgT, t0, t1, t2, t3, t4, t5, _⟩ := own_tx m2 htx hxl
      have c5 : wr.cell? ⟨g, 5, none⟩ = some (.slice (some ⟨gT, 0, none⟩) s'.txs.length cT) := by rw [(heap_cells m1).1]; rfl
      have c15 : wr.cell? ⟨g, 15, none⟩ = some (.slice aE s'.epochs.length cE) := by
        rw [(heap_cells m1).1, List.getElem?_toArray]
        exact clu_epochs HL.out.clu.fit.credit
      have hg := HL.out.clu.block
      have HTx : Hid _ := htx
      have HQk : Hid _ := hqk
      have HPt : Hid (s'.txs[q[k]].t.size ≤ 60) := by
        have := HL.out.clu.fit.tx _ (List.mem_of_getElem? htx)
        have h2 := parse_len this.1
        rw [len_list] at h2
        exact h2
      clear m1 m2 m3 htx hqk
      generalize s'.txs[q[k]] = t at *
      generalize q[k] = x at *
      have x1 : (x : Int) < (s'.txs.length : Int) := by omega
      have x0 : (0 : Int) ≤ (x : Int) := by omega
      have k1 : (k : Int) < (q.length : Int) := by omega
      have k0 : (0 : Int) ≤ (k : Int) := by omega
      obtain ⟨tc, tid, tt, td, ts, te⟩ := t
      simp only at t0 t1 t2 t3 t4 t5
      go_wp2
      go_region_held3 (fun W => Below wr.heap.size wr W ∧ (∀ b x, b < wr.heap.size → W.cell? ⟨b, x, none⟩ = wr.cell? ⟨b, x, none⟩))
        (first | (with_reducible exact doS_0) | (with_reducible exact doS_1)) (fail)
      have HX : Hid ((wr.alloc (.cells #[.int .i64 tc, .int .i64 tid, .string tt, .int .i64 td, .int .i64 ts, .int .i64 te] 115)).drew.heap[wr.heap.size]? = some (.cells #[.int .i64 tc, .int .i64 tid, .string tt, .int .i64 td, .int .i64 ts, .int .i64 te] 115) ∧ Below wr.heap.size wr (wr.alloc (.cells #[.int .i64 tc, .int .i64 tid, .string tt, .int .i64 td, .int .i64 ts, .int .i64 te] 115)).drew) :=
        ⟨heap_at rfl, ((Below.refl _ _).alloc (Nat.le_refl _) _).drew⟩
      generalize (wr.alloc (.cells #[.int .i64 tc, .int .i64 tid, .string tt, .int .i64 td, .int .i64 ts, .int .i64 te] 115)).drew = W2 at *
      have v15 := (HX.out.2.cell (p := ⟨g, 15, none⟩) hg).trans c15
      have vq := (HX.out.2.cell (p := ⟨gQ, k, none⟩) hgQ).trans d0
      have hgW : g < W2.heap.size := Nat.lt_of_lt_of_le hg HX.out.2.size
      have hgQW : gQ < W2.heap.size := Nat.lt_of_lt_of_le hgQ HX.out.2.size
      have HCl : Hid (CluAt W2 g F s') := HL.out.clu.below HX.out.2
      have HKw : Hid (Kept F w W2) := HL.out.kept.trans (G := fun _ => False) (Kept.of HX.out.2) (fun _ _ hh => hh.elim)
      have hzr : w.heap.size ≤ wr.heap.size := HL.out.kept.size
      have hgxF : Hid (¬ F wr.heap.size) := fun hf => by have := HFw.out _ hf; omega
      obtain ⟨b0, bf, bz⟩ := heap_cells HX.out.1
      have HO2 : Hid (W2.ownsRow w.heap.size 83 4 (.slice a m c) m (recsCells l)) := own_below HL.out.own HX.out.2
      have HQ2 : Hid (W2.ownsRow w.heap.size 3 1 (.slice (some ⟨gQ, 0, none⟩) q.length cQ) q.length (natCells q)) := own_below HL.out.qown HX.out.2
      generalize hgx : wr.heap.size = gx at *
      clear t0 t1 t2 t3 t4 t5 c5 c15 d0
      obtain ⟨ne, hne⟩ : ∃ x, s'.epochs.length = x := ⟨_, rfl⟩
      rw [hne] at v15
      have HNe : Hid _ := hne
      clear hne
      by_cases hd : td < (ne : Int)
      · have HS : Hid _ := late_yes (client := client) (l := l) HQk.out HTx.out (by rw [HNe.out]; exact hd)
        have b3 : W2.cell? ⟨gx, 3, none⟩ = some (.int .i64 td) := by rw [b0]; rfl
        go_wp2
        go_region_held3 (fun W => W.cell? ⟨g, 15, none⟩ = some (.slice aE ne cE) ∧ W.cell? ⟨gx, 3, none⟩ = some (.int .i64 td)) (exact ⟨v15, b3⟩) (fail)
        have HB3 : Hid (Below W2.heap.size W2 W2.drew) := (Below.refl _ _).drew
        have HC3 : Hid (CluAt W2.drew g F s') := HCl.out.below HB3.out
        have HK3 : Hid (Kept F w W2.drew) := HKw.out.trans (G := fun _ => False) (Kept.of HB3.out) (fun _ _ hh => hh.elim)
        have HO3 : Hid (W2.drew.ownsRow w.heap.size 83 4 (.slice a m c) m (recsCells l)) := own_below HO2.out HB3.out
        have HQ3 : Hid (W2.drew.ownsRow w.heap.size 3 1 (.slice (some ⟨gQ, 0, none⟩) q.length cQ) q.length (natCells q)) := own_below HQ2.out HB3.out
        have HX3 : Hid (W2.drew.heap[gx]? = some (.cells #[.int .i64 tc, .int .i64 tid, .string tt, .int .i64 td, .int .i64 ts, .int .i64 te] 115)) := HX.out.1
        have vq3 : W2.drew.cell? ⟨gQ, k, none⟩ = some (.int .i64 (x : Int)) := vq
        have hgQ3 : gQ < W2.drew.heap.size := hgQW
        have hgx3 : gx < W2.drew.heap.size := bz
        have hz3 : w.heap.size ≤ W2.drew.heap.size := HK3.out.size
        generalize W2.drew = W3 at *
        clear v15 vq b0 bf b3 HB3 HCl HKw HO2 HQ2 HX hgW hgQW bz
        go_wp2_with fail
        refine (ends_any g F s' x ⟨tc, tid, tt, td, ts, te⟩ 3 _ HC3.out HTx.out).mono ?_
        rintro e w4 ⟨rfl, hC4, hK4⟩
        have hb4 : w4.heap[gx]? = _ := (hK4.block gx hgx3 hgxF.out).trans HX3.out
        obtain ⟨y0, yf, yz⟩ := heap_cells hb4
        have y1 : w4.cell? ⟨gx, 1, none⟩ = some (.int .i64 tid) := by rw [y0]; rfl
        have HC4 : Hid _ := hC4
        have HK4 : Hid (Kept F w w4) := HK3.out.trans hK4 (fun _ _ hf => hf)
        have HO4 : Hid (w4.ownsRow w.heap.size 83 4 (.slice a m c) m (recsCells l)) := own_kept HO3.out hK4 HFw.out
        have HQ4 : Hid (w4.ownsRow w.heap.size 3 1 (.slice (some ⟨gQ, 0, none⟩) q.length cQ) q.length (natCells q)) := own_kept HQ3.out hK4 HFw.out
        have hz4 : w.heap.size ≤ w4.heap.size := HK4.out.size
        clear hC4 hK4 hb4 y0 vq3
        go_wp2_with (at_builtin; refine wpList_append_lies _ rfl (.tmp 42) (.tmp 47) 36 rfl w.heap.size 83 ti (.agg #[.int .i64 0, .int .i64 0, .bool false, .string ⟨#[]⟩]) 4 40 Tryz.underlying36 HI.out.1 HI.out.2.1 HI.out.2.2.1 HI.out.2.2.2 rfl (by decide) (.slice a m c) m (recsCells l) rfl (HO4.out.alloc _) ⟨w4.heap.size, 0, none⟩ 1 1 [.int .i64 client, .int .i64 tid, .bool true, .string ⟨#[]⟩] rfl rfl ?c1 ?c2 ?c3 ?c4 ?c5 ?c6 _ rfl ?_)
        try (case c1 => exact cells_new _ _ rfl [.int .i64 client, .int .i64 tid, .bool true, .string ⟨#[]⟩] _)
        try (case c2 => intro u hu; simp at hu; rcases hu with rfl | rfl | rfl | rfl <;> rfl)
        try (case c3 => decide)
        try (case c4 => unfold maxLen; omega)
        try (case c5 => omega)
        try (case c6 => first | omega | (simp; omega))
        intro gN cap w7 hown7 hgr7 hat7 hlt7
        have hzx : (w4.alloc (.cells #[.int .i64 client, .int .i64 tid, .bool true, .string ⟨#[]⟩] 83)).heap.size = w4.heap.size + 1 := by simp
        have hrow : ∀ y, (Value.slice a m c).ownBlock = some y → w.heap.size ≤ y ∧ y < w4.heap.size := HO4.out.lt
        have hsame7 : ∀ y, y < w4.heap.size → (Value.slice a m c).ownBlock ≠ some y → w7.heap[y]? = w4.heap[y]? := fun y hy hne => (hgr7.block y (by rw [hzx]; omega) (fun hh => hne hh.symm)).trans (heap_old hy)
        have HC7 : Hid (CluAt w7 g F (endsV s' x 3)) := HC4.out.same (by have := hgr7.size; rw [hzx] at this; omega) (fun y hy => hsame7 y (HC4.out.own y hy) (fun hh => by have := (hrow y hh).1; have := HFw.out y hy; omega))
        have HK7 : Hid (Kept F w w7) := (HK4.out.trans (G := fun _ => False) (Kept.of ((Below.refl _ _).alloc (Nat.le_refl _) _)) (fun _ _ hh => hh.elim)).grown hgr7 (fun y hy => .inr (hrow y hy).1)
        have HQ7 : Hid (w7.ownsRow w.heap.size 3 1 (.slice (some ⟨gQ, 0, none⟩) q.length cQ) q.length (natCells q)) := own_same HQ4.out (fun y hy => hsame7 y (HQ4.out.lt y hy).2 (fun hh => HL.out.apart y hh hy))
        have HAp : Hid (∀ y, (Value.slice (some ⟨gN, 0, none⟩) (m + 1) cap).ownBlock = some y → (Value.slice (some ⟨gQ, 0, none⟩) q.length cQ).ownBlock ≠ some y) := by
          intro y hy hh
          have e1 : gN = y := by simpa [Value.ownBlock] using hy
          subst e1
          rcases hat7 with h8 | h8
          · exact HL.out.apart _ h8 hh
          · have := (HQ4.out.lt gN hh).2
            first | omega | (rw [hzx] at h8; omega) | (simp at h8; omega)
        have HN : Hid (LateAt w w7 g F s (endsV s' x 3) client q (some ⟨gQ, 0, none⟩) cQ (k + 1) (l ++ [⟨client, tid, true, ⟨#[]⟩⟩]) (some ⟨gN, 0, none⟩) (m + 1) cap) := by
          refine ⟨HC7.out, HK7.out, by rw [List.length_append, HL.out.len]; rfl, ?_, ?_, HQ7.out, HL.out.left.trans HS.out, ?_, HAp.out⟩
          · intro r hr
            rcases List.mem_append.1 hr with hr | hr
            · exact HL.out.small r hr
            · have : r = ⟨client, tid, true, ⟨#[]⟩⟩ := by simpa using hr
              subst this
              exact Nat.zero_le _
          · rw [recsCells_snoc]; exact hown7
          · refine ⟨?_, HL.out.same.2⟩
            show (s'.txs.modify x _).length = _
            rw [List.length_modify]; exact HL.out.same.1
        clear hown7 hgr7 hat7 hlt7 hrow hsame7 y1 yf yz
        go_wp2
        go_roundw
        case rel => exact ⟨k + 1, m + 1, cap, some ⟨gN, 0, none⟩, _, _, rfl, by go_num, by omega, by omega, HN⟩
        case measure => simp [intOf]; omega
      · have HS : Hid _ := late_no (client := client) (l := l) HQk.out HTx.out (by rw [HNe.out]; exact hd)
        have b3 : W2.cell? ⟨gx, 3, none⟩ = some (.int .i64 td) := by rw [b0]; rfl
        go_wp2
        go_region_held3 (fun W => W.cell? ⟨g, 15, none⟩ = some (.slice aE ne cE) ∧ W.cell? ⟨gx, 3, none⟩ = some (.int .i64 td)) (exact ⟨v15, b3⟩) (fail)
        have HB3 : Hid (Below W2.heap.size W2 W2.drew) := (Below.refl _ _).drew
        have HN : Hid (LateAt w W2.drew g F s s' client q (some ⟨gQ, 0, none⟩) cQ (k + 1) l a m c) :=
          ⟨HCl.out.below HB3.out, HKw.out.trans (G := fun _ => False) (Kept.of HB3.out) (fun _ _ hh => hh.elim), HL.out.len, HL.out.small, own_below HO2.out HB3.out, own_below HQ2.out HB3.out, HL.out.left.trans HS.out, HL.out.same, HL.out.apart⟩
        generalize W2.drew = W3 at *
        clear v15 vq b0 bf b3
        go_wp2
        go_roundw
        case rel => exact ⟨k + 1, m, c, a, s', l, rfl, by go_num, by omega, by omega, HN⟩
        case measure => simp [intOf]; omega
    · have HE : Hid (lateV s client = (s', l)) := by
        show _ = _
        rw [HV.out, HL.out.left, List.drop_of_length_le (by omega)]
        rfl
      have hkq : k = q.length := by omega
      subst hkq
      go_wp2
      go_ret
      exact ⟨a, m, c, rfl, by rw [HE.out]; exact HL.out.clu, HL.out.kept, by rw [HE.out]; exact HL.out.len, by rw [HE.out]; exact HL.out.small, by rw [HE.out]; exact HL.out.own⟩

end Go.Proofs.YtccckonckddadaaGreat
namespace Go.Proofs.YtccckonckddadaaGreat
open Go.RowKit
set_option linter.unusedVariables false

/-! ### Cost, front -/
def costV (t : ByteArray) : Nat := (Dk.splitAll 59 (Dk.cutAt 124 t.data.toList).2.1).length

theorem cost_any (t : ByteArray) (w : World) (ht : t.size ≤ maxLen) (hok : Dk.parseOk t.data.toList = true) :
    Calls Tryz.prog 101 #[.string t] w fun e w' => e = .returned (.int .i64 (costV t : Int)) ∧ Below w.heap.size w w' := by
  have HK : Hid _ := hok
  clear hok
  go_enter Tryz.func101, Tryz.ntmps101
  go_wp2_with fail
  refine (parts_any t _ ht).mono ?_
  rintro e w1 ⟨mk, a, n, c, ps, rfl, hy, _, hB⟩
  have HN : Hid (n = costV t) := by
    show _ = _
    obtain ⟨_, h2, h3, _⟩ := hy HK.out
    unfold costV
    rw [← h3, h2]
    unfold lists
    rw [List.length_map]
  have HB : Hid _ := hB
  clear hy hB
  go_wp2
  go_ret
  exact ⟨by rw [← HN.out]; rfl, HB.out⟩

theorem split_pos (l : List UInt8) : 1 ≤ (Dk.splitAll 59 l).length := by
  rw [Dk.splitAll_cut 59 l]
  simp
theorem cost_le {t : ByteArray} (hok : Dk.parseOk t.data.toList = true) : 1 ≤ costV t ∧ costV t ≤ 8 := by
  refine ⟨split_pos _, ?_⟩
  unfold Dk.parseOk at hok
  rw [Bool.and_eq_true] at hok
  have h := hok.2
  unfold Dk.opsOk at h
  rw [Bool.and_eq_true, decide_eq_true_eq] at h
  exact h.1

def frontV (s : CluV) (client : Nat) (room : Int) : Int :=
  match queueV s.txs client with
  | [] => -1
  | q :: _ => match s.txs[q]? with
    | none => -1
    | some t => if s.credit.getD client 0 < (costV t.t : Int) ∨ room < (costV t.t : Int) then (-1 : Int) else (q : Int)

set_option maxRecDepth 100000 in
set_option maxHeartbeats 4000000 in
theorem front_any (g : Nat) (F : Nat → Prop) (s : CluV) (client : Nat) (room : Int) (w : World) (h : CluAt w g F s) (hc : client < 8) :
    Calls Tryz.prog 100 #[.pointer (some ⟨g, 0, none⟩), .int .i64 client, .int .i64 room] w fun e w' => e = .returned (.int .i64 (frontV s client room)) ∧ Below w.heap.size w w' := by
  have hg := h.block
  have hfew := h.fit.few
  have H : Hid _ := h
  clear h
  go_enter Tryz.func100, Tryz.ntmps100
  go_wp2_with fail
  refine (queue_any g F s client _ H.out).mono ?_
  rintro e w1 ⟨aQ, cQ, rfl, hQ⟩
  have HV : Hid (frontV s client room = match queueV s.txs client with | [] => -1 | q :: _ => match s.txs[q]? with | none => -1 | some t => if s.credit.getD client 0 < (costV t.t : Int) ∨ room < (costV t.t : Int) then (-1 : Int) else (q : Int)) := rfl
  have HQM : Hid ((queueV s.txs client).length ≤ 1000000) := Nat.le_trans (queue_len client s.txs 0) hfew
  have HLt : Hid (∀ x ∈ queueV s.txs client, x < s.txs.length) := fun x hx => by have := queue_lt client s.txs 0 x hx; omega
  generalize queueV s.txs client = q at *
  have hqM := HQM.out
  have HQ : Hid _ := hQ
  clear hQ
  cases q with
  | nil =>
    have HF : Hid (frontV s client room = -1) := HV.out
    clear HV HLt
    go_wp2
    go_ret
    exact ⟨by rw [HF.out]; rfl, HQ.out.bel⟩
  | cons x qs =>
    have hxl : x < s.txs.length := HLt.out x (by simp)
    have htx := List.getElem?_eq_getElem hxl
    obtain ⟨gQ, rfl, hgQ, d0⟩ := nat_cell (k := 0) (x := x) HQ.out.own rfl (by simp)
    have hB := HQ.out.bel
    obtain ⟨aT, aE, cT, cE, eas, m1, m2, m3, _⟩ := (H.out.below hB).mem
    obtain ⟨gT, rfl, hgT, _, _, t2, _⟩ := own_tx m2 htx hxl
    have c5 : w1.cell? ⟨g, 5, none⟩ = some (.slice (some ⟨gT, 0, none⟩) s.txs.length cT) := by rw [(heap_cells m1).1]; rfl
    have hcl : client < s.credit.length := by rw [H.out.fit.credit]; exact hc
    have hcr := List.getElem?_eq_getElem hcl
    have ccr : w1.cell? ⟨g, 6 + client, none⟩ = some (.int .i64 s.credit[client]) := by
      rw [(heap_cells m1).1, List.getElem?_toArray]
      exact clu_credit H.out.fit.credit hcr
    have hpt := (H.out.fit.tx _ (List.mem_of_getElem? htx)).1
    have hsz : s.txs[x].t.size ≤ maxLen := by
      have h2 := parse_len hpt
      rw [len_list] at h2
      unfold maxLen; omega
    have HV2 : Hid (frontV s client room = if s.credit[client] < (costV s.txs[x].t : Int) ∨ room < (costV s.txs[x].t : Int) then (-1 : Int) else (x : Int)) := by
      show _ = _
      rw [HV.out]
      simp only [htx]
      rw [List.getD_eq_getElem?_getD, hcr]; rfl
    have hg1 : g < w1.heap.size := Nat.lt_of_lt_of_le hg hB.size
    have HB : Hid _ := hB
    have HPt : Hid (_ ∧ _) := ⟨hpt, hsz⟩
    have HQ2 : Hid (Dk.parseOk s.txs[x].t.data.toList = true → True) := fun _ => trivial
    clear m1 m2 m3 htx hcr hpt hsz HV HLt hB HQ2
    generalize s.credit[client] = cr at *
    generalize s.txs[x].t = t at *
    have x1 : (x : Int) < (s.txs.length : Int) := by omega
    have x0 : (0 : Int) ≤ (x : Int) := by omega
    have hcI : (client : Int) < 8 := by omega
    have hcI0 : (0 : Int) ≤ (client : Int) := by omega
    have hql : 0 < (x :: qs).length := by simp
    generalize (x :: qs).length = ql at *
    have hqb : ((ql : Int) == 0) = false := by rw [beq_eq_false_iff_ne]; omega
    have hqI : (0 : Int) < (ql : Int) := by omega
    go_wp2
    go_region_held3 (fun W => Below w1.heap.size w1 W ∧ (∀ b x, b < w1.heap.size → W.cell? ⟨b, x, none⟩ = w1.cell? ⟨b, x, none⟩))
      (first | (with_reducible exact doS_0) | (with_reducible exact doS_2 ‹_›))
      (first | (go_at_call 101; refine (cost_any t _ HPt.out.2 HPt.out.1).mono ?_; rintro e w9 ⟨rfl, hB9⟩))
    have hB10 := (doS_2 hB9).1
    have f0 := (hB10.cell (p := ⟨gQ, 0, none⟩) hgQ).trans d0
    have fcr := (hB10.cell (p := ⟨g, 6 + client, none⟩) hg1).trans ccr
    have hg9 : g < w9.heap.size := Nat.lt_of_lt_of_le hg1 hB10.size
    have hgQ9 : gQ < w9.heap.size := Nat.lt_of_lt_of_le hgQ hB10.size
    have HB9 : Hid (Below w.heap.size w w9) := HB.out.trans (hB10.mono HB.out.size)
    clear hB9 hB10 c5 t2
    generalize costV t = co at *
    by_cases h1 : cr < (co : Int)
    · have HF : Hid (frontV s client room = -1) := by
        show _ = _
        rw [HV2.out, if_pos (.inl h1)]
      clear HV2
      go_wp2
      go_ret
      exact ⟨by rw [HF.out]; rfl, HB9.out⟩
    · have h1' : (co : Int) ≤ cr := by omega
      by_cases h2 : room < (co : Int)
      · have HF : Hid (frontV s client room = -1) := by
          show _ = _
          rw [HV2.out, if_pos (.inr h2)]
        clear HV2
        go_wp2
        go_ret
        exact ⟨by rw [HF.out]; rfl, HB9.out⟩
      · have h2' : (co : Int) ≤ room := by omega
        have HF : Hid (frontV s client room = (x : Int)) := by
          show _ = _
          rw [HV2.out, if_neg (by omega)]
        clear HV2
        go_wp2
        go_ret
        exact ⟨by rw [HF.out]; rfl, HB9.out⟩

end Go.Proofs.YtccckonckddadaaGreat
namespace Go.Proofs.YtccckonckddadaaGreat
open Go.RowKit
set_option linter.unusedVariables false

/-! ### A cluster's own block is written -/
theorem clu_block {w w' : World} {g : Nat} {F : Nat → Prop} {s s' : CluV} (h : CluAt w g F s) (hfit : CluFit s') (ht : s'.txs = s.txs) (he : s'.epochs = s.epochs) (hsz : w.heap.size ≤ w'.heap.size) (hother : ∀ k, k ≠ g → k < w.heap.size → w'.heap[k]? = w.heap[k]?)
    (hblk : ∀ vT vE, w.heap[g]? = some (.cells (cluCells s vT vE).toArray 113) → w'.heap[g]? = some (.cells (cluCells s' vT vE).toArray 113)) : CluAt w' g F s' := by
  obtain ⟨aT, aE, cT, cE, eas, h1, h2, h3, h4, h5, h6, h7⟩ := h.mem
  refine ⟨hfit, h.gF, fun k hk => Nat.lt_of_lt_of_le (h.own k hk) hsz, aT, aE, cT, cE, eas, ?_, ?_, ?_, ?_, ?_, ?_, ?_⟩
  · rw [ht, he]; exact hblk _ _ h1
  · rw [ht]; exact own_same h2 (fun k hk => hother k (h3 k hk).2 (h.own k (h3 k hk).1))
  · rw [ht]; exact h3
  · rw [he]; exact own_same h4 (fun k hk => hother k (h5 k hk).2.1 (h.own k (h5 k hk).1))
  · rw [ht, he]; exact h5
  · rw [he]; exact h6
  · rw [ht, he]
    intro i a rs ha hr
    obtain ⟨r1, r2⟩ := h7 i a rs ha hr
    exact ⟨r1.same hsz (fun ad had => hother _ (r2 ad had).2.1 (h.own _ (r2 ad had).1)), r2⟩

theorem clu_put {w : World} {g : Nat} {F : Nat → Prop} {s s' : CluV} (h : CluAt w g F s) (hfit : CluFit s') (ht : s'.txs = s.txs) (he : s'.epochs = s.epochs) {j : Nat} {v : Value} (hs : ∀ vT vE, (cluCells s vT vE).set j v = cluCells s' vT vE) :
    CluAt (w.setCell ⟨g, j, none⟩ v) g F s' ∧ Kept F w (w.setCell ⟨g, j, none⟩ v) := by
  refine ⟨clu_block h hfit ht he (by simp [World.setCell]) (fun k hk _ => Below.heap_setCell _ _ _ _ (by exact hk)) (fun vT vE hb => ?_), (Kept.refl F w).set (.inl h.gF) _⟩
  rw [heap_set hb, List.setIfInBounds_toArray, hs]

/-! ### A client's credit -/
def credV (s : CluV) (c : Nat) (x : Int) : CluV := { s with credit := s.credit.set c x }
theorem fit_cred {s : CluV} (h : CluFit s) {c : Nat} {x : Int} (hx : 0 ≤ x ∧ x ≤ 8 * ((s.epochs.length : Int) + 1)) : CluFit (credV s c x) := by
  refine ⟨h.conf, ?_, h.cells, h.reps, h.many, h.first0, h.first1, h.few, h.tx, h.once, h.ep, h.c16, ?_⟩
  · show (s.credit.set c x).length = 8
    rw [List.length_set]; exact h.credit
  · intro y hy
    rcases List.mem_or_eq_of_mem_set hy with hy | rfl
    · exact h.cr y hy
    · exact hx
theorem clu_cred {w : World} {g : Nat} {F : Nat → Prop} {s : CluV} (h : CluAt w g F s) {c : Nat} (hc : c < 8) {x : Int} (hx : 0 ≤ x ∧ x ≤ 8 * ((s.epochs.length : Int) + 1)) :
    CluAt (w.setCell ⟨g, 6 + c, none⟩ (.int .i64 x)) g F (credV s c x) ∧ Kept F w (w.setCell ⟨g, 6 + c, none⟩ (.int .i64 x)) :=
  clu_put h (fit_cred h.fit hx) rfl rfl (fun vT vE => clu_set_credit h.fit.credit hc x)

/-! ### The sequencer's cells -/
def cellsV (s : CluV) (l : List Int) : CluV := { s with cells := l }
theorem fit_cells {s : CluV} (h : CluFit s) {l : List Int} (hl : l.length = 8) (h16 : Dk.All16 l) : CluFit (cellsV s l) :=
  ⟨h.conf, h.credit, hl, h.reps, h.many, h.first0, h.first1, h.few, h.tx, h.once, h.ep, h16, h.cr⟩

theorem list8' {α : Type} (l : List α) (h : l.length = 8) : ∃ a0 a1 a2 a3 a4 a5 a6 a7, l = [a0, a1, a2, a3, a4, a5, a6, a7] := by
  match l, h with
  | [a0, a1, a2, a3, a4, a5, a6, a7], _ => exact ⟨a0, a1, a2, a3, a4, a5, a6, a7, rfl⟩

theorem clu_cellsput {w : World} {g : Nat} {F : Nat → Prop} {s : CluV} (h : CluAt w g F s) (y0 y1 y2 y3 y4 y5 y6 y7 : Int) (h16 : Dk.All16 [y0, y1, y2, y3, y4, y5, y6, y7]) :
    CluAt ((((((((w.setCell ⟨g, 16, none⟩ (.int .i64 y0)).setCell ⟨g, 17, none⟩ (.int .i64 y1)).setCell ⟨g, 18, none⟩ (.int .i64 y2)).setCell ⟨g, 19, none⟩ (.int .i64 y3)).setCell ⟨g, 20, none⟩ (.int .i64 y4)).setCell ⟨g, 21, none⟩ (.int .i64 y5)).setCell ⟨g, 22, none⟩ (.int .i64 y6)).setCell ⟨g, 23, none⟩ (.int .i64 y7)) g F (cellsV s [y0, y1, y2, y3, y4, y5, y6, y7]) ∧
    Kept F w ((((((((w.setCell ⟨g, 16, none⟩ (.int .i64 y0)).setCell ⟨g, 17, none⟩ (.int .i64 y1)).setCell ⟨g, 18, none⟩ (.int .i64 y2)).setCell ⟨g, 19, none⟩ (.int .i64 y3)).setCell ⟨g, 20, none⟩ (.int .i64 y4)).setCell ⟨g, 21, none⟩ (.int .i64 y5)).setCell ⟨g, 22, none⟩ (.int .i64 y6)).setCell ⟨g, 23, none⟩ (.int .i64 y7)) := by
  refine ⟨clu_block h (fit_cells h.fit rfl h16) rfl rfl (by simp [World.setCell]) (fun k hk _ => ?_) (fun vT vE hb => ?_), ?_⟩
  · iterate 8 rw [Below.heap_setCell _ _ _ _ (by exact hk)]
  · rw [heap_set (heap_set (heap_set (heap_set (heap_set (heap_set (heap_set (heap_set hb _) _) _) _) _) _) _) _]
    obtain ⟨k0, k1, k2, k3, k4, k5, k6, k7, hk⟩ := list8' s.credit h.fit.credit
    obtain ⟨x0, x1, x2, x3, x4, x5, x6, x7, hx⟩ := list8' s.cells h.fit.cells
    have e1 : cluCells s vT vE = confCells s.conf ++ (vT :: (intCells [k0, k1, k2, k3, k4, k5, k6, k7] ++ (.int .i64 s.first :: vE :: (intCells [x0, x1, x2, x3, x4, x5, x6, x7] ++ repCells s.reps)))) := by unfold cluCells; rw [hk, hx]
    have e2 : cluCells (cellsV s [y0, y1, y2, y3, y4, y5, y6, y7]) vT vE = confCells s.conf ++ (vT :: (intCells [k0, k1, k2, k3, k4, k5, k6, k7] ++ (.int .i64 s.first :: vE :: (intCells [y0, y1, y2, y3, y4, y5, y6, y7] ++ repCells s.reps)))) := by unfold cluCells cellsV; rw [hk]
    rw [e1, e2]
    simp only [List.setIfInBounds_toArray]
    rfl
  · iterate 8 refine Kept.set ?_ (.inl h.gF) _
    exact Kept.refl F w

end Go.Proofs.YtccckonckddadaaGreat
namespace Go.Proofs.YtccckonckddadaaGreat
open Go.RowKit
set_option linter.unusedVariables false

/-! ### visit -/
def roundV (s : CluV) (client q : Nat) (t : TxV) : CluV :=
  endsV (cellsV (credV s client (s.credit.getD client 0 - costV t.t)) (Dk.doV t.t.data.toList s.cells).1) q (if (Dk.doV t.t.data.toList s.cells).2 then 1 else 2)
def visitGo (client : Nat) : Nat → CluV → Int → List RecV → CluV × List RecV × Int
  | 0, s, room, l => (s, l, room)
  | k + 1, s, room, l =>
    if frontV s client room < 0 then (s, l, room) else
    match s.txs[(frontV s client room).toNat]? with
    | none => (s, l, room)
    | some t => visitGo client k (roundV s client (frontV s client room).toNat t) (room - costV t.t) (l ++ [⟨client, t.i, false, t.t⟩])
def visitV (s : CluV) (client : Nat) (room : Int) : CluV × List RecV × Int :=
  let x := visitGo client 65 (credV s client (s.credit.getD client 0 + s.conf.quantum)) room []
  if queueV x.1.txs client = [] then (credV x.1 client 0, x.2) else x

theorem front_some {s : CluV} {client : Nat} {room : Int} (h : 0 ≤ frontV s client room) : ∃ (q : Nat) (t : TxV), frontV s client room = (q : Int) ∧ s.txs[q]? = some t ∧ (costV t.t : Int) ≤ s.credit.getD client 0 ∧ (costV t.t : Int) ≤ room := by
  unfold frontV at h ⊢
  cases hq : queueV s.txs client with
  | nil => rw [hq] at h; simp at h
  | cons q qs =>
    rw [hq] at h
    simp only at h ⊢
    cases ht : s.txs[q]? with
    | none => rw [ht] at h; simp at h
    | some t =>
      rw [ht] at h
      simp only at h ⊢
      by_cases hc : s.credit.getD client 0 < (costV t.t : Int) ∨ room < (costV t.t : Int)
      · rw [if_pos hc] at h; omega
      · rw [if_neg hc]
        exact ⟨q, t, rfl, ht, by omega, by omega⟩

theorem visit_stop {client k : Nat} {s : CluV} {room : Int} {l : List RecV} (h : frontV s client room < 0) : visitGo client k s room l = (s, l, room) := by
  cases k with
  | zero => rfl
  | succ k => rw [visitGo, if_pos h]
theorem visit_go {client k q : Nat} {s : CluV} {room : Int} {l : List RecV} {t : TxV} (h : frontV s client room = (q : Int)) (ht : s.txs[q]? = some t) : visitGo client (k + 1) s room l = visitGo client k (roundV s client q t) (room - costV t.t) (l ++ [⟨client, t.i, false, t.t⟩]) := by
  rw [visitGo, if_neg (by omega), h, Int.toNat_natCast, ht]

theorem runV_len (ks : List Bool) : ∀ (os : List Dk.Op) (cs cs' : List Int), cs.length = 8 → Dk.runV ks os cs = some cs' → cs'.length = 8
  | [], cs, cs', h, hr => by
    rw [Dk.runV] at hr
    cases hr
    exact h
  | o :: os, cs, cs', h, hr => by
    obtain ⟨y0, y1, y2, y3, y4, y5, y6, y7, rfl⟩ := list8' cs h
    obtain ⟨z0, z1, z2, z3, z4, z5, z6, z7, sd, hstep⟩ := Dk.stepV_8 ks o y0 y1 y2 y3 y4 y5 y6 y7
    rw [Dk.runV, hstep] at hr
    split at hr
    · exact runV_len ks os _ _ rfl hr
    · cases hr
theorem doV_len (l : List UInt8) {cs : List Int} (h : cs.length = 8) : (Dk.doV l cs).1.length = 8 := by
  unfold Dk.doV
  cases hr : Dk.runV (Dk.keysOf l) (Dk.opsOf l) cs with
  | none => exact h
  | some cs' => exact runV_len _ _ _ _ h hr

/-- Where a round of visit stands. -/
structure VisitAt (w wr : World) (g : Nat) (F : Nat → Prop) (s0 : CluV) (room0 : Int) (client f : Nat) (s : CluV) (room : Int) (l : List RecV) (a : Option Addr) (m c : Nat) : Prop where
  clu : CluAt wr g F s
  kept : Kept F w wr
  len : l.length = m
  small : ∀ r ∈ l, r.t.size ≤ maxLen
  own : wr.ownsRow w.heap.size 83 4 (.slice a m c) m (recsCells l)
  left : visitGo client 65 s0 room0 [] = visitGo client f s room l
  fuel : room < f

def VisitPost (g : Nat) (F : Nat → Prop) (x : CluV × List RecV × Int) (w : World) (e : Ending) (w' : World) : Prop :=
  ∃ (a : Option Addr) (m c : Nat), e = .returned (.tuple #[.slice a m c, .int .i64 x.2.2]) ∧ CluAt w' g F x.1 ∧ Kept F w w' ∧ x.2.1.length = m ∧ (∀ r ∈ x.2.1, r.t.size ≤ maxLen) ∧ w'.ownsRow w.heap.size 83 4 (.slice a m c) m (recsCells x.2.1)

theorem Kept.drew {F : Nat → Prop} {a w : World} (h : Kept F a w) : Kept F a w.drew := ⟨h.os, h.tape, h.output, h.size, h.block⟩
theorem Kept.then {F : Nat → Prop} {a b c : World} (h : Kept F a b) (hb : Below b.heap.size b c) : Kept F a c := h.trans (G := fun _ => False) (Kept.of hb) (fun _ _ hh => hh.elim)

set_option maxRecDepth 100000 in
set_option maxHeartbeats 8000000 in
theorem visit_any (g : Nat) (F : Nat → Prop) (s : CluV) (client : Nat) (room : Int) (w : World) (h : CluAt w g F s) (hc : client < 8) (hr0 : 0 ≤ room) (hr1 : room ≤ 64) (hcr : s.credit.getD client 0 ≤ 8 * (s.epochs.length : Int)) :
    Calls Tryz.prog 74 #[.pointer (some ⟨g, 0, none⟩), .int .i64 client, .int .i64 room] w (VisitPost g F (visitV s client room) w) := by
  obtain ⟨ti, hi, hz0, hz1, hz2⟩ := info_parts info_rec
  have HI : Hid (_ ∧ _ ∧ _ ∧ _) := ⟨hi, hz0, hz1, hz2⟩
  clear hi hz0 hz1 hz2
  have hg := h.block
  have HFw : Hid _ := h.own
  have H : Hid _ := h
  have hcl : client < s.credit.length := by rw [h.fit.credit]; exact hc
  have hget := List.getElem?_eq_getElem hcl
  have hgd : s.credit.getD client 0 = s.credit[client] := by rw [List.getD_eq_getElem?_getD, hget]; rfl
  have hqt : 1 ≤ s.conf.quantum ∧ s.conf.quantum ≤ 8 := by
    have hcf := h.fit.conf
    unfold confOk at hcf
    simp only [Bool.and_eq_true, decide_eq_true_eq] at hcf
    exact hcf.1.1.2
  have hc0 := (h.fit.cr _ (List.getElem_mem hcl)).1
  obtain ⟨aT, aE, cT, cE, eas, m1, _⟩ := h.mem
  have ccr : w.cell? ⟨g, 6 + client, none⟩ = some (.int .i64 s.credit[client]) := by
    rw [(heap_cells m1).1, List.getElem?_toArray]
    exact clu_credit h.fit.credit hget
  have c2 : w.cell? ⟨g, 2, none⟩ = some (.int .i64 s.conf.quantum) := by rw [(heap_cells m1).1]; rfl
  have fz : ∀ x, w.frozen? ⟨g, x, none⟩ = false := (heap_cells m1).2.1
  have hmany := h.fit.many
  rw [hgd] at hcr
  have HV : Hid (visitV s client room = if queueV (visitGo client 65 (credV s client (s.credit[client] + s.conf.quantum)) room []).1.txs client = [] then (credV (visitGo client 65 (credV s client (s.credit[client] + s.conf.quantum)) room []).1 client 0, (visitGo client 65 (credV s client (s.credit[client] + s.conf.quantum)) room []).2) else visitGo client 65 (credV s client (s.credit[client] + s.conf.quantum)) room []) := by
    show _ = _
    unfold visitV
    rw [hgd]
  have HC1 : Hid _ := clu_cred h hc (x := s.credit[client] + s.conf.quantum) ⟨by omega, by omega⟩
  clear h m1 hget hgd
  obtain ⟨hq1, hq8⟩ := hqt
  generalize s.credit[client] = cr at *
  generalize s.conf.quantum = qt at *
  have hw1 : IntKind.i64.wrap (cr + qt) = cr + qt := wrap_i64_id (by omega) (by omega)
  have hcI : (client : Int) < 8 := by omega
  have hcI0 : (0 : Int) ≤ (client : Int) := by omega
  go_enter Tryz.func74, Tryz.ntmps74
  go_wp2
  go_region
  have HCW : Hid (CluAt (w.setCell ⟨g, 6 + client, none⟩ (.int .i64 (cr + qt))).drew g F (credV s client (cr + qt))) := HC1.out.1.below (Below.refl _ _).drew
  have HKW : Hid (Kept F w (w.setCell ⟨g, 6 + client, none⟩ (.int .i64 (cr + qt))).drew) := HC1.out.2.drew
  generalize (w.setCell ⟨g, 6 + client, none⟩ (.int .i64 (cr + qt))).drew = W1 at *
  clear ccr c2 fz HC1
  obtain ⟨s1, hs1⟩ : ∃ x, credV s client (cr + qt) = x := ⟨_, rfl⟩
  rw [hs1] at HCW HV
  clear hs1
  go_wp2_with fail
  refine (front_any g F s1 client room _ HCW.out hc).mono ?_
  rintro e W2 ⟨rfl, hB2⟩
  have H0 : Hid (VisitAt w W2 g F s1 room client 65 s1 room [] none 0 0) := ⟨HCW.out.below hB2, HKW.out.then hB2, rfl, by simp, World.ownsRow_nil _ _ _ _, rfl, by omega⟩
  obtain ⟨fi, hfi⟩ : ∃ x, frontV s1 client room = x := ⟨_, rfl⟩
  rewrite [hfi]
  have HFi : Hid _ := hfi
  clear hB2 HCW HKW hfi
  go_wp2
  go_loopw [2, 8, 9] (fun v2 v8 v9 wr => ∃ (f m c : Nat) (a : Option Addr) (s' : CluV) (l : List RecV) (ro fi : Int), v2 = .int .i64 ro ∧ v8 = .slice a m c ∧ v9 = .int .i64 fi ∧ 0 ≤ ro ∧ (m : Int) + ro ≤ 64 ∧ Hid (frontV s' client ro = fi) ∧ Hid (VisitAt w wr g F s1 room client f s' ro l a m c)) (fun v2 _ _ _ => (intOf v2).toNat)
  case atStart => exact ⟨65, 0, 0, none, s1, [], room, fi, rfl, rfl, rfl, hr0, by omega, HFi, H0⟩
  case round =>
    clear H0 HFi
    obtain ⟨f, m, c, a, s', l, ro, fi', rfl, rfl, rfl, hro, hmro, HFr, HL⟩ := hrel
    by_cases hlt : 0 ≤ fi'
    · obtain ⟨q, t, hfq, htx, hco1, hco2⟩ := front_some (by rw [HFr.out]; exact hlt)
      rw [HFr.out] at hfq
      subst hfq
      have hxl : q < s'.txs.length := (List.getElem?_eq_some_iff.1 htx).1
      have hpt := (HL.out.clu.fit.tx _ (List.mem_of_getElem? htx)).1
      have hcost := cost_le hpt
      obtain ⟨aT, aE, cT, cE, eas, m1, m2, m3, _⟩ := HL.out.clu.mem
      obtain ⟨gT, rfl, hgT, t0, t1, t2, t3, t4, t5, _⟩ := own_tx m2 htx hxl
      have c5 : wr.cell? ⟨g, 5, none⟩ = some (.slice (some ⟨gT, 0, none⟩) s'.txs.length cT) := by rw [(heap_cells m1).1]; rfl
      have hgr := HL.out.clu.block
      have HTx : Hid _ := htx
      have hts : t.t.size ≤ 60 := by
        have h2 := parse_len hpt
        rw [len_list] at h2
        exact h2
      have HPt : Hid _ := hpt
      have x1 : (q : Int) < (s'.txs.length : Int) := by omega
      have hfew := HL.out.clu.fit.few
      have HCo : Hid (_ ∧ _ ∧ _) := ⟨hco1, hco2, hcost⟩
      clear m1 m2 m3 htx hpt hco1 hcost
      obtain ⟨tc, tid, tt, td, ts, te⟩ := t
      simp only at t0 t1 t2 t3 t4 t5 hts hco2
      have HX : Hid ((wr.alloc (.cells #[.int .i64 tc, .int .i64 tid, .string tt, .int .i64 td, .int .i64 ts, .int .i64 te] 115)).heap[wr.heap.size]? = some (.cells #[.int .i64 tc, .int .i64 tid, .string tt, .int .i64 td, .int .i64 ts, .int .i64 te] 115) ∧ Below wr.heap.size wr (wr.alloc (.cells #[.int .i64 tc, .int .i64 tid, .string tt, .int .i64 td, .int .i64 ts, .int .i64 te] 115))) :=
        ⟨heap_at rfl, (Below.refl _ _).alloc (Nat.le_refl _) _⟩
      have htM : tt.size ≤ maxLen := by unfold maxLen; omega
      go_wp2_with fail
      refine (cost_any tt _ htM HPt.out).mono ?_
      rintro e W3 ⟨rfl, hB3⟩
      have hBw : Below wr.heap.size wr W3 := HX.out.2.trans (hB3.mono (by simp))
      have hb3 : W3.heap[wr.heap.size]? = some (.cells #[.int .i64 tc, .int .i64 tid, .string tt, .int .i64 td, .int .i64 ts, .int .i64 te] 115) := (hB3.block _ (by simp)).trans HX.out.1
      have HB3 : Hid (W3.heap[wr.heap.size]? = some (.cells #[.int .i64 tc, .int .i64 tid, .string tt, .int .i64 td, .int .i64 ts, .int .i64 te] 115)) := hb3
      have HC3 : Hid (CluAt W3 g F s') := HL.out.clu.below hBw
      have HK3 : Hid (Kept F w W3) := HL.out.kept.then hBw
      have HO3 : Hid (W3.ownsRow w.heap.size 83 4 (.slice a m c) m (recsCells l)) := own_below HL.out.own hBw
      have hzb : wr.heap.size < W3.heap.size := (heap_cells hb3).2.2
      have hzw : w.heap.size ≤ wr.heap.size := HL.out.kept.size
      have HnF : Hid (¬ F wr.heap.size) := fun hf => by have := HFw.out _ hf; omega
      have HRow : Hid (∀ y, (Value.slice a m c).ownBlock = some y → w.heap.size ≤ y ∧ y < wr.heap.size) := HL.out.own.lt
      clear hBw hb3 hB3 HX t0 t1 t2 t3 t4 t5 c5
      generalize wr.heap.size = gb at *
      have hco1 : (costV tt : Int) ≤ s'.credit.getD client 0 := HCo.out.1
      have hcoa : 1 ≤ costV tt := HCo.out.2.2.1
      have hcob : costV tt ≤ 8 := HCo.out.2.2.2
      clear HCo
      generalize hco : costV tt = co at *
      have HCoE : Hid _ := hco
      clear hco
      have hcl' : client < s'.credit.length := by rw [HC3.out.fit.credit]; exact hc
      have hget := List.getElem?_eq_getElem hcl'
      have hgd : s'.credit.getD client 0 = s'.credit[client] := by rw [List.getD_eq_getElem?_getD, hget]; rfl
      rw [hgd] at hco1
      have hcb := HC3.out.fit.cr _ (List.getElem_mem hcl')
      obtain ⟨aT, aE, cT', cE, eas, m1, _⟩ := HC3.out.mem
      have ccr : W3.cell? ⟨g, 6 + client, none⟩ = some (.int .i64 s'.credit[client]) := by
        rw [(heap_cells m1).1, List.getElem?_toArray]
        exact clu_credit HC3.out.fit.credit hget
      have fz : ∀ x, W3.frozen? ⟨g, x, none⟩ = false := (heap_cells m1).2.1
      have hg3 : g < W3.heap.size := HC3.out.block
      have hmany' := HC3.out.fit.many
      have HGd : Hid _ := hgd
      have HC4 : Hid _ := clu_cred HC3.out hc (x := s'.credit[client] - (co : Int)) ⟨by omega, by omega⟩
      clear m1 hget hgd
      generalize s'.credit[client] = cr' at *
      have hw4 : IntKind.i64.wrap (cr' - (co : Int)) = cr' - (co : Int) := wrap_i64_id (by omega) (by omega)
      obtain ⟨b0, bf, bz⟩ := heap_cells HB3.out
      have hgb : g ≠ gb := fun e => HnF.out (by rw [← e]; exact HC3.out.gF)
      go_wp2
      go_region
      have HW4 : Hid (CluAt (W3.setCell ⟨g, 6 + client, none⟩ (.int .i64 (cr' - (co : Int)))).drew g F (credV s' client (cr' - (co : Int)))) := HC4.out.1.below (Below.refl _ _).drew
      have HK4 : Hid (Kept F w (W3.setCell ⟨g, 6 + client, none⟩ (.int .i64 (cr' - (co : Int)))).drew) := (HK3.out.trans HC4.out.2 (fun _ _ hf => hf)).drew
      have HB4 : Hid ((W3.setCell ⟨g, 6 + client, none⟩ (.int .i64 (cr' - (co : Int)))).drew.heap[gb]? = some (.cells #[.int .i64 tc, .int .i64 tid, .string tt, .int .i64 td, .int .i64 ts, .int .i64 te] 115)) := (Below.heap_setCell _ _ _ _ (by exact fun e => hgb e.symm)).trans HB3.out
      have HO4 : Hid ((W3.setCell ⟨g, 6 + client, none⟩ (.int .i64 (cr' - (co : Int)))).drew.ownsRow w.heap.size 83 4 (.slice a m c) m (recsCells l)) := own_kept HO3.out HC4.out.2.drew HFw.out
      generalize (W3.setCell ⟨g, 6 + client, none⟩ (.int .i64 (cr' - (co : Int)))).drew = W4 at *
      clear b0 bf bz ccr fz HC4
      obtain ⟨b0, bf, bz⟩ := heap_cells HB4.out
      have b1 : W4.cell? ⟨gb, 1, none⟩ = some (.int .i64 tid) := by rw [b0]; rfl
      have b2 : W4.cell? ⟨gb, 2, none⟩ = some (.string tt) := by rw [b0]; rfl
      have hzW4 : w.heap.size ≤ W4.heap.size := HK4.out.size
      clear b0
      go_wp2_with (at_builtin; refine wpList_append_lies _ rfl (.tmp 64) (.tmp 71) 36 rfl w.heap.size 83 ti (.agg #[.int .i64 0, .int .i64 0, .bool false, .string ⟨#[]⟩]) 4 40 Tryz.underlying36 HI.out.1 HI.out.2.1 HI.out.2.2.1 HI.out.2.2.2 rfl (by decide) (.slice a m c) m (recsCells l) rfl (HO4.out.alloc _) ⟨W4.heap.size, 0, none⟩ 1 1 [.int .i64 (client : Int), .int .i64 tid, .bool false, .string tt] rfl rfl ?c1 ?c2 ?c3 ?c4 ?c5 ?c6 _ rfl ?_)
      try (case c1 => exact cells_new _ _ rfl [.int .i64 (client : Int), .int .i64 tid, .bool false, .string tt] _)
      try (case c2 => intro u hu; simp at hu; rcases hu with rfl | rfl | rfl | rfl <;> rfl)
      try (case c3 => decide)
      try (case c4 => unfold maxLen; omega)
      try (case c5 => omega)
      try (case c6 => first | omega | (simp; omega))
      intro gN cap W5 hown7 hgr7 hat7 hlt7
      have hzx : (W4.alloc (.cells #[.int .i64 (client : Int), .int .i64 tid, .bool false, .string tt] 83)).heap.size = W4.heap.size + 1 := by simp
      have hsame7 : ∀ y, y < W4.heap.size → (Value.slice a m c).ownBlock ≠ some y → W5.heap[y]? = W4.heap[y]? := fun y hy hne => (hgr7.block y (by rw [hzx]; omega) (fun hh => hne hh.symm)).trans (heap_old hy)
      have HC5 : Hid (CluAt W5 g F (credV s' client (cr' - (co : Int)))) := HW4.out.same (by have := hgr7.size; rw [hzx] at this; omega) (fun y hy => hsame7 y (HW4.out.own y hy) (fun hh => by have := (HRow.out y hh).1; have := HFw.out y hy; omega))
      have HK5 : Hid (Kept F w W5) := (HK4.out.then ((Below.refl _ _).alloc (Nat.le_refl _) _)).grown hgr7 (fun y hy => .inr (HRow.out y hy).1)
      have HB5 : Hid (W5.heap[gb]? = some (.cells #[.int .i64 tc, .int .i64 tid, .string tt, .int .i64 td, .int .i64 ts, .int .i64 te] 115)) := (hsame7 gb bz (fun hh => by have := (HRow.out gb hh).2; omega)).trans HB4.out
      have HO5 : Hid (W5.ownsRow w.heap.size 83 4 (.slice (some ⟨gN, 0, none⟩) (m + 1) cap) (m + 1) (recsCells (l ++ [⟨client, tid, false, tt⟩]))) := by
        show World.ownsRow _ _ _ _ _ _ _
        rw [recsCells_snoc]; exact hown7
      clear hown7 hgr7 hat7 hlt7 hsame7 hzx b1 b2 bf bz
      obtain ⟨z0, z1, z2, z3, z4, z5, z6, z7, hzs⟩ := list8' s'.cells HL.out.clu.fit.cells
      have h16 : Dk.All16 [z0, z1, z2, z3, z4, z5, z6, z7] := by rw [← hzs]; exact HL.out.clu.fit.c16
      obtain ⟨aT, aE, cT'', cE, eas, m1, _⟩ := HC5.out.mem
      have hcell : ∀ k x, [z0, z1, z2, z3, z4, z5, z6, z7][k]? = some x → W5.cell? ⟨g, 16 + k, none⟩ = some (.int .i64 x) := fun k x hk => by
        rw [(heap_cells m1).1, List.getElem?_toArray]
        exact clu_cells HC5.out.fit.credit HC5.out.fit.cells (by show s'.cells[k]? = some x; rw [hzs]; exact hk)
      have e0 : W5.cell? ⟨g, 16, none⟩ = some (.int .i64 z0) := hcell 0 z0 rfl
      have e1 : W5.cell? ⟨g, 17, none⟩ = some (.int .i64 z1) := hcell 1 z1 rfl
      have e2 : W5.cell? ⟨g, 18, none⟩ = some (.int .i64 z2) := hcell 2 z2 rfl
      have e3 : W5.cell? ⟨g, 19, none⟩ = some (.int .i64 z3) := hcell 3 z3 rfl
      have e4 : W5.cell? ⟨g, 20, none⟩ = some (.int .i64 z4) := hcell 4 z4 rfl
      have e5 : W5.cell? ⟨g, 21, none⟩ = some (.int .i64 z5) := hcell 5 z5 rfl
      have e6 : W5.cell? ⟨g, 22, none⟩ = some (.int .i64 z6) := hcell 6 z6 rfl
      have e7 : W5.cell? ⟨g, 23, none⟩ = some (.int .i64 z7) := hcell 7 z7 rfl
      have b2 : W5.cell? ⟨gb, 2, none⟩ = some (.string tt) := by rw [(heap_cells HB5.out).1]; rfl
      have hg5 : g < W5.heap.size := HC5.out.block
      have hgb5 : gb < W5.heap.size := (heap_cells HB5.out).2.2
      have HZ : Hid (_ ∧ _) := ⟨hzs, h16⟩
      clear m1 hcell hzs h16
      obtain ⟨y0, y1, y2, y3, y4, y5, y6, y7, dn, hdo, hy16⟩ : ∃ y0 y1 y2 y3 y4 y5 y6 y7 dn, ([y0, y1, y2, y3, y4, y5, y6, y7], dn) = Dk.doV tt.data.toList [z0, z1, z2, z3, z4, z5, z6, z7] ∧ (([y0, y1, y2, y3, y4, y5, y6, y7], dn) = Dk.doV tt.data.toList [z0, z1, z2, z3, z4, z5, z6, z7] → True) := by
        obtain ⟨o0, o1, o2, o3, o4, o5, o6, o7, ho⟩ := list8' (Dk.doV tt.data.toList [z0, z1, z2, z3, z4, z5, z6, z7]).1 (doV_len _ rfl)
        exact ⟨o0, o1, o2, o3, o4, o5, o6, o7, (Dk.doV tt.data.toList [z0, z1, z2, z3, z4, z5, z6, z7]).2, by rw [← ho], fun _ => trivial⟩
      have HCd : Hid (∀ W, Calls Tryz.prog 56 #[.string tt, .agg #[.int .i64 z0, .int .i64 z1, .int .i64 z2, .int .i64 z3, .int .i64 z4, .int .i64 z5, .int .i64 z6, .int .i64 z7]] W fun e w' => (e = .returned (.tuple #[.agg #[.int .i64 y0, .int .i64 y1, .int .i64 y2, .int .i64 y3, .int .i64 y4, .int .i64 y5, .int .i64 y6, .int .i64 y7], .bool dn]) ∧ Dk.All16 [y0, y1, y2, y3, y4, y5, y6, y7]) ∧ Below W.heap.size W w' ∧ (∀ b x, b < W.heap.size → w'.cell? ⟨b, x, none⟩ = W.cell? ⟨b, x, none⟩) ∧ (∀ b x, b < W.heap.size → w'.frozen? ⟨b, x, none⟩ = W.frozen? ⟨b, x, none⟩) ∧ W.heap.size ≤ w'.heap.size) := fun W =>
        (rdo_any tt z0 z1 z2 z3 z4 z5 z6 z7 W htM HPt.out HZ.out.2).mono (by
          rintro e w' ⟨p0, p1, p2, p3, p4, p5, p6, p7, pd, rfl, hp, h16, hb⟩
          rw [← hdo] at hp
          simp only [Prod.mk.injEq, List.cons.injEq, and_true] at hp
          obtain ⟨⟨rfl, rfl, rfl, rfl, rfl, rfl, rfl, rfl⟩, rfl⟩ := hp
          exact ⟨⟨rfl, h16⟩, hb, (bcell hb).1, (bcell hb).2, hb.size⟩)
      have HDo : Hid _ := hdo
      clear hdo hy16
      go_wp2
      go_region_held3 (fun W => Below W5.heap.size W5 W ∧ (∀ b x, b < W5.heap.size → W.cell? ⟨b, x, none⟩ = W5.cell? ⟨b, x, none⟩))
        (first | (with_reducible exact doS_0) | (with_reducible exact doS_1) | (with_reducible exact doS_2 ‹_›) | (with_reducible exact doS_3 ‹_›) | (with_reducible exact doS_4 ‹_›) | (with_reducible exact doS_5 ‹_›))
        (first | (go_at_call 56; refine (HCd.out _).mono ?_; rintro e w9 ⟨⟨rfl, hy16⟩, hB9, hc9, hf9, hz9⟩))
      all_goals
        first
        | (have hX : Below W5.heap.size W5 (w9.alloc (.cells #[.int .i64 y0, .int .i64 y1, .int .i64 y2, .int .i64 y3, .int .i64 y4, .int .i64 y5, .int .i64 y6, .int .i64 y7] 107)) ∧ (w9.alloc (.cells #[.int .i64 y0, .int .i64 y1, .int .i64 y2, .int .i64 y3, .int .i64 y4, .int .i64 y5, .int .i64 y6, .int .i64 y7] 107)).heap[w9.heap.size]? = some (.cells #[.int .i64 y0, .int .i64 y1, .int .i64 y2, .int .i64 y3, .int .i64 y4, .int .i64 y5, .int .i64 y6, .int .i64 y7] 107) := ⟨(doS_4 hB9).1, heap_alloc_new w9 _⟩
           clear hB9 hc9 hf9 hz9
           generalize w9.heap.size = gc at *
           generalize w9.alloc (.cells #[.int .i64 y0, .int .i64 y1, .int .i64 y2, .int .i64 y3, .int .i64 y4, .int .i64 y5, .int .i64 y6, .int .i64 y7] 107) = W6 at *)
        | (have hX : Below W5.heap.size W5 ((((((((w9.setCell ⟨W5.heap.size, 0, none⟩ (.int .i64 y0)).setCell ⟨W5.heap.size, 1, none⟩ (.int .i64 y1)).setCell ⟨W5.heap.size, 2, none⟩ (.int .i64 y2)).setCell ⟨W5.heap.size, 3, none⟩ (.int .i64 y3)).setCell ⟨W5.heap.size, 4, none⟩ (.int .i64 y4)).setCell ⟨W5.heap.size, 5, none⟩ (.int .i64 y5)).setCell ⟨W5.heap.size, 6, none⟩ (.int .i64 y6)).setCell ⟨W5.heap.size, 7, none⟩ (.int .i64 y7)) ∧ ((((((((w9.setCell ⟨W5.heap.size, 0, none⟩ (.int .i64 y0)).setCell ⟨W5.heap.size, 1, none⟩ (.int .i64 y1)).setCell ⟨W5.heap.size, 2, none⟩ (.int .i64 y2)).setCell ⟨W5.heap.size, 3, none⟩ (.int .i64 y3)).setCell ⟨W5.heap.size, 4, none⟩ (.int .i64 y4)).setCell ⟨W5.heap.size, 5, none⟩ (.int .i64 y5)).setCell ⟨W5.heap.size, 6, none⟩ (.int .i64 y6)).setCell ⟨W5.heap.size, 7, none⟩ (.int .i64 y7)).heap[W5.heap.size]? = some (.cells #[.int .i64 y0, .int .i64 y1, .int .i64 y2, .int .i64 y3, .int .i64 y4, .int .i64 y5, .int .i64 y6, .int .i64 y7] 107) := ⟨(doS_5 hB9).1, set8 ((hB9.block W5.heap.size (by show _ < (W5.alloc _).heap.size; simp)).trans (heap_alloc_new W5 _)) (.int .i64 y0) (.int .i64 y1) (.int .i64 y2) (.int .i64 y3) (.int .i64 y4) (.int .i64 y5) (.int .i64 y6) (.int .i64 y7)⟩
           clear hB9 hc9 hf9 hz9
           generalize hgc : W5.heap.size = gc at *
           generalize (((((((((w9.setCell ⟨gc, 0, none⟩ (.int .i64 y0)).setCell ⟨gc, 1, none⟩ (.int .i64 y1)).setCell ⟨gc, 2, none⟩ (.int .i64 y2)).setCell ⟨gc, 3, none⟩ (.int .i64 y3)).setCell ⟨gc, 4, none⟩ (.int .i64 y4)).setCell ⟨gc, 5, none⟩ (.int .i64 y5)).setCell ⟨gc, 6, none⟩ (.int .i64 y6)).setCell ⟨gc, 7, none⟩ (.int .i64 y7))) = W6 at *
           obtain ⟨hX1, hX2⟩ := hX
           rw [← hgc] at hX1 hg5 hgb5
           have hX := And.intro hX1 hX2
           clear hgc hX1 hX2)
        have HC6 : Hid (CluAt W6 g F (credV s' client (cr' - (co : Int)))) := HC5.out.below hX.1
        have HK6 : Hid (Kept F w W6) := HK5.out.then hX.1
        have HO6 : Hid (W6.ownsRow w.heap.size 83 4 (.slice (some ⟨gN, 0, none⟩) (m + 1) cap) (m + 1) (recsCells (l ++ [⟨client, tid, false, tt⟩]))) := own_below HO5.out hX.1
        have hg6 : g < W6.heap.size := HC6.out.block
        have f6 : ∀ x, W6.frozen? ⟨g, x, none⟩ = false := by
          obtain ⟨_, _, _, _, _, m1, _⟩ := HC6.out.mem
          exact (heap_cells m1).2.1
        have p0 := (hX.1.cell (p := ⟨g, 16, none⟩) hg5).trans e0
        have p1 := (hX.1.cell (p := ⟨g, 17, none⟩) hg5).trans e1
        have p2 := (hX.1.cell (p := ⟨g, 18, none⟩) hg5).trans e2
        have p3 := (hX.1.cell (p := ⟨g, 19, none⟩) hg5).trans e3
        have p4 := (hX.1.cell (p := ⟨g, 20, none⟩) hg5).trans e4
        have p5 := (hX.1.cell (p := ⟨g, 21, none⟩) hg5).trans e5
        have p6 := (hX.1.cell (p := ⟨g, 22, none⟩) hg5).trans e6
        have p7 := (hX.1.cell (p := ⟨g, 23, none⟩) hg5).trans e7
        obtain ⟨cg, fg, zg⟩ := heap_cells hX.2
        have HC7 : Hid _ := clu_cellsput HC6.out y0 y1 y2 y3 y4 y5 y6 y7 hy16
        have HTx7 : Hid ((cellsV (credV s' client (cr' - (co : Int))) [y0, y1, y2, y3, y4, y5, y6, y7]).txs[q]? = some ⟨tc, tid, tt, td, ts, te⟩) := HTx.out
        have HRd : Hid (roundV s' client q ⟨tc, tid, tt, td, ts, te⟩ = endsV (cellsV (credV s' client (cr' - (co : Int))) [y0, y1, y2, y3, y4, y5, y6, y7]) q (if dn then 1 else 2)) := by
          show _ = _
          unfold roundV
          show endsV (cellsV (credV s' client (s'.credit.getD client 0 - (costV tt : Nat))) (Dk.doV tt.data.toList s'.cells).1) q (if (Dk.doV tt.data.toList s'.cells).2 then 1 else 2) = _
          rw [HZ.out.1, ← HDo.out, HGd.out, HCoE.out]
        clear hX
        cases dn
        all_goals
          go_wp2_with fail
          have HC8 : Hid (CluAt ((((((((W6.setCell ⟨g, 16, none⟩ (.int .i64 y0)).setCell ⟨g, 17, none⟩ (.int .i64 y1)).setCell ⟨g, 18, none⟩ (.int .i64 y2)).setCell ⟨g, 19, none⟩ (.int .i64 y3)).setCell ⟨g, 20, none⟩ (.int .i64 y4)).setCell ⟨g, 21, none⟩ (.int .i64 y5)).setCell ⟨g, 22, none⟩ (.int .i64 y6)).setCell ⟨g, 23, none⟩ (.int .i64 y7)) g F (cellsV (credV s' client (cr' - (co : Int))) [y0, y1, y2, y3, y4, y5, y6, y7]) ∧ Kept F w ((((((((W6.setCell ⟨g, 16, none⟩ (.int .i64 y0)).setCell ⟨g, 17, none⟩ (.int .i64 y1)).setCell ⟨g, 18, none⟩ (.int .i64 y2)).setCell ⟨g, 19, none⟩ (.int .i64 y3)).setCell ⟨g, 20, none⟩ (.int .i64 y4)).setCell ⟨g, 21, none⟩ (.int .i64 y5)).setCell ⟨g, 22, none⟩ (.int .i64 y6)).setCell ⟨g, 23, none⟩ (.int .i64 y7))) := ⟨HC7.out.1, HK6.out.trans HC7.out.2 (fun _ _ hf => hf)⟩
          have HO7 : Hid (((((((((W6.setCell ⟨g, 16, none⟩ (.int .i64 y0)).setCell ⟨g, 17, none⟩ (.int .i64 y1)).setCell ⟨g, 18, none⟩ (.int .i64 y2)).setCell ⟨g, 19, none⟩ (.int .i64 y3)).setCell ⟨g, 20, none⟩ (.int .i64 y4)).setCell ⟨g, 21, none⟩ (.int .i64 y5)).setCell ⟨g, 22, none⟩ (.int .i64 y6)).setCell ⟨g, 23, none⟩ (.int .i64 y7)).ownsRow w.heap.size 83 4 (.slice (some ⟨gN, 0, none⟩) (m + 1) cap) (m + 1) (recsCells (l ++ [⟨client, tid, false, tt⟩]))) := own_kept HO6.out HC7.out.2 HFw.out
          clear HC7 p0 p1 p2 p3 p4 p5 p6 p7 cg fg f6
          generalize ((((((((W6.setCell ⟨g, 16, none⟩ (.int .i64 y0)).setCell ⟨g, 17, none⟩ (.int .i64 y1)).setCell ⟨g, 18, none⟩ (.int .i64 y2)).setCell ⟨g, 19, none⟩ (.int .i64 y3)).setCell ⟨g, 20, none⟩ (.int .i64 y4)).setCell ⟨g, 21, none⟩ (.int .i64 y5)).setCell ⟨g, 22, none⟩ (.int .i64 y6)).setCell ⟨g, 23, none⟩ (.int .i64 y7)) = W7 at *
          refine (ends_any g F (cellsV (credV s' client (cr' - (co : Int))) [y0, y1, y2, y3, y4, y5, y6, y7]) q ⟨tc, tid, tt, td, ts, te⟩ _ W7 HC8.out.1 HTx7.out).mono ?_
          rintro e W8 ⟨rfl, hC9, hK9⟩
          have HC9 : Hid _ := hC9
          have HK9 : Hid (Kept F w W8) := HC8.out.2.trans hK9 (fun _ _ hf => hf)
          have HO9 : Hid (W8.ownsRow w.heap.size 83 4 (.slice (some ⟨gN, 0, none⟩) (m + 1) cap) (m + 1) (recsCells (l ++ [⟨client, tid, false, tt⟩]))) := own_kept HO7.out hK9 HFw.out
          clear hC9 hK9
          go_wp2_with fail
          have HC9' : Hid (CluAt W8 g F (roundV s' client q ⟨tc, tid, tt, td, ts, te⟩)) := by
            show CluAt _ _ _ _
            rw [HRd.out]; exact HC9.out
          refine (front_any g F (roundV s' client q ⟨tc, tid, tt, td, ts, te⟩) client (ro - (co : Int)) _ HC9'.out hc).mono ?_
          rintro e W9 ⟨rfl, hB10⟩
          obtain ⟨f', rfl⟩ : ∃ j, f = j + 1 := ⟨f - 1, by have := HL.out.fuel; omega⟩
          have HVn : Hid (VisitAt w W9 g F s1 room client f' (roundV s' client q ⟨tc, tid, tt, td, ts, te⟩) (ro - (co : Int)) (l ++ [⟨client, tid, false, tt⟩]) (some ⟨gN, 0, none⟩) (m + 1) cap) := by
            rw [HRd.out]
            refine ⟨HC9.out.below hB10, HK9.out.then hB10, by rw [List.length_append, HL.out.len]; rfl, ?_, own_below HO9.out hB10, ?_, by have := HL.out.fuel; omega⟩
            · intro r hr
              rcases List.mem_append.1 hr with hr | hr
              · exact HL.out.small r hr
              · have : r = ⟨client, tid, false, tt⟩ := by simpa using hr
                subst this
                exact htM
            · have h9 := visit_go (k := f') (l := l) HFr.out HTx.out
              rw [HRd.out] at h9
              rw [HL.out.left, h9]
              show visitGo client f' _ (ro - (costV tt : Nat)) _ = _
              rw [HCoE.out]
          obtain ⟨fn, hfn⟩ : ∃ x, frontV (roundV s' client q ⟨tc, tid, tt, td, ts, te⟩) client (ro - (co : Int)) = x := ⟨_, rfl⟩
          have HFn : Hid _ := hfn
          rewrite [hfn]
          clear hfn hB10
          go_wp2
          go_roundw
          case rel => exact ⟨f', m + 1, cap, some ⟨gN, 0, none⟩, _, _, ro - (co : Int), fn, rfl, rfl, rfl, by omega, by omega, HFn, HVn⟩
          case measure => simp [intOf]; omega
    · have hst : frontV s' client ro < 0 := by rw [HFr.out]; omega
      have HEx : Hid (visitGo client 65 s1 room [] = (s', l, ro)) := by
        show _ = _
        rw [HL.out.left]
        exact visit_stop hst
      have hlt' : fi' < 0 := by omega
      clear hst
      go_wp2_with fail
      refine (queue_any g F s' client _ HL.out.clu).mono ?_
      rintro e W3 ⟨aQ, cQ, rfl, hQ⟩
      have HB3 : Hid _ := hQ.bel
      have HC3 : Hid (CluAt W3 g F s') := HL.out.clu.below hQ.bel
      have HK3 : Hid (Kept F w W3) := HL.out.kept.then hQ.bel
      have HO3 : Hid (W3.ownsRow w.heap.size 83 4 (.slice a m c) m (recsCells l)) := own_below HL.out.own hQ.bel
      clear hQ
      cases hq : queueV s'.txs client with
      | nil =>
        have HVx : Hid (visitV s client room = (credV s' client 0, l, ro)) := by
          show _ = _
          rw [HV.out, HEx.out]
          simp only [hq]
          rfl
        have hmany' := HC3.out.fit.many
        have HC4 : Hid _ := clu_cred HC3.out hc (x := 0) ⟨Int.le_refl _, by omega⟩
        have hg3 := HC3.out.block
        obtain ⟨aT, aE, cT, cE, eas, m1, _⟩ := HC3.out.mem
        have hcl' : client < s'.credit.length := by rw [HC3.out.fit.credit]; exact hc
        have ccr : W3.cell? ⟨g, 6 + client, none⟩ = some (.int .i64 s'.credit[client]) := by
          rw [(heap_cells m1).1, List.getElem?_toArray]
          exact clu_credit HC3.out.fit.credit (List.getElem?_eq_getElem hcl')
        have fz : ∀ x, W3.frozen? ⟨g, x, none⟩ = false := (heap_cells m1).2.1
        clear m1 hq
        generalize s'.credit[client] = cr' at *
        go_wp2
        go_ret2
        refine ⟨a, m, c, by rw [HVx.out]; rfl, by rw [HVx.out]; exact HC4.out.1, HK3.out.trans HC4.out.2 (fun _ _ hf => hf), by rw [HVx.out]; exact HL.out.len, by rw [HVx.out]; exact HL.out.small, ?_⟩
        rw [HVx.out]
        exact own_kept HO3.out HC4.out.2 HFw.out
      | cons x qs =>
        have HVx : Hid (visitV s client room = (s', l, ro)) := by
          show _ = _
          rw [HV.out, HEx.out]
          simp only [hq]
          rfl
        have hql : (((x :: qs).length : Int) == 0) = false := by rw [beq_eq_false_iff_ne, List.length_cons]; omega
        have hqI : (0 : Int) < ((x :: qs).length : Int) := by rw [List.length_cons]; omega
        clear hq
        generalize (x :: qs).length = ql at *
        go_wp2
        go_ret2
        exact ⟨a, m, c, by rw [HVx.out]; rfl, by rw [HVx.out]; exact HC3.out, HK3.out, by rw [HVx.out]; exact HL.out.len, by rw [HVx.out]; exact HL.out.small, by rw [HVx.out]; exact HO3.out⟩

end Go.Proofs.YtccckonckddadaaGreat
namespace Go.Proofs.YtccckonckddadaaGreat
set_option linter.unusedVariables false

/-! ### How many wait -/
def wait (t : TxV) : Bool := decide (t.s = 0)
def waiting (s : CluV) : Nat := s.txs.countP wait

theorem queue_count (client : Int) : ∀ (l : List TxV) (k : Nat), (queueFrom client k l).length = l.countP (waits client)
  | [], _ => rfl
  | t :: l, k => by
    rw [queueFrom, List.countP_cons]
    split
    · rw [List.length_cons, queue_count client l (k + 1)]
    · rw [queue_count client l (k + 1)]; rfl

theorem count_modify (p : TxV → Bool) (f : TxV → TxV) : ∀ (l : List TxV) (i : Nat) (t : TxV), l[i]? = some t → (l.modify i f).countP p + (if p t then 1 else 0) = l.countP p + (if p (f t) then 1 else 0)
  | [], i, t, h => by simp at h
  | x :: l, 0, t, h => by
    have : x = t := by simpa using h
    subst this
    show (f x :: l).countP p + _ = _
    rw [List.countP_cons, List.countP_cons]
    omega
  | x :: l, i + 1, t, h => by
    have ih := count_modify p f l i t (by simpa using h)
    show (x :: l.modify i f).countP p + _ = _
    rw [List.countP_cons, List.countP_cons]
    omega

/-- What ends waits no longer. -/
theorem ends_waiting {s : CluV} {i : Nat} {t : TxV} {st : Int} (hi : s.txs[i]? = some t) (ht : t.s = 0) (hst : st ≠ 0) : waiting (endsV s i st) + 1 = waiting s := by
  have h := count_modify wait (fun t => { t with s := st, e := s.epochs.length }) s.txs i t hi
  have h1 : wait t = true := by unfold wait; rw [decide_eq_true ht]
  have h2 : wait { t with s := st, e := s.epochs.length } = false := by unfold wait; exact decide_eq_false hst
  rw [h1, h2] at h
  exact h
theorem ends_queue {s : CluV} {i : Nat} {t : TxV} {st : Int} (hi : s.txs[i]? = some t) (hst : st ≠ 0) (c : Int) : (queueV (endsV s i st).txs c).length ≤ (queueV s.txs c).length := by
  unfold queueV
  rw [queue_count, queue_count]
  have h := count_modify (waits c) (fun t => { t with s := st, e := s.epochs.length }) s.txs i t hi
  have h2 : waits c { t with s := st, e := s.epochs.length } = false := by unfold waits; rw [decide_eq_false hst]; simp
  rw [h2] at h
  simp only [Bool.false_eq_true, if_false] at h
  show (s.txs.modify i _).countP _ ≤ _
  omega

def upTo (t : TxV) (m : Nat) : Nat := if (wait t && decide (t.c < (m : Int))) = true then 1 else 0
theorem upTo_zero {t : TxV} (h : 0 ≤ t.c) : upTo t 0 = 0 := by
  unfold upTo
  rw [decide_eq_false (by omega)]; simp
theorem upTo_all {t : TxV} {n : Nat} (h : t.c < (n : Int)) : upTo t n = if wait t = true then 1 else 0 := by
  unfold upTo
  rw [decide_eq_true h]; simp
theorem upTo_succ (t : TxV) (m : Nat) : upTo t (m + 1) = upTo t m + (if waits (m : Int) t = true then 1 else 0) := by
  unfold upTo waits wait
  cases hs : decide (t.s = 0)
  · simp
  · by_cases h1 : t.c < (m : Int)
    · rw [decide_eq_true h1, decide_eq_true (by omega : t.c < ((m + 1 : Nat) : Int)), decide_eq_false (by omega : ¬ t.c = (m : Int))]; simp
    · by_cases h2 : t.c = (m : Int)
      · rw [decide_eq_false h1, decide_eq_true (by omega : t.c < ((m + 1 : Nat) : Int)), decide_eq_true h2]; simp
      · rw [decide_eq_false h1, decide_eq_false (by omega : ¬ t.c < ((m + 1 : Nat) : Int)), decide_eq_false h2]; simp

/-- All that wait, client by client. -/
theorem waiting_sum : ∀ (l : List TxV) (n : Nat), (∀ t ∈ l, 0 ≤ t.c ∧ t.c < (n : Int)) → l.countP wait = ((List.range n).map fun (c : Nat) => l.countP (waits (c : Int))).sum
  | [], n, _ => by
    have : ∀ m, ((List.range m).map fun (c : Nat) => ([] : List TxV).countP (waits (c : Int))).sum = 0 := fun m => by
      induction m with
      | zero => rfl
      | succ m ih => rw [List.range_succ, List.map_append, List.sum_append, ih]; rfl
    rw [this]; rfl
  | t :: l, n, h => by
    have ih := waiting_sum l n (fun x hx => h x (by simp [hx]))
    have ht := h t (by simp)
    have key : ∀ m : Nat, ((List.range m).map fun (c : Nat) => (t :: l).countP (waits (c : Int))).sum = ((List.range m).map fun (c : Nat) => l.countP (waits (c : Int))).sum + upTo t m := fun m => by
      induction m with
      | zero => rw [upTo_zero ht.1]; rfl
      | succ m ihm =>
        have hs := upTo_succ t m
        rw [List.range_succ, List.map_append, List.map_append, List.sum_append, List.sum_append, ihm]
        simp only [List.map_cons, List.map_nil, List.sum_cons, List.sum_nil, List.countP_cons]
        omega
    rw [key n, ← ih, List.countP_cons, upTo_all ht.2]

theorem sum_le (f : Nat → Nat) (k : Nat) : ∀ n, (∀ c, c < n → f c ≤ k) → ((List.range n).map f).sum ≤ n * k
  | 0, _ => by simp
  | n + 1, h => by
    have := sum_le f k n (fun c hc => h c (by omega))
    rw [List.range_succ, List.map_append, List.sum_append]
    have h2 := h n (by omega)
    simp only [List.map_cons, List.map_nil, List.sum_cons, List.sum_nil]
    rw [Nat.succ_mul]
    omega

theorem waiting_le {s : CluV} (h : CluFit s) (hq : ∀ c : Nat, ((queueV s.txs c).length : Int) ≤ s.conf.queue) : waiting s ≤ 64 := by
  have hcf := h.conf
  unfold confOk at hcf
  simp only [Bool.and_eq_true, decide_eq_true_eq] at hcf
  obtain ⟨n, hn⟩ := Int.eq_ofNat_of_zero_le (by omega : 0 ≤ s.conf.clients)
  have h1 := waiting_sum s.txs n (fun t ht => by have := h.tx t ht; rw [hn] at this; exact ⟨this.2.1, this.2.2.1⟩)
  have h2 := sum_le (fun c => s.txs.countP (waits (c : Int))) 8 n (fun c _ => by
    have := hq c
    unfold queueV at this
    rw [queue_count] at this
    show s.txs.countP _ ≤ 8
    omega)
  unfold waiting
  rw [h1]
  omega

end Go.Proofs.YtccckonckddadaaGreat
namespace Go.Proofs.YtccckonckddadaaGreat
set_option linter.unusedVariables false

/-- What a client's part of an epoch leaves alone. -/
structure Mild (s s' : CluV) : Prop where
  conf : s'.conf = s.conf
  epochs : s'.epochs = s.epochs
  first : s'.first = s.first
  reps : s'.reps = s.reps
  queue : ∀ c : Int, (queueV s'.txs c).length ≤ (queueV s.txs c).length
theorem Mild.refl (s : CluV) : Mild s s := ⟨rfl, rfl, rfl, rfl, fun _ => Nat.le_refl _⟩
theorem Mild.trans {a b c : CluV} (h : Mild a b) (k : Mild b c) : Mild a c := ⟨k.conf.trans h.conf, k.epochs.trans h.epochs, k.first.trans h.first, k.reps.trans h.reps, fun x => Nat.le_trans (k.queue x) (h.queue x)⟩
theorem mild_ends {s : CluV} {i : Nat} {t : TxV} {st : Int} (hi : s.txs[i]? = some t) (hst : st ≠ 0) : Mild s (endsV s i st) := ⟨rfl, rfl, rfl, rfl, fun c => ends_queue hi hst c⟩

theorem fit_client {s : CluV} (h : CluFit s) {t : TxV} (ht : t ∈ s.txs) : 0 ≤ t.c ∧ t.c < 8 ∧ 0 ≤ t.i ∧ t.i ≤ 999999 := by
  have hcf := h.conf
  unfold confOk at hcf
  simp only [Bool.and_eq_true, decide_eq_true_eq] at hcf
  have := h.tx t ht
  omega

theorem late_rec {client i : Int} (h0 : 0 ≤ client) (h8 : client < 8) (hi : 0 ≤ i ∧ i ≤ 999999) : Dk.recOk (⟨client, i, true, ⟨#[]⟩⟩ : RecV).told = true := by
  show ((if true = true then (([] : List UInt8) == []) else _) && decide (0 ≤ client ∧ client < 8) && decide (0 ≤ i ∧ i ≤ 999999)) = true
  rw [decide_eq_true ⟨h0, h8⟩, decide_eq_true hi]; rfl

theorem lateGo_mild {client : Int} (h0 : 0 ≤ client) (h8 : client < 8) : ∀ (q : List Nat) (s : CluV) (l : List RecV), CluFit s → (∀ x ∈ q, ∃ t, s.txs[x]? = some t ∧ t.s = 0) → q.Nodup → (recs l).all Dk.recOk = true →
    Mild s (lateGo client q s l).1 ∧ CluFit (lateGo client q s l).1 ∧ (lateGo client q s l).1.credit = s.credit ∧ (lateGo client q s l).2.length + waiting (lateGo client q s l).1 = l.length + waiting s ∧ (recs (lateGo client q s l).2).all Dk.recOk = true
  | [], s, l, hf, _, _, hl => ⟨Mild.refl s, hf, rfl, rfl, hl⟩
  | x :: q, s, l, hf, hw, hn, hl => by
    obtain ⟨t, ht, hs⟩ := hw x (by simp)
    rw [List.nodup_cons] at hn
    rw [lateGo, ht]
    simp only
    split
    · have h1 := fit_ends hf x 3
      have h2 : ∀ y ∈ q, ∃ t, (endsV s x 3).txs[y]? = some t ∧ t.s = 0 := by
        intro y hy
        obtain ⟨t', ht', hs'⟩ := hw y (by simp [hy])
        refine ⟨t', ?_, hs'⟩
        show (s.txs.modify x _)[y]? = some t'
        rw [modify_get, if_neg (fun e => hn.1 (by rw [e]; exact hy))]
        exact ht'
      have hid := fit_client hf (List.mem_of_getElem? ht)
      have h3 : (recs (l ++ [⟨client, t.i, true, ⟨#[]⟩⟩])).all Dk.recOk = true := by
        unfold recs at hl ⊢
        rw [List.map_append, List.all_append, hl]
        simp only [List.map_cons, List.map_nil, List.all_cons, List.all_nil, Bool.true_and, Bool.and_true]
        exact late_rec h0 h8 hid.2.2
      obtain ⟨a1, a2, a3, a4, a5⟩ := lateGo_mild h0 h8 q (endsV s x 3) (l ++ [⟨client, t.i, true, ⟨#[]⟩⟩]) h1 h2 hn.2 h3
      refine ⟨(mild_ends ht (by decide)).trans a1, a2, a3, ?_, a5⟩
      have h4 := ends_waiting (st := 3) ht hs (by decide)
      rw [a4, List.length_append, List.length_singleton]
      omega
    · exact lateGo_mild h0 h8 q s l hf (fun y hy => hw y (by simp [hy])) hn.2 hl

theorem queue_rise (client : Int) : ∀ (l : List TxV) (k : Nat), (queueFrom client k l).Nodup ∧ ∀ x ∈ queueFrom client k l, ∃ t, l[x - k]? = some t ∧ k ≤ x ∧ t.s = 0 ∧ t.c = client
  | [], k => ⟨List.nodup_nil, fun x hx => by simp [queueFrom] at hx⟩
  | t :: l, k => by
    obtain ⟨h1, h2⟩ := queue_rise client l (k + 1)
    have hin : ∀ x ∈ queueFrom client (k + 1) l, ∃ t', (t :: l)[x - k]? = some t' ∧ k ≤ x ∧ t'.s = 0 ∧ t'.c = client := fun x hx => by
      obtain ⟨t', e1, e2, e3⟩ := h2 x hx
      refine ⟨t', ?_, by omega, e3⟩
      rw [show x - k = (x - (k + 1)) + 1 from by omega, List.getElem?_cons_succ]
      exact e1
    rw [queueFrom]
    split
    · rename_i hw
      refine ⟨List.nodup_cons.2 ⟨fun hk => ?_, h1⟩, fun x hx => ?_⟩
      · obtain ⟨_, _, e2, _⟩ := h2 k hk
        omega
      · rcases List.mem_cons.1 hx with rfl | hx
        · unfold waits at hw
          rw [Bool.and_eq_true, decide_eq_true_eq, decide_eq_true_eq] at hw
          exact ⟨t, by rw [Nat.sub_self]; rfl, Nat.le_refl _, hw.2, hw.1⟩
        · exact hin x hx
    · exact ⟨h1, hin⟩

theorem lateV_mild {s : CluV} (hf : CluFit s) {client : Int} (h0 : 0 ≤ client) (h8 : client < 8) : Mild s (lateV s client).1 ∧ CluFit (lateV s client).1 ∧ (lateV s client).1.credit = s.credit ∧ (lateV s client).2.length + waiting (lateV s client).1 = waiting s ∧ (recs (lateV s client).2).all Dk.recOk = true := by
  obtain ⟨h1, h2⟩ := queue_rise client s.txs 0
  have h := lateGo_mild h0 h8 (queueV s.txs client) s [] hf (fun x hx => by
    obtain ⟨t, e1, _, e3, _⟩ := h2 x hx
    exact ⟨t, e1, e3⟩) h1 rfl
  obtain ⟨a1, a2, a3, a4, a5⟩ := h
  refine ⟨a1, a2, a3, ?_, a5⟩
  show (lateGo client (queueV s.txs client) s []).2.length + waiting (lateGo client (queueV s.txs client) s []).1 = _
  rw [a4]; simp

/-! ### visit -/
theorem front_waits {s : CluV} {client : Nat} {room : Int} {q : Nat} {t : TxV} (h : frontV s client room = (q : Int)) (ht : s.txs[q]? = some t) : t.s = 0 := by
  unfold frontV at h
  cases hq : queueV s.txs client with
  | nil => rw [hq] at h; simp at h
  | cons x qs =>
    rw [hq] at h
    simp only at h
    obtain ⟨_, h2⟩ := queue_rise client s.txs 0
    obtain ⟨t', e1, _, e3, _⟩ := h2 x (by show x ∈ queueV s.txs client; rw [hq]; simp)
    rw [Nat.sub_zero] at e1
    rw [e1] at h
    simp only at h
    split at h
    · omega
    · have : x = q := by omega
      subst this
      rw [e1] at ht
      cases ht
      exact e3

theorem visit_rec {client : Nat} {i : Int} {t : ByteArray} (h8 : client < 8) (hi : 0 ≤ i ∧ i ≤ 999999) (ht : Dk.parseOk t.data.toList = true) : Dk.recOk (⟨client, i, false, t⟩ : RecV).told = true := by
  show ((if false = true then _ else Dk.parseOk t.data.toList) && decide (0 ≤ (client : Int) ∧ (client : Int) < 8) && decide (0 ≤ i ∧ i ≤ 999999)) = true
  rw [decide_eq_true ⟨by omega, by omega⟩, decide_eq_true hi]
  simp [ht]

theorem sign_16 {sg : Int} {j : Nat} {h v : Int} {cs : List Int} (hc : Dk.All16 cs) (hv : Dk.In16 v) : Dk.All16 (Dk.signV sg j h v cs).1 := by
  unfold Dk.signV
  split
  · exact Dk.set_16 hc j hv
  split
  · exact Dk.set_16 hc j (Dk.wrap16_bd _)
  split
  · exact Dk.set_16 hc j (Dk.wrap16_bd _)
  split
  · exact Dk.set_16 hc j (Dk.wrap16_bd _)
  split
  · exact hc
  split
  · exact hc
  split
  · exact hc
  · exact hc
theorem step_16 {ks : List Bool} {l : List UInt8} {cs : List Int} (h : Dk.All16 cs) : Dk.All16 (Dk.stepV ks (Dk.opV l) cs).1 := by
  cases hk : Dk.decl ks (Dk.opV l).key
  · rw [Dk.stepV_key hk]; exact h
  · cases hi : (Dk.opV l).isKey
    · rw [Dk.stepV_go hk (fun hh => by rw [hi] at hh; cases hh)]
      exact sign_16 h (Dk.argVal_16 h l)
    · cases hd : Dk.decl ks (Dk.opV l).akey
      · rw [Dk.stepV_arg hk hi hd]; exact h
      · rw [Dk.stepV_go hk (fun _ => hd)]
        exact sign_16 h (Dk.argVal_16 h l)
theorem run_16 (ks : List Bool) : ∀ (ps : List (List UInt8)) (cs cs' : List Int), Dk.All16 cs → Dk.runV ks (ps.map Dk.opV) cs = some cs' → Dk.All16 cs'
  | [], cs, cs', h, hr => by
    rw [List.map_nil, Dk.runV] at hr
    cases hr
    exact h
  | p :: ps, cs, cs', h, hr => by
    rw [List.map_cons, Dk.runV] at hr
    split at hr
    · exact run_16 ks ps _ _ (step_16 h) hr
    · cases hr
theorem doV_16 {l : List UInt8} {cs : List Int} (h : Dk.All16 cs) : Dk.All16 (Dk.doV l cs).1 := by
  unfold Dk.doV
  cases hr : Dk.runV (Dk.keysOf l) (Dk.opsOf l) cs with
  | none => exact h
  | some cs' => exact run_16 _ _ _ _ h hr

theorem round_mild {s : CluV} (hf : CluFit s) {client q : Nat} {room : Int} {t : TxV} (hfr : frontV s client room = (q : Int)) (ht : s.txs[q]? = some t) (hc : (costV t.t : Int) ≤ s.credit.getD client 0) :
    Mild s (roundV s client q t) ∧ CluFit (roundV s client q t) ∧ waiting (roundV s client q t) + 1 = waiting s ∧ (∀ k, k ≠ client → (roundV s client q t).credit[k]? = s.credit[k]?) := by
  have hs := front_waits hfr ht
  have hst : (if (Dk.doV t.t.data.toList s.cells).2 then (1 : Int) else 2) ≠ 0 := by split <;> decide
  have hcr : 0 ≤ s.credit.getD client 0 - (costV t.t : Int) ∧ s.credit.getD client 0 - (costV t.t : Int) ≤ 8 * ((s.epochs.length : Int) + 1) := by
    refine ⟨by omega, ?_⟩
    by_cases hl : client < s.credit.length
    · have := hf.cr s.credit[client] (List.getElem_mem hl)
      rw [List.getD_eq_getElem?_getD, List.getElem?_eq_getElem hl]
      simp only [Option.getD_some]
      omega
    · rw [List.getD_eq_getElem?_getD, List.getElem?_eq_none (by omega)]
      simp only [Option.getD_none]
      omega
  have f1 := fit_cells (fit_cred hf (c := client) hcr) (doV_len t.t.data.toList hf.cells) (doV_16 hf.c16)
  have f2 := fit_ends f1 q (if (Dk.doV t.t.data.toList s.cells).2 then 1 else 2)
  have ht' : (cellsV (credV s client (s.credit.getD client 0 - (costV t.t : Int))) (Dk.doV t.t.data.toList s.cells).1).txs[q]? = some t := ht
  refine ⟨?_, f2, ends_waiting ht' hs hst, fun k hk => ?_⟩
  · exact Mild.trans (b := cellsV (credV s client (s.credit.getD client 0 - (costV t.t : Int))) (Dk.doV t.t.data.toList s.cells).1) ⟨rfl, rfl, rfl, rfl, fun _ => Nat.le_refl _⟩ (mild_ends ht' hst)
  · show (s.credit.set client _)[k]? = _
    rw [List.getElem?_set_ne (fun e => hk e.symm)]

theorem visitGo_mild {client : Nat} (h8 : client < 8) : ∀ (k : Nat) (s : CluV) (room : Int) (l : List RecV), CluFit s → 0 ≤ room → (recs l).all Dk.recOk = true →
    Mild s (visitGo client k s room l).1 ∧ CluFit (visitGo client k s room l).1 ∧ (visitGo client k s room l).2.1.length + waiting (visitGo client k s room l).1 = l.length + waiting s ∧ (recs (visitGo client k s room l).2.1).all Dk.recOk = true ∧ (∀ j, j ≠ client → (visitGo client k s room l).1.credit[j]? = s.credit[j]?) ∧ 0 ≤ (visitGo client k s room l).2.2 ∧ (visitGo client k s room l).2.2 ≤ room
  | 0, s, room, l, hf, hr, hl => ⟨Mild.refl s, hf, rfl, hl, fun _ _ => rfl, hr, Int.le_refl _⟩
  | k + 1, s, room, l, hf, hr, hl => by
    by_cases hlt : frontV s client room < 0
    · rw [visit_stop hlt]
      exact ⟨Mild.refl s, hf, rfl, hl, fun _ _ => rfl, hr, Int.le_refl _⟩
    · obtain ⟨q, t, h1, h2, h3, h4⟩ := front_some (by omega : 0 ≤ frontV s client room)
      rw [visit_go h1 h2]
      obtain ⟨m1, m2, m3, m4⟩ := round_mild hf h1 h2 h3
      have hid := fit_client hf (List.mem_of_getElem? h2)
      have hpt := (hf.tx _ (List.mem_of_getElem? h2)).1
      have h5 : (recs (l ++ [⟨client, t.i, false, t.t⟩])).all Dk.recOk = true := by
        unfold recs at hl ⊢
        rw [List.map_append, List.all_append, hl]
        simp only [List.map_cons, List.map_nil, List.all_cons, List.all_nil, Bool.true_and, Bool.and_true]
        exact visit_rec h8 hid.2.2 hpt
      obtain ⟨a1, a2, a3, a4, a5, a6, a7⟩ := visitGo_mild h8 k (roundV s client q t) (room - costV t.t) (l ++ [⟨client, t.i, false, t.t⟩]) m2 (by omega) h5
      refine ⟨m1.trans a1, a2, ?_, a4, fun j hj => (a5 j hj).trans (m4 j hj), a6, by omega⟩
      rw [a3, List.length_append, List.length_singleton]
      omega

end Go.Proofs.YtccckonckddadaaGreat
namespace Go.Proofs.YtccckonckddadaaGreat
open Go.RowKit
set_option linter.unusedVariables false

/-! ### The bytes of the first epochs -/
def logV (s : CluV) (n : Nat) : List UInt8 := Dk.logFrom 0 ((s.epochs.take n).map recs)

theorem ep_cell {w : World} {n c : Nat} {a : Option Addr} {eas : List (Option Addr × Nat)} {es : List (List RecV)} (h : w.ownsRow 0 36 1 (.slice a n c) n (List.zipWith (fun (a : Option Addr × Nat) (rs : List RecV) => Value.slice a.1 rs.length a.2) eas es)) (hl : eas.length = es.length) (hn : es.length = n) {k : Nat} (hk : k < n) :
    ∃ (g : Nat) (x : Option Addr × Nat) (rs : List RecV), a = some ⟨g, 0, none⟩ ∧ g < w.heap.size ∧ eas[k]? = some x ∧ es[k]? = some rs ∧ w.cell? ⟨g, k, none⟩ = some (.slice x.1 rs.length x.2) := by
  obtain ⟨g, rfl, hg, hc, _⟩ := own_cell h (by omega)
  have h1 : k < eas.length := by omega
  have h2 : k < es.length := by omega
  refine ⟨g, eas[k], es[k], rfl, hg, List.getElem?_eq_getElem h1, List.getElem?_eq_getElem h2, hc k _ ?_⟩
  rw [List.getElem?_zipWith, List.getElem?_eq_getElem h1, List.getElem?_eq_getElem h2]

theorem log_snoc {s : CluV} {k : Nat} {rs : List RecV} (hk : s.epochs[k]? = some rs) : logV s (k + 1) = logV s k ++ Dk.epoch k (recs rs) := by
  obtain ⟨hl, rfl⟩ := List.getElem?_eq_some_iff.1 hk
  unfold logV
  rw [List.take_succ_eq_append_getElem hl, List.map_append]
  show Dk.logFrom 0 (_ ++ [recs s.epochs[k]]) = _
  rw [Dk.logFrom_snoc, List.length_map, List.length_take, Nat.min_eq_left (by omega), Nat.zero_add]

set_option maxRecDepth 100000 in
set_option maxHeartbeats 2000000 in
theorem refbytes_any (g : Nat) (F : Nat → Prop) (s : CluV) (n : Nat) (w : World) (h : CluAt w g F s) (hn : n ≤ s.epochs.length) :
    Calls Tryz.prog 47 #[.pointer (some ⟨g, 0, none⟩), .int .i64 n] w fun e w' => ∃ b : ByteArray, e = .returned (.string b) ∧ b.data.toList = logV s n ∧ Below w.heap.size w w' := by
  have hg := h.block
  have hmany := h.fit.many
  obtain ⟨aT, aE, cT, cE, eas, m1, _, _, m4, _, m6, m7⟩ := h.mem
  have c15 : w.cell? ⟨g, 15, none⟩ = some (.slice aE s.epochs.length cE) := by
    rw [(heap_cells m1).1, List.getElem?_toArray]
    exact clu_epochs h.fit.credit
  have H : Hid _ := h
  have HM : Hid (_ ∧ _ ∧ _) := ⟨m4, m6, m7⟩
  have C15 : Hid _ := c15
  clear m1 m4 m6 m7 h c15
  obtain ⟨ne, hne⟩ : ∃ x, s.epochs.length = x := ⟨_, rfl⟩
  rw [hne] at hmany hn C15
  have HNe : Hid _ := hne
  clear hne
  go_enter Tryz.func47, Tryz.ntmps47
  go_wp2
  go_loopw [5, 6] (fun v5 v6 wr => ∃ (k : Nat) (lg : ByteArray), k ≤ n ∧ v5 = .string lg ∧ v6 = .int .i64 k ∧ lg.size ≤ 4232 * k ∧ Hid (lg.data.toList = logV s k) ∧ Hid (Below w.heap.size w wr)) (fun _ v6 _ => n - (intOf v6).toNat)
  case atStart => exact ⟨0, ⟨#[]⟩, Nat.zero_le _, rfl, rfl, Nat.le_refl _, rfl, Below.refl _ _⟩
  case round =>
    obtain ⟨k, lg, hk, rfl, rfl, hls, HLg, HB⟩ := hrel
    have c15 : wr.cell? ⟨g, 15, none⟩ = some (.slice aE ne cE) := (HB.out.cell (p := ⟨g, 15, none⟩) hg).trans C15.out
    have hgr : g < wr.heap.size := Nat.lt_of_lt_of_le hg HB.out.size
    by_cases hlt : k < n
    · have k1 : (k : Int) < (n : Int) := by omega
      have k2 : (k : Int) < (ne : Int) := by omega
      have k0 : (0 : Int) ≤ (k : Int) := by omega
      have m4 := HM.out.1
      rw [HNe.out] at m4
      obtain ⟨gE, x, rs, rfl, hgE, hx, hrs, d0⟩ := ep_cell m4 HM.out.2.1 HNe.out (by omega : k < ne)
      obtain ⟨hrow, _⟩ := HM.out.2.2 k x rs hx hrs
      have e0 := (HB.out.cell (p := ⟨gE, k, none⟩) hgE).trans d0
      have hgEr : gE < wr.heap.size := Nat.lt_of_lt_of_le hgE HB.out.size
      have hep := H.out.fit.ep rs (List.mem_of_getElem? hrs)
      have HF : Hid (Dk.frameOk (k : Int) (recs rs) = true) := by
        show _ = _
        unfold Dk.frameOk
        rw [decide_eq_true ⟨k0, by omega⟩, decide_eq_true (by rw [recs, List.length_map]; exact hep.1), hep.2]; rfl
      have HRow : Hid (RecRow wr x.1 rs.length rs) := hrow.kept HB.out
      have HRs : Hid _ := hrs
      have hrl := hep.1
      clear m4 hx hrs d0 hrow hep
      obtain ⟨xa, xc⟩ := x
      simp only at e0
      generalize rs.length = rl at *
      go_wp2_with fail
      refine (frame_any (k : Int) xa rl xc rs _ (by unfold maxLen; omega) HRow.out).mono ?_
      rintro e w4 ⟨b, rfl, hb, hB4⟩
      rewrite [HF.out]
      rw [HF.out] at hb
      have HBb : Hid (b.data.toList = Dk.epoch k (recs rs)) := hb
      have hbs : b.size ≤ 4232 := by
        have := epoch_small HF.out
        have h2 := congrArg List.length HBb.out
        rw [len_list] at h2
        rw [Int.toNat_natCast] at this
        omega
      have HB4 : Hid (Below w.heap.size w w4) := HB.out.trans (hB4.mono HB.out.size)
      have y1 : ¬ 9223372036854775807 < lg.size + b.size := by omega
      have HLn : Hid ((lg ++ b).data.toList = logV s (k + 1)) := by
        show _ = _
        rw [app_list, HLg.out, HBb.out, log_snoc HRs.out]
      have hls2 : (lg ++ b).size ≤ 4232 * (k + 1) := by rw [app_size]; omega
      clear hb hB4 e0 c15
      go_wp2
      go_roundw
      case rel => exact ⟨k + 1, lg ++ b, by omega, rfl, by go_num, hls2, HLn, HB4⟩
      case measure => simp [intOf]; omega
    · have hkn : k = n := by omega
      subst hkn
      have hii : decide ((k : Int) < (k : Int)) = false := decide_eq_false (by omega)
      go_wp2
      go_ret
      exact ⟨lg, rfl, HLg.out, HB.out⟩

theorem reflog_any (g : Nat) (F : Nat → Prop) (s : CluV) (w : World) (h : CluAt w g F s) :
    Calls Tryz.prog 15 #[.pointer (some ⟨g, 0, none⟩)] w fun e w' => ∃ b : ByteArray, e = .returned (.string b) ∧ b.data.toList = logV s s.epochs.length ∧ Below w.heap.size w w' := by
  have hg := h.block
  obtain ⟨aT, aE, cT, cE, eas, m1, _⟩ := h.mem
  have c15 : w.cell? ⟨g, 15, none⟩ = some (.slice aE s.epochs.length cE) := by
    rw [(heap_cells m1).1, List.getElem?_toArray]
    exact clu_epochs h.fit.credit
  have H : Hid _ := h
  clear m1 h
  go_enter Tryz.func15, Tryz.ntmps15
  go_wp2_with fail
  refine (refbytes_any g F s s.epochs.length _ H.out (Nat.le_refl _)).mono ?_
  rintro e w1 ⟨b, rfl, hb, hB⟩
  have HB : Hid (_ ∧ _) := ⟨hb, hB⟩
  clear hb hB c15
  go_wp2
  go_ret
  exact ⟨b, rfl, HB.out.1, HB.out.2⟩

end Go.Proofs.YtccckonckddadaaGreat
namespace Go.Proofs.YtccckonckddadaaGreat
open Go.RowKit
set_option linter.unusedVariables false

/-! ### New -/
def newCells (c : ConfV) : Array Value := #[.int .i64 c.clients, .int .i64 c.queue, .int .i64 c.quantum, .int .i64 c.room, .int .i64 c.reps, .slice none 0 0, .int .i64 0, .int .i64 0, .int .i64 0, .int .i64 0, .int .i64 0, .int .i64 0, .int .i64 0, .int .i64 0, .int .i64 0, .slice none 0 0, .int .i64 0, .int .i64 0, .int .i64 0, .int .i64 0, .int .i64 0, .int .i64 0, .int .i64 0, .int .i64 0, .int .i64 0, .int .i64 0, .int .i64 0, .int .i64 0, .int .i64 0, .int .i64 0, .int .i64 0, .int .i64 0]

theorem fit_new {c : ConfV} (h : confOk c = true) : CluFit (newV c) := by
  have hc := h
  unfold confOk at hc
  simp only [Bool.and_eq_true, decide_eq_true_eq] at hc
  exact ⟨h, rfl, rfl, rfl, Nat.zero_le _, Int.le_refl _, by show (0 : Int) < c.clients; omega, Nat.zero_le _, (fun t ht => by cases ht), (fun i j x y hx => by simp [newV] at hx), (fun rs hrs => by cases hrs), (fun y hy => by simp [newV] at hy; subst hy; unfold Dk.In16; omega), (fun y hy => by simp [newV] at hy; subst hy; exact ⟨Int.le_refl _, by simp [newV]⟩)⟩
theorem clu_new {w : World} {g : Nat} {c : ConfV} (h : confOk c = true) (hg : w.heap[g]? = some (.cells (newCells c) 113)) : CluAt w g (fun k => k = g) (newV c) := by
  refine ⟨fit_new h, rfl, (fun k hk => by subst hk; exact (heap_cells hg).2.2), none, none, 0, 0, [], hg, World.ownsRow_nil _ _ _ _, (fun k hk => by cases hk), World.ownsRow_nil _ _ _ _, (fun k hk => by cases hk), rfl, (fun i a rs ha => by simp at ha)⟩

def NewPost (c : ConfV) (w : World) (e : Ending) (w' : World) : Prop :=
  (confOk c = true ∧ ∃ g, e = .returned (.tuple #[.pointer (some ⟨g, 0, none⟩), .int .i64 0]) ∧ CluAt w' g (fun k => k = g) (newV c) ∧ w.heap.size ≤ g ∧ Below w.heap.size w w') ∨
  (confOk c = false ∧ e = .returned (.tuple #[.pointer none, .int .i64 3]) ∧ Below w.heap.size w w')

set_option maxRecDepth 100000 in
set_option maxHeartbeats 2000000 in
theorem refnew_any (c : ConfV) (w : World) : Calls Tryz.prog 28 #[.agg #[.int .i64 c.clients, .int .i64 c.queue, .int .i64 c.quantum, .int .i64 c.room, .int .i64 c.reps]] w (NewPost c w) := by
  have HBa : Hid (∀ o, Below w.heap.size w (w.alloc o)) := fun o => (Below.refl _ _).alloc (Nat.le_refl _) _
  obtain ⟨x1, x2, x3, x4, x5⟩ := c
  by_cases h1 : 1 ≤ x1 ∧ x1 ≤ 8
  rotate_left
  · have HC : Hid (confOk ⟨x1, x2, x3, x4, x5⟩ = false) := by show _ = _; unfold confOk; simp only [decide_eq_false h1]; simp
    by_cases h4 : 8 ≤ x4 ∧ x4 ≤ 64
    · by_cases h5 : 1 ≤ x5 ∧ x5 ≤ 4
      · go_enter Tryz.func28, Tryz.ntmps28
        go_wp2_with (first | (go_at_call_of 52 (Value.int IntKind.i64 x1); refine (off_yes _ h1).mono ?_; rintro e w' ⟨rfl, rfl⟩) | (go_at_call_of 52 (Value.int IntKind.i64 x4); refine (off_no _ h4).mono ?_; rintro e w' ⟨rfl, rfl⟩) | (go_at_call_of 52 (Value.int IntKind.i64 x5); refine (off_no _ h5).mono ?_; rintro e w' ⟨rfl, rfl⟩))
        go_ret2
        exact .inr ⟨HC.out, rfl, HBa.out _⟩
      · go_enter Tryz.func28, Tryz.ntmps28
        go_wp2_with (first | (go_at_call_of 52 (Value.int IntKind.i64 x1); refine (off_yes _ h1).mono ?_; rintro e w' ⟨rfl, rfl⟩) | (go_at_call_of 52 (Value.int IntKind.i64 x4); refine (off_no _ h4).mono ?_; rintro e w' ⟨rfl, rfl⟩) | (go_at_call_of 52 (Value.int IntKind.i64 x5); refine (off_yes _ h5).mono ?_; rintro e w' ⟨rfl, rfl⟩))
        go_ret2
        exact .inr ⟨HC.out, rfl, HBa.out _⟩
    · go_enter Tryz.func28, Tryz.ntmps28
      go_wp2_with (first | (go_at_call_of 52 (Value.int IntKind.i64 x1); refine (off_yes _ h1).mono ?_; rintro e w' ⟨rfl, rfl⟩) | (go_at_call_of 52 (Value.int IntKind.i64 x4); refine (off_yes _ h4).mono ?_; rintro e w' ⟨rfl, rfl⟩))
      go_ret2
      exact .inr ⟨HC.out, rfl, HBa.out _⟩
  by_cases h2 : 1 ≤ x2 ∧ x2 ≤ 8
  rotate_left
  · have HC : Hid (confOk ⟨x1, x2, x3, x4, x5⟩ = false) := by show _ = _; unfold confOk; simp only [decide_eq_false h2]; simp
    by_cases h4 : 8 ≤ x4 ∧ x4 ≤ 64
    · by_cases h5 : 1 ≤ x5 ∧ x5 ≤ 4
      · go_enter Tryz.func28, Tryz.ntmps28
        go_wp2_with (first | (go_at_call_of 52 (Value.int IntKind.i64 x1); refine (off_no _ h1).mono ?_; rintro e w' ⟨rfl, rfl⟩) | (go_at_call_of 52 (Value.int IntKind.i64 x2); refine (off_yes _ h2).mono ?_; rintro e w' ⟨rfl, rfl⟩) | (go_at_call_of 52 (Value.int IntKind.i64 x4); refine (off_no _ h4).mono ?_; rintro e w' ⟨rfl, rfl⟩) | (go_at_call_of 52 (Value.int IntKind.i64 x5); refine (off_no _ h5).mono ?_; rintro e w' ⟨rfl, rfl⟩))
        go_ret2
        exact .inr ⟨HC.out, rfl, HBa.out _⟩
      · go_enter Tryz.func28, Tryz.ntmps28
        go_wp2_with (first | (go_at_call_of 52 (Value.int IntKind.i64 x1); refine (off_no _ h1).mono ?_; rintro e w' ⟨rfl, rfl⟩) | (go_at_call_of 52 (Value.int IntKind.i64 x2); refine (off_yes _ h2).mono ?_; rintro e w' ⟨rfl, rfl⟩) | (go_at_call_of 52 (Value.int IntKind.i64 x4); refine (off_no _ h4).mono ?_; rintro e w' ⟨rfl, rfl⟩) | (go_at_call_of 52 (Value.int IntKind.i64 x5); refine (off_yes _ h5).mono ?_; rintro e w' ⟨rfl, rfl⟩))
        go_ret2
        exact .inr ⟨HC.out, rfl, HBa.out _⟩
    · go_enter Tryz.func28, Tryz.ntmps28
      go_wp2_with (first | (go_at_call_of 52 (Value.int IntKind.i64 x1); refine (off_no _ h1).mono ?_; rintro e w' ⟨rfl, rfl⟩) | (go_at_call_of 52 (Value.int IntKind.i64 x2); refine (off_yes _ h2).mono ?_; rintro e w' ⟨rfl, rfl⟩) | (go_at_call_of 52 (Value.int IntKind.i64 x4); refine (off_yes _ h4).mono ?_; rintro e w' ⟨rfl, rfl⟩))
      go_ret2
      exact .inr ⟨HC.out, rfl, HBa.out _⟩
  by_cases h3 : 1 ≤ x3 ∧ x3 ≤ 8
  rotate_left
  · have HC : Hid (confOk ⟨x1, x2, x3, x4, x5⟩ = false) := by show _ = _; unfold confOk; simp only [decide_eq_false h3]; simp
    by_cases h4 : 8 ≤ x4 ∧ x4 ≤ 64
    · by_cases h5 : 1 ≤ x5 ∧ x5 ≤ 4
      · go_enter Tryz.func28, Tryz.ntmps28
        go_wp2_with (first | (go_at_call_of 52 (Value.int IntKind.i64 x1); refine (off_no _ h1).mono ?_; rintro e w' ⟨rfl, rfl⟩) | (go_at_call_of 52 (Value.int IntKind.i64 x2); refine (off_no _ h2).mono ?_; rintro e w' ⟨rfl, rfl⟩) | (go_at_call_of 52 (Value.int IntKind.i64 x3); refine (off_yes _ h3).mono ?_; rintro e w' ⟨rfl, rfl⟩) | (go_at_call_of 52 (Value.int IntKind.i64 x4); refine (off_no _ h4).mono ?_; rintro e w' ⟨rfl, rfl⟩) | (go_at_call_of 52 (Value.int IntKind.i64 x5); refine (off_no _ h5).mono ?_; rintro e w' ⟨rfl, rfl⟩))
        go_ret2
        exact .inr ⟨HC.out, rfl, HBa.out _⟩
      · go_enter Tryz.func28, Tryz.ntmps28
        go_wp2_with (first | (go_at_call_of 52 (Value.int IntKind.i64 x1); refine (off_no _ h1).mono ?_; rintro e w' ⟨rfl, rfl⟩) | (go_at_call_of 52 (Value.int IntKind.i64 x2); refine (off_no _ h2).mono ?_; rintro e w' ⟨rfl, rfl⟩) | (go_at_call_of 52 (Value.int IntKind.i64 x3); refine (off_yes _ h3).mono ?_; rintro e w' ⟨rfl, rfl⟩) | (go_at_call_of 52 (Value.int IntKind.i64 x4); refine (off_no _ h4).mono ?_; rintro e w' ⟨rfl, rfl⟩) | (go_at_call_of 52 (Value.int IntKind.i64 x5); refine (off_yes _ h5).mono ?_; rintro e w' ⟨rfl, rfl⟩))
        go_ret2
        exact .inr ⟨HC.out, rfl, HBa.out _⟩
    · go_enter Tryz.func28, Tryz.ntmps28
      go_wp2_with (first | (go_at_call_of 52 (Value.int IntKind.i64 x1); refine (off_no _ h1).mono ?_; rintro e w' ⟨rfl, rfl⟩) | (go_at_call_of 52 (Value.int IntKind.i64 x2); refine (off_no _ h2).mono ?_; rintro e w' ⟨rfl, rfl⟩) | (go_at_call_of 52 (Value.int IntKind.i64 x3); refine (off_yes _ h3).mono ?_; rintro e w' ⟨rfl, rfl⟩) | (go_at_call_of 52 (Value.int IntKind.i64 x4); refine (off_yes _ h4).mono ?_; rintro e w' ⟨rfl, rfl⟩))
      go_ret2
      exact .inr ⟨HC.out, rfl, HBa.out _⟩
  by_cases h4 : 8 ≤ x4 ∧ x4 ≤ 64
  rotate_left
  · have HC : Hid (confOk ⟨x1, x2, x3, x4, x5⟩ = false) := by show _ = _; unfold confOk; simp only [decide_eq_false h4]; simp
    go_enter Tryz.func28, Tryz.ntmps28
    go_wp2_with (first | (go_at_call_of 52 (Value.int IntKind.i64 x1); refine (off_no _ h1).mono ?_; rintro e w' ⟨rfl, rfl⟩) | (go_at_call_of 52 (Value.int IntKind.i64 x2); refine (off_no _ h2).mono ?_; rintro e w' ⟨rfl, rfl⟩) | (go_at_call_of 52 (Value.int IntKind.i64 x3); refine (off_no _ h3).mono ?_; rintro e w' ⟨rfl, rfl⟩) | (go_at_call_of 52 (Value.int IntKind.i64 x4); refine (off_yes _ h4).mono ?_; rintro e w' ⟨rfl, rfl⟩))
    go_ret2
    exact .inr ⟨HC.out, rfl, HBa.out _⟩
  by_cases h5 : 1 ≤ x5 ∧ x5 ≤ 4
  rotate_left
  · have HC : Hid (confOk ⟨x1, x2, x3, x4, x5⟩ = false) := by show _ = _; unfold confOk; simp only [decide_eq_false h5]; simp
    go_enter Tryz.func28, Tryz.ntmps28
    go_wp2_with (first | (go_at_call_of 52 (Value.int IntKind.i64 x1); refine (off_no _ h1).mono ?_; rintro e w' ⟨rfl, rfl⟩) | (go_at_call_of 52 (Value.int IntKind.i64 x2); refine (off_no _ h2).mono ?_; rintro e w' ⟨rfl, rfl⟩) | (go_at_call_of 52 (Value.int IntKind.i64 x3); refine (off_no _ h3).mono ?_; rintro e w' ⟨rfl, rfl⟩) | (go_at_call_of 52 (Value.int IntKind.i64 x4); refine (off_no _ h4).mono ?_; rintro e w' ⟨rfl, rfl⟩) | (go_at_call_of 52 (Value.int IntKind.i64 x5); refine (off_yes _ h5).mono ?_; rintro e w' ⟨rfl, rfl⟩))
    go_ret2
    exact .inr ⟨HC.out, rfl, HBa.out _⟩
  have HC : Hid (confOk ⟨x1, x2, x3, x4, x5⟩ = true) := by show _ = _; unfold confOk; simp only [decide_eq_true h1, decide_eq_true h2, decide_eq_true h3, decide_eq_true h4, decide_eq_true h5]; rfl
  go_enter Tryz.func28, Tryz.ntmps28
  go_wp2_with (first | (go_at_call_of 52 (Value.int IntKind.i64 x1); refine (off_no _ h1).mono ?_; rintro e w' ⟨rfl, rfl⟩) | (go_at_call_of 52 (Value.int IntKind.i64 x2); refine (off_no _ h2).mono ?_; rintro e w' ⟨rfl, rfl⟩) | (go_at_call_of 52 (Value.int IntKind.i64 x3); refine (off_no _ h3).mono ?_; rintro e w' ⟨rfl, rfl⟩) | (go_at_call_of 52 (Value.int IntKind.i64 x4); refine (off_no _ h4).mono ?_; rintro e w' ⟨rfl, rfl⟩) | (go_at_call_of 52 (Value.int IntKind.i64 x5); refine (off_no _ h5).mono ?_; rintro e w' ⟨rfl, rfl⟩))
  go_ret2
  exact .inl ⟨HC.out, w.heap.size + 1, rfl, clu_new HC.out (heap_at (by simp)), by omega, (HBa.out _).alloc (by simp) _⟩

end Go.Proofs.YtccckonckddadaaGreat
