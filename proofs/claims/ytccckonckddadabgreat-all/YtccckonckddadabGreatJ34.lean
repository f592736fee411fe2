import Derived.Test.YtccckonckddadabGreatJ33
import Derived.Test.YtccckonckddadabGreatJ31
namespace Go.Proofs.YtccckonckddadabGreat
open Go.RowKit
set_option linter.unusedVariables false

def FillPost (g : Nat) (F : Nat → Prop) (x : CluV × Int × Int) (w : World) (e : Ending) (w' : World) : Prop := e = .returned (.tuple #[.int .i64 x.2.1, .int .i64 x.2.2]) ∧ CluPost g F x.1 w w'

theorem clu_reads {w : World} {g : Nat} {F : Nat → Prop} {s : CluV} (h : CluAt w g F s) : w.cell? ⟨g, 0, none⟩ = some (.int .i64 s.conf.clients) ∧ w.cell? ⟨g, 3, none⟩ = some (.int .i64 s.conf.room) ∧ w.cell? ⟨g, 14, none⟩ = some (.int .i64 s.first) ∧ ∀ x, w.frozen? ⟨g, x, none⟩ = false := by
  obtain ⟨aT, aE, cT, cE, eas, m1, _⟩ := h.mem
  refine ⟨by rw [(heap_cells m1).1]; rfl, by rw [(heap_cells m1).1]; rfl, ?_, (heap_cells m1).2.1⟩
  rw [(heap_cells m1).1, List.getElem?_toArray]
  exact clu_first h.fit.credit

theorem conf_edges {c : ConfV} (h : confOk c = true) : 1 ≤ c.clients ∧ c.clients ≤ 8 ∧ 0 ≤ c.room ∧ c.room ≤ 64 := by
  unfold confOk at h
  simp only [Bool.and_eq_true, decide_eq_true_eq] at h
  omega

theorem info_row : (Tryz.prog.info? 38).map (fun i => (i.zero, i.size, i.bytes)) = some (some (.slice none 0 0), 1, 24) := by kernel_rfl

theorem fit_first {s : CluV} (h : CluFit s) {x : Int} (h0 : 0 ≤ x) (h1 : x < s.conf.clients) : CluFit { s with first := x } :=
  ⟨h.conf, h.credit, h.cells, h.reps, h.many, h0, h1, h.few, h.tx, h.once, h.ep, h.c16, h.cr⟩

theorem fit_epoch {s : CluV} (h : CluFit s) {l : List RecV} (hm : s.epochs.length < 200) (hl : l.length ≤ 64) (ha : (recs l).all Dk.recOk = true) : CluFit { s with epochs := s.epochs ++ [l] } := by
  have hlen : (s.epochs ++ [l]).length = s.epochs.length + 1 := by rw [List.length_append]; rfl
  refine ⟨h.conf, h.credit, h.cells, h.reps, ?_, h.first0, h.first1, h.few, h.tx, h.once, ?_, h.c16, ?_⟩
  · show (s.epochs ++ [l]).length ≤ 200
    omega
  · intro rs hrs
    rcases List.mem_append.1 hrs with hrs | hrs
    · exact h.ep rs hrs
    · have : rs = l := by simpa using hrs
      subst this
      exact ⟨hl, ha⟩
  · intro x hx
    have := h.cr x hx
    show 0 ≤ x ∧ x ≤ 8 * (((s.epochs ++ [l]).length : Int) + 1)
    rw [hlen]
    omega

set_option maxRecDepth 100000 in
set_option maxHeartbeats 8000000 in
theorem reffill_any (g : Nat) (F : Nat → Prop) (s : CluV) (w : World) (h : CluAt w g F s) (hr : Rest s) :
    Calls Tryz.prog 28 #[.pointer (some ⟨g, 0, none⟩)] w (FillPost g F (fillV s) w) := by
  have hg := h.block
  have HFw : Hid _ := h.own
  have HR : Hid _ := hr
  have hmany := h.fit.many
  obtain ⟨hcl1, hcl8, hro0, hro1⟩ := conf_edges h.fit.conf
  have HW : Hid (waiting s ≤ 64) := waiting_le h.fit hr.queue
  have c15 : ∃ aE cE, w.cell? ⟨g, 15, none⟩ = some (.slice aE s.epochs.length cE) := by
    obtain ⟨aT, aE, cT, cE, eas, m1, _⟩ := h.mem
    refine ⟨aE, cE, ?_⟩
    rw [(heap_cells m1).1, List.getElem?_toArray]
    exact clu_epochs h.fit.credit
  obtain ⟨aE, cE, c15⟩ := c15
  have H : Hid _ := h
  clear h hr
  obtain ⟨ne, hne⟩ : ∃ x, s.epochs.length = x := ⟨_, rfl⟩
  rw [hne] at c15 hmany
  have HNe : Hid _ := hne
  clear hne
  by_cases hfull : 200 ≤ ne
  · have HS : Hid (fillV s = (s, 0, 9)) := by
      show _ = _
      unfold fillV
      rw [HNe.out, if_pos hfull]
    have hI : (200 : Int) ≤ (ne : Int) := by omega
    go_enter Tryz.func28, Tryz.ntmps28
    go_wp2
    go_ret2
    exact ⟨by rw [HS.out]; rfl, by rw [HS.out]; exact CluPost.same H.out (Below.refl _ _)⟩
  · have hI : ¬ (200 : Int) ≤ (ne : Int) := by omega
    have HA0 : Hid (FillA w w g F s s 0 [] none 0 0) := ⟨H.out, Kept.refl _ _, rfl, by simp, World.ownsRow_nil _ _ _ _, rfl, Mild.refl s, rfl, by simp, rfl⟩
    obtain ⟨n, hn⟩ := Int.eq_ofNat_of_zero_le (by omega : 0 ≤ s.conf.clients)
    have HN : Hid (s.conf.clients = (n : Int)) := hn
    rw [hn] at hcl1 hcl8
    clear hn
    go_enter Tryz.func28, Tryz.ntmps28
    go_wp2
    clear c15
    go_loopw [4, 5] (fun v4 v5 wr => ∃ (k m c : Nat) (a : Option Addr) (s' : CluV) (l : List RecV), v4 = .slice a m c ∧ v5 = .int .i64 k ∧ k ≤ n ∧ m ≤ 64 ∧ Hid (FillA w wr g F s s' k l a m c)) (fun _ v5 _ => n - (intOf v5).toNat)
    case atStart => exact ⟨0, 0, 0, none, s, [], rfl, rfl, Nat.zero_le _, Nat.zero_le _, HA0⟩
    case round =>
      clear HA0
      obtain ⟨k, m, c, a, s', l, rfl, rfl, hk, hm, HL⟩ := hrel
      have hgr := HL.out.clu.block
      obtain ⟨d0, d3, d14, dfz⟩ := clu_reads HL.out.clu
      rw [HL.out.mild.conf] at d0 d3
      rw [HL.out.mild.first] at d14
      rw [HN.out] at d0
      by_cases hlt : k < n
      · have k1 : (k : Int) < (n : Int) := by omega
        clear d3 d14 dfz
        go_wp2_with fail
        refine (late_any g F s' (k : Int) _ HL.out.clu).mono ?_
        rintro e w1 ⟨a2, m2, c2, rfl, hC, hK, hl2, hs2, ho2⟩
        have HC : Hid (_ ∧ _ ∧ _ ∧ _ ∧ _) := ⟨hC, hK, hl2, hs2, ho2⟩
        have hw2 : m + m2 ≤ 64 := by
          have y4 := (lateV_mild HL.out.clu.fit (client := (k : Int)) (by omega) (by omega)).2.2.2.1
          have := HL.out.wait
          have := HL.out.len
          have := HW.out
          omega
        have HO1 : Hid (w1.ownsRow w.heap.size 55 4 (.slice a m c) m (recsCells l)) := own_kept HL.out.own hK HFw.out
        have HO2 : Hid (w1.ownsRow w.heap.size 55 4 (.slice a2 m2 c2) m2 (recsCells (lateV s' k).2)) := own_down ho2 HL.out.kept.size
        have hz1 : w.heap.size ≤ w1.heap.size := Nat.le_trans HL.out.kept.size hK.size
        clear hC hK hl2 hs2 ho2 d0
        go_wp2_with (at_builtin; refine wpList_append_all rfl (.tmp 29) (.tmp 30) rfl w.heap.size a m c l rfl HO1.out a2 m2 c2 (lateV s' k).2 rfl HO2.out (by omega) hz1 ?_)
        intro a' c' w2 hown hgrw
        have HA1 : Hid (FillA w w2 g F s (lateV s' k).1 (k + 1) (l ++ (lateV s' k).2) a' (m + m2) c') := fillA_step HL.out HFw.out (by rw [HN.out]; omega) (by omega) HC.out.1 HC.out.2.1 HC.out.2.2.1 HC.out.2.2.2.1 HO1.out hown hgrw
        clear hown hgrw
        go_wp2
        go_roundw
        case rel => exact ⟨k + 1, m + m2, c', a', _, _, rfl, by go_num, by omega, hw2, HA1⟩
        case measure => simp [intOf]; omega
      · have hkn : k = n := by omega
        subst hkn
        have hii : decide ((k : Int) < (k : Int)) = false := decide_eq_false (by omega)
        have HE : Hid (lateFrom s.conf.clients.toNat 0 s [] = (s', l)) := by
          show _ = _
          rw [HL.out.left, HN.out, Int.toNat_natCast, Nat.sub_self]
          rfl
        go_wp2
        have HB0 : Hid (FillB w wr g F s s' s' l 0 s.conf.room l a m c) := ⟨HL.out.clu, HL.out.kept, HL.out.len, HL.out.small, HL.out.own, rfl, HL.out.mild, fun j _ _ => by rw [HL.out.credit]; exact HR.out.credit _, HL.out.wait, HL.out.all, hro0, hro1⟩
        generalize s.conf.room = room at *
        clear d0 d3 d14 dfz HL hgr
        go_loopw [4, 7, 8] (fun v4 v7 v8 wr => ∃ (i m c : Nat) (ro : Int) (a : Option Addr) (s2 : CluV) (l2 : List RecV), v4 = .slice a m c ∧ v7 = .int .i64 ro ∧ v8 = .int .i64 i ∧ i ≤ k ∧ m ≤ 64 ∧ Hid (FillB w wr g F s s' s2 l i ro l2 a m c)) (fun _ _ v8 _ => k - (intOf v8).toNat)
        case atStart => exact ⟨0, m, c, room, a, s', l, rfl, rfl, rfl, Nat.zero_le _, hm, HB0⟩
        case round =>
          clear HB0 hm
          obtain ⟨i, m', c', ro, a', s2, l2, rfl, rfl, rfl, hi, hm, HL⟩ := hrel
          have hgr := HL.out.clu.block
          obtain ⟨d0, d3, d14, dfz⟩ := clu_reads HL.out.clu
          rw [HL.out.mild.conf] at d0
          rw [HL.out.mild.first] at d14
          rw [HN.out] at d0
          have f0 := HL.out.clu.fit.first0
          have f1 := HL.out.clu.fit.first1
          rw [HL.out.mild.first] at f0
          rw [HL.out.mild.first, HL.out.mild.conf, HN.out] at f1
          by_cases hlt : i < k
          · have k1 : (i : Int) < (k : Int) := by omega
            have hn0 : ¬ (k : Int) = 0 := by omega
            have hn1 : ¬ k = 0 := by omega
            have hn2 : ((k : Int) == 0) = false := by rw [beq_eq_false_iff_ne]; exact hn0
            obtain ⟨t1, t2, t3⟩ := turn_lt (f := s.first) (i := i) (by omega : (0 : Int) < (k : Int)) (by omega)
            obtain ⟨cl, hcl⟩ : ∃ x, ((s.first + i) % (k : Int)).toNat = x := ⟨_, rfl⟩
            have hmod : (s.first + i).tmod (k : Int) = (cl : Int) := by
              rw [Int.tmod_eq_emod_of_nonneg (by omega), ← hcl]; omega
            rw [hcl] at t1
            have HCr : Hid (s2.credit.getD cl 0 ≤ 8 * (s2.epochs.length : Int)) := by
              have := HL.out.credit i (Nat.le_refl _) (by rw [HN.out]; exact k1)
              rw [HN.out, hcl] at this
              rw [HL.out.mild.epochs]
              exact this
            have HCl : Hid (cl = ((s.first + i) % s.conf.clients).toNat) := by rw [HN.out]; exact hcl.symm
            have hr0 := HL.out.room0
            have hr1 := HL.out.room1
            have HQ : Hid (∀ W, CluAt W g F (visitV s2 cl ro).1 → W.cell? ⟨g, 14, none⟩ = some (.int .i64 s.first) ∧ W.cell? ⟨g, 0, none⟩ = some (.int .i64 (k : Int))) := by
              intro W hW
              obtain ⟨p0, _, p14, _⟩ := clu_reads hW
              have hM := HL.out.mild.trans (visitV_mild HL.out.clu.fit t1 hr0 HCr.out).1
              rw [hM.conf, HN.out] at p0
              rw [hM.first] at p14
              exact ⟨p14, p0⟩
            have HCd : Hid (CluAt wr.drew g F s2) := HL.out.clu.below (Below.refl _ _).drew
            have HWt : Hid (m' + (visitV s2 cl ro).2.1.length ≤ 64) := by
              have y3 := (visitV_mild HL.out.clu.fit t1 hr0 HCr.out).2.2.1
              have := HL.out.wait
              have := HL.out.len
              have := HW.out
              show _ ≤ _
              omega
            clear hcl t2 t3 d3 dfz
            obtain ⟨f, hfe⟩ : ∃ x, s.first = x := ⟨_, rfl⟩
            rw [hfe] at d14 f0 f1 hmod HQ
            clear hfe
            have hww : IntKind.i64.wrap (f + i) = f + i := wrap_i64_id (by omega) (by omega)
            have hwc : IntKind.i64.wrap (cl : Int) = cl := wrap_i64_id (by omega) (by omega)
            go_wp2
            go_region_held3 (fun W => W.cell? ⟨g, 14, none⟩ = some (.int .i64 f) ∧ W.cell? ⟨g, 0, none⟩ = some (.int .i64 (k : Int)))
              (first | (exact ⟨d14, d0⟩) | (exact HQ.out _ ‹_›))
              (first | (go_at_call 65; refine (visit_any g F s2 cl ro wr.drew HCd.out t1 hr0 hr1 HCr.out).mono ?_; rintro e w9 ⟨a2, m2, c2, rfl, hC, hK, hl2, hs2, ho2⟩))
            have HC : Hid (_ ∧ _ ∧ _ ∧ _) := ⟨hC, hK, hl2, hs2⟩
            have HO1 : Hid (w9.ownsRow w.heap.size 55 4 (.slice a' m' c') m' (recsCells l2)) := own_kept (own_below HL.out.own (Below.refl _ _).drew) hK HFw.out
            have HO2 : Hid (w9.ownsRow w.heap.size 55 4 (.slice a2 m2 c2) m2 (recsCells (visitV s2 cl ro).2.1)) := own_down ho2 HL.out.kept.size
            have hz1 : w.heap.size ≤ w9.heap.size := Nat.le_trans HL.out.kept.size hK.size
            have hw2 : m' + m2 ≤ 64 := by rw [← hl2]; exact HWt.out
            clear hC hK hl2 hs2 ho2 d0 d14
            go_wp2_with (at_builtin; refine wpList_append_all rfl (.tmp 65) (.tmp 66) rfl w.heap.size a' m' c' l2 rfl HO1.out a2 m2 c2 (visitV s2 cl ro).2.1 rfl HO2.out (by omega) hz1 ?_)
            intro a3 c3 w3 hown hgrw
            have HB1 : Hid (FillB w w3 g F s s' (visitV s2 cl ro).1 l (i + 1) (visitV s2 cl ro).2.2 (l2 ++ (visitV s2 cl ro).2.1) a3 (m' + m2) c3) := fillB_step HL.out HFw.out (by rw [HN.out]; exact k1) HCl.out HC.out.1 ((Kept.of (F := F) (Below.refl _ _).drew).trans HC.out.2.1 (fun _ _ hh => hh)) HC.out.2.2.1 HC.out.2.2.2 HO1.out hown hgrw
            clear hown hgrw
            go_wp2
            go_roundw
            case rel => exact ⟨i + 1, m' + m2, c3, _, a3, _, _, rfl, rfl, by go_num, by omega, hw2, HB1⟩
            case measure => simp [intOf]; omega
          · have hik : i = k := by omega
            subst hik
            have hii : decide ((i : Int) < (i : Int)) = false := decide_eq_false (by omega)
            have HE2 : Hid (visitFrom s.conf.clients.toNat 0 s' s.conf.room l = (s2, l2)) := by
              show _ = _
              rw [HL.out.left, HN.out, Int.toNat_natCast, Nat.sub_self]
              rfl
            have hn0 : ¬ (i : Int) = 0 := by omega
            have hn1 : ¬ i = 0 := by omega
            have hn2 : ((i : Int) == 0) = false := by rw [beq_eq_false_iff_ne]; exact hn0
            obtain ⟨f2, hf2⟩ : ∃ x, (s.first + 1) % (i : Int) = x := ⟨_, rfl⟩
            have hf20 : 0 ≤ f2 ∧ f2 < (i : Int) := by
              have p1 := Int.emod_nonneg (s.first + 1) (by omega : (i : Int) ≠ 0)
              have p2 := Int.emod_lt_of_pos (s.first + 1) (by omega : (0 : Int) < (i : Int))
              omega
            have hmod : (s.first + 1).tmod (i : Int) = f2 := by
              rw [Int.tmod_eq_emod_of_nonneg (by omega), hf2]
            have HF2 : Hid _ := hf2
            clear hf2 d3
            obtain ⟨f, hfe⟩ : ∃ x, s.first = x := ⟨_, rfl⟩
            rw [hfe] at d14 f0 f1 hmod
            have HFe : Hid _ := hfe
            clear hfe
            have hww : IntKind.i64.wrap (f + 1) = f + 1 := wrap_i64_id (by omega) (by omega)
            have hwc : IntKind.i64.wrap f2 = f2 := wrap_i64_id (by omega) (by omega)
            go_wp2
            go_region
            have HP : Hid (_ ∧ _) := clu_put HL.out.clu (s' := { s2 with first := f2 }) (fit_first HL.out.clu.fit hf20.1 (by rw [HL.out.mild.conf, HN.out]; exact hf20.2)) rfl rfl (fun vT vE => clu_set_first HL.out.clu.fit.credit f2)
            have HCW : Hid (CluAt (wr.setCell ⟨g, 14, none⟩ (.int .i64 f2)).drew g F { s2 with first := f2 }) := HP.out.1.below (Below.refl _ _).drew
            have HKW : Hid (Kept F wr (wr.setCell ⟨g, 14, none⟩ (.int .i64 f2)).drew) := HP.out.2.drew
            have HOW : Hid ((wr.setCell ⟨g, 14, none⟩ (.int .i64 f2)).drew.ownsRow w.heap.size 55 4 (.slice a' m' c') m' (recsCells l2)) := own_kept HL.out.own HKW.out HFw.out
            have HS : Hid (fillV s = ({ s2 with first := f2, epochs := s2.epochs ++ [l2] }, (m' : Int), 0)) := by
              show _ = _
              unfold fillV
              rw [HNe.out, if_neg hfull]
              simp only
              rw [HE.out]
              simp only
              rw [HE2.out]
              simp only
              rw [HL.out.mild.first, HN.out, HF2.out, HL.out.len]
            have HFit : Hid (CluFit { s2 with first := f2, epochs := s2.epochs ++ [l2] }) := fit_epoch HCW.out.fit (l := l2) (by show s2.epochs.length < 200; rw [HL.out.mild.epochs, HNe.out]; omega) (by rw [HL.out.len]; exact hm) HL.out.all
            have hne2 : s2.epochs.length = ne := by rw [HL.out.mild.epochs]; exact HNe.out
            generalize (wr.setCell ⟨g, 14, none⟩ (.int .i64 f2)).drew = W at *
            clear HP d0 d14 dfz
            obtain ⟨aT, aF, cT, cF, eas, m1, m2, m3, m4, m5, m6, m7⟩ := HCW.out.mem
            have hgW := HCW.out.block
            have c15 : W.cell? ⟨g, 15, none⟩ = some (.slice aF ne cF) := by
              rw [(heap_cells m1).1, List.getElem?_toArray, clu_epochs HCW.out.fit.credit]
              show some (Value.slice aF s2.epochs.length cF) = _
              rw [hne2]
            have HM : Hid (_ ∧ _ ∧ _ ∧ _ ∧ _ ∧ _ ∧ _) := ⟨m1, m2, m3, m4, m5, m6, m7⟩
            obtain ⟨ys, hys⟩ : ∃ x, List.zipWith (fun (a : Option Addr × Nat) (rs : List RecV) => Value.slice a.1 rs.length a.2) eas s2.epochs = x := ⟨_, rfl⟩
            have HOE : Hid (W.ownsRow 0 38 1 (.slice aF ne cF) ne ys) := by
              have m4' : W.ownsRow 0 38 1 (.slice aF s2.epochs.length cF) s2.epochs.length (List.zipWith (fun (a : Option Addr × Nat) (rs : List RecV) => Value.slice a.1 rs.length a.2) eas s2.epochs) := m4
              rw [hne2, hys] at m4'
              exact m4'
            have HYs : Hid _ := hys
            clear m1 m2 m3 m4 m5 m6 m7 hys
            obtain ⟨ti, hi0, hz0, hz1, hz2⟩ := info_parts info_row
            have HI : Hid (_ ∧ _ ∧ _ ∧ _) := ⟨hi0, hz0, hz1, hz2⟩
            clear hi0 hz0 hz1 hz2
            go_wp2_with (at_builtin; refine wpList_append_lies _ rfl (.tmp 86) (.tmp 88) 110 rfl 0 38 ti (.slice none 0 0) 1 24 Tryz.underlying110 HI.out.1 HI.out.2.1 HI.out.2.2.1 HI.out.2.2.2 rfl (by decide) (.slice aF ne cF) ne ys rfl (HOE.out.alloc _) ⟨W.heap.size, 0, none⟩ 1 1 [.slice a' m' c'] rfl rfl ?c1 ?c2 ?c3 ?c4 ?c5 ?c6 _ rfl ?_)
            try (case c1 => exact cells_new _ _ rfl [.slice a' m' c'] _)
            try (case c2 => first | rfl | (intro u hu; simp at hu; subst hu; rfl) | simp [Value.width])
            try (case c3 => decide)
            try (case c4 => unfold maxLen; omega)
            try (case c5 => omega)
            try (case c6 => first | exact Nat.zero_le _ | omega | simp)
            intro gN cap w7 hown7 hgr7 hat7 hlt7
            have hnb : some g ≠ (Value.slice aF ne cF).ownBlock := fun hh => by
              have := HM.out.2.2.2.2.1 g (by show (Value.slice aF s2.epochs.length cF).ownBlock = _; rw [hne2]; exact hh.symm)
              exact this.2.1 rfl
            have hzx : (W.alloc (.cells #[.slice a' m' c'] 38)).heap.size = W.heap.size + 1 := by simp
            have hblk7 := ((hgr7.block g (by rw [hzx]; omega) hnb).trans (heap_old hgW)).trans HM.out.1
            have f7 := (heap_cells hblk7).2.1
            have z7 := (heap_cells hblk7).2.2
            have c7 : w7.cell? ⟨g, 15, none⟩ = some (.slice aF ne cF) := by
              rw [(heap_cells hblk7).1, List.getElem?_toArray, clu_epochs HCW.out.fit.credit]
              show some (Value.slice aF s2.epochs.length cF) = _
              rw [hne2]
            have HXb : Hid (Below W.heap.size W (W.alloc (.cells #[.slice a' m' c'] 38))) := (Below.refl _ _).alloc (Nat.le_refl _) _
            have HP : Hid (_ ∧ _ ∧ _) := ⟨hown7, hgr7, hat7⟩
            have HK0 : Hid (Kept F w W) := HL.out.kept.trans HKW.out (fun _ _ hh => hh)
            clear hown7 hgr7 hat7 hblk7 hnb c15
            go_wp2
            go_ret2
            refine ⟨by rw [HS.out]; rfl, ?_⟩
            rw [HS.out]
            have hys := HYs.out
            subst hys
            subst hne2
            obtain ⟨F', q1, q2, q3⟩ := clu_epoch (s := { s2 with first := f2 }) (l := l2) (B := w.heap.size) HCW.out.gF HCW.out.own HFw.out HM.out.1 HM.out.2.1 HM.out.2.2.1 HM.out.2.2.2.2.1 HM.out.2.2.2.2.2.1 HM.out.2.2.2.2.2.2 HFit.out HXb.out HP.out.2.1 HL.out.len HL.out.small HOW.out HP.out.1 (by rw [hzx]; exact HP.out.2.2) HK0.out.size
            exact ⟨F', q1, HK0.out.trans q2 (fun _ _ hh => hh), q3⟩

end Go.Proofs.YtccckonckddadabGreat
namespace Go.Proofs.YtccckonckddadabGreat
set_option linter.unusedVariables false

/-! ### A cluster stays at rest -/
theorem lateFrom_mild : ∀ (r i : Nat) (s : CluV) (l : List RecV), CluFit s → i + r ≤ 8 → Mild s (lateFrom r i s l).1 ∧ CluFit (lateFrom r i s l).1 ∧ (lateFrom r i s l).1.credit = s.credit
  | 0, i, s, l, hf, _ => ⟨Mild.refl s, hf, rfl⟩
  | r + 1, i, s, l, hf, h8 => by
    obtain ⟨y1, y2, y3, _, _⟩ := lateV_mild hf (client := (i : Int)) (by omega) (by omega)
    obtain ⟨z1, z2, z3⟩ := lateFrom_mild r (i + 1) (lateV s i).1 (l ++ (lateV s i).2) y2 (by omega)
    rw [late_step]
    exact ⟨y1.trans z1, z2, z3.trans y3⟩

theorem visitFrom_mild : ∀ (r i : Nat) (s : CluV) (room : Int) (l : List RecV), CluFit s → (i : Int) + r ≤ s.conf.clients → 0 ≤ room → (∀ j : Nat, i ≤ j → (j : Int) < s.conf.clients → s.credit.getD ((s.first + j) % s.conf.clients).toNat 0 ≤ 8 * (s.epochs.length : Int)) →
    Mild s (visitFrom r i s room l).1 ∧ CluFit (visitFrom r i s room l).1
  | 0, i, s, room, l, hf, _, _, _ => ⟨Mild.refl s, hf⟩
  | r + 1, i, s, room, l, hf, hn, hr, hc => by
    obtain ⟨e1, e2, _, _⟩ := conf_edges hf.conf
    obtain ⟨t1, t2, t3⟩ := turn_lt (f := s.first) (i := i) (by omega : 0 < s.conf.clients) e2
    obtain ⟨y1, y2, y3, y4, y5, y6, y7⟩ := visitV_mild hf t1 hr (hc i (Nat.le_refl _) (by omega))
    rw [visitFrom]
    obtain ⟨z1, z2⟩ := visitFrom_mild r (i + 1) _ _ (l ++ (visitV s ((s.first + i) % s.conf.clients).toNat room).2.1) y2 (by rw [y1.conf]; omega) y6 (fun j hj hjn => by
      rw [y1.conf] at hjn
      rw [y1.conf, y1.first, y1.epochs]
      have hne := turn_ne hf.first0 hf.first1 hjn (by omega : (i : Int) < s.conf.clients) (by omega : j ≠ i)
      rw [List.getD_eq_getElem?_getD, y5 _ hne, ← List.getD_eq_getElem?_getD]
      exact hc j (by omega) hjn)
    exact ⟨y1.trans z1, z2⟩

theorem getD_le {l : List Int} {b : Int} (h : ∀ x ∈ l, x ≤ b) (h0 : 0 ≤ b) (k : Nat) : l.getD k 0 ≤ b := by
  rw [List.getD_eq_getElem?_getD]
  cases hk : l[k]? with
  | none => exact h0
  | some x => exact h x (List.mem_of_getElem? hk)

theorem fillV_rest {s : CluV} (hf : CluFit s) (hr : Rest s) : Rest (fillV s).1 := by
  unfold fillV
  split
  · exact hr
  · obtain ⟨e1, e2, e3, _⟩ := conf_edges hf.conf
    obtain ⟨y1, y2, y3⟩ := lateFrom_mild s.conf.clients.toNat 0 s [] hf (by omega)
    obtain ⟨z1, z2⟩ := visitFrom_mild s.conf.clients.toNat 0 (lateFrom s.conf.clients.toNat 0 s []).1 s.conf.room (lateFrom s.conf.clients.toNat 0 s []).2 y2 (by rw [y1.conf]; omega) e3 (fun j _ _ => by rw [y3, y1.epochs]; exact hr.credit _)
    have hM := y1.trans z1
    refine ⟨fun c => ?_, fun k => ?_⟩
    · have := hM.queue (c : Int)
      have h2 := hr.queue c
      show ((queueV (visitFrom s.conf.clients.toNat 0 (lateFrom s.conf.clients.toNat 0 s []).1 s.conf.room (lateFrom s.conf.clients.toNat 0 s []).2).1.txs c).length : Int) ≤ (visitFrom s.conf.clients.toNat 0 (lateFrom s.conf.clients.toNat 0 s []).1 s.conf.room (lateFrom s.conf.clients.toNat 0 s []).2).1.conf.queue
      rw [hM.conf]
      omega
    · simp only
      rw [List.length_append]
      exact getD_le (fun x hx => (z2.cr x hx).2) (by omega) k

theorem newV_rest {c : ConfV} (h : confOk c = true) : Rest (newV c) := by
  unfold confOk at h
  simp only [Bool.and_eq_true, decide_eq_true_eq] at h
  refine ⟨fun x => ?_, fun k => getD_le (fun x hx => ?_) (by omega) k⟩
  · show ((0 : Nat) : Int) ≤ c.queue
    omega
  · have : x ∈ [(0 : Int), 0, 0, 0, 0, 0, 0, 0] := hx
    have h0 : x = 0 := by simpa using this
    show x ≤ 8 * ((0 : Nat) : Int)
    omega

theorem submitV_rest {s : CluV} (hr : Rest s) (client id : Int) (t : ByteArray) (d : Int) : Rest (submitV s client id t d).1 := by
  unfold submitV
  iterate 6 (split; exact hr)
  rename_i h6
  refine ⟨fun c => ?_, hr.credit⟩
  show ((queueV (s.txs ++ [⟨client, id, t, d, 0, 0⟩]) c).length : Int) ≤ s.conf.queue
  have h1 := hr.queue c
  unfold queueV at h1 h6 ⊢
  rw [queue_count] at h1 h6 ⊢
  rw [List.countP_append]
  by_cases hc : client = (c : Int)
  · rw [hc] at h6
    have : List.countP (waits (c : Int)) [⟨client, id, t, d, 0, 0⟩] ≤ 1 := List.countP_le_length
    omega
  · have : List.countP (waits (c : Int)) [⟨client, id, t, d, 0, 0⟩] = 0 := by
      simp [waits, hc]
    omega

end Go.Proofs.YtccckonckddadabGreat
namespace Go.Proofs.YtccckonckddadabGreat
set_option linter.unusedVariables false

/-! ### The plain state of the program's sequencer -/
structure WaitV where
  i : Int
  t : ByteArray
  c : Int
  d : Int
structure AccV where
  q : List WaitV
  cr : Int
structure OutV where
  i : Int
  s : Int
  e : Int
structure RepV where
  disk : ByteArray
  safe : Nat
  count : Nat
  cells : List Int
structure SeqV where
  queue : Int
  quantum : Int
  room : Int
  accs : List AccV
  first : Nat
  epochs : Nat
  log : List UInt8
  cells : List Int
  outs : List OutV
  eps : List ByteArray
  reps : List RepV

def costs : List WaitV → Int
  | [] => 0
  | x :: l => x.c + costs l
/-- How many a visit takes off the front. -/
def takeN : List WaitV → Int → Int → Nat
  | [], _, _ => 0
  | x :: q, cr, room => if x.c ≤ cr ∧ x.c ≤ room then takeN q (cr - x.c) (room - x.c) + 1 else 0
def isLate (n : Int) (x : WaitV) : Bool := decide (x.d < n)
def lateA (a : AccV) (n : Int) : AccV := ⟨a.q.filter (fun x => !isLate n x), a.cr⟩
def lateL (a : AccV) (n : Int) : List WaitV := a.q.filter (isLate n)
def given (a : AccV) (quantum : Int) : Int := if a.q = [] then a.cr else a.cr + quantum
def visitA (a : AccV) (quantum room : Int) : AccV :=
  ⟨a.q.drop (takeN a.q (given a quantum) room), if a.q.drop (takeN a.q (given a quantum) room) = [] then 0 else given a quantum - costs (a.q.take (takeN a.q (given a quantum) room))⟩
def visitL (a : AccV) (quantum room : Int) : List WaitV := a.q.take (takeN a.q (given a quantum) room)
def lateRec (i : Nat) (x : WaitV) : RecV := ⟨i, x.i, true, ⟨#[]⟩⟩
def textRec (i : Nat) (x : WaitV) : RecV := ⟨i, x.i, false, x.t⟩
def accV (p : SeqV) (i : Nat) : AccV := p.accs.getD i ⟨[], 0⟩
def putA (p : SeqV) (i : Nat) (a : AccV) : SeqV := { p with accs := p.accs.set i a }

def pLateFrom : Nat → Nat → SeqV → List RecV → SeqV × List RecV
  | 0, _, p, l => (p, l)
  | r + 1, i, p, l => pLateFrom r (i + 1) (putA p i (lateA (accV p i) p.epochs)) (l ++ (lateL (accV p i) p.epochs).map (lateRec i))
def behindV (n i : Nat) : Nat := if i + 1 < n then i + 1 else 0
def pVisitFrom : Nat → Nat → SeqV → Int → List RecV → SeqV × List RecV
  | 0, _, p, _, l => (p, l)
  | r + 1, i, p, room, l => pVisitFrom r (behindV p.accs.length i) (putA p i (visitA (accV p i) p.quantum room)) (room - costs (visitL (accV p i) p.quantum room)) (l ++ (visitL (accV p i) p.quantum room).map (textRec i))
/-- What becomes of a record. -/
def doRec (r : RecV) (cs : List Int) : List Int × Int :=
  if r.l = true then (cs, 3) else if Dk.parseOk r.t.data.toList = true then ((Dk.doV r.t.data.toList cs).1, if (Dk.doV r.t.data.toList cs).2 then 1 else 2) else (cs, 2)
def settle1 (p : SeqV) (r : RecV) : SeqV := { p with cells := (doRec r p.cells).1, outs := p.outs ++ [⟨r.i, (doRec r p.cells).2, p.epochs⟩] }
def settleV : SeqV → List RecV → SeqV
  | p, [] => p
  | p, r :: l => settleV (settle1 p r) l
def pFillV (p : SeqV) : SeqV × Int × Int :=
  if 200 ≤ p.epochs then (p, 0, 9) else
  let a := pLateFrom p.accs.length 0 p []
  let b := pVisitFrom p.accs.length p.first a.1 p.room []
  let c := settleV { b.1 with first := behindV p.accs.length p.first } (a.2 ++ b.2)
  ({ c with log := c.log ++ Dk.epoch p.epochs (recs (a.2 ++ b.2)), epochs := p.epochs + 1, eps := c.eps ++ [⟨(Dk.epoch p.epochs (recs (a.2 ++ b.2))).toArray⟩] }, (a.2 ++ b.2).length, 0)
def outV (p : SeqV) (id : Int) : Option OutV := p.outs.find? (fun x => decide (x.i = id))
def awaits (id : Int) (a : AccV) : Bool := a.q.any (fun x => decide (x.i = id))
def pReplyV (p : SeqV) (id : Int) : Int × Int × Int :=
  match outV p id with
  | some x => (x.s, x.e, 0)
  | none => if p.accs.any (awaits id) then (0, 0, 0) else (0, 0, 10)
def pSubmitV (p : SeqV) (client id : Int) (t : ByteArray) (d : Int) : SeqV × Int :=
  if ¬ (0 ≤ client ∧ client < (p.accs.length : Int)) then (p, 4)
  else if ¬ (0 ≤ id ∧ id ≤ 999999) then (p, 5)
  else if Dk.parseOk t.data.toList = false then (p, 1)
  else if (pReplyV p id).2.2 = 0 then (p, 6)
  else if d < (p.epochs : Int) then (p, 7)
  else if p.queue ≤ ((accV p client.toNat).q.length : Int) then (p, 8)
  else (putA p client.toNat ⟨(accV p client.toNat).q ++ [⟨id, t, costV t, d⟩], (accV p client.toNat).cr⟩, 0)
def pNewV (c : ConfV) : SeqV := ⟨c.queue, c.quantum, c.room, List.replicate c.clients.toNat ⟨[], 0⟩, 0, 0, [], [0, 0, 0, 0, 0, 0, 0, 0], [], [], List.replicate c.reps.toNat ⟨⟨#[]⟩, 0, 0, [0, 0, 0, 0, 0, 0, 0, 0]⟩⟩

theorem bytes_eq {a b : ByteArray} (h : a.data.toList = b.data.toList) : a = b := by
  cases a; cases b
  congr 1
  exact Array.ext' h

/-! ### It goes with the document's -/
def waitOf (t : TxV) : WaitV := ⟨t.i, t.t, costV t.t, t.d⟩
def qOf (c : Nat) (txs : List TxV) : List WaitV := (txs.filter (waits (c : Int))).map waitOf
/-- The bytes of each epoch. -/
def epsL (s : CluV) : List (List UInt8) := s.epochs.mapIdx (fun i e => Dk.epoch i (recs e))
structure Sim (p : SeqV) (s : CluV) : Prop where
  queue : p.queue = s.conf.queue
  quantum : p.quantum = s.conf.quantum
  room : p.room = s.conf.room
  first : (p.first : Int) = s.first
  epochs : p.epochs = s.epochs.length
  log : p.log = logV s s.epochs.length ∧ p.eps.map (fun b => b.data.toList) = epsL s
  cells : p.cells = s.cells
  many : (p.accs.length : Int) = s.conf.clients
  acc : ∀ i : Nat, i < p.accs.length → p.accs[i]? = some ⟨qOf i s.txs, s.credit.getD i 0⟩
  outs : ∀ x, x ∈ p.outs ↔ ∃ t ∈ s.txs, t.s ≠ 0 ∧ x = ⟨t.i, t.s, t.e⟩
  few : p.outs.length + waiting s = s.txs.length
  e0 : ∀ t ∈ s.txs, t.s = 0 → t.e = 0

theorem qOf_append (c : Nat) (a b : List TxV) : qOf c (a ++ b) = qOf c a ++ qOf c b := by
  unfold qOf; rw [List.filter_append, List.map_append]
theorem qOf_yes {c : Nat} {t : TxV} (h : waits (c : Int) t = true) (l : List TxV) : qOf c (t :: l) = waitOf t :: qOf c l := by
  unfold qOf; rw [List.filter_cons_of_pos h, List.map_cons]
theorem qOf_no {c : Nat} {t : TxV} (h : waits (c : Int) t = false) (l : List TxV) : qOf c (t :: l) = qOf c l := by
  unfold qOf; rw [List.filter_cons_of_neg (by rw [h]; simp)]
theorem waits_iff {c : Int} {t : TxV} : waits c t = true ↔ t.c = c ∧ t.s = 0 := by
  unfold waits; rw [Bool.and_eq_true, decide_eq_true_eq, decide_eq_true_eq]
theorem waits_ended {c : Int} {t : TxV} (h : t.s ≠ 0) : waits c t = false := by
  unfold waits; rw [decide_eq_false h]; simp

theorem Sim.accV {p : SeqV} {s : CluV} (h : Sim p s) {i : Nat} (hi : i < p.accs.length) : accV p i = ⟨qOf i s.txs, s.credit.getD i 0⟩ := by
  unfold Go.Proofs.YtccckonckddadabGreat.accV
  rw [List.getD_eq_getElem?_getD, h.acc i hi]; rfl

theorem modify_mid (pre post : List TxV) (t : TxV) (f : TxV → TxV) : (pre ++ t :: post).modify pre.length f = pre ++ f t :: post := by
  induction pre with
  | nil => rfl
  | cons x pre ih => show x :: (pre ++ t :: post).modify pre.length f = _; rw [ih]; rfl

/-- One ends: the program takes it out of its queue, and notes what became of it. -/
theorem Sim.ended {p : SeqV} {s : CluV} (h : Sim p s) {c : Nat} (hc : c < p.accs.length) (h8 : s.credit.length = 8) (hc8 : c < 8) {pre post : List TxV} {t : TxV} (htx : s.txs = pre ++ t :: post) (hw : waits (c : Int) t = true) {st : Int} (hst : st ≠ 0) (cr : Int) (cs : List Int) :
    Sim { putA p c ⟨qOf c (pre ++ post), cr⟩ with cells := cs, outs := p.outs ++ [⟨t.i, st, p.epochs⟩] } (endsV (cellsV (credV s c cr) cs) pre.length st) := by
  have htx' : (endsV (cellsV (credV s c cr) cs) pre.length st).txs = pre ++ { t with s := st, e := (s.epochs.length : Int) } :: post := by
    show s.txs.modify pre.length _ = _
    rw [htx, modify_mid]
    rfl
  have hwt := waits_iff.1 hw
  have hcr : s.credit.set c cr = (credV s c cr).credit := rfl
  refine ⟨h.queue, h.quantum, h.room, h.first, h.epochs, h.log, rfl, ?_, ?_, ?_, ?_, ?_⟩
  · show ((p.accs.set c _).length : Int) = _
    rw [List.length_set]; exact h.many
  · intro i hi
    have hi' : i < p.accs.length := by
      have : i < (p.accs.set c ⟨qOf c (pre ++ post), cr⟩).length := hi
      rwa [List.length_set] at this
    show (p.accs.set c ⟨qOf c (pre ++ post), cr⟩)[i]? = some ⟨qOf i _, (s.credit.set c cr).getD i 0⟩
    have hqe : qOf i (pre ++ { t with s := st, e := (s.epochs.length : Int) } :: post) = qOf i (pre ++ post) := by
      rw [qOf_append, qOf_no (t := { t with s := st, e := (s.epochs.length : Int) }) (waits_ended hst), ← qOf_append]
    rw [htx', hqe]
    by_cases hic : c = i
    · subst hic
      rw [List.getElem?_set_self hi', List.getD_eq_getElem?_getD, List.getElem?_set_self (by omega)]
      rfl
    · rw [List.getElem?_set_ne hic, h.acc i hi', List.getD_eq_getElem?_getD, List.getD_eq_getElem?_getD, List.getElem?_set_ne hic, htx, qOf_append, qOf_append, qOf_no]
      rw [← Bool.not_eq_true, waits_iff]
      intro hh
      have := hh.1
      rw [hwt.1] at this
      omega
  · intro x
    show x ∈ p.outs ++ [_] ↔ _
    rw [List.mem_append, h.outs x, htx', htx]
    constructor
    · rintro (⟨u, hu, hs, rfl⟩ | hx)
      · have hu2 : u ∈ pre ∨ u = t ∨ u ∈ post := by simpa using hu
        rcases hu2 with h1 | h1 | h1
        · exact ⟨u, by simp [h1], hs, rfl⟩
        · subst h1; exact absurd hwt.2 hs
        · exact ⟨u, by simp [h1], hs, rfl⟩
      · have : x = ⟨t.i, st, p.epochs⟩ := by simpa using hx
        subst this
        exact ⟨{ t with s := st, e := (s.epochs.length : Int) }, by simp, hst, by rw [h.epochs]⟩
    · rintro ⟨u, hu, hs, rfl⟩
      have hu2 : u ∈ pre ∨ u = { t with s := st, e := (s.epochs.length : Int) } ∨ u ∈ post := by simpa using hu
      rcases hu2 with h1 | h1 | h1
      · exact .inl ⟨u, by simp [h1], hs, rfl⟩
      · subst h1; exact .inr (by rw [h.epochs]; simp)
      · exact .inl ⟨u, by simp [h1], hs, rfl⟩
  · have hcnt := h.few
    unfold waiting at hcnt
    rw [htx] at hcnt
    show (p.outs ++ [(⟨t.i, st, p.epochs⟩ : OutV)]).length + (endsV (cellsV (credV s c cr) cs) pre.length st).txs.countP wait = (endsV (cellsV (credV s c cr) cs) pre.length st).txs.length
    have e1 : wait t = true := by unfold wait; rw [decide_eq_true hwt.2]
    have e2 : wait { t with s := st, e := (s.epochs.length : Int) } = false := by unfold wait; exact decide_eq_false hst
    rw [List.countP_append, List.countP_cons, e1, List.length_append, List.length_cons] at hcnt
    rw [htx', List.countP_append, List.countP_cons, e2, List.length_append, List.length_append, List.length_cons]
    simp only [List.length_cons, List.length_nil, if_true, Bool.false_eq_true, if_false] at hcnt ⊢
    omega
  · intro u hu hs
    rw [htx'] at hu
    have hu2 : u ∈ pre ∨ u = { t with s := st, e := (s.epochs.length : Int) } ∨ u ∈ post := by simpa using hu
    rcases hu2 with h1 | h1 | h1
    · exact h.e0 u (by rw [htx]; simp [h1]) hs
    · subst h1; exact absurd hs hst
    · exact h.e0 u (by rw [htx]; simp [h1]) hs

theorem settleV_append : ∀ (p : SeqV) (a b : List RecV), settleV p (a ++ b) = settleV (settleV p a) b
  | p, [], b => rfl
  | p, r :: a, b => by show settleV (settle1 p r) (a ++ b) = _; rw [settleV_append]; rfl
theorem settle_put : ∀ (l : List RecV) (p : SeqV) (i : Nat) (a : AccV), settleV (putA p i a) l = putA (settleV p l) i a
  | [], p, i, a => rfl
  | r :: l, p, i, a => by
    show settleV (settle1 (putA p i a) r) l = putA (settleV (settle1 p r) l) i a
    rw [← settle_put l (settle1 p r) i a]; rfl
theorem settle_accs : ∀ (l : List RecV) (p : SeqV), (settleV p l).accs = p.accs ∧ (settleV p l).epochs = p.epochs ∧ (settleV p l).quantum = p.quantum ∧ (settleV p l).first = p.first ∧ (settleV p l).log = p.log
  | [], p => ⟨rfl, rfl, rfl, rfl, rfl⟩
  | r :: l, p => settle_accs l (settle1 p r)
theorem settle_reps : ∀ (l : List RecV) (p : SeqV), (settleV p l).eps = p.eps ∧ (settleV p l).reps = p.reps
  | [], p => ⟨rfl, rfl⟩
  | r :: l, p => settle_reps l (settle1 p r)
theorem settle_first : ∀ (l : List RecV) (p : SeqV) (f : Nat), settleV { p with first := f } l = { settleV p l with first := f }
  | [], p, f => rfl
  | r :: l, p, f => settle_first l (settle1 p r) f
theorem putA_putA (p : SeqV) (i : Nat) (a b : AccV) : putA (putA p i a) i b = putA p i b := by
  unfold putA; simp only [List.set_set]

end Go.Proofs.YtccckonckddadabGreat
