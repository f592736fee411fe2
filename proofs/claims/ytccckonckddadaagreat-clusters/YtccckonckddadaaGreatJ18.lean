import Derived.Test.YtccckonckddadaaGreatJ16
namespace Go.Proofs.YtccckonckddadaaGreat
open Go.RowKit
set_option linter.unusedVariables false

def SubmitPost (g : Nat) (F : Nat → Prop) (x : CluV × Int) (w : World) (e : Ending) (w' : World) : Prop := e = .returned (.int .i64 x.2) ∧ CluPost g F x.1 w w'

set_option maxRecDepth 100000 in
set_option maxHeartbeats 4000000 in
theorem refsubmit_any (g : Nat) (F : Nat → Prop) (s : CluV) (client id : Int) (t : ByteArray) (d : Int) (w : World) (h : CluAt w g F s) (ht : t.size ≤ maxLen) :
    Calls Tryz.prog 37 #[.pointer (some ⟨g, 0, none⟩), .int .i64 client, .int .i64 id, .string t, .int .i64 d] w (SubmitPost g F (submitV s client id t d) w) := by
  obtain ⟨ti, hi, hz0, hz1, hz2⟩ := info_parts info_tx
  have HI : Hid (_ ∧ _ ∧ _ ∧ _) := ⟨hi, hz0, hz1, hz2⟩
  clear hi hz0 hz1 hz2
  have hg := h.block
  have hfit := h.fit
  have hcf := hfit.conf
  have H : Hid _ := h
  have hfew := hfit.few
  have hmany := hfit.many
  obtain ⟨aT, aE, cT, cE, eas, m1, m2, m3, m4, m5, m6, m7⟩ := h.mem
  have hcl : 1 ≤ s.conf.clients ∧ s.conf.clients ≤ 8 := by
    unfold confOk at hcf
    simp only [Bool.and_eq_true, decide_eq_true_eq] at hcf
    exact hcf.1.1.1.1
  obtain ⟨hcl0, hcl8⟩ := hcl
  have c0 : w.cell? ⟨g, 0, none⟩ = some (.int .i64 s.conf.clients) := by rw [(heap_cells m1).1]; rfl
  have c1 : w.cell? ⟨g, 1, none⟩ = some (.int .i64 s.conf.queue) := by rw [(heap_cells m1).1]; rfl
  have c5 : w.cell? ⟨g, 5, none⟩ = some (.slice aT s.txs.length cT) := by rw [(heap_cells m1).1]; rfl
  have c15 : w.cell? ⟨g, 15, none⟩ = some (.slice aE s.epochs.length cE) := by
    rw [(heap_cells m1).1, List.getElem?_toArray]
    exact clu_epochs hfit.credit
  have HM : Hid (_ ∧ _ ∧ _ ∧ _ ∧ _ ∧ _ ∧ _) := ⟨m1, m2, m3, m4, m5, m6, m7⟩
  have HFit : Hid _ := hfit
  have HV : Hid (submitV s client id t d = submitV s client id t d) := rfl
  clear m1 m2 m3 m4 m5 m6 m7 h hfit hcf
  obtain ⟨cls, hcls⟩ : ∃ x, s.conf.clients = x := ⟨_, rfl⟩
  obtain ⟨qu, hqu⟩ : ∃ x, s.conf.queue = x := ⟨_, rfl⟩
  obtain ⟨n, hn⟩ : ∃ x, s.txs.length = x := ⟨_, rfl⟩
  obtain ⟨ne, hne⟩ : ∃ x, s.epochs.length = x := ⟨_, rfl⟩
  have HX : Hid (s.conf.clients = cls ∧ s.conf.queue = qu ∧ s.txs.length = n ∧ s.epochs.length = ne) := ⟨hcls, hqu, hn, hne⟩
  rw [hcls] at c0 hcl0 hcl8
  rw [hqu] at c1
  rw [hn] at c5 hfew
  rw [hne] at c15 hmany
  clear hcls hqu hn hne
  by_cases h1 : 0 ≤ client ∧ client ≤ cls - 1
  · go_enter Tryz.func37, Tryz.ntmps37
    go_wp2_with fail
    refine (off_no (n := client) (lo := 0) (hi := cls - 1) _ h1).mono ?_
    rintro e w1 ⟨rfl, hw⟩
    obtain rfl := hw.symm
    by_cases h2 : 0 ≤ id ∧ id ≤ 999999
    · go_wp2_with fail
      refine (off_no (n := id) (lo := 0) (hi := 999999) _ h2).mono ?_
      rintro e w2 ⟨rfl, hw⟩
      obtain rfl := hw.symm
      go_wp2_with fail
      refine (parts_any t _ ht).mono ?_
      rintro e w3 ⟨mk, aP, nP, cP, ps, rfl, _, _, hB3⟩
      have HB3 : Hid _ := hB3
      have H3 : Hid (CluAt w3 g F s) := H.out.below hB3
      have d5 := (hB3.cell (p := ⟨g, 5, none⟩) hg).trans c5
      have d1 := (hB3.cell (p := ⟨g, 1, none⟩) hg).trans c1
      have d15 := (hB3.cell (p := ⟨g, 15, none⟩) hg).trans c15
      have hg3 : g < w3.heap.size := H3.out.block
      clear hB3 c0 c1 c5 c15
      cases hok : Dk.parseOk t.data.toList
      · have HS : Hid (submitV s client id t d = (s, 1)) := by
          show _ = _
          unfold submitV
          rw [HX.out.1, if_neg (by omega), if_neg (by omega), if_pos hok]
        clear hok
        go_wp2
        go_ret
        exact ⟨by rw [HS.out]; rfl, by rw [HS.out]; exact CluPost.same H.out HB3.out⟩
      · have HOk : Hid _ := hok
        clear hok
        go_wp2_with fail
        refine (find_any g F s id _ H3.out).mono ?_
        rintro e w4 ⟨rfl, hw⟩
        obtain rfl := hw.symm
        obtain ⟨fi, hfi⟩ : ∃ x, findV s.txs id = x := ⟨_, rfl⟩
        rewrite [hfi]
        have HFi : Hid _ := hfi
        clear hfi
        by_cases h4 : 0 ≤ fi
        · have HS : Hid (submitV s client id t d = (s, 6)) := by
            show _ = _
            unfold submitV
            rw [HX.out.1, if_neg (by omega), if_neg (by omega), if_neg (by rw [HOk.out]; simp), HFi.out, if_pos h4]
          go_wp2
          go_ret
          exact ⟨by rw [HS.out]; rfl, by rw [HS.out]; exact CluPost.same H.out HB3.out⟩
        · have h4' : fi < 0 := by omega
          by_cases h5 : d < (ne : Int)
          · have HS : Hid (submitV s client id t d = (s, 7)) := by
              show _ = _
              unfold submitV
              rw [HX.out.1, if_neg (by omega), if_neg (by omega), if_neg (by rw [HOk.out]; simp), HFi.out, if_neg (by omega), HX.out.2.2.2, if_pos h5]
            go_wp2
            go_ret
            exact ⟨by rw [HS.out]; rfl, by rw [HS.out]; exact CluPost.same H.out HB3.out⟩
          · have h5' : (ne : Int) ≤ d := by omega
            go_wp2_with fail
            refine (queue_any g F s client _ H3.out).mono ?_
            rintro e w5 ⟨aQ, cQ, rfl, hQ⟩
            obtain ⟨ql, hql⟩ : ∃ x, (queueV s.txs client).length = x := ⟨_, rfl⟩
            rewrite [hql]
            rw [hql] at hQ
            have HQl : Hid _ := hql
            have hB5 := hQ.bel
            have HB5 : Hid (Below w.heap.size w w5) := HB3.out.trans (hB5.mono HB3.out.size)
            have e5 := (hB5.cell (p := ⟨g, 5, none⟩) hg3).trans d5
            have e1 := (hB5.cell (p := ⟨g, 1, none⟩) hg3).trans d1
            have hg5 : g < w5.heap.size := Nat.lt_of_lt_of_le hg3 hB5.size
            clear hB5 hQ hql d1 d5 d15
            by_cases h6 : qu ≤ (ql : Int)
            · have HS : Hid (submitV s client id t d = (s, 8)) := by
                show _ = _
                unfold submitV
                rw [HX.out.1, if_neg (by omega), if_neg (by omega), if_neg (by rw [HOk.out]; simp), HFi.out, if_neg (by omega), HX.out.2.2.2, if_neg (by omega), HX.out.2.1, HQl.out, if_pos h6]
              go_wp2
              go_ret
              exact ⟨by rw [HS.out]; rfl, by rw [HS.out]; exact CluPost.same H.out HB5.out⟩
            · have HS : Hid (submitV s client id t d = ({ s with txs := s.txs ++ [⟨client, id, t, d, 0, 0⟩] }, 0)) := by
                show _ = _
                unfold submitV
                rw [HX.out.1, if_neg (by omega), if_neg (by omega), if_neg (by rw [HOk.out]; simp), HFi.out, if_neg (by omega), HX.out.2.2.2, if_neg (by omega), HX.out.2.1, HQl.out, if_neg (by omega)]
              have HO : Hid (w5.ownsRow 0 115 6 (.slice aT n cT) n (txsCells s.txs)) := by
                have := own_below HM.out.2.1 HB5.out
                rw [HX.out.2.2.1] at this
                exact this
              have h6' : (ql : Int) < qu := by omega
              go_wp2_with (at_builtin; refine wpList_append_lies _ rfl (.tmp 61) (.tmp 67) 106 rfl 0 115 ti (.agg #[.int .i64 0, .int .i64 0, .string ⟨#[]⟩, .int .i64 0, .int .i64 0, .int .i64 0]) 6 56 Tryz.underlying106 HI.out.1 HI.out.2.1 HI.out.2.2.1 HI.out.2.2.2 rfl (by decide) (.slice aT n cT) n (txsCells s.txs) rfl (HO.out.alloc _) ⟨w5.heap.size, 0, none⟩ 1 1 [.int .i64 client, .int .i64 id, .string t, .int .i64 d, .int .i64 0, .int .i64 0] rfl rfl ?c1 ?c2 ?c3 ?c4 ?c5 ?c6 _ rfl ?_)
              try (case c1 => exact cells_new _ _ rfl [.int .i64 client, .int .i64 id, .string t, .int .i64 d, .int .i64 0, .int .i64 0] _)
              try (case c2 => intro u hu; simp at hu; rcases hu with rfl | rfl | rfl | rfl | rfl | rfl <;> rfl)
              try (case c3 => decide)
              try (case c4 => unfold maxLen; omega)
              try (case c5 => omega)
              try (case c6 => first | exact Nat.zero_le _ | omega | simp)
              intro gN cap w7 hown7 hgr7 hat7 hlt7
              have hne : some g ≠ (Value.slice aT n cT).ownBlock := fun hh => by
                have := HM.out.2.2.1 g (by rw [HX.out.2.2.1]; exact hh.symm)
                exact this.2 rfl
              have hzx : (w5.alloc (.cells #[.int .i64 client, .int .i64 id, .string t, .int .i64 d, .int .i64 0, .int .i64 0] 115)).heap.size = w5.heap.size + 1 := by simp
              have hblk7 := ((hgr7.block g (by rw [hzx]; omega) hne).trans (heap_old hg5)).trans ((HB5.out.block g hg).trans HM.out.1)
              have c7 : w7.cell? ⟨g, 5, none⟩ = some (.slice aT s.txs.length cT) := by rw [(heap_cells hblk7).1]; rfl
              have f7 := (heap_cells hblk7).2.1
              have z7 := (heap_cells hblk7).2.2
              have HXb : Hid (Below w.heap.size w (w5.alloc (.cells #[.int .i64 client, .int .i64 id, .string t, .int .i64 d, .int .i64 0, .int .i64 0] 115))) := HB5.out.alloc HB5.out.size _
              have HP : Hid (_ ∧ _ ∧ _) := ⟨hown7, hgr7, hat7⟩
              clear hown7 hgr7 hat7 hblk7 hne
              go_wp2
              go_ret
              refine ⟨by rw [HS.out]; rfl, ?_⟩
              rw [HS.out]
              have hlast : ∀ x ∈ s.txs, x.i ≠ id := find_none id s.txs 0 (by have := HFi.out; unfold findV at this; omega)
              have hft : CluFit { s with txs := s.txs ++ [⟨client, id, t, d, 0, 0⟩] } := fit_submit HFit.out ⟨HOk.out, h1.1, by rw [HX.out.1]; show client < cls; omega, h2.1, h2.2⟩ hlast
              obtain ⟨_, _, rfl, rfl⟩ := HX.out
              exact clu_submit H.out.gF H.out.own HM.out.1 HM.out.2.2.1 HM.out.2.2.2.1 HM.out.2.2.2.2.1 HM.out.2.2.2.2.2.1 HM.out.2.2.2.2.2.2 hft HXb.out HP.out.2.1 HP.out.1 (by rw [hzx]; exact HP.out.2.2)
    · have HS : Hid (submitV s client id t d = (s, 5)) := by
        show _ = _
        unfold submitV
        rw [HX.out.1, if_neg (by omega), if_pos h2]
      go_wp2_with fail
      refine (off_yes (n := id) (lo := 0) (hi := 999999) _ h2).mono ?_
      rintro e w2 ⟨rfl, hw⟩
      obtain rfl := hw.symm
      go_wp2
      go_ret
      exact ⟨by rw [HS.out]; rfl, by rw [HS.out]; exact CluPost.same H.out (Below.refl _ _)⟩
  · have HS : Hid (submitV s client id t d = (s, 4)) := by
      show _ = _
      unfold submitV
      rw [HX.out.1, if_pos h1]
    go_enter Tryz.func37, Tryz.ntmps37
    go_wp2_with fail
    refine (off_yes (n := client) (lo := 0) (hi := cls - 1) _ h1).mono ?_
    rintro e w1 ⟨rfl, hw⟩
    obtain rfl := hw.symm
    go_wp2
    go_ret
    exact ⟨by rw [HS.out]; rfl, by rw [HS.out]; exact CluPost.same H.out (Below.refl _ _)⟩

end Go.Proofs.YtccckonckddadaaGreat
