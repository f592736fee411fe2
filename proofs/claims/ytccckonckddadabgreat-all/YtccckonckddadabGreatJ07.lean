import Derived.Test.YtccckonckddadabGreatJ06
namespace Go.Proofs.YtccckonckddadabGreat
open Go.RowKit
set_option linter.unusedVariables false

theorem ext1_size (s : ByteArray) : (s.extract 1 s.size).size = s.size - 1 := by simp

theorem refn_long (s : ByteArray) (w : World) (hs : s.size ≤ maxLen) (hz : (s.toList == [48]) = false) (h5 : 6 < s.size) (hn : ((s[0].toNat : Int) == 45) = true) (h : Dk.numOk s.data.toList = false) :
    Calls Tryz.prog 108 #[.string s] w (NumPost s.data.toList w) := by
  have H : Hid _ := h
  clear h
  unfold maxLen at hs
  have h1 : (((s.size - 1 : Nat) : Int) == 0) = false := beq_eq_false_iff_ne.2 (by omega)
  have h2 : (5 : Int) < ((s.size - 1 : Nat) : Int) := by omega
  go_enter Tryz.func108, Tryz.ntmps108
  go_wp2
  go_ret2
  exact ⟨0, by rw [H.out]; rfl, by rw [H.out]; simp, rfl⟩

theorem refn_lead (s : ByteArray) (w : World) (h0 : 1 < s.size) (h5 : s.size ≤ 6) (hz : (s.toList == [48]) = false) (hn : ((s[0].toNat : Int) == 45) = true) (hd : 0 < (s.extract 1 s.size).size) (hf : (((s.extract 1 s.size)[0].toNat : Int) == 48) = true) (h : Dk.numOk s.data.toList = false) :
    Calls Tryz.prog 108 #[.string s] w (NumPost s.data.toList w) := by
  have H : Hid _ := h
  clear h
  have h1 : (((s.size - 1 : Nat) : Int) == 0) = false := beq_eq_false_iff_ne.2 (by omega)
  have h2 : ((s.size - 1 : Nat) : Int) ≤ 5 := by omega
  have h3 : 0 < s.size - 1 := by omega
  go_enter Tryz.func108, Tryz.ntmps108
  go_wp2
  go_ret2
  exact ⟨0, by rw [H.out]; rfl, by rw [H.out]; simp, rfl⟩

set_option maxHeartbeats 1000000 in
theorem refn_loop (s : ByteArray) (w : World) (h0 : 1 < s.size) (h5 : s.size ≤ 6) (hz : (s.toList == [48]) = false) (hn : ((s[0].toNat : Int) == 45) = true) (hd : 0 < (s.extract 1 s.size).size) (hf : (((s.extract 1 s.size)[0].toNat : Int) == 48) = false)
    (dl : List UInt8) (hdl : (s.extract 1 s.size).data.toList = dl)
    (hq : Dk.numOk s.data.toList = (Dk.allDig dl && Dk.inNum (-(Dk.val dl : Int))) ∧ (Dk.numOk s.data.toList = true → Dk.numV s.data.toList = -(Dk.val dl : Int))) :
    Calls Tryz.prog 108 #[.string s] w (NumPost s.data.toList w) := by
  have HQ : Hid _ := hq
  have HL : Hid _ := hdl
  have hll : dl.length = s.size - 1 := by rw [← hdl, len_list, ext1_size]
  have HLL : Hid _ := hll
  clear hq hdl hll
  have hDs := ext1_size s
  have h1 : (((s.size - 1 : Nat) : Int) == 0) = false := beq_eq_false_iff_ne.2 (by omega)
  have h2 : ((s.size - 1 : Nat) : Int) ≤ 5 := by omega
  have h3 : 0 < s.size - 1 := by omega
  have h4 : ((s.size - 1 : Nat) : Int) < (s.size : Int) := by omega
  go_enter Tryz.func108, Tryz.ntmps108
  go_wp2
  go_loop [5, 6] (fun n i => ∃ k : Nat, k ≤ s.size - 1 ∧ i = .int .i64 k ∧ n = .int .i64 (Dk.val (dl.take k)) ∧ Hid (Dk.allDig (dl.take k) = true)) (fun _ i => s.size - 1 - (intOf i).toNat)
  case atStart => exact ⟨0, Nat.zero_le _, rfl, rfl, rfl⟩
  case round =>
    obtain ⟨k, hk, rfl, rfl, hd⟩ := hrel
    have hv : Dk.val (dl.take k) < 100000 := Dk.val_lt5 _ hd.out (by rw [List.length_take, HLL.out]; omega)
    by_cases hlt : k < s.size - 1
    · have hlt' : k < (s.extract 1 s.size).size := by rw [hDs]; exact hlt
      have HT : Hid (dl.take (k + 1) = dl.take k ++ [(s.extract 1 s.size)[k]]) := by show _ = _; rw [← HL.out]; exact take_snoc (s.extract 1 s.size) k hlt'
      have hb := byte_bd ((s.extract 1 s.size)[k])
      go_wp2_with fail
      refine (inD_any _ _).mono ?_
      rintro e w' ⟨rfl, rfl⟩
      by_cases hdg : 48 ≤ (((s.extract 1 s.size)[k]).toNat : Int) ∧ (((s.extract 1 s.size)[k]).toNat : Int) ≤ 57
      · rewrite [decide_eq_true hdg]
        go_wp2
        go_round
        case rel =>
          refine ⟨k + 1, by omega, by go_num, ?_, ?_⟩
          · rw [HT.out, Dk.val_snoc]
            congr 1
            omega
          · show _ = true
            rw [HT.out, Dk.allDig_snoc, hd.out, decide_eq_true (by omega)]; rfl
        case measure => simp [intOf]; omega
      · rewrite [decide_eq_false hdg]
        have HF : Hid (Dk.allDig dl = false) := by show _ = _; rw [← HL.out]; exact digits_fail (s.extract 1 s.size) k hlt' (by omega)
        clear hdg
        go_wp2
        go_ret2
        exact ⟨0, by rw [HQ.out.1, HF.out]; rfl, by rw [HQ.out.1, HF.out]; simp, rfl⟩
    · have HA : Hid (Dk.allDig dl = true) := by
        have := hd.out
        rw [List.take_of_length_le (by rw [HLL.out]; omega)] at this
        exact this
      have HV : Hid (dl.take k = dl) := List.take_of_length_le (by rw [HLL.out]; omega)
      have hq1 := HQ.out.1
      rw [HA.out] at hq1
      rewrite [HV.out] at hv ⊢
      have HQ2 : Hid _ := HQ.out.2
      generalize Dk.val dl = v at *
      by_cases hin : v ≤ 32768
      · have HO : Hid (Dk.numOk s.data.toList = true) := by show _ = _; rw [hq1, Dk.inNum_yes (by omega) (by omega)]; rfl
        clear hq1 HQ
        go_wp2
        go_ret2
        refine ⟨-v, ?_, fun _ => (HQ2.out HO.out).symm, rfl⟩
        rw [HO.out]
        first | rfl | exact tuple2_int rfl (decide_eq_true (by omega))
      · have HO : Hid (Dk.numOk s.data.toList = false) := by show _ = _; rw [hq1, Dk.inNum_no (by omega)]; rfl
        clear hq1 HQ
        go_wp2
        go_ret2
        refine ⟨-v, ?_, by rw [HO.out]; simp, rfl⟩
        rw [HO.out]
        first | rfl | exact tuple2_int rfl (decide_eq_false (by omega))

theorem headD_ext (s : ByteArray) (hd : 0 < (s.extract 1 s.size).size) : s.data.toList.tail.headD 0 = (s.extract 1 s.size)[0] := by
  rw [← tail_list]; exact headD_list _ hd

/-- number, as the document's answer has it. -/
theorem refnum_any (s : ByteArray) (w : World) (hs : s.size ≤ maxLen) : Calls Tryz.prog 108 #[.string s] w (NumPost s.data.toList w) := by
  by_cases hz0 : s.data.toList = [48]
  · exact ref_zero s w hz0
  have hz : (s.toList == [48]) = false := by rw [bytes_toList]; simpa using hz0
  have hz' : (s.data.toList == [48]) = false := by simpa using hz0
  by_cases h0 : s.size = 0
  · have hl : s.data.toList = [] := List.eq_nil_of_length_eq_zero h0
    exact ref_short s w hs hz (.inl h0) (by rw [hl]; rfl)
  have hp : 0 < s.size := by omega
  have hh := headD_list s hp
  cases hn : ((s[0].toNat : Int) == 45)
  · have hneg : Dk.neg s.data.toList = false := (neg_list s hp).trans hn
    obtain ⟨e1, _⟩ := Dk.dig_pos hneg
    by_cases h5 : 5 < s.size
    · exact ref_short s w hs hz (.inr ⟨h5, hp, hn⟩) (Dk.numOk_digits hz' (by rw [e1]; exact Dk.okDig_len (.inr h5)))
    cases hf : ((s[0].toNat : Int) == 48)
    · refine ref_loop s w hp (by omega) hz hf (by by_cases h1 : s.size ≤ 1; exact .inl h1; exact .inr ⟨by omega, hn⟩) ?_
      exact Dk.num_loop_pos hz' (.inl hneg) hp (by rw [len_list]; omega) (by rw [hh]; have := beq_eq_false_iff_ne.1 hf; omega)
    · exact ref_lead s w (by omega) hz hp hf hn (Dk.numOk_digits hz' (by rw [e1]; exact Dk.okDig_head (by rw [hh]; have := eq_of_beq hf; omega)))
  · have hneg : Dk.neg s.data.toList = true := (neg_list s hp).trans hn
    obtain ⟨e1, _⟩ := Dk.dig_neg hneg
    by_cases h1 : s.size = 1
    · have hl := dash_list h1 (eq_of_beq hn)
      have h45 : (s[0].toNat : Int) = 45 := eq_of_beq hn
      refine ref_loop s w hp (by omega) hz (beq_eq_false_iff_ne.2 (by omega)) (.inl (by omega)) ?_
      exact Dk.num_loop_pos hz' (.inr hl) hp (by rw [len_list]; omega) (by rw [hh]; omega)
    have hd : 0 < (s.extract 1 s.size).size := by rw [ext1_size]; omega
    have hlen : s.data.toList.tail.length = s.size - 1 := by rw [List.length_tail, len_list]
    have hh2 := headD_ext s hd
    by_cases h5 : 6 < s.size
    · exact refn_long s w hs hz h5 hn (Dk.numOk_digits hz' (by rw [e1]; exact Dk.okDig_len (.inr (by omega))))
    cases hf : (((s.extract 1 s.size)[0].toNat : Int) == 48)
    · refine refn_loop s w (by omega) (by omega) hz hn hd hf _ (tail_list s) ?_
      exact Dk.num_loop_neg hz' hneg (by omega) (by omega) (by rw [hh2]; have := beq_eq_false_iff_ne.1 hf; omega)
    · exact refn_lead s w (by omega) (by omega) hz hn hd hf (Dk.numOk_digits hz' (by rw [e1]; exact Dk.okDig_head (by rw [hh2]; have := eq_of_beq hf; omega)))

end Go.Proofs.YtccckonckddadabGreat
