import Derived.Test.YtccckonckddadaaPlainS
namespace Go.Proofs.Ytccckonckddadaa.Dk

theorem numOk_head {l : List UInt8} (h : numOk l = true) : isK (l.headD 0).toNat = false := by
  unfold numOk at h
  rw [Bool.or_eq_true] at h
  rcases h with h | h
  · rw [beq_iff_eq] at h; subst h; decide
  · simp only [okDig, Bool.and_eq_true, decide_eq_true_eq] at h
    cases l with
    | nil => decide
    | cons b r =>
      cases hn : neg (b :: r)
      · rw [(dig_pos hn).1] at h
        have := allDig_mem h.1.2 (List.mem_cons_self ..)
        exact isK_no (by show ((b.toNat : Nat) : Int) < 97 ∨ _; omega)
      · simp [neg] at hn
        subst hn
        show isK ((45 : UInt8).toNat) = false
        decide
theorem opOk_key {l : List UInt8} (h : opOk l = true) : isK ((l.drop 2).headD 0).toNat = argKey (l.drop 2) := by
  simp only [opOk, Bool.and_eq_true, decide_eq_true_eq] at h
  have ha := h.2
  unfold argOk at ha
  cases hk : argKey (l.drop 2)
  · rw [hk] at ha
    exact numOk_head (by simpa using ha)
  · simp only [argKey, Bool.and_eq_true] at hk
    exact hk.2
theorem opOk_len {l : List UInt8} (h : opOk l = true) : 3 ≤ l.length := by
  simp only [opOk, Bool.and_eq_true, decide_eq_true_eq] at h; exact h.1.1.1
theorem opOk_k0 {l : List UInt8} (h : opOk l = true) : isK (l.headD 0).toNat = true := by
  simp only [opOk, Bool.and_eq_true, decide_eq_true_eq] at h; exact h.1.1.2
theorem opOk_num {l : List UInt8} (h : opOk l = true) (hk : argKey (l.drop 2) = false) : numOk (l.drop 2) = true := by
  simp only [opOk, Bool.and_eq_true, decide_eq_true_eq] at h
  have ha := h.2
  unfold argOk at ha
  rw [hk] at ha
  simpa using ha
theorem opOk_len3 {l : List UInt8} (hk : argKey (l.drop 2) = true) (h : 3 ≤ l.length) : l.length = 3 := by
  simp only [argKey, Bool.and_eq_true, decide_eq_true_eq, List.length_drop] at hk; omega
theorem argVal_num {l : List UInt8} {cs : List Int} (hk : argKey (l.drop 2) = false) : argVal (opV l) cs = numV (l.drop 2) := by
  unfold argVal opV
  simp only [hk, Bool.false_and]
  exact (arg_no hk).2.2
theorem argVal_cell {l : List UInt8} {cs : List Int} (hk : argKey (l.drop 2) = true) : argVal (opV l) cs = cs.getD (keyV ((l.drop 2).headD 0).toNat).toNat 0 := by
  have h1 := (arg_yes hk).2.1
  have h2 := argK_bd (l.drop 2)
  unfold argVal opV
  simp only [hk, h1, Bool.true_and]
  rw [← h1, decide_eq_true (by omega : 0 ≤ argK (l.drop 2) ∧ argK (l.drop 2) < 8)]
  rfl

end Go.Proofs.Ytccckonckddadaa.Dk
