import Derived.Test.YtccckonckddadaaPlainR
namespace Go.Proofs.Ytccckonckddadaa.Dk

/-! ### One bar alone -/
theorem mem_split (m : Int) : ∀ (l : List UInt8) (b : UInt8), b ∈ l → (b.toNat : Int) = m ∨ ∃ p ∈ splitAll m l, b ∈ p
  | [], b, h => by cases h
  | c :: r, b, h => by
    simp only [splitAll]
    have hne := splitAll_ne m r
    obtain ⟨q, qs, hq⟩ : ∃ q qs, splitAll m r = q :: qs := by
      cases e : splitAll m r with
      | nil => exact absurd e hne
      | cons q qs => exact ⟨q, qs, rfl⟩
    rcases List.mem_cons.1 h with rfl | h
    · by_cases e : (b.toNat : Int) = m
      · exact .inl e
      · rw [if_neg e]
        exact .inr ⟨_, List.mem_cons_self .., List.mem_cons_self ..⟩
    · rcases mem_split m r b h with e | ⟨p, hp, hb⟩
      · exact .inl e
      · right
        split
        · exact ⟨p, List.mem_cons_of_mem _ hp, hb⟩
        · rw [hq] at hp ⊢
          rcases List.mem_cons.1 hp with rfl | hp
          · exact ⟨_, List.mem_cons_self .., List.mem_cons_of_mem _ hb⟩
          · exact ⟨p, List.mem_cons_of_mem _ hp, hb⟩

theorem allDig_mem {l : List UInt8} (h : allDig l = true) {b : UInt8} (hb : b ∈ l) : 48 ≤ b.toNat ∧ b.toNat ≤ 57 := by
  simpa using List.all_eq_true.1 h b hb
theorem numOk_nobar {l : List UInt8} (h : numOk l = true) : ∀ b ∈ l, (b.toNat : Int) ≠ 124 := by
  intro b hb
  unfold numOk at h
  rw [Bool.or_eq_true] at h
  rcases h with h | h
  · rw [beq_iff_eq] at h
    subst h
    simp at hb
    subst hb
    decide
  · simp only [okDig, Bool.and_eq_true] at h
    have ha := h.1.2
    cases hn : neg l
    · rw [(dig_pos hn).1] at ha
      have := allDig_mem ha hb
      omega
    · rw [(dig_neg hn).1] at ha
      cases l with
      | nil => cases hb
      | cons c r =>
        rcases List.mem_cons.1 hb with rfl | hb
        · simp [neg] at hn
          subst hn
          decide
        · have := allDig_mem ha hb
          omega
theorem isK_nobar {b : UInt8} (h : isK b.toNat = true) : (b.toNat : Int) ≠ 124 := by have := of_isK h; omega
theorem isSign_nobar {b : UInt8} (h : isSign b.toNat = true) : (b.toNat : Int) ≠ 124 := by
  intro e
  rw [e] at h
  exact absurd h (by decide)
theorem argOk_nobar {l : List UInt8} (h : argOk l = true) : ∀ b ∈ l, (b.toNat : Int) ≠ 124 := by
  unfold argOk at h
  rw [Bool.or_eq_true] at h
  rcases h with h | h
  · simp only [argKey, Bool.and_eq_true, decide_eq_true_eq] at h
    match l, h with
    | [c], h =>
      intro b hb
      simp at hb
      subst hb
      exact isK_nobar h.2
  · exact numOk_nobar h
theorem opOk_nobar {l : List UInt8} (h : opOk l = true) : ∀ b ∈ l, (b.toNat : Int) ≠ 124 := by
  simp only [opOk, Bool.and_eq_true, decide_eq_true_eq] at h
  match l, h with
  | a :: c :: r, h =>
    intro b hb
    rcases List.mem_cons.1 hb with rfl | hb
    · exact isK_nobar h.1.1.2
    · rcases List.mem_cons.1 hb with rfl | hb
      · exact isSign_nobar h.1.2
      · exact argOk_nobar h.2 b hb
theorem opsOk_nobar {l : List UInt8} (h : opsOk l = true) : ∀ b ∈ l, (b.toNat : Int) ≠ 124 := by
  intro b hb
  simp only [opsOk, Bool.and_eq_true] at h
  rcases mem_split 59 l b hb with e | ⟨p, hp, hbp⟩
  · omega
  · exact opOk_nobar (List.all_eq_true.1 h.2 p hp) b hbp

theorem cut_whole {m : Int} {l : List UInt8} (h : (cutAt m l).2.2 = false) : (cutAt m l).1 = l := by
  induction l with
  | nil => rfl
  | cons b r ih =>
    simp only [cutAt] at h ⊢
    split at h
    · simp at h
    · rename_i hne
      rw [if_neg hne]
      simp only [List.cons.injEq, true_and]
      exact ih h

/-- The document's way to read a text, and the program's. -/
theorem parse_two {l : List UInt8} (h : (splitAll 124 l).length ≠ 2) : parseOk l = false := by
  cases hp : parseOk l
  · rfl
  · exfalso
    apply h
    simp only [parseOk, Bool.and_eq_true, decide_eq_true_eq] at hp
    rw [split_more hp.1.1.2]
    have hc := cutAt_none 124 (cutAt 124 l).2.1 (fun j hj => opsOk_nobar hp.2 _ (List.getElem_mem hj))
    rw [split_last (by rw [hc])]
    rfl
theorem parse_pair {l p q : List UInt8} (h : splitAll 124 l = [p, q]) : (cutAt 124 l).2.2 = true ∧ (cutAt 124 l).1 = p ∧ (cutAt 124 l).2.1 = q := by
  cases hf : (cutAt 124 l).2.2
  · rw [split_last hf] at h; simp at h
  · rw [split_more hf] at h
    simp only [List.cons.injEq] at h
    refine ⟨rfl, h.1, ?_⟩
    have hs := h.2
    rw [splitAll_cut] at hs
    simp only [List.cons.injEq] at hs
    cases hg : (cutAt 124 (cutAt 124 l).2.1).2.2
    · rw [← hs.1]
      have hn := cut_whole hg
      exact hn.symm
    · rw [hg] at hs
      have := splitAll_ne 124 (cutAt 124 (cutAt 124 l).2.1).2.1
      simp only [if_true] at hs
      exact absurd hs.2 this
theorem split_len (m : Int) : ∀ (l : List UInt8) (p : List UInt8), p ∈ splitAll m l → p.length ≤ l.length
  | [], p, h => by simp [splitAll] at h; rw [h]; simp
  | b :: r, p, h => by
    simp only [splitAll] at h
    split at h
    · rcases List.mem_cons.1 h with rfl | h
      · simp
      · have := split_len m r p h; simp; omega
    · have hne := splitAll_ne m r
      cases e : splitAll m r with
      | nil => exact absurd e hne
      | cons q qs =>
        rw [e] at h
        rcases List.mem_cons.1 h with rfl | h
        · have := split_len m r q (by rw [e]; exact List.mem_cons_self ..); simp; omega
        · have := split_len m r p (by rw [e]; exact List.mem_cons_of_mem _ h); simp; omega
theorem opsOk_many {l : List UInt8} (h : 8 < (splitAll 59 l).length) : opsOk l = false := by unfold opsOk; rw [decide_eq_false (by omega)]; rfl
theorem opsOk_one {l p : List UInt8} (h : p ∈ splitAll 59 l) (hp : opOk p = false) : opsOk l = false := by
  cases ho : opsOk l
  · rfl
  · simp only [opsOk, Bool.and_eq_true] at ho
    rw [List.all_eq_true.1 ho.2 p h] at hp; cases hp
theorem opsOk_all {l : List UInt8} (h : (splitAll 59 l).length ≤ 8) (ha : (splitAll 59 l).all opOk = true) : opsOk l = true := by
  unfold opsOk; rw [decide_eq_true h, ha]; rfl

end Go.Proofs.Ytccckonckddadaa.Dk
