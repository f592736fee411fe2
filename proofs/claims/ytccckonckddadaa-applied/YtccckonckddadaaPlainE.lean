import Derived.Test.YtccckonckddadaaPlainD
namespace Go.Proofs.Ytccckonckddadaa.Dk

theorem applyV_undone {l : List UInt8} {cs ys : List Int} {er : Int} (h : applyV l cs = (ys, false, er)) : ys = cs := by
  unfold applyV at h
  split at h
  · unfold doV at h
    cases hr : runV (keysOf l) (opsOf l) cs with
    | none => rw [hr] at h; simp at h; exact h.1.symm
    | some r => rw [hr] at h; simp at h
  · simp at h; exact h.1.symm
theorem applyV_done {l : List UInt8} {cs ys : List Int} {er : Int} (h : applyV l cs = (ys, true, er)) : er = 0 ∧ runV (keysOf l) (opsOf l) cs = some ys := by
  unfold applyV at h
  split at h
  · unfold doV at h
    cases hr : runV (keysOf l) (opsOf l) cs with
    | none => rw [hr] at h; simp at h
    | some r => rw [hr] at h; simp at h; exact ⟨h.2.symm, by rw [h.1]⟩
  · simp at h

theorem getD_set_ne (cs : List Int) (k j : Nat) (v : Int) (h : k ≠ j) : (cs.set k v).getD j 0 = cs.getD j 0 := by
  simp [List.getD_eq_getElem?_getD, List.getElem?_set_ne h]

theorem stepV_frame (ks : List Bool) (o : Op) (cs : List Int) (j : Nat) (h : (stepV ks o cs).1.getD j 0 ≠ cs.getD j 0) : ks.getD j false = true := by
  cases hd : decl ks o.key
  · rw [stepV_key hd] at h; exact absurd rfl h
  · by_cases hj : o.key.toNat = j
    · simp only [decl, Bool.and_eq_true] at hd
      rw [← hj]; exact hd.2
    · exfalso
      apply h
      unfold stepV
      repeat' split
      all_goals first | rfl | exact getD_set_ne _ _ _ _ hj

theorem runV_frame (ks : List Bool) (j : Nat) : ∀ (os : List Op) (cs ys : List Int), runV ks os cs = some ys → ys.getD j 0 ≠ cs.getD j 0 → ks.getD j false = true
  | [], cs, ys, h, hne => by simp [runV] at h; rw [h] at hne; exact absurd rfl hne
  | o :: r, cs, ys, h, hne => by
    rw [runV] at h
    split at h
    · by_cases e : (stepV ks o cs).1.getD j 0 = cs.getD j 0
      · exact runV_frame ks j r _ ys h (by rw [e]; exact hne)
      · exact stepV_frame ks o cs j e
    · cases h

theorem applyV_frame {l : List UInt8} {x0 x1 x2 x3 x4 x5 x6 x7 y0 y1 y2 y3 y4 y5 y6 y7 er : Int} (h : applyV l [x0, x1, x2, x3, x4, x5, x6, x7] = ([y0, y1, y2, y3, y4, y5, y6, y7], true, er)) (j : Nat) (hne : ([y0, y1, y2, y3, y4, y5, y6, y7] : List Int).getD j 0 ≠ ([x0, x1, x2, x3, x4, x5, x6, x7] : List Int).getD j 0) :
    (keysOf l).getD j false = true := runV_frame _ j _ _ _ (applyV_done h).2 hne

theorem applyV_len (l : List UInt8) (cs : List Int) : (applyV l cs).1.length = cs.length := by
  have run : ∀ (os : List Op) (ks : List Bool) (cs ys : List Int), runV ks os cs = some ys → ys.length = cs.length := by
    intro os
    induction os with
    | nil => intro ks cs ys h; simp [runV] at h; rw [h]
    | cons o r ih =>
      intro ks cs ys h
      rw [runV] at h
      split at h
      · rw [ih _ _ _ h, stepV_len]
      · cases h
  unfold applyV
  split
  · unfold doV
    cases hr : runV (keysOf l) (opsOf l) cs with
    | none => rfl
    | some r => exact run _ _ _ _ hr
  · rfl
theorem applyV_8 (l : List UInt8) (x0 x1 x2 x3 x4 x5 x6 x7 : Int) : ∃ y0 y1 y2 y3 y4 y5 y6 y7 d er, applyV l [x0, x1, x2, x3, x4, x5, x6, x7] = ([y0, y1, y2, y3, y4, y5, y6, y7], d, er) := by
  obtain ⟨y0, y1, y2, y3, y4, y5, y6, y7, h⟩ := eight (applyV_len l [x0, x1, x2, x3, x4, x5, x6, x7])
  exact ⟨y0, y1, y2, y3, y4, y5, y6, y7, (applyV l [x0, x1, x2, x3, x4, x5, x6, x7]).2.1, (applyV l [x0, x1, x2, x3, x4, x5, x6, x7]).2.2, by rw [← h]⟩

/-- The bytes ahead of the first bar. -/
theorem cut_at_bar {l : List UInt8} {k : Nat} (hn : ∀ j (_ : j < k) (hj' : j < l.length), (l[j].toNat : Int) ≠ 124) (h : l.length ≤ k ∨ ∃ hk : k < l.length, (l[k].toNat : Int) = 124) : (cutAt 124 l).1 = l.take k := by
  rcases h with h | ⟨hk, he⟩
  · rw [cutAt_none 124 l (fun j hj => hn j (by omega) hj), List.take_of_length_le h]
  · rw [cutAt_found 124 l k hk (fun j hj => hn j hj (by omega)) he]

end Go.Proofs.Ytccckonckddadaa.Dk
