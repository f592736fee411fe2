import Derived.Test.YtccckonckddadaaPlainX
namespace Go.Proofs.Ytccckonckddadaa.Dk

/-! ### Epochs one behind the other -/
def logFrom : Nat → List (List Rec) → List UInt8
  | _, [] => []
  | n, rs :: es => epoch n rs ++ logFrom (n + 1) es
theorem logFrom_snoc (rs : List Rec) : ∀ (es : List (List Rec)) (n : Nat), logFrom n (es ++ [rs]) = logFrom n es ++ epoch (n + es.length) rs
  | [], n => by simp [logFrom]
  | x :: es, n => by
    show epoch n x ++ logFrom (n + 1) (es ++ [rs]) = epoch n x ++ logFrom (n + 1) es ++ _
    rw [logFrom_snoc rs es (n + 1), List.append_assoc, List.length_cons, show n + 1 + es.length = n + (es.length + 1) from by omega]
theorem logFrom_append : ∀ (es fs : List (List Rec)) (n : Nat), logFrom n (es ++ fs) = logFrom n es ++ logFrom (n + es.length) fs
  | [], fs, n => by simp [logFrom]
  | x :: es, fs, n => by
    show epoch n x ++ logFrom (n + 1) (es ++ fs) = epoch n x ++ logFrom (n + 1) es ++ _
    rw [logFrom_append es fs (n + 1), List.append_assoc, List.length_cons, show n + 1 + es.length = n + (es.length + 1) from by omega]

/-- Epochs that may be written, from the n-th on. -/
def Sound (n : Nat) (es : List (List Rec)) : Prop := ∀ i rs, es[i]? = some rs → frameOk ((n + i : Nat) : Int) rs = true

theorem read_nil (n : Nat) : readV n [] = none := by
  cases hr : readV n [] with
  | none => rfl
  | some x =>
    have h := congrArg List.length (read_some (rs := x.1) (b := x.2) hr).2
    have := epoch_pos n x.1
    rw [List.length_append] at h
    simp at h
    omega
theorem read_zeros (n : Nat) (t : List UInt8) : readV n (0 :: 0 :: t) = none := by
  cases hr : readV n (0 :: 0 :: t) with
  | none => rfl
  | some x =>
    obtain ⟨hf, h⟩ := read_some (rs := x.1) (b := x.2) hr
    obtain ⟨_, _, h3, h4⟩ := frame_parts hf
    have hl := flat_len h4
    have hp := payload_len n x.1
    have he : epoch n x.1 ++ x.2 = b8 ((payload n x.1).length / 256) :: b8 (payload n x.1).length :: (payload n x.1 ++ be (sumV (payload n x.1)) 4 ++ x.2) := rfl
    rw [he, List.cons.injEq, List.cons.injEq] at h
    have e1 := congrArg UInt8.toNat h.1
    have e2 := congrArg UInt8.toNat h.2.1
    rw [b8_val] at e1 e2
    have z : (0 : UInt8).toNat = 0 := rfl
    omega
theorem read_short {n : Nat} {rs : List Rec} (hf : frameOk n rs = true) {j : Nat} (hj : j < (epoch n rs).length) : readV n ((epoch n rs).take j) = none := by
  cases hr : readV n ((epoch n rs).take j) with
  | none => rfl
  | some x =>
    obtain ⟨hf', h⟩ := read_some (rs := x.1) (b := x.2) hr
    have h1 : epoch n rs = epoch n x.1 ++ (x.2 ++ (epoch n rs).drop j) := by
      rw [← List.append_assoc, ← h, List.take_append_drop]
    have g1 := guess_epoch [] hf
    rw [List.append_nil] at g1
    have g2 := guess_epoch (x.2 ++ (epoch n rs).drop j) hf'
    rw [← h1, g1] at g2
    have h2 := congrArg List.length h
    rw [List.length_take, List.length_append, ← g2] at h2
    omega

theorem scanFrom_log (l r : List UInt8) : ∀ (es : List (List Rec)) (n p k : Nat), Sound n es → l.drop p = logFrom n es ++ r → readV (n + es.length) r = none → es.length ≤ k →
    scanFrom l k n p = (n + es.length, p + (logFrom n es).length)
  | [], n, p, k, _, hd, hr, _ => by
    have hd' : l.drop p = r := hd
    have hr' : readV n r = none := hr
    rw [scan_read_none (by rw [hd']; exact hr')]
    rfl
  | rs :: es, n, p, k, hs, hd, hr, hk => by
    obtain ⟨k, rfl⟩ : ∃ j, k = j + 1 := ⟨k - 1, by simp at hk; omega⟩
    have hf : frameOk n rs = true := hs 0 rs rfl
    have hd' : l.drop p = epoch n rs ++ (logFrom (n + 1) es ++ r) := by rw [hd]; show epoch n rs ++ logFrom (n + 1) es ++ r = _; rw [List.append_assoc]
    have hrd := read_of (logFrom (n + 1) es ++ r) hf
    rw [← hd'] at hrd
    obtain ⟨h1, h2⟩ := scan_read_some (k := k) hrd
    rw [h1, scanFrom_log l r es (n + 1) (p + (epoch n rs).length) k ?_ h2.symm ?_ (by simpa using hk)]
    · show _ = (n + (es.length + 1), p + (epoch n rs ++ logFrom (n + 1) es).length)
      rw [List.length_append, show n + 1 + es.length = n + (es.length + 1) from by omega, Nat.add_assoc p]
    · intro i x hx
      have := hs (i + 1) x (by simpa using hx)
      rw [show n + 1 + i = n + (i + 1) from by omega]
      exact this
    · rw [show n + 1 + es.length = n + (rs :: es).length from by simp; omega]
      exact hr

theorem scan_log {es : List (List Rec)} (r : List UInt8) (hs : Sound 0 es) (hn : es.length ≤ 200) (hr : readV es.length r = none) : scanV (logFrom 0 es ++ r) = (es.length, (logFrom 0 es).length) := by
  unfold scanV
  rw [scanFrom_log (logFrom 0 es ++ r) r es 0 0 201 hs rfl (by rw [Nat.zero_add]; exact hr) (by omega), Nat.zero_add, Nat.zero_add]

theorem sound_take {n : Nat} {es : List (List Rec)} (h : Sound n es) (k : Nat) : Sound n (es.take k) := by
  intro i rs hi
  rw [List.getElem?_take] at hi
  split at hi
  · exact h i rs hi
  · cases hi

/-- A front of the bytes: just the epochs that are in it as a whole. -/
theorem scan_front {es : List (List Rec)} (hs : Sound 0 es) (hn : es.length ≤ 200) {at' k : Nat} (hk : k ≤ es.length) (h1 : (logFrom 0 (es.take k)).length ≤ at') (h2 : k < es.length → at' < (logFrom 0 (es.take (k + 1))).length) :
    scanV ((logFrom 0 es).take at') = (k, (logFrom 0 (es.take k)).length) := by
  have hlk : (es.take k).length = k := by rw [List.length_take]; omega
  by_cases hlt : k < es.length
  · have h2' := h2 hlt
    have hes : es = es.take k ++ es[k] :: es.drop (k + 1) := by rw [← List.drop_eq_getElem_cons hlt, List.take_append_drop]
    have e1 : logFrom 0 es = logFrom 0 (es.take k) ++ (epoch k es[k] ++ logFrom (k + 1) (es.drop (k + 1))) := by
      conv => lhs; rw [hes]
      rw [logFrom_append, hlk, Nat.zero_add]
      rfl
    have e2 : (logFrom 0 (es.take (k + 1))).length = (logFrom 0 (es.take k)).length + (epoch k es[k]).length := by
      rw [List.take_succ_eq_append_getElem hlt, logFrom_snoc, hlk, Nat.zero_add, List.length_append]
    have e3 : (logFrom 0 es).take at' = logFrom 0 (es.take k) ++ (epoch k es[k]).take (at' - (logFrom 0 (es.take k)).length) := by
      rw [e1, List.take_append, List.take_of_length_le h1, List.take_append_of_le_length (by omega)]
    have hf : frameOk (k : Int) es[k] = true := by
      have := hs k es[k] (List.getElem?_eq_getElem hlt)
      rw [Nat.zero_add] at this
      exact this
    rw [e3]
    have := scan_log (es := es.take k) ((epoch k es[k]).take (at' - (logFrom 0 (es.take k)).length)) (sound_take hs k) (by omega) (by rw [hlk]; exact read_short hf (by omega))
    rw [hlk] at this
    exact this
  · have hke : es.take k = es := List.take_of_length_le (by omega)
    rw [hke] at h1 ⊢
    have : (logFrom 0 es).take at' = logFrom 0 es ++ [] := by rw [List.take_of_length_le h1, List.append_nil]
    rw [this, scan_log [] hs hn (read_nil _)]
    congr 1
    omega

theorem scan_empty : scanV [0, 2, 0, 0, 17, 118, 151, 205] = (1, 8) := by
  have h := scan_log (es := [[]]) [] (fun i rs hi => by
    have : i = 0 ∧ rs = [] := by
      cases i with
      | zero => exact ⟨rfl, by simpa using hi.symm⟩
      | succ j => simp at hi
    rw [this.1, this.2]; decide) (by decide) (read_nil _)
  have e : logFrom 0 [[]] ++ [] = [0, 2, 0, 0, 17, 118, 151, 205] := by decide
  rw [e] at h
  rw [h]
  have e2 : (logFrom 0 [[]]).length = 8 := by decide
  rw [e2]; rfl

theorem log_mono (es : List (List Rec)) (i : Nat) : (logFrom 0 (es.take i)).length ≤ (logFrom 0 (es.take (i + 1))).length := by
  by_cases hi : i < es.length
  · rw [List.take_succ_eq_append_getElem hi, logFrom_snoc, List.length_append]; omega
  · rw [List.take_of_length_le (by omega), List.take_of_length_le (by omega)]; exact Nat.le_refl _

end Go.Proofs.Ytccckonckddadaa.Dk
