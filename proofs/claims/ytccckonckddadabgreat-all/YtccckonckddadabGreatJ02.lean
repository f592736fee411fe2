import Derived.Test.YtccckonckddadabGreatJ01
namespace Go.Proofs.YtccckonckddadabGreat.Dk

/-! ### The document's own answer, in its own words -/
def inB (l : List UInt8) (c : Int) : Bool := l.any fun b => (b.toNat : Int) == c
theorem inB_keys (c : Int) : inB [97, 98, 99, 100, 101, 102, 103, 104] c = isK c := by
  rw [Bool.eq_iff_iff]
  simp [inB, isK]
  omega
theorem inB_signs (c : Int) : inB [61, 43, 45, 42, 60, 62, 126] c = isSign c := by
  rw [Bool.eq_iff_iff]
  simp [inB, isSign]
  omega
theorem inB_digits (c : Int) : inB [48, 49, 50, 51, 52, 53, 54, 55, 56, 57] c = decide (48 ≤ c ∧ c ≤ 57) := by
  rw [Bool.eq_iff_iff]
  simp [inB]
  omega
theorem inB_yes {l : List UInt8} {c : Int} {k : Nat} (h : k < l.length) (e : (l[k].toNat : Int) = c) : inB l c = true := by
  unfold inB
  rw [List.any_eq_true]
  exact ⟨l[k], List.getElem_mem h, by simpa using e⟩
theorem inB_no {l : List UInt8} {c : Int} (h : ∀ j (hj : j < l.length), (l[j].toNat : Int) ≠ c) : inB l c = false := by
  unfold inB
  rw [List.any_eq_false]
  intro b hb
  obtain ⟨j, hj, rfl⟩ := List.mem_iff_getElem.1 hb
  simpa using h j hj

theorem num_dash : numOk [45] = false := by decide

/-- What a text reads as, told by its digits alone. -/
theorem numOk_digits {l : List UInt8} (h : (l == [48]) = false) (hok : okDig (dig l) = false) : numOk l = false := by unfold numOk; rw [h, hok]; rfl
theorem numOk_of {l : List UInt8} {v : Int} (h : (l == [48]) = false) (hok : okDig (dig l) = true) (hv : rawV l = v) : numOk l = inNum v ∧ (inNum v = true → numV l = v) := by
  unfold numOk numV
  rw [h, hok, hv]
  exact ⟨rfl, fun h => by rw [h]; rfl⟩

theorem tmod_range (x : Int) : -65536 < x.tmod 65536 ∧ x.tmod 65536 < 65536 := by
  have h1 := Int.natAbs_tmod x 65536
  have h2 : x.natAbs % 65536 < 65536 := Nat.mod_lt _ (by omega)
  have h5 : (65536 : Int).natAbs = 65536 := rfl
  rw [h5] at h1
  omega
theorem okDig_of {l : List UInt8} (h1 : 1 ≤ l.length) (h5 : l.length ≤ 5) (hf : (l.headD 0).toNat ≠ 48) : okDig l = allDig l := by
  unfold okDig
  rw [decide_eq_true ⟨h1, h5⟩]
  have : (l.headD 0 == 48) = false := by rw [beq_eq_false_iff_ne]; intro e; apply hf; rw [e]; rfl
  rw [this]; rfl
theorem okDig_len {l : List UInt8} (h : l.length = 0 ∨ 5 < l.length) : okDig l = false := by
  unfold okDig; rw [decide_eq_false (by omega)]; rfl
theorem okDig_head {l : List UInt8} (hf : (l.headD 0).toNat = 48) : okDig l = false := by
  unfold okDig
  have : (l.headD 0 == 48) = true := by rw [beq_iff_eq]; exact UInt8.toNat_inj.1 hf
  rw [this]; simp

theorem dig_pos {l : List UInt8} (h : neg l = false) : dig l = l ∧ rawV l = digV l := by
  have : dig l = l := by unfold dig; rw [h]; rfl
  exact ⟨this, by unfold rawV; rw [h, this]; rfl⟩
theorem dig_neg {l : List UInt8} (h : neg l = true) : dig l = l.tail ∧ rawV l = - digV l.tail := by
  have : dig l = l.tail := by unfold dig; rw [h]; rfl
  exact ⟨this, by unfold rawV; rw [h, this]; rfl⟩
/-- Through the digits: without a sign. -/
theorem num_loop_pos {l : List UInt8} (hz : (l == [48]) = false) (hn : neg l = false ∨ l = [45]) (h1 : 1 ≤ l.length) (h5 : l.length ≤ 5) (hf : (l.headD 0).toNat ≠ 48) :
    numOk l = (allDig l && inNum (val l)) ∧ (numOk l = true → numV l = val l) := by
  rcases hn with hn | rfl
  · obtain ⟨e1, e2⟩ := dig_pos hn
    have e3 := okDig_of h1 h5 hf
    cases ha : allDig l
    · rw [ha] at e3
      have := numOk_digits hz (by rw [e1]; exact e3)
      rw [this]; exact ⟨rfl, fun h => by cases h⟩
    · rw [ha] at e3
      obtain ⟨a, b⟩ := numOk_of (v := (val l : Int)) hz (by rw [e1]; exact e3) (by rw [e2, digV_yes e3])
      rw [a]; exact ⟨rfl, b⟩
  · have h := num_dash
    rw [h]; exact ⟨by decide, fun h => by cases h⟩
/-- .. with one. -/
theorem num_loop_neg {l : List UInt8} (hz : (l == [48]) = false) (hn : neg l = true) (h1 : 1 ≤ l.tail.length) (h5 : l.tail.length ≤ 5) (hf : (l.tail.headD 0).toNat ≠ 48) :
    numOk l = (allDig l.tail && inNum (-(val l.tail : Int))) ∧ (numOk l = true → numV l = -(val l.tail : Int)) := by
  obtain ⟨e1, e2⟩ := dig_neg hn
  have e3 := okDig_of h1 h5 hf
  cases ha : allDig l.tail
  · rw [ha] at e3
    have := numOk_digits hz (by rw [e1]; exact e3)
    rw [this]; exact ⟨rfl, fun h => by cases h⟩
  · rw [ha] at e3
    obtain ⟨a, b⟩ := numOk_of (v := -(val l.tail : Int)) hz (by rw [e1]; exact e3) (by rw [e2, digV_yes e3])
    rw [a]; exact ⟨rfl, b⟩

/-- wrap, as the document's answer has it. -/
theorem wrap_pos {n : Int} (h : 32767 < n.tmod 65536) : wrap16 n = n.tmod 65536 - 65536 := by
  unfold wrap16
  have h1 := Int.tmod_add_mul_tdiv n 65536
  have h2 : -65536 < n.tmod 65536 ∧ n.tmod 65536 < 65536 := ⟨by omega, by
    have := Int.tmod_lt_of_pos n (b := 65536) (by omega); omega⟩
  omega
theorem wrap_neg {n : Int} (h : n.tmod 65536 < -32768) : wrap16 n = n.tmod 65536 + 65536 := by
  unfold wrap16
  have h1 := Int.tmod_add_mul_tdiv n 65536
  have h2 : -65536 < n.tmod 65536 := by
    have h3 := Int.natAbs_tmod n 65536
    have h4 : n.natAbs % 65536 < 65536 := Nat.mod_lt _ (by omega)
    have h5 : (65536 : Int).natAbs = 65536 := rfl
    rw [h5] at h3
    omega
  omega
theorem wrap_mid {n : Int} (h : n.tmod 65536 ≤ 32767) (h' : -32768 ≤ n.tmod 65536) : wrap16 n = n.tmod 65536 := by
  unfold wrap16
  have h1 := Int.tmod_add_mul_tdiv n 65536
  omega

end Go.Proofs.YtccckonckddadabGreat.Dk

namespace Go.Proofs.YtccckonckddadabGreat.Dk
theorem split_next {m : Int} {l : List UInt8} {P : List (List UInt8)} {f k : Nat} (h : splitAll m l = P ++ splitAll m (l.drop f)) (hf : f ≤ k) (hk : k < l.length) (hn : ∀ j (_ : f ≤ j) (_ : j < k) (hj : j < l.length), (l[j].toNat : Int) ≠ m) (he : (l[k].toNat : Int) = m) :
    splitAll m l = (P ++ [(l.take k).drop f]) ++ splitAll m (l.drop (k + 1)) := by
  have hc := cutAt_found m (l.drop f) (k - f) (by rw [List.length_drop]; omega)
    (fun j hj => by rw [List.getElem_drop]; exact hn (f + j) (by omega) (by omega) (by omega))
    (by rw [List.getElem_drop]; have e : f + (k - f) = k := by omega
        simp only [e]; exact he)
  rw [h, splitAll_cut m (l.drop f), hc, List.append_assoc]
  congr 1
  have e1 : (l.drop f).take (k - f) = (l.take k).drop f := by rw [List.drop_take]
  have e2 : (l.drop f).drop (k - f + 1) = l.drop (k + 1) := by rw [List.drop_drop]; congr 1; omega
  simp only [e1, e2, if_true]
  rfl
theorem split_end {m : Int} {l : List UInt8} {P : List (List UInt8)} {f k : Nat} (h : splitAll m l = P ++ splitAll m (l.drop f)) (hk : k = l.length) (hn : ∀ j (_ : f ≤ j) (_ : j < k) (hj : j < l.length), (l[j].toNat : Int) ≠ m) :
    splitAll m l = P ++ [(l.take k).drop f] := by
  have hc := cutAt_none m (l.drop f) (fun j hj => by rw [List.getElem_drop]; rw [List.length_drop] at hj; exact hn (f + j) (by omega) (by omega) (by omega))
  rw [h, splitAll_cut m (l.drop f), hc]
  simp [hk]
end Go.Proofs.YtccckonckddadabGreat.Dk
namespace Go.Proofs.YtccckonckddadabGreat.Dk

/-! ### One bar alone -/
theorem mem_split (m : Int) : ∀ (l : List UInt8) (b : UInt8), b ∈ l → (b.toNat : Int) = m ∨ ∃ p ∈ splitAll m l, b ∈ p
  | [], b, h => by cases h
  | c :: r, b, h => by
    simp only [splitAll]
    have hne := splitAll_ne m r
    obtain ⟨q, qs, hq⟩ : ∃ q qs, splitAll m r = q :: qs := by
      cases e : splitAll m r with
      | nil => exact absurd e hne
      | cons q qs => exact ⟨q, qs, rfl⟩
    rcases List.mem_cons.1 h with rfl | h
    · by_cases e : (b.toNat : Int) = m
      · exact .inl e
      · rw [if_neg e]
        exact .inr ⟨_, List.mem_cons_self .., List.mem_cons_self ..⟩
    · rcases mem_split m r b h with e | ⟨p, hp, hb⟩
      · exact .inl e
      · right
        split
        · exact ⟨p, List.mem_cons_of_mem _ hp, hb⟩
        · rw [hq] at hp ⊢
          rcases List.mem_cons.1 hp with rfl | hp
          · exact ⟨_, List.mem_cons_self .., List.mem_cons_of_mem _ hb⟩
          · exact ⟨p, List.mem_cons_of_mem _ hp, hb⟩

theorem allDig_mem {l : List UInt8} (h : allDig l = true) {b : UInt8} (hb : b ∈ l) : 48 ≤ b.toNat ∧ b.toNat ≤ 57 := by
  simpa using List.all_eq_true.1 h b hb
theorem numOk_nobar {l : List UInt8} (h : numOk l = true) : ∀ b ∈ l, (b.toNat : Int) ≠ 124 := by
  intro b hb
  unfold numOk at h
  rw [Bool.or_eq_true] at h
  rcases h with h | h
  · rw [beq_iff_eq] at h
    subst h
    simp at hb
    subst hb
    decide
  · simp only [okDig, Bool.and_eq_true] at h
    have ha := h.1.2
    cases hn : neg l
    · rw [(dig_pos hn).1] at ha
      have := allDig_mem ha hb
      omega
    · rw [(dig_neg hn).1] at ha
      cases l with
      | nil => cases hb
      | cons c r =>
        rcases List.mem_cons.1 hb with rfl | hb
        · simp [neg] at hn
          subst hn
          decide
        · have := allDig_mem ha hb
          omega
theorem isK_nobar {b : UInt8} (h : isK b.toNat = true) : (b.toNat : Int) ≠ 124 := by have := of_isK h; omega
theorem isSign_nobar {b : UInt8} (h : isSign b.toNat = true) : (b.toNat : Int) ≠ 124 := by
  intro e
  rw [e] at h
  exact absurd h (by decide)
theorem argOk_nobar {l : List UInt8} (h : argOk l = true) : ∀ b ∈ l, (b.toNat : Int) ≠ 124 := by
  unfold argOk at h
  rw [Bool.or_eq_true] at h
  rcases h with h | h
  · simp only [argKey, Bool.and_eq_true, decide_eq_true_eq] at h
    match l, h with
    | [c], h =>
      intro b hb
      simp at hb
      subst hb
      exact isK_nobar h.2
  · exact numOk_nobar h
theorem opOk_nobar {l : List UInt8} (h : opOk l = true) : ∀ b ∈ l, (b.toNat : Int) ≠ 124 := by
  simp only [opOk, Bool.and_eq_true, decide_eq_true_eq] at h
  match l, h with
  | a :: c :: r, h =>
    intro b hb
    rcases List.mem_cons.1 hb with rfl | hb
    · exact isK_nobar h.1.1.2
    · rcases List.mem_cons.1 hb with rfl | hb
      · exact isSign_nobar h.1.2
      · exact argOk_nobar h.2 b hb
theorem opsOk_nobar {l : List UInt8} (h : opsOk l = true) : ∀ b ∈ l, (b.toNat : Int) ≠ 124 := by
  intro b hb
  simp only [opsOk, Bool.and_eq_true] at h
  rcases mem_split 59 l b hb with e | ⟨p, hp, hbp⟩
  · omega
  · exact opOk_nobar (List.all_eq_true.1 h.2 p hp) b hbp

theorem cut_whole {m : Int} {l : List UInt8} (h : (cutAt m l).2.2 = false) : (cutAt m l).1 = l := by
  induction l with
  | nil => rfl
  | cons b r ih =>
    simp only [cutAt] at h ⊢
    split at h
    · simp at h
    · rename_i hne
      rw [if_neg hne]
      simp only [List.cons.injEq, true_and]
      exact ih h

/-- The document's way to read a text, and the program's. -/
theorem parse_two {l : List UInt8} (h : (splitAll 124 l).length ≠ 2) : parseOk l = false := by
  cases hp : parseOk l
  · rfl
  · exfalso
    apply h
    simp only [parseOk, Bool.and_eq_true, decide_eq_true_eq] at hp
    rw [split_more hp.1.1.2]
    have hc := cutAt_none 124 (cutAt 124 l).2.1 (fun j hj => opsOk_nobar hp.2 _ (List.getElem_mem hj))
    rw [split_last (by rw [hc])]
    rfl
theorem parse_pair {l p q : List UInt8} (h : splitAll 124 l = [p, q]) : (cutAt 124 l).2.2 = true ∧ (cutAt 124 l).1 = p ∧ (cutAt 124 l).2.1 = q := by
  cases hf : (cutAt 124 l).2.2
  · rw [split_last hf] at h; simp at h
  · rw [split_more hf] at h
    simp only [List.cons.injEq] at h
    refine ⟨rfl, h.1, ?_⟩
    have hs := h.2
    rw [splitAll_cut] at hs
    simp only [List.cons.injEq] at hs
    cases hg : (cutAt 124 (cutAt 124 l).2.1).2.2
    · rw [← hs.1]
      have hn := cut_whole hg
      exact hn.symm
    · rw [hg] at hs
      have := splitAll_ne 124 (cutAt 124 (cutAt 124 l).2.1).2.1
      simp only [if_true] at hs
      exact absurd hs.2 this
theorem split_len (m : Int) : ∀ (l : List UInt8) (p : List UInt8), p ∈ splitAll m l → p.length ≤ l.length
  | [], p, h => by simp [splitAll] at h; rw [h]; simp
  | b :: r, p, h => by
    simp only [splitAll] at h
    split at h
    · rcases List.mem_cons.1 h with rfl | h
      · simp
      · have := split_len m r p h; simp; omega
    · have hne := splitAll_ne m r
      cases e : splitAll m r with
      | nil => exact absurd e hne
      | cons q qs =>
        rw [e] at h
        rcases List.mem_cons.1 h with rfl | h
        · have := split_len m r q (by rw [e]; exact List.mem_cons_self ..); simp; omega
        · have := split_len m r p (by rw [e]; exact List.mem_cons_of_mem _ h); simp; omega
theorem opsOk_many {l : List UInt8} (h : 8 < (splitAll 59 l).length) : opsOk l = false := by unfold opsOk; rw [decide_eq_false (by omega)]; rfl
theorem opsOk_one {l p : List UInt8} (h : p ∈ splitAll 59 l) (hp : opOk p = false) : opsOk l = false := by
  cases ho : opsOk l
  · rfl
  · simp only [opsOk, Bool.and_eq_true] at ho
    rw [List.all_eq_true.1 ho.2 p h] at hp; cases hp
theorem opsOk_all {l : List UInt8} (h : (splitAll 59 l).length ≤ 8) (ha : (splitAll 59 l).all opOk = true) : opsOk l = true := by
  unfold opsOk; rw [decide_eq_true h, ha]; rfl

end Go.Proofs.YtccckonckddadabGreat.Dk
namespace Go.Proofs.YtccckonckddadabGreat.Dk

theorem numOk_head {l : List UInt8} (h : numOk l = true) : isK (l.headD 0).toNat = false := by
  unfold numOk at h
  rw [Bool.or_eq_true] at h
  rcases h with h | h
  · rw [beq_iff_eq] at h; subst h; decide
  · simp only [okDig, Bool.and_eq_true, decide_eq_true_eq] at h
    cases l with
    | nil => decide
    | cons b r =>
      cases hn : neg (b :: r)
      · rw [(dig_pos hn).1] at h
        have := allDig_mem h.1.2 (List.mem_cons_self ..)
        exact isK_no (by show ((b.toNat : Nat) : Int) < 97 ∨ _; omega)
      · simp [neg] at hn
        subst hn
        show isK ((45 : UInt8).toNat) = false
        decide
theorem opOk_key {l : List UInt8} (h : opOk l = true) : isK ((l.drop 2).headD 0).toNat = argKey (l.drop 2) := by
  simp only [opOk, Bool.and_eq_true, decide_eq_true_eq] at h
  have ha := h.2
  unfold argOk at ha
  cases hk : argKey (l.drop 2)
  · rw [hk] at ha
    exact numOk_head (by simpa using ha)
  · simp only [argKey, Bool.and_eq_true] at hk
    exact hk.2
theorem opOk_len {l : List UInt8} (h : opOk l = true) : 3 ≤ l.length := by
  simp only [opOk, Bool.and_eq_true, decide_eq_true_eq] at h; exact h.1.1.1
theorem opOk_k0 {l : List UInt8} (h : opOk l = true) : isK (l.headD 0).toNat = true := by
  simp only [opOk, Bool.and_eq_true, decide_eq_true_eq] at h; exact h.1.1.2
theorem opOk_num {l : List UInt8} (h : opOk l = true) (hk : argKey (l.drop 2) = false) : numOk (l.drop 2) = true := by
  simp only [opOk, Bool.and_eq_true, decide_eq_true_eq] at h
  have ha := h.2
  unfold argOk at ha
  rw [hk] at ha
  simpa using ha
theorem opOk_len3 {l : List UInt8} (hk : argKey (l.drop 2) = true) (h : 3 ≤ l.length) : l.length = 3 := by
  simp only [argKey, Bool.and_eq_true, decide_eq_true_eq, List.length_drop] at hk; omega
theorem argVal_num {l : List UInt8} {cs : List Int} (hk : argKey (l.drop 2) = false) : argVal (opV l) cs = numV (l.drop 2) := by
  unfold argVal opV
  simp only [hk, Bool.false_and]
  exact (arg_no hk).2.2
theorem argVal_cell {l : List UInt8} {cs : List Int} (hk : argKey (l.drop 2) = true) : argVal (opV l) cs = cs.getD (keyV ((l.drop 2).headD 0).toNat).toNat 0 := by
  have h1 := (arg_yes hk).2.1
  have h2 := argK_bd (l.drop 2)
  unfold argVal opV
  simp only [hk, h1, Bool.true_and]
  rw [← h1, decide_eq_true (by omega : 0 ≤ argK (l.drop 2) ∧ argK (l.drop 2) < 8)]
  rfl

end Go.Proofs.YtccckonckddadabGreat.Dk
namespace Go.Proofs.YtccckonckddadabGreat.Dk

def In16 (n : Int) : Prop := -32768 ≤ n ∧ n ≤ 32767
def All16 (cs : List Int) : Prop := ∀ y ∈ cs, In16 y

theorem decl_in {l : List UInt8} {j : Nat} (h : j < 8) : decl (keysOf l) j = inB (cutAt 124 l).1 (97 + j) := by
  unfold decl keysOf
  rw [decide_eq_true (by omega), Bool.true_and, Int.toNat_natCast]
  obtain rfl | rfl | rfl | rfl | rfl | rfl | rfl | rfl : j = 0 ∨ j = 1 ∨ j = 2 ∨ j = 3 ∨ j = 4 ∨ j = 5 ∨ j = 6 ∨ j = 7 := by omega
  all_goals rfl

theorem getD_16 {cs : List Int} (h : All16 cs) (j : Nat) : In16 (cs.getD j 0) := by
  rw [List.getD_eq_getElem?_getD]
  cases e : cs[j]? with
  | none => exact ⟨by decide, by decide⟩
  | some y => exact h y (List.mem_of_getElem? e)
theorem num_16 (l : List UInt8) : In16 (opV l).num := by
  show In16 (argN (l.drop 2))
  unfold argN
  split
  · exact ⟨by decide, by decide⟩
  · exact numV_bd _
theorem argVal_16 {cs : List Int} (h : All16 cs) (l : List UInt8) : In16 (argVal (opV l) cs) := by
  unfold argVal
  split
  · exact getD_16 h _
  · exact num_16 l
theorem set_16 {cs : List Int} (h : All16 cs) (j : Nat) {v : Int} (hv : In16 v) : All16 (cs.set j v) := by
  intro y hy
  rcases List.mem_or_eq_of_mem_set hy with hy | rfl
  · exact h y hy
  · exact hv
theorem set_self (cs : List Int) (j : Nat) : cs.set j (cs.getD j 0) = cs := by
  by_cases h : j < cs.length
  · rw [List.getD_eq_getElem?_getD, List.getElem?_eq_getElem h]
    simp
  · exact List.set_eq_of_length_le (by omega)

/-- What a transaction's operations make of cells, the operations told by their texts. -/
theorem runV_step_yes {ks : List Bool} {ps : List (List UInt8)} {cs cs' : List Int} {k : Nat} {p : List UInt8} (h : ps[k]? = some p) (hs : stepV ks (opV p) cs = (cs', true)) :
    runV ks ((ps.map opV).drop k) cs = runV ks ((ps.map opV).drop (k + 1)) cs' := runV_drop_yes (by simp [h]) hs
theorem runV_step_no {ks : List Bool} {ps : List (List UInt8)} {cs cs' : List Int} {k : Nat} {p : List UInt8} (h : ps[k]? = some p) (hs : stepV ks (opV p) cs = (cs', false)) :
    runV ks ((ps.map opV).drop k) cs = none := runV_drop_no (by simp [h]) hs

/-- The step, sign by sign: what is stored, or that it is aborted. -/
theorem sign_eq {j : Nat} {h v : Int} {cs : List Int} : signV 61 j h v cs = (cs.set j v, true) := rfl
theorem sign_add {j : Nat} {h v : Int} {cs : List Int} : signV 43 j h v cs = (cs.set j (wrap16 (h + v)), true) := rfl
theorem sign_sub {j : Nat} {h v : Int} {cs : List Int} : signV 45 j h v cs = (cs.set j (wrap16 (h - v)), true) := rfl
theorem sign_mul {j : Nat} {h v : Int} {cs : List Int} : signV 42 j h v cs = (cs.set j (wrap16 (h * v)), true) := rfl
theorem sign_lt {j : Nat} {v : Int} {cs : List Int} : signV 60 j (cs.getD j 0) v cs = (cs.set j (cs.getD j 0), decide (cs.getD j 0 < v)) := by rw [set_self]; rfl
theorem sign_gt {j : Nat} {v : Int} {cs : List Int} : signV 62 j (cs.getD j 0) v cs = (cs.set j (cs.getD j 0), decide (v < cs.getD j 0)) := by rw [set_self]; rfl
theorem sign_same {j : Nat} {v : Int} {cs : List Int} : signV 126 j (cs.getD j 0) v cs = (cs.set j (cs.getD j 0), cs.getD j 0 == v) := by rw [set_self]; rfl
theorem isSign_of {c : Int} (h : isSign c = true) : c = 61 ∨ c = 43 ∨ c = 45 ∨ c = 42 ∨ c = 60 ∨ c = 62 ∨ c = 126 := by
  simpa [isSign] using h
theorem prod_16 {a b : Int} (ha : In16 a) (hb : In16 b) : -1073741824 ≤ a * b ∧ a * b ≤ 1073741824 := by
  have h1 : a.natAbs ≤ 32768 := by have := ha.1; have := ha.2; omega
  have h2 : b.natAbs ≤ 32768 := by have := hb.1; have := hb.2; omega
  have h3 : (a * b).natAbs ≤ 32768 * 32768 := by rw [Int.natAbs_mul]; exact Nat.mul_le_mul h1 h2
  omega

end Go.Proofs.YtccckonckddadabGreat.Dk
namespace Go.Proofs.YtccckonckddadabGreat.Dk

/-! ### The bytes of an epoch -/
/-- A number in so many bytes, the one that counts most first. -/
def be : Nat → Nat → List UInt8
  | _, 0 => []
  | n, k + 1 => be (n / 256) k ++ [UInt8.ofNat (n % 256)]
theorem be_len (n k : Nat) : (be n k).length = k := by
  induction k generalizing n with
  | zero => rfl
  | succ k ih => simp [be, ih]

def sumStep (h : Nat) (b : UInt8) : Nat := ((h ^^^ b.toNat) * 16777619) % 4294967296
def sum0 : Nat := 2166136261
def sumFrom (h : Nat) (l : List UInt8) : Nat := l.foldl sumStep h
theorem sumFrom_snoc (h : Nat) (l : List UInt8) (b : UInt8) : sumFrom h (l ++ [b]) = sumStep (sumFrom h l) b := by
  unfold sumFrom
  rw [List.foldl_append, List.foldl_cons, List.foldl_nil]
def sumV (l : List UInt8) : Nat := sumFrom sum0 l
theorem sumV_nil : sumV [] = sum0 := by unfold sumV sumFrom; rw [List.foldl_nil]
theorem sumV_snoc (l : List UInt8) (b : UInt8) : sumV (l ++ [b]) = sumStep (sumV l) b := sumFrom_snoc sum0 l b
theorem sumStep_lt (h : Nat) (b : UInt8) : sumStep h b < 4294967296 := by unfold sumStep; omega
theorem sumV_lt (l : List UInt8) : sumV l < 4294967296 := by
  cases h : l.reverse with
  | nil =>
    have : l = [] := by simpa using h
    subst this
    rw [sumV_nil]
    unfold sum0
    omega
  | cons b r =>
    have : l = r.reverse ++ [b] := by rw [← List.reverse_reverse l, h]; simp
    rw [this, sumV_snoc]
    exact sumStep_lt _ _
theorem xor_low (h b : Nat) (hb : b < 256) : h - h % 256 + (h % 256 ^^^ b) = h ^^^ b := by
  have h1 : (h ^^^ b) % 2 ^ 8 = (h % 2 ^ 8) ^^^ (b % 2 ^ 8) := Nat.xor_mod_two_pow
  have h2 : (h ^^^ b) / 2 ^ 8 = (h / 2 ^ 8) ^^^ (b / 2 ^ 8) := by
    rw [← Nat.shiftRight_eq_div_pow, ← Nat.shiftRight_eq_div_pow, ← Nat.shiftRight_eq_div_pow, Nat.shiftRight_xor_distrib]
  have e : (2 : Nat) ^ 8 = 256 := by decide
  rw [e] at h1 h2
  rw [Nat.mod_eq_of_lt hb] at h1
  rw [Nat.div_eq_of_lt hb, Nat.xor_zero] at h2
  have h3 := Nat.div_add_mod (h ^^^ b) 256
  have h4 := Nat.div_add_mod h 256
  omega

/-- A record, as the list holds it. -/
structure Rec where
  client : Int
  id : Int
  late : Bool
  text : List UInt8

def recOk (r : Rec) : Bool := (if r.late then r.text == [] else parseOk r.text) && decide (0 ≤ r.client ∧ r.client < 8) && decide (0 ≤ r.id ∧ r.id ≤ 999999)
def recBytes (r : Rec) : List UInt8 := be r.client.toNat 1 ++ be r.id.toNat 3 ++ be (if r.late then 1 else 0) 1 ++ be r.text.length 1 ++ r.text
def payload (n : Nat) (rs : List Rec) : List UInt8 := be n 1 ++ be rs.length 1 ++ rs.flatMap recBytes
def epoch (n : Nat) (rs : List Rec) : List UInt8 := be (payload n rs).length 2 ++ payload n rs ++ be (sumV (payload n rs)) 4
def frameOk (n : Int) (rs : List Rec) : Bool := decide (0 ≤ n ∧ n < 200) && decide (rs.length ≤ 64) && rs.all recOk

end Go.Proofs.YtccckonckddadabGreat.Dk
