import Derived.Test.YtccckonckddadaaPlainE
namespace Go.Proofs.Ytccckonckddadaa.Dk

/-! ### The document's own answer, in its own words -/
def inB (l : List UInt8) (c : Int) : Bool := l.any fun b => (b.toNat : Int) == c
theorem inB_keys (c : Int) : inB [97, 98, 99, 100, 101, 102, 103, 104] c = isK c := by
  rw [Bool.eq_iff_iff]
  simp [inB, isK]
  omega
theorem inB_signs (c : Int) : inB [61, 43, 45, 42, 60, 62, 126] c = isSign c := by
  rw [Bool.eq_iff_iff]
  simp [inB, isSign]
  omega
theorem inB_digits (c : Int) : inB [48, 49, 50, 51, 52, 53, 54, 55, 56, 57] c = decide (48 ≤ c ∧ c ≤ 57) := by
  rw [Bool.eq_iff_iff]
  simp [inB]
  omega
theorem inB_yes {l : List UInt8} {c : Int} {k : Nat} (h : k < l.length) (e : (l[k].toNat : Int) = c) : inB l c = true := by
  unfold inB
  rw [List.any_eq_true]
  exact ⟨l[k], List.getElem_mem h, by simpa using e⟩
theorem inB_no {l : List UInt8} {c : Int} (h : ∀ j (hj : j < l.length), (l[j].toNat : Int) ≠ c) : inB l c = false := by
  unfold inB
  rw [List.any_eq_false]
  intro b hb
  obtain ⟨j, hj, rfl⟩ := List.mem_iff_getElem.1 hb
  simpa using h j hj

theorem num_dash : numOk [45] = false := by decide

/-- What a text reads as, told by its digits alone. -/
theorem numOk_digits {l : List UInt8} (h : (l == [48]) = false) (hok : okDig (dig l) = false) : numOk l = false := by unfold numOk; rw [h, hok]; rfl
theorem numOk_of {l : List UInt8} {v : Int} (h : (l == [48]) = false) (hok : okDig (dig l) = true) (hv : rawV l = v) : numOk l = inNum v ∧ (inNum v = true → numV l = v) := by
  unfold numOk numV
  rw [h, hok, hv]
  exact ⟨rfl, fun h => by rw [h]; rfl⟩

theorem tmod_range (x : Int) : -65536 < x.tmod 65536 ∧ x.tmod 65536 < 65536 := by
  have h1 := Int.natAbs_tmod x 65536
  have h2 : x.natAbs % 65536 < 65536 := Nat.mod_lt _ (by omega)
  have h5 : (65536 : Int).natAbs = 65536 := rfl
  rw [h5] at h1
  omega
theorem okDig_of {l : List UInt8} (h1 : 1 ≤ l.length) (h5 : l.length ≤ 5) (hf : (l.headD 0).toNat ≠ 48) : okDig l = allDig l := by
  unfold okDig
  rw [decide_eq_true ⟨h1, h5⟩]
  have : (l.headD 0 == 48) = false := by rw [beq_eq_false_iff_ne]; intro e; apply hf; rw [e]; rfl
  rw [this]; rfl
theorem okDig_len {l : List UInt8} (h : l.length = 0 ∨ 5 < l.length) : okDig l = false := by
  unfold okDig; rw [decide_eq_false (by omega)]; rfl
theorem okDig_head {l : List UInt8} (hf : (l.headD 0).toNat = 48) : okDig l = false := by
  unfold okDig
  have : (l.headD 0 == 48) = true := by rw [beq_iff_eq]; exact UInt8.toNat_inj.1 hf
  rw [this]; simp

theorem dig_pos {l : List UInt8} (h : neg l = false) : dig l = l ∧ rawV l = digV l := by
  have : dig l = l := by unfold dig; rw [h]; rfl
  exact ⟨this, by unfold rawV; rw [h, this]; rfl⟩
theorem dig_neg {l : List UInt8} (h : neg l = true) : dig l = l.tail ∧ rawV l = - digV l.tail := by
  have : dig l = l.tail := by unfold dig; rw [h]; rfl
  exact ⟨this, by unfold rawV; rw [h, this]; rfl⟩
/-- Through the digits: without a sign. -/
theorem num_loop_pos {l : List UInt8} (hz : (l == [48]) = false) (hn : neg l = false ∨ l = [45]) (h1 : 1 ≤ l.length) (h5 : l.length ≤ 5) (hf : (l.headD 0).toNat ≠ 48) :
    numOk l = (allDig l && inNum (val l)) ∧ (numOk l = true → numV l = val l) := by
  rcases hn with hn | rfl
  · obtain ⟨e1, e2⟩ := dig_pos hn
    have e3 := okDig_of h1 h5 hf
    cases ha : allDig l
    · rw [ha] at e3
      have := numOk_digits hz (by rw [e1]; exact e3)
      rw [this]; exact ⟨rfl, fun h => by cases h⟩
    · rw [ha] at e3
      obtain ⟨a, b⟩ := numOk_of (v := (val l : Int)) hz (by rw [e1]; exact e3) (by rw [e2, digV_yes e3])
      rw [a]; exact ⟨rfl, b⟩
  · have h := num_dash
    rw [h]; exact ⟨by decide, fun h => by cases h⟩
/-- .. with one. -/
theorem num_loop_neg {l : List UInt8} (hz : (l == [48]) = false) (hn : neg l = true) (h1 : 1 ≤ l.tail.length) (h5 : l.tail.length ≤ 5) (hf : (l.tail.headD 0).toNat ≠ 48) :
    numOk l = (allDig l.tail && inNum (-(val l.tail : Int))) ∧ (numOk l = true → numV l = -(val l.tail : Int)) := by
  obtain ⟨e1, e2⟩ := dig_neg hn
  have e3 := okDig_of h1 h5 hf
  cases ha : allDig l.tail
  · rw [ha] at e3
    have := numOk_digits hz (by rw [e1]; exact e3)
    rw [this]; exact ⟨rfl, fun h => by cases h⟩
  · rw [ha] at e3
    obtain ⟨a, b⟩ := numOk_of (v := -(val l.tail : Int)) hz (by rw [e1]; exact e3) (by rw [e2, digV_yes e3])
    rw [a]; exact ⟨rfl, b⟩

/-- wrap, as the document's answer has it. -/
theorem wrap_pos {n : Int} (h : 32767 < n.tmod 65536) : wrap16 n = n.tmod 65536 - 65536 := by
  unfold wrap16
  have h1 := Int.tmod_add_mul_tdiv n 65536
  have h2 : -65536 < n.tmod 65536 ∧ n.tmod 65536 < 65536 := ⟨by omega, by
    have := Int.tmod_lt_of_pos n (b := 65536) (by omega); omega⟩
  omega
theorem wrap_neg {n : Int} (h : n.tmod 65536 < -32768) : wrap16 n = n.tmod 65536 + 65536 := by
  unfold wrap16
  have h1 := Int.tmod_add_mul_tdiv n 65536
  have h2 : -65536 < n.tmod 65536 := by
    have h3 := Int.natAbs_tmod n 65536
    have h4 : n.natAbs % 65536 < 65536 := Nat.mod_lt _ (by omega)
    have h5 : (65536 : Int).natAbs = 65536 := rfl
    rw [h5] at h3
    omega
  omega
theorem wrap_mid {n : Int} (h : n.tmod 65536 ≤ 32767) (h' : -32768 ≤ n.tmod 65536) : wrap16 n = n.tmod 65536 := by
  unfold wrap16
  have h1 := Int.tmod_add_mul_tdiv n 65536
  omega

end Go.Proofs.Ytccckonckddadaa.Dk

namespace Go.Proofs.Ytccckonckddadaa.Dk
theorem split_next {m : Int} {l : List UInt8} {P : List (List UInt8)} {f k : Nat} (h : splitAll m l = P ++ splitAll m (l.drop f)) (hf : f ≤ k) (hk : k < l.length) (hn : ∀ j (_ : f ≤ j) (_ : j < k) (hj : j < l.length), (l[j].toNat : Int) ≠ m) (he : (l[k].toNat : Int) = m) :
    splitAll m l = (P ++ [(l.take k).drop f]) ++ splitAll m (l.drop (k + 1)) := by
  have hc := cutAt_found m (l.drop f) (k - f) (by rw [List.length_drop]; omega)
    (fun j hj => by rw [List.getElem_drop]; exact hn (f + j) (by omega) (by omega) (by omega))
    (by rw [List.getElem_drop]; have e : f + (k - f) = k := by omega
        simp only [e]; exact he)
  rw [h, splitAll_cut m (l.drop f), hc, List.append_assoc]
  congr 1
  have e1 : (l.drop f).take (k - f) = (l.take k).drop f := by rw [List.drop_take]
  have e2 : (l.drop f).drop (k - f + 1) = l.drop (k + 1) := by rw [List.drop_drop]; congr 1; omega
  simp only [e1, e2, if_true]
  rfl
theorem split_end {m : Int} {l : List UInt8} {P : List (List UInt8)} {f k : Nat} (h : splitAll m l = P ++ splitAll m (l.drop f)) (hk : k = l.length) (hn : ∀ j (_ : f ≤ j) (_ : j < k) (hj : j < l.length), (l[j].toNat : Int) ≠ m) :
    splitAll m l = P ++ [(l.take k).drop f] := by
  have hc := cutAt_none m (l.drop f) (fun j hj => by rw [List.getElem_drop]; rw [List.length_drop] at hj; exact hn (f + j) (by omega) (by omega) (by omega))
  rw [h, splitAll_cut m (l.drop f), hc]
  simp [hk]
end Go.Proofs.Ytccckonckddadaa.Dk
