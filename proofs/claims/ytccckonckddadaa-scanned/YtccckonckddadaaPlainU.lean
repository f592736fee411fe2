import Derived.Test.YtccckonckddadaaPlainT
namespace Go.Proofs.Ytccckonckddadaa.Dk

def In16 (n : Int) : Prop := -32768 ≤ n ∧ n ≤ 32767
def All16 (cs : List Int) : Prop := ∀ y ∈ cs, In16 y

theorem decl_in {l : List UInt8} {j : Nat} (h : j < 8) : decl (keysOf l) j = inB (cutAt 124 l).1 (97 + j) := by
  unfold decl keysOf
  rw [decide_eq_true (by omega), Bool.true_and, Int.toNat_natCast]
  obtain rfl | rfl | rfl | rfl | rfl | rfl | rfl | rfl : j = 0 ∨ j = 1 ∨ j = 2 ∨ j = 3 ∨ j = 4 ∨ j = 5 ∨ j = 6 ∨ j = 7 := by omega
  all_goals rfl

theorem getD_16 {cs : List Int} (h : All16 cs) (j : Nat) : In16 (cs.getD j 0) := by
  rw [List.getD_eq_getElem?_getD]
  cases e : cs[j]? with
  | none => exact ⟨by decide, by decide⟩
  | some y => exact h y (List.mem_of_getElem? e)
theorem num_16 (l : List UInt8) : In16 (opV l).num := by
  show In16 (argN (l.drop 2))
  unfold argN
  split
  · exact ⟨by decide, by decide⟩
  · exact numV_bd _
theorem argVal_16 {cs : List Int} (h : All16 cs) (l : List UInt8) : In16 (argVal (opV l) cs) := by
  unfold argVal
  split
  · exact getD_16 h _
  · exact num_16 l
theorem set_16 {cs : List Int} (h : All16 cs) (j : Nat) {v : Int} (hv : In16 v) : All16 (cs.set j v) := by
  intro y hy
  rcases List.mem_or_eq_of_mem_set hy with hy | rfl
  · exact h y hy
  · exact hv
theorem set_self (cs : List Int) (j : Nat) : cs.set j (cs.getD j 0) = cs := by
  by_cases h : j < cs.length
  · rw [List.getD_eq_getElem?_getD, List.getElem?_eq_getElem h]
    simp
  · exact List.set_eq_of_length_le (by omega)

/-- What a transaction's operations make of cells, the operations told by their texts. -/
theorem runV_step_yes {ks : List Bool} {ps : List (List UInt8)} {cs cs' : List Int} {k : Nat} {p : List UInt8} (h : ps[k]? = some p) (hs : stepV ks (opV p) cs = (cs', true)) :
    runV ks ((ps.map opV).drop k) cs = runV ks ((ps.map opV).drop (k + 1)) cs' := runV_drop_yes (by simp [h]) hs
theorem runV_step_no {ks : List Bool} {ps : List (List UInt8)} {cs cs' : List Int} {k : Nat} {p : List UInt8} (h : ps[k]? = some p) (hs : stepV ks (opV p) cs = (cs', false)) :
    runV ks ((ps.map opV).drop k) cs = none := runV_drop_no (by simp [h]) hs

/-- The step, sign by sign: what is stored, or that it is aborted. -/
theorem sign_eq {j : Nat} {h v : Int} {cs : List Int} : signV 61 j h v cs = (cs.set j v, true) := rfl
theorem sign_add {j : Nat} {h v : Int} {cs : List Int} : signV 43 j h v cs = (cs.set j (wrap16 (h + v)), true) := rfl
theorem sign_sub {j : Nat} {h v : Int} {cs : List Int} : signV 45 j h v cs = (cs.set j (wrap16 (h - v)), true) := rfl
theorem sign_mul {j : Nat} {h v : Int} {cs : List Int} : signV 42 j h v cs = (cs.set j (wrap16 (h * v)), true) := rfl
theorem sign_lt {j : Nat} {v : Int} {cs : List Int} : signV 60 j (cs.getD j 0) v cs = (cs.set j (cs.getD j 0), decide (cs.getD j 0 < v)) := by rw [set_self]; rfl
theorem sign_gt {j : Nat} {v : Int} {cs : List Int} : signV 62 j (cs.getD j 0) v cs = (cs.set j (cs.getD j 0), decide (v < cs.getD j 0)) := by rw [set_self]; rfl
theorem sign_same {j : Nat} {v : Int} {cs : List Int} : signV 126 j (cs.getD j 0) v cs = (cs.set j (cs.getD j 0), cs.getD j 0 == v) := by rw [set_self]; rfl
theorem isSign_of {c : Int} (h : isSign c = true) : c = 61 ∨ c = 43 ∨ c = 45 ∨ c = 42 ∨ c = 60 ∨ c = 62 ∨ c = 126 := by
  simpa [isSign] using h
theorem prod_16 {a b : Int} (ha : In16 a) (hb : In16 b) : -1073741824 ≤ a * b ∧ a * b ≤ 1073741824 := by
  have h1 : a.natAbs ≤ 32768 := by have := ha.1; have := ha.2; omega
  have h2 : b.natAbs ≤ 32768 := by have := hb.1; have := hb.2; omega
  have h3 : (a * b).natAbs ≤ 32768 * 32768 := by rw [Int.natAbs_mul]; exact Nat.mul_le_mul h1 h2
  omega

end Go.Proofs.Ytccckonckddadaa.Dk
