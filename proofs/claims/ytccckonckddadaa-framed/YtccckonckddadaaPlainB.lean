import Derived.Test.YtccckonckddadaaPlain
namespace Go.Proofs.Ytccckonckddadaa.Dk

/-! ### A text, at each mark -/
def splitAll (m : Int) : List UInt8 → List (List UInt8)
  | [] => [[]]
  | b :: r => if (b.toNat : Int) = m then [] :: splitAll m r else (b :: (splitAll m r).headD []) :: (splitAll m r).tail

theorem splitAll_ne (m : Int) (l : List UInt8) : splitAll m l ≠ [] := by
  cases l with
  | nil => simp [splitAll]
  | cons b r => simp only [splitAll]; split <;> simp
theorem splitAll_pos (m : Int) (l : List UInt8) : 1 ≤ (splitAll m l).length := by
  have := splitAll_ne m l
  cases h : splitAll m l with
  | nil => exact absurd h this
  | cons a r => simp

theorem splitAll_cut (m : Int) (l : List UInt8) : splitAll m l = (cutAt m l).1 :: if (cutAt m l).2.2 then splitAll m (cutAt m l).2.1 else [] := by
  induction l with
  | nil => rfl
  | cons b r ih =>
    simp only [splitAll, cutAt]
    split
    · rfl
    · rw [ih]; rfl
theorem split_more {m : Int} {l : List UInt8} (h : (cutAt m l).2.2 = true) : splitAll m l = (cutAt m l).1 :: splitAll m (cutAt m l).2.1 := by
  rw [splitAll_cut, h]; rfl
theorem split_last {m : Int} {l : List UInt8} (h : (cutAt m l).2.2 = false) : splitAll m l = [(cutAt m l).1] := by
  rw [splitAll_cut, h]; rfl
theorem cut_len {m : Int} (l : List UInt8) : (cutAt m l).1.length + (cutAt m l).2.1.length ≤ l.length ∧ ((cutAt m l).2.2 = true → (cutAt m l).2.1.length < l.length) ∧ ((cutAt m l).2.2 = false → (cutAt m l).2.1 = []) := by
  induction l with
  | nil => simp [cutAt]
  | cons b r ih =>
    simp only [cutAt]
    split
    · simp
    · refine ⟨by simp; omega, fun h => by have := ih.2.1 h; simp; omega, fun h => ih.2.2 h⟩

/-! ### The operations -/
def opsOk (l : List UInt8) : Bool := decide ((splitAll 59 l).length ≤ 8) && (splitAll 59 l).all opOk
def opsV (l : List UInt8) : List Op := (splitAll 59 l).map opV

theorem ops_many {l r : List UInt8} {ds : List (List UInt8)} (h : splitAll 59 l = ds ++ splitAll 59 r) (h8 : ds.length = 8) : opsOk l = false := by
  unfold opsOk
  rw [decide_eq_false]
  · rfl
  · rw [h, List.length_append]; have := splitAll_pos 59 r; omega
theorem ops_bad {l : List UInt8} {ds rs : List (List UInt8)} {d : List UInt8} (h : splitAll 59 l = ds ++ (d :: rs)) (hd : opOk d = false) : opsOk l = false := by
  unfold opsOk
  rw [h]; simp [hd]
theorem ops_good {l : List UInt8} {ds : List (List UInt8)} (h : splitAll 59 l = ds) (h8 : ds.length ≤ 8) (hd : ds.all opOk = true) : opsOk l = true ∧ opsV l = ds.map opV := by
  unfold opsOk opsV
  rw [h, decide_eq_true h8, hd]; exact ⟨rfl, rfl⟩

end Go.Proofs.Ytccckonckddadaa.Dk
