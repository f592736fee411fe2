import Derived.Test.YtccckonckddadaaPlainV
namespace Go.Proofs.Ytccckonckddadaa.Dk

/-! ### An epoch read by guessing -/
def recEnd (l : List UInt8) (p : Nat) : Nat := p + 6 + (l.getD (p + 5) 0).toNat
def recAt (l : List UInt8) (p : Nat) : Rec :=
  ⟨((l.getD p 0).toNat : Int), ((l.getD (p + 1) 0).toNat * 65536 + (l.getD (p + 2) 0).toNat * 256 + (l.getD (p + 3) 0).toNat : Nat), (((l.getD (p + 4) 0).toNat : Int) == 1), (l.take (recEnd l p)).drop (p + 6)⟩
def guessFrom (l : List UInt8) : Nat → Nat → List Rec
  | 0, _ => []
  | k + 1, p => if p + 6 ≤ l.length ∧ recEnd l p ≤ l.length then recAt l p :: guessFrom l k (recEnd l p) else []
def guessV (l : List UInt8) : List Rec := if l.length < 4 then [] else guessFrom l (l.getD 3 0).toNat 4

theorem guess_zero (l : List UInt8) (p : Nat) : guessFrom l 0 p = [] := rfl
theorem guess_stop {l : List UInt8} {p : Nat} (k : Nat) (h : l.length < p + 6 ∨ l.length < recEnd l p) : guessFrom l k p = [] := by
  cases k with
  | zero => rfl
  | succ k => rw [guessFrom, if_neg (by omega)]
theorem guess_go {l : List UInt8} {p : Nat} (k : Nat) (h : p + 6 ≤ l.length) (h' : recEnd l p ≤ l.length) : guessFrom l (k + 1) p = recAt l p :: guessFrom l k (recEnd l p) := by
  rw [guessFrom, if_pos ⟨h, h'⟩]

/-- How many epochs a log begins with, and how many bytes these are: from the n-th on, at p. -/
def scanFrom (l : List UInt8) : Nat → Nat → Nat → Nat × Nat
  | 0, n, p => (n, p)
  | k + 1, n, p =>
    if frameOk n (guessV (l.drop p)) && (decide ((epoch n (guessV (l.drop p))).length ≤ (l.drop p).length) && ((l.drop p).take (epoch n (guessV (l.drop p))).length == epoch n (guessV (l.drop p))))
    then scanFrom l k (n + 1) (p + (epoch n (guessV (l.drop p))).length) else (n, p)
def scanV (l : List UInt8) : Nat × Nat := scanFrom l 201 0 0

end Go.Proofs.Ytccckonckddadaa.Dk
