import Derived.Test.YtccckonckddadaaPlainU
namespace Go.Proofs.Ytccckonckddadaa.Dk

/-! ### The bytes of an epoch -/
/-- A number in so many bytes, the one that counts most first. -/
def be : Nat → Nat → List UInt8
  | _, 0 => []
  | n, k + 1 => be (n / 256) k ++ [UInt8.ofNat (n % 256)]
theorem be_len (n k : Nat) : (be n k).length = k := by
  induction k generalizing n with
  | zero => rfl
  | succ k ih => simp [be, ih]

def sumStep (h : Nat) (b : UInt8) : Nat := ((h ^^^ b.toNat) * 16777619) % 4294967296
def sum0 : Nat := 2166136261
def sumFrom (h : Nat) (l : List UInt8) : Nat := l.foldl sumStep h
theorem sumFrom_snoc (h : Nat) (l : List UInt8) (b : UInt8) : sumFrom h (l ++ [b]) = sumStep (sumFrom h l) b := by
  unfold sumFrom
  rw [List.foldl_append, List.foldl_cons, List.foldl_nil]
def sumV (l : List UInt8) : Nat := sumFrom sum0 l
theorem sumV_nil : sumV [] = sum0 := by unfold sumV sumFrom; rw [List.foldl_nil]
theorem sumV_snoc (l : List UInt8) (b : UInt8) : sumV (l ++ [b]) = sumStep (sumV l) b := sumFrom_snoc sum0 l b
theorem sumStep_lt (h : Nat) (b : UInt8) : sumStep h b < 4294967296 := by unfold sumStep; omega
theorem sumV_lt (l : List UInt8) : sumV l < 4294967296 := by
  cases h : l.reverse with
  | nil =>
    have : l = [] := by simpa using h
    subst this
    rw [sumV_nil]
    unfold sum0
    omega
  | cons b r =>
    have : l = r.reverse ++ [b] := by rw [← List.reverse_reverse l, h]; simp
    rw [this, sumV_snoc]
    exact sumStep_lt _ _
theorem xor_low (h b : Nat) (hb : b < 256) : h - h % 256 + (h % 256 ^^^ b) = h ^^^ b := by
  have h1 : (h ^^^ b) % 2 ^ 8 = (h % 2 ^ 8) ^^^ (b % 2 ^ 8) := Nat.xor_mod_two_pow
  have h2 : (h ^^^ b) / 2 ^ 8 = (h / 2 ^ 8) ^^^ (b / 2 ^ 8) := by
    rw [← Nat.shiftRight_eq_div_pow, ← Nat.shiftRight_eq_div_pow, ← Nat.shiftRight_eq_div_pow, Nat.shiftRight_xor_distrib]
  have e : (2 : Nat) ^ 8 = 256 := by decide
  rw [e] at h1 h2
  rw [Nat.mod_eq_of_lt hb] at h1
  rw [Nat.div_eq_of_lt hb, Nat.xor_zero] at h2
  have h3 := Nat.div_add_mod (h ^^^ b) 256
  have h4 := Nat.div_add_mod h 256
  omega

/-- A record, as the list holds it. -/
structure Rec where
  client : Int
  id : Int
  late : Bool
  text : List UInt8

def recOk (r : Rec) : Bool := (if r.late then r.text == [] else parseOk r.text) && decide (0 ≤ r.client ∧ r.client < 8) && decide (0 ≤ r.id ∧ r.id ≤ 999999)
def recBytes (r : Rec) : List UInt8 := be r.client.toNat 1 ++ be r.id.toNat 3 ++ be (if r.late then 1 else 0) 1 ++ be r.text.length 1 ++ r.text
def payload (n : Nat) (rs : List Rec) : List UInt8 := be n 1 ++ be rs.length 1 ++ rs.flatMap recBytes
def epoch (n : Nat) (rs : List Rec) : List UInt8 := be (payload n rs).length 2 ++ payload n rs ++ be (sumV (payload n rs)) 4
def frameOk (n : Int) (rs : List Rec) : Bool := decide (0 ≤ n ∧ n < 200) && decide (rs.length ≤ 64) && rs.all recOk

end Go.Proofs.Ytccckonckddadaa.Dk
