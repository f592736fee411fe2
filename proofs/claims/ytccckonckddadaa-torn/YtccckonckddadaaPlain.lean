/-
  The plain mathematics of docket's texts: no Go, no program here.
-/
namespace Go.Proofs.Ytccckonckddadaa.Dk

/-- What stands ahead of the first mark, what behind it, whether there is one. -/
def cutAt (m : Int) : List UInt8 → List UInt8 × List UInt8 × Bool
  | [] => ([], [], false)
  | b :: r => if (b.toNat : Int) = m then ([], r, true) else (b :: (cutAt m r).1, (cutAt m r).2.1, (cutAt m r).2.2)

theorem cutAt_found (m : Int) : ∀ (l : List UInt8) (k : Nat) (h : k < l.length), (∀ j (hj : j < k), (l[j].toNat : Int) ≠ m) → (l[k].toNat : Int) = m →
    cutAt m l = (l.take k, l.drop (k + 1), true)
  | [], k, h, _, _ => absurd h (by simp)
  | b :: r, 0, _, _, e => by simp at e; simp [cutAt, e]
  | b :: r, k + 1, h, n, e => by
    have h0 : (b.toNat : Int) ≠ m := n 0 (by omega)
    have := cutAt_found m r k (by simpa using h) (fun j hj => by have := n (j + 1) (by omega); simpa using this) (by simpa using e)
    simp [cutAt, h0, this]

theorem cutAt_none (m : Int) : ∀ (l : List UInt8), (∀ j (hj : j < l.length), (l[j].toNat : Int) ≠ m) → cutAt m l = (l, [], false)
  | [], _ => rfl
  | b :: r, n => by
    have h0 : (b.toNat : Int) ≠ m := n 0 (by simp)
    have := cutAt_none m r (fun j hj => by have := n (j + 1) (by simpa using hj); simpa using this)
    simp [cutAt, h0, this]

/-! ### A key, a sign -/
def isK (b : Int) : Bool := decide (97 ≤ b ∧ b ≤ 104)
def keyV (b : Int) : Int := if 97 ≤ b ∧ b ≤ 104 then b - 97 else 0
theorem isK_yes {b : Int} (h : 97 ≤ b) (h' : b ≤ 104) : isK b = true := by simp [isK]; omega
theorem isK_no {b : Int} (h : b < 97 ∨ 104 < b) : isK b = false := by simp [isK]; omega
theorem keyV_yes {b : Int} (h : 97 ≤ b) (h' : b ≤ 104) : keyV b = b - 97 := if_pos ⟨h, h'⟩
theorem keyV_no {b : Int} (h : b < 97 ∨ 104 < b) : keyV b = 0 := if_neg (by omega)
theorem of_isK {b : Int} (h : isK b = true) : 97 ≤ b ∧ b ≤ 104 := by simpa [isK] using h
theorem of_isK_no {b : Int} (h : isK b = false) : b < 97 ∨ 104 < b := by simp [isK] at h; omega
theorem keyV_bd (b : Int) : 0 ≤ keyV b ∧ keyV b ≤ 7 := by unfold keyV; split <;> omega
def isSign (c : Int) : Bool := (c == 61) || ((c == 43) || ((c == 45) || ((c == 42) || ((c == 60) || ((c == 62) || (c == 126))))))

/-! ### A number -/
def val (l : List UInt8) : Nat := l.foldl (fun n b => n * 10 + (b.toNat - 48)) 0
def allDig (l : List UInt8) : Bool := l.all fun b => decide (48 ≤ b.toNat ∧ b.toNat ≤ 57)
def okDig (l : List UInt8) : Bool := decide (1 ≤ l.length ∧ l.length ≤ 5) && !(l.headD 0 == 48) && allDig l
def digV (l : List UInt8) : Int := if okDig l then (val l : Int) else 0

theorem val_snoc (l : List UInt8) (b : UInt8) : val (l ++ [b]) = val l * 10 + (b.toNat - 48) := by simp [val]
theorem allDig_snoc (l : List UInt8) (b : UInt8) : allDig (l ++ [b]) = (allDig l && decide (48 ≤ b.toNat ∧ b.toNat ≤ 57)) := by simp [allDig]
theorem val_lt (l : List UInt8) : allDig l = true → val l < 10 ^ l.length := by
  suffices H : ∀ n (l : List UInt8), l.length = n → allDig l = true → val l < 10 ^ n by exact H _ l rfl
  intro n
  induction n with
  | zero => intro l hl _; rw [List.length_eq_zero_iff.1 hl]; simp [val]
  | succ n ih =>
    intro l hl h
    have hne : l ≠ [] := by intro e; subst e; simp at hl
    obtain ⟨a, b, rfl⟩ : ∃ a b, l = a ++ [b] := ⟨_, _, (List.dropLast_concat_getLast hne).symm⟩
    rw [allDig_snoc] at h
    simp at h
    have := ih a (by simpa using hl) h.1
    rw [val_snoc, Nat.pow_succ]
    omega
theorem val_lt5 (l : List UInt8) (h : allDig l = true) (h5 : l.length ≤ 5) : val l < 100000 :=
  Nat.lt_of_lt_of_le (val_lt l h) (Nat.pow_le_pow_right (by omega) h5)

theorem allDig_no (l : List UInt8) (k : Nat) (h : k < l.length) (hb : l[k].toNat < 48 ∨ 57 < l[k].toNat) : allDig l = false := by
  unfold allDig
  rw [List.all_eq_false]
  exact ⟨l[k], List.getElem_mem h, by simp; omega⟩
theorem digV_no {l : List UInt8} (h : okDig l = false) : digV l = 0 := by unfold digV; rw [h]; rfl
theorem digV_yes {l : List UInt8} (h : okDig l = true) : digV l = val l := by unfold digV; rw [h]; rfl
theorem headD_get (l : List UInt8) (h : 0 < l.length) : l.headD 0 = l[0] := by
  cases l with
  | nil => simp at h
  | cons a r => rfl
theorem digV_bd (l : List UInt8) : 0 ≤ digV l ∧ digV l ≤ 99999 := by
  cases h : okDig l
  · rw [digV_no h]; omega
  · rw [digV_yes h]
    simp only [okDig, Bool.and_eq_true, decide_eq_true_eq] at h
    have := val_lt5 l h.2 h.1.1.2
    omega

def neg (l : List UInt8) : Bool := l.headD 0 == 45
def dig (l : List UInt8) : List UInt8 := if neg l then l.tail else l
def rawV (l : List UInt8) : Int := if neg l then - digV (dig l) else digV (dig l)
def inNum (n : Int) : Bool := decide (-32768 ≤ n ∧ n ≤ 32767)
def numOk (l : List UInt8) : Bool := l == [48] || (okDig (dig l) && inNum (rawV l))
def numV (l : List UInt8) : Int := if l == [48] then 0 else if okDig (dig l) && inNum (rawV l) then rawV l else 0

theorem num_neg {l : List UInt8} {v : Int} {o : Bool} (hz : (l == [48]) = false) (hn : neg l = true) (hv : digV l.tail = v) (ho : okDig l.tail = o) :
    numOk l = (o && inNum (-v)) ∧ numV l = if o && inNum (-v) then -v else 0 := by
  have e1 : dig l = l.tail := by unfold dig; rw [hn]; rfl
  have e2 : rawV l = -v := by unfold rawV; rw [hn, e1, hv]; rfl
  unfold numOk numV
  rw [hz, e1, e2, ho]
  exact ⟨rfl, rfl⟩
theorem num_pos {l : List UInt8} {v : Int} {o : Bool} (hz : (l == [48]) = false) (hn : neg l = false) (hv : digV l = v) (ho : okDig l = o) :
    numOk l = (o && inNum v) ∧ numV l = if o && inNum v then v else 0 := by
  have e1 : dig l = l := by unfold dig; rw [hn]; rfl
  have e2 : rawV l = v := by unfold rawV; rw [hn, e1, hv]; rfl
  unfold numOk numV
  rw [hz, e1, e2, ho]
  exact ⟨rfl, rfl⟩
theorem inNum_yes {v : Int} (h : -32768 ≤ v) (h' : v ≤ 32767) : inNum v = true := decide_eq_true ⟨h, h'⟩
theorem inNum_no {v : Int} (h : v < -32768 ∨ 32767 < v) : inNum v = false := decide_eq_false (by omega)
theorem numV_bd (l : List UInt8) : -32768 ≤ numV l ∧ numV l ≤ 32767 := by
  unfold numV
  split
  · omega
  · split
    · rename_i h
      simp only [Bool.and_eq_true, inNum, decide_eq_true_eq] at h
      exact h.2
    · omega

/-! ### An argument, an operation -/
def argKey (l : List UInt8) : Bool := decide (l.length = 1) && isK (l.headD 0).toNat
def argOk (l : List UInt8) : Bool := argKey l || numOk l
def argK (l : List UInt8) : Int := if argKey l then keyV (l.headD 0).toNat else 0
def argN (l : List UInt8) : Int := if argKey l then 0 else numV l

theorem arg_no {l : List UInt8} (h : argKey l = false) : argOk l = numOk l ∧ argK l = 0 ∧ argN l = numV l := by
  unfold argOk argK argN; rw [h]; exact ⟨rfl, rfl, rfl⟩
theorem arg_yes {l : List UInt8} (h : argKey l = true) : argOk l = true ∧ argK l = keyV (l.headD 0).toNat ∧ argN l = 0 := by
  unfold argOk argK argN; rw [h]; exact ⟨rfl, rfl, rfl⟩
theorem argKey_of {l : List UInt8} {b : Bool} (h1 : l.length = 1) (hb : isK (l.headD 0).toNat = b) : argKey l = b := by
  unfold argKey; rw [decide_eq_true h1, hb]; rfl

structure Op where
  key : Int
  sign : Int
  isKey : Bool
  akey : Int
  num : Int

def zeroOp : Op := ⟨0, 0, false, 0, 0⟩
def opOk (l : List UInt8) : Bool := decide (3 ≤ l.length) && isK (l.headD 0).toNat && isSign ((l.drop 1).headD 0).toNat && argOk (l.drop 2)
def opV (l : List UInt8) : Op := ⟨keyV (l.headD 0).toNat, ((l.drop 1).headD 0).toNat, argKey (l.drop 2), argK (l.drop 2), argN (l.drop 2)⟩

theorem op_short {l : List UInt8} (h : l.length < 3) : opOk l = false := by
  unfold opOk; rw [decide_eq_false (by omega)]; rfl
theorem op_long {l : List UInt8} {a b c : Bool} (h : 3 ≤ l.length) (ha : isK (l.headD 0).toNat = a) (hb : isSign ((l.drop 1).headD 0).toNat = b) (hc : argOk (l.drop 2) = c) : opOk l = (a && b && c) := by
  unfold opOk; rw [decide_eq_true h, ha, hb, hc]; simp

/-! ### The keys -/
def rise (last : Int) : List UInt8 → Bool
  | [] => true
  | b :: r => isK b.toNat && decide (last < (b.toNat : Int) - 97) && rise ((b.toNat : Int) - 97) r
def hasKey (l : List UInt8) (j : Int) : Bool := l.any fun b => (b.toNat : Int) == 97 + j

theorem rise_drop_yes {l : List UInt8} {k : Nat} {last : Int} (h : k < l.length) (hk : isK l[k].toNat = true) (hl : last < (l[k].toNat : Int) - 97) :
    rise last (l.drop k) = rise ((l[k].toNat : Int) - 97) (l.drop (k + 1)) := by
  rw [List.drop_eq_getElem_cons h, rise, hk, decide_eq_true hl]; rfl
theorem rise_drop_no {l : List UInt8} {k : Nat} {last : Int} (h : k < l.length) (hk : isK l[k].toNat = false ∨ (l[k].toNat : Int) - 97 ≤ last) :
    rise last (l.drop k) = false := by
  rw [List.drop_eq_getElem_cons h, rise]
  rcases hk with hk | hk
  · rw [hk]; rfl
  · rw [decide_eq_false (by omega)]; simp
theorem hasKey_snoc (l : List UInt8) (b : UInt8) (j : Int) : hasKey (l ++ [b]) j = (hasKey l j || ((b.toNat : Int) == 97 + j)) := by simp [hasKey]

end Go.Proofs.Ytccckonckddadaa.Dk
