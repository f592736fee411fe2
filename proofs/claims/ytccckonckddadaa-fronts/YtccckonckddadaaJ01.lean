/-
  The plain mathematics of docket's texts: no Go, no program here.
-/
namespace Go.Proofs.Ytccckonckddadaa.Dk

/-- What stands ahead of the first mark, what behind it, whether there is one. -/
def cutAt (m : Int) : List UInt8 → List UInt8 × List UInt8 × Bool
  | [] => ([], [], false)
  | b :: r => if (b.toNat : Int) = m then ([], r, true) else (b :: (cutAt m r).1, (cutAt m r).2.1, (cutAt m r).2.2)

theorem cutAt_found (m : Int) : ∀ (l : List UInt8) (k : Nat) (h : k < l.length), (∀ j (hj : j < k), (l[j].toNat : Int) ≠ m) → (l[k].toNat : Int) = m →
    cutAt m l = (l.take k, l.drop (k + 1), true)
  | [], k, h, _, _ => absurd h (by simp)
  | b :: r, 0, _, _, e => by simp at e; simp [cutAt, e]
  | b :: r, k + 1, h, n, e => by
    have h0 : (b.toNat : Int) ≠ m := n 0 (by omega)
    have := cutAt_found m r k (by simpa using h) (fun j hj => by have := n (j + 1) (by omega); simpa using this) (by simpa using e)
    simp [cutAt, h0, this]

theorem cutAt_none (m : Int) : ∀ (l : List UInt8), (∀ j (hj : j < l.length), (l[j].toNat : Int) ≠ m) → cutAt m l = (l, [], false)
  | [], _ => rfl
  | b :: r, n => by
    have h0 : (b.toNat : Int) ≠ m := n 0 (by simp)
    have := cutAt_none m r (fun j hj => by have := n (j + 1) (by simpa using hj); simpa using this)
    simp [cutAt, h0, this]

/-! ### A key, a sign -/
def isK (b : Int) : Bool := decide (97 ≤ b ∧ b ≤ 104)
def keyV (b : Int) : Int := if 97 ≤ b ∧ b ≤ 104 then b - 97 else 0
theorem isK_yes {b : Int} (h : 97 ≤ b) (h' : b ≤ 104) : isK b = true := by simp [isK]; omega
theorem isK_no {b : Int} (h : b < 97 ∨ 104 < b) : isK b = false := by simp [isK]; omega
theorem keyV_yes {b : Int} (h : 97 ≤ b) (h' : b ≤ 104) : keyV b = b - 97 := if_pos ⟨h, h'⟩
theorem keyV_no {b : Int} (h : b < 97 ∨ 104 < b) : keyV b = 0 := if_neg (by omega)
theorem of_isK {b : Int} (h : isK b = true) : 97 ≤ b ∧ b ≤ 104 := by simpa [isK] using h
theorem of_isK_no {b : Int} (h : isK b = false) : b < 97 ∨ 104 < b := by simp [isK] at h; omega
theorem keyV_bd (b : Int) : 0 ≤ keyV b ∧ keyV b ≤ 7 := by unfold keyV; split <;> omega
def isSign (c : Int) : Bool := (c == 61) || ((c == 43) || ((c == 45) || ((c == 42) || ((c == 60) || ((c == 62) || (c == 126))))))

/-! ### A number -/
def val (l : List UInt8) : Nat := l.foldl (fun n b => n * 10 + (b.toNat - 48)) 0
def allDig (l : List UInt8) : Bool := l.all fun b => decide (48 ≤ b.toNat ∧ b.toNat ≤ 57)
def okDig (l : List UInt8) : Bool := decide (1 ≤ l.length ∧ l.length ≤ 5) && !(l.headD 0 == 48) && allDig l
def digV (l : List UInt8) : Int := if okDig l then (val l : Int) else 0

theorem val_snoc (l : List UInt8) (b : UInt8) : val (l ++ [b]) = val l * 10 + (b.toNat - 48) := by simp [val]
theorem allDig_snoc (l : List UInt8) (b : UInt8) : allDig (l ++ [b]) = (allDig l && decide (48 ≤ b.toNat ∧ b.toNat ≤ 57)) := by simp [allDig]
theorem val_lt (l : List UInt8) : allDig l = true → val l < 10 ^ l.length := by
  suffices H : ∀ n (l : List UInt8), l.length = n → allDig l = true → val l < 10 ^ n by exact H _ l rfl
  intro n
  induction n with
  | zero => intro l hl _; rw [List.length_eq_zero_iff.1 hl]; simp [val]
  | succ n ih =>
    intro l hl h
    have hne : l ≠ [] := by intro e; subst e; simp at hl
    obtain ⟨a, b, rfl⟩ : ∃ a b, l = a ++ [b] := ⟨_, _, (List.dropLast_concat_getLast hne).symm⟩
    rw [allDig_snoc] at h
    simp at h
    have := ih a (by simpa using hl) h.1
    rw [val_snoc, Nat.pow_succ]
    omega
theorem val_lt5 (l : List UInt8) (h : allDig l = true) (h5 : l.length ≤ 5) : val l < 100000 :=
  Nat.lt_of_lt_of_le (val_lt l h) (Nat.pow_le_pow_right (by omega) h5)

theorem allDig_no (l : List UInt8) (k : Nat) (h : k < l.length) (hb : l[k].toNat < 48 ∨ 57 < l[k].toNat) : allDig l = false := by
  unfold allDig
  rw [List.all_eq_false]
  exact ⟨l[k], List.getElem_mem h, by simp; omega⟩
theorem digV_no {l : List UInt8} (h : okDig l = false) : digV l = 0 := by unfold digV; rw [h]; rfl
theorem digV_yes {l : List UInt8} (h : okDig l = true) : digV l = val l := by unfold digV; rw [h]; rfl
theorem headD_get (l : List UInt8) (h : 0 < l.length) : l.headD 0 = l[0] := by
  cases l with
  | nil => simp at h
  | cons a r => rfl
theorem digV_bd (l : List UInt8) : 0 ≤ digV l ∧ digV l ≤ 99999 := by
  cases h : okDig l
  · rw [digV_no h]; omega
  · rw [digV_yes h]
    simp only [okDig, Bool.and_eq_true, decide_eq_true_eq] at h
    have := val_lt5 l h.2 h.1.1.2
    omega

def neg (l : List UInt8) : Bool := l.headD 0 == 45
def dig (l : List UInt8) : List UInt8 := if neg l then l.tail else l
def rawV (l : List UInt8) : Int := if neg l then - digV (dig l) else digV (dig l)
def inNum (n : Int) : Bool := decide (-32768 ≤ n ∧ n ≤ 32767)
def numOk (l : List UInt8) : Bool := l == [48] || (okDig (dig l) && inNum (rawV l))
def numV (l : List UInt8) : Int := if l == [48] then 0 else if okDig (dig l) && inNum (rawV l) then rawV l else 0

theorem num_neg {l : List UInt8} {v : Int} {o : Bool} (hz : (l == [48]) = false) (hn : neg l = true) (hv : digV l.tail = v) (ho : okDig l.tail = o) :
    numOk l = (o && inNum (-v)) ∧ numV l = if o && inNum (-v) then -v else 0 := by
  have e1 : dig l = l.tail := by unfold dig; rw [hn]; rfl
  have e2 : rawV l = -v := by unfold rawV; rw [hn, e1, hv]; rfl
  unfold numOk numV
  rw [hz, e1, e2, ho]
  exact ⟨rfl, rfl⟩
theorem num_pos {l : List UInt8} {v : Int} {o : Bool} (hz : (l == [48]) = false) (hn : neg l = false) (hv : digV l = v) (ho : okDig l = o) :
    numOk l = (o && inNum v) ∧ numV l = if o && inNum v then v else 0 := by
  have e1 : dig l = l := by unfold dig; rw [hn]; rfl
  have e2 : rawV l = v := by unfold rawV; rw [hn, e1, hv]; rfl
  unfold numOk numV
  rw [hz, e1, e2, ho]
  exact ⟨rfl, rfl⟩
theorem inNum_yes {v : Int} (h : -32768 ≤ v) (h' : v ≤ 32767) : inNum v = true := decide_eq_true ⟨h, h'⟩
theorem inNum_no {v : Int} (h : v < -32768 ∨ 32767 < v) : inNum v = false := decide_eq_false (by omega)
theorem numV_bd (l : List UInt8) : -32768 ≤ numV l ∧ numV l ≤ 32767 := by
  unfold numV
  split
  · omega
  · split
    · rename_i h
      simp only [Bool.and_eq_true, inNum, decide_eq_true_eq] at h
      exact h.2
    · omega

/-! ### An argument, an operation -/
def argKey (l : List UInt8) : Bool := decide (l.length = 1) && isK (l.headD 0).toNat
def argOk (l : List UInt8) : Bool := argKey l || numOk l
def argK (l : List UInt8) : Int := if argKey l then keyV (l.headD 0).toNat else 0
def argN (l : List UInt8) : Int := if argKey l then 0 else numV l

theorem arg_no {l : List UInt8} (h : argKey l = false) : argOk l = numOk l ∧ argK l = 0 ∧ argN l = numV l := by
  unfold argOk argK argN; rw [h]; exact ⟨rfl, rfl, rfl⟩
theorem arg_yes {l : List UInt8} (h : argKey l = true) : argOk l = true ∧ argK l = keyV (l.headD 0).toNat ∧ argN l = 0 := by
  unfold argOk argK argN; rw [h]; exact ⟨rfl, rfl, rfl⟩
theorem argKey_of {l : List UInt8} {b : Bool} (h1 : l.length = 1) (hb : isK (l.headD 0).toNat = b) : argKey l = b := by
  unfold argKey; rw [decide_eq_true h1, hb]; rfl

structure Op where
  key : Int
  sign : Int
  isKey : Bool
  akey : Int
  num : Int

def zeroOp : Op := ⟨0, 0, false, 0, 0⟩
def opOk (l : List UInt8) : Bool := decide (3 ≤ l.length) && isK (l.headD 0).toNat && isSign ((l.drop 1).headD 0).toNat && argOk (l.drop 2)
def opV (l : List UInt8) : Op := ⟨keyV (l.headD 0).toNat, ((l.drop 1).headD 0).toNat, argKey (l.drop 2), argK (l.drop 2), argN (l.drop 2)⟩

theorem op_short {l : List UInt8} (h : l.length < 3) : opOk l = false := by
  unfold opOk; rw [decide_eq_false (by omega)]; rfl
theorem op_long {l : List UInt8} {a b c : Bool} (h : 3 ≤ l.length) (ha : isK (l.headD 0).toNat = a) (hb : isSign ((l.drop 1).headD 0).toNat = b) (hc : argOk (l.drop 2) = c) : opOk l = (a && b && c) := by
  unfold opOk; rw [decide_eq_true h, ha, hb, hc]; simp

/-! ### The keys -/
def rise (last : Int) : List UInt8 → Bool
  | [] => true
  | b :: r => isK b.toNat && decide (last < (b.toNat : Int) - 97) && rise ((b.toNat : Int) - 97) r
def hasKey (l : List UInt8) (j : Int) : Bool := l.any fun b => (b.toNat : Int) == 97 + j

theorem rise_drop_yes {l : List UInt8} {k : Nat} {last : Int} (h : k < l.length) (hk : isK l[k].toNat = true) (hl : last < (l[k].toNat : Int) - 97) :
    rise last (l.drop k) = rise ((l[k].toNat : Int) - 97) (l.drop (k + 1)) := by
  rw [List.drop_eq_getElem_cons h, rise, hk, decide_eq_true hl]; rfl
theorem rise_drop_no {l : List UInt8} {k : Nat} {last : Int} (h : k < l.length) (hk : isK l[k].toNat = false ∨ (l[k].toNat : Int) - 97 ≤ last) :
    rise last (l.drop k) = false := by
  rw [List.drop_eq_getElem_cons h, rise]
  rcases hk with hk | hk
  · rw [hk]; rfl
  · rw [decide_eq_false (by omega)]; simp
theorem hasKey_snoc (l : List UInt8) (b : UInt8) (j : Int) : hasKey (l ++ [b]) j = (hasKey l j || ((b.toNat : Int) == 97 + j)) := by simp [hasKey]

end Go.Proofs.Ytccckonckddadaa.Dk
namespace Go.Proofs.Ytccckonckddadaa.Dk

/-! ### A text, at each mark -/
def splitAll (m : Int) : List UInt8 → List (List UInt8)
  | [] => [[]]
  | b :: r => if (b.toNat : Int) = m then [] :: splitAll m r else (b :: (splitAll m r).headD []) :: (splitAll m r).tail

theorem splitAll_ne (m : Int) (l : List UInt8) : splitAll m l ≠ [] := by
  cases l with
  | nil => simp [splitAll]
  | cons b r => simp only [splitAll]; split <;> simp
theorem splitAll_pos (m : Int) (l : List UInt8) : 1 ≤ (splitAll m l).length := by
  have := splitAll_ne m l
  cases h : splitAll m l with
  | nil => exact absurd h this
  | cons a r => simp

theorem splitAll_cut (m : Int) (l : List UInt8) : splitAll m l = (cutAt m l).1 :: if (cutAt m l).2.2 then splitAll m (cutAt m l).2.1 else [] := by
  induction l with
  | nil => rfl
  | cons b r ih =>
    simp only [splitAll, cutAt]
    split
    · rfl
    · rw [ih]; rfl
theorem split_more {m : Int} {l : List UInt8} (h : (cutAt m l).2.2 = true) : splitAll m l = (cutAt m l).1 :: splitAll m (cutAt m l).2.1 := by
  rw [splitAll_cut, h]; rfl
theorem split_last {m : Int} {l : List UInt8} (h : (cutAt m l).2.2 = false) : splitAll m l = [(cutAt m l).1] := by
  rw [splitAll_cut, h]; rfl
theorem cut_len {m : Int} (l : List UInt8) : (cutAt m l).1.length + (cutAt m l).2.1.length ≤ l.length ∧ ((cutAt m l).2.2 = true → (cutAt m l).2.1.length < l.length) ∧ ((cutAt m l).2.2 = false → (cutAt m l).2.1 = []) := by
  induction l with
  | nil => simp [cutAt]
  | cons b r ih =>
    simp only [cutAt]
    split
    · simp
    · refine ⟨by simp; omega, fun h => by have := ih.2.1 h; simp; omega, fun h => ih.2.2 h⟩

/-! ### The operations -/
def opsOk (l : List UInt8) : Bool := decide ((splitAll 59 l).length ≤ 8) && (splitAll 59 l).all opOk
def opsV (l : List UInt8) : List Op := (splitAll 59 l).map opV

theorem ops_many {l r : List UInt8} {ds : List (List UInt8)} (h : splitAll 59 l = ds ++ splitAll 59 r) (h8 : ds.length = 8) : opsOk l = false := by
  unfold opsOk
  rw [decide_eq_false]
  · rfl
  · rw [h, List.length_append]; have := splitAll_pos 59 r; omega
theorem ops_bad {l : List UInt8} {ds rs : List (List UInt8)} {d : List UInt8} (h : splitAll 59 l = ds ++ (d :: rs)) (hd : opOk d = false) : opsOk l = false := by
  unfold opsOk
  rw [h]; simp [hd]
theorem ops_good {l : List UInt8} {ds : List (List UInt8)} (h : splitAll 59 l = ds) (h8 : ds.length ≤ 8) (hd : ds.all opOk = true) : opsOk l = true ∧ opsV l = ds.map opV := by
  unfold opsOk opsV
  rw [h, decide_eq_true h8, hd]; exact ⟨rfl, rfl⟩

end Go.Proofs.Ytccckonckddadaa.Dk
namespace Go.Proofs.Ytccckonckddadaa.Dk

/-! ### To do a transaction -/
def wrap16 (n : Int) : Int := (n + 32768) % 65536 - 32768
theorem wrap16_bd (n : Int) : -32768 ≤ wrap16 n ∧ wrap16 n ≤ 32767 := by unfold wrap16; omega

def decl (ks : List Bool) (k : Int) : Bool := decide (0 ≤ k ∧ k < 8) && ks.getD k.toNat false
def argVal (o : Op) (cs : List Int) : Int := if o.isKey && decide (0 ≤ o.akey ∧ o.akey < 8) then cs.getD o.akey.toNat 0 else o.num
def stepV (ks : List Bool) (o : Op) (cs : List Int) : List Int × Bool :=
  if !decl ks o.key then (cs, false)
  else if o.isKey && !decl ks o.akey then (cs, false)
  else if o.sign == 61 then (cs.set o.key.toNat (argVal o cs), true)
  else if o.sign == 43 then (cs.set o.key.toNat (wrap16 (cs.getD o.key.toNat 0 + argVal o cs)), true)
  else if o.sign == 45 then (cs.set o.key.toNat (wrap16 (cs.getD o.key.toNat 0 - argVal o cs)), true)
  else if o.sign == 42 then (cs.set o.key.toNat (wrap16 (cs.getD o.key.toNat 0 * argVal o cs)), true)
  else if o.sign == 60 then (cs, decide (cs.getD o.key.toNat 0 < argVal o cs))
  else if o.sign == 62 then (cs, decide (argVal o cs < cs.getD o.key.toNat 0))
  else if o.sign == 126 then (cs, cs.getD o.key.toNat 0 == argVal o cs)
  else (cs, true)

/-- What an operation comes to, once its keys are declared. -/
def signV (sg : Int) (j : Nat) (h v : Int) (cs : List Int) : List Int × Bool :=
  if sg == 61 then (cs.set j v, true)
  else if sg == 43 then (cs.set j (wrap16 (h + v)), true)
  else if sg == 45 then (cs.set j (wrap16 (h - v)), true)
  else if sg == 42 then (cs.set j (wrap16 (h * v)), true)
  else if sg == 60 then (cs, decide (h < v))
  else if sg == 62 then (cs, decide (v < h))
  else if sg == 126 then (cs, h == v)
  else (cs, true)
theorem stepV_go {ks : List Bool} {o : Op} {cs : List Int} (hk : decl ks o.key = true) (ha : o.isKey = true → decl ks o.akey = true) :
    stepV ks o cs = signV o.sign o.key.toNat (cs.getD o.key.toNat 0) (argVal o cs) cs := by
  unfold stepV signV
  rw [hk]
  have : (o.isKey && !decl ks o.akey) = false := by
    cases h : o.isKey
    · rfl
    · rw [ha h]; rfl
  rw [this]
  rfl
theorem stepV_key {ks : List Bool} {o : Op} {cs : List Int} (hk : decl ks o.key = false) : stepV ks o cs = (cs, false) := by
  unfold stepV; rw [hk]; rfl
theorem stepV_arg {ks : List Bool} {o : Op} {cs : List Int} (hk : decl ks o.key = true) (ha : o.isKey = true) (hd : decl ks o.akey = false) : stepV ks o cs = (cs, false) := by
  unfold stepV; rw [hk, ha, hd]; rfl
theorem argVal_key {o : Op} {cs : List Int} (h0 : 0 ≤ o.akey) (h8 : o.akey < 8) : argVal o cs = if o.isKey then cs.getD o.akey.toNat 0 else o.num := by
  unfold argVal; rw [decide_eq_true ⟨h0, h8⟩, Bool.and_true]

/-- The operations one behind the other: the cells behind them; none, if it is aborted. -/
def runV (ks : List Bool) : List Op → List Int → Option (List Int)
  | [], cs => some cs
  | o :: r, cs => if (stepV ks o cs).2 then runV ks r (stepV ks o cs).1 else none

end Go.Proofs.Ytccckonckddadaa.Dk

namespace Go.Proofs.Ytccckonckddadaa.Dk
/-! ### A transaction -/
def parseOk (l : List UInt8) : Bool := decide (l.length ≤ 60) && (cutAt 124 l).2.2 && rise (-1) (cutAt 124 l).1 && opsOk (cutAt 124 l).2.1
def keysOf (l : List UInt8) : List Bool := [0, 1, 2, 3, 4, 5, 6, 7].map (hasKey (cutAt 124 l).1)
def opsOf (l : List UInt8) : List Op := opsV (cutAt 124 l).2.1
theorem parse_long {l : List UInt8} (h : 60 < l.length) : parseOk l = false := by unfold parseOk; rw [decide_eq_false (by omega)]; rfl
theorem parse_at {l : List UInt8} {a b c : Bool} (h : l.length ≤ 60) (ha : (cutAt 124 l).2.2 = a) (hb : rise (-1) (cutAt 124 l).1 = b) (hc : opsOk (cutAt 124 l).2.1 = c) : parseOk l = (a && b && c) := by
  unfold parseOk; rw [decide_eq_true h, ha, hb, hc]; simp

/-- What Apply answers: the cells, whether it was done, the error's number. -/
def doV (l : List UInt8) (cs : List Int) : List Int × Bool :=
  match runV (keysOf l) (opsOf l) cs with
  | some cs' => (cs', true)
  | none => (cs, false)
def applyV (l : List UInt8) (cs : List Int) : List Int × Bool × Int :=
  if parseOk l then ((doV l cs).1, (doV l cs).2, 0) else (cs, false, 1)
end Go.Proofs.Ytccckonckddadaa.Dk
namespace Go.Proofs.Ytccckonckddadaa.Dk
theorem eight {cs : List Int} (h : cs.length = 8) : ∃ z0 z1 z2 z3 z4 z5 z6 z7, cs = [z0, z1, z2, z3, z4, z5, z6, z7] := by
  match cs, h with
  | [z0, z1, z2, z3, z4, z5, z6, z7], _ => exact ⟨_, _, _, _, _, _, _, _, rfl⟩
theorem stepV_len (ks : List Bool) (o : Op) (cs : List Int) : (stepV ks o cs).1.length = cs.length := by
  unfold stepV
  repeat' split
  all_goals simp
theorem stepV_8 (ks : List Bool) (o : Op) (y0 y1 y2 y3 y4 y5 y6 y7 : Int) : ∃ z0 z1 z2 z3 z4 z5 z6 z7 d, stepV ks o [y0, y1, y2, y3, y4, y5, y6, y7] = ([z0, z1, z2, z3, z4, z5, z6, z7], d) := by
  obtain ⟨z0, z1, z2, z3, z4, z5, z6, z7, h⟩ := eight (stepV_len ks o [y0, y1, y2, y3, y4, y5, y6, y7])
  exact ⟨z0, z1, z2, z3, z4, z5, z6, z7, (stepV ks o [y0, y1, y2, y3, y4, y5, y6, y7]).2, by rw [← h]⟩


theorem runV_drop_yes {ks : List Bool} {os : List Op} {cs cs' : List Int} {k : Nat} {o : Op} (h : os[k]? = some o) (hs : stepV ks o cs = (cs', true)) : runV ks (os.drop k) cs = runV ks (os.drop (k + 1)) cs' := by
  obtain ⟨hk, rfl⟩ := List.getElem?_eq_some_iff.1 h
  rw [List.drop_eq_getElem_cons hk, runV, hs]; rfl
theorem runV_drop_no {ks : List Bool} {os : List Op} {cs cs' : List Int} {k : Nat} {o : Op} (h : os[k]? = some o) (hs : stepV ks o cs = (cs', false)) : runV ks (os.drop k) cs = none := by
  obtain ⟨hk, rfl⟩ := List.getElem?_eq_some_iff.1 h
  rw [List.drop_eq_getElem_cons hk, runV, hs]; rfl
theorem runV_end {ks : List Bool} {os : List Op} {cs : List Int} {k : Nat} (h : os.length ≤ k) : runV ks (os.drop k) cs = some cs := by
  rw [List.drop_eq_nil_of_le h]; rfl

end Go.Proofs.Ytccckonckddadaa.Dk

namespace Go.Proofs.Ytccckonckddadaa.Dk
theorem argK_bd (l : List UInt8) : 0 ≤ argK l ∧ argK l < 8 := by
  unfold argK
  have := keyV_bd (l.headD 0).toNat
  split <;> omega
theorem opV_bd (l : List UInt8) : 0 ≤ (opV l).key ∧ (opV l).key < 8 ∧ 0 ≤ (opV l).akey ∧ (opV l).akey < 8 := by
  have h1 := keyV_bd (l.headD 0).toNat
  have h2 := argK_bd (l.drop 2)
  exact ⟨h1.1, by show keyV _ < 8; omega, h2.1, h2.2⟩
theorem opsOf_bd (l : List UInt8) : ∀ o ∈ opsOf l, 0 ≤ o.key ∧ o.key < 8 ∧ 0 ≤ o.akey ∧ o.akey < 8 := by
  intro o ho
  obtain ⟨p, _, rfl⟩ := List.mem_map.1 ho
  exact opV_bd p
theorem opsOf_len {l : List UInt8} (h : parseOk l = true) : (opsOf l).length ≤ 8 := by
  simp only [parseOk, opsOk, Bool.and_eq_true, decide_eq_true_eq] at h
  unfold opsOf opsV
  rw [List.length_map]
  exact h.2.1
theorem applyV_no {l : List UInt8} {cs : List Int} (h : parseOk l = false) : applyV l cs = (cs, false, 1) := by unfold applyV; rw [h]; rfl
theorem applyV_yes {l : List UInt8} {cs : List Int} (h : parseOk l = true) : applyV l cs = ((doV l cs).1, (doV l cs).2, 0) := by unfold applyV; rw [h]; rfl
end Go.Proofs.Ytccckonckddadaa.Dk
namespace Go.Proofs.Ytccckonckddadaa.Dk

theorem applyV_undone {l : List UInt8} {cs ys : List Int} {er : Int} (h : applyV l cs = (ys, false, er)) : ys = cs := by
  unfold applyV at h
  split at h
  · unfold doV at h
    cases hr : runV (keysOf l) (opsOf l) cs with
    | none => rw [hr] at h; simp at h; exact h.1.symm
    | some r => rw [hr] at h; simp at h
  · simp at h; exact h.1.symm
theorem applyV_done {l : List UInt8} {cs ys : List Int} {er : Int} (h : applyV l cs = (ys, true, er)) : er = 0 ∧ runV (keysOf l) (opsOf l) cs = some ys := by
  unfold applyV at h
  split at h
  · unfold doV at h
    cases hr : runV (keysOf l) (opsOf l) cs with
    | none => rw [hr] at h; simp at h
    | some r => rw [hr] at h; simp at h; exact ⟨h.2.symm, by rw [h.1]⟩
  · simp at h

theorem getD_set_ne (cs : List Int) (k j : Nat) (v : Int) (h : k ≠ j) : (cs.set k v).getD j 0 = cs.getD j 0 := by
  simp [List.getD_eq_getElem?_getD, List.getElem?_set_ne h]

theorem stepV_frame (ks : List Bool) (o : Op) (cs : List Int) (j : Nat) (h : (stepV ks o cs).1.getD j 0 ≠ cs.getD j 0) : ks.getD j false = true := by
  cases hd : decl ks o.key
  · rw [stepV_key hd] at h; exact absurd rfl h
  · by_cases hj : o.key.toNat = j
    · simp only [decl, Bool.and_eq_true] at hd
      rw [← hj]; exact hd.2
    · exfalso
      apply h
      unfold stepV
      repeat' split
      all_goals first | rfl | exact getD_set_ne _ _ _ _ hj

theorem runV_frame (ks : List Bool) (j : Nat) : ∀ (os : List Op) (cs ys : List Int), runV ks os cs = some ys → ys.getD j 0 ≠ cs.getD j 0 → ks.getD j false = true
  | [], cs, ys, h, hne => by simp [runV] at h; rw [h] at hne; exact absurd rfl hne
  | o :: r, cs, ys, h, hne => by
    rw [runV] at h
    split at h
    · by_cases e : (stepV ks o cs).1.getD j 0 = cs.getD j 0
      · exact runV_frame ks j r _ ys h (by rw [e]; exact hne)
      · exact stepV_frame ks o cs j e
    · cases h

theorem applyV_frame {l : List UInt8} {x0 x1 x2 x3 x4 x5 x6 x7 y0 y1 y2 y3 y4 y5 y6 y7 er : Int} (h : applyV l [x0, x1, x2, x3, x4, x5, x6, x7] = ([y0, y1, y2, y3, y4, y5, y6, y7], true, er)) (j : Nat) (hne : ([y0, y1, y2, y3, y4, y5, y6, y7] : List Int).getD j 0 ≠ ([x0, x1, x2, x3, x4, x5, x6, x7] : List Int).getD j 0) :
    (keysOf l).getD j false = true := runV_frame _ j _ _ _ (applyV_done h).2 hne

theorem applyV_len (l : List UInt8) (cs : List Int) : (applyV l cs).1.length = cs.length := by
  have run : ∀ (os : List Op) (ks : List Bool) (cs ys : List Int), runV ks os cs = some ys → ys.length = cs.length := by
    intro os
    induction os with
    | nil => intro ks cs ys h; simp [runV] at h; rw [h]
    | cons o r ih =>
      intro ks cs ys h
      rw [runV] at h
      split at h
      · rw [ih _ _ _ h, stepV_len]
      · cases h
  unfold applyV
  split
  · unfold doV
    cases hr : runV (keysOf l) (opsOf l) cs with
    | none => rfl
    | some r => exact run _ _ _ _ hr
  · rfl
theorem applyV_8 (l : List UInt8) (x0 x1 x2 x3 x4 x5 x6 x7 : Int) : ∃ y0 y1 y2 y3 y4 y5 y6 y7 d er, applyV l [x0, x1, x2, x3, x4, x5, x6, x7] = ([y0, y1, y2, y3, y4, y5, y6, y7], d, er) := by
  obtain ⟨y0, y1, y2, y3, y4, y5, y6, y7, h⟩ := eight (applyV_len l [x0, x1, x2, x3, x4, x5, x6, x7])
  exact ⟨y0, y1, y2, y3, y4, y5, y6, y7, (applyV l [x0, x1, x2, x3, x4, x5, x6, x7]).2.1, (applyV l [x0, x1, x2, x3, x4, x5, x6, x7]).2.2, by rw [← h]⟩

/-- The bytes ahead of the first bar. -/
theorem cut_at_bar {l : List UInt8} {k : Nat} (hn : ∀ j (_ : j < k) (hj' : j < l.length), (l[j].toNat : Int) ≠ 124) (h : l.length ≤ k ∨ ∃ hk : k < l.length, (l[k].toNat : Int) = 124) : (cutAt 124 l).1 = l.take k := by
  rcases h with h | ⟨hk, he⟩
  · rw [cutAt_none 124 l (fun j hj => hn j (by omega) hj), List.take_of_length_le h]
  · rw [cutAt_found 124 l k hk (fun j hj => hn j hj (by omega)) he]

end Go.Proofs.Ytccckonckddadaa.Dk
namespace Go.Proofs.Ytccckonckddadaa.Dk

/-! ### The document's own answer, in its own words -/
def inB (l : List UInt8) (c : Int) : Bool := l.any fun b => (b.toNat : Int) == c
theorem inB_keys (c : Int) : inB [97, 98, 99, 100, 101, 102, 103, 104] c = isK c := by
  rw [Bool.eq_iff_iff]
  simp [inB, isK]
  omega
theorem inB_signs (c : Int) : inB [61, 43, 45, 42, 60, 62, 126] c = isSign c := by
  rw [Bool.eq_iff_iff]
  simp [inB, isSign]
  omega
theorem inB_digits (c : Int) : inB [48, 49, 50, 51, 52, 53, 54, 55, 56, 57] c = decide (48 ≤ c ∧ c ≤ 57) := by
  rw [Bool.eq_iff_iff]
  simp [inB]
  omega
theorem inB_yes {l : List UInt8} {c : Int} {k : Nat} (h : k < l.length) (e : (l[k].toNat : Int) = c) : inB l c = true := by
  unfold inB
  rw [List.any_eq_true]
  exact ⟨l[k], List.getElem_mem h, by simpa using e⟩
theorem inB_no {l : List UInt8} {c : Int} (h : ∀ j (hj : j < l.length), (l[j].toNat : Int) ≠ c) : inB l c = false := by
  unfold inB
  rw [List.any_eq_false]
  intro b hb
  obtain ⟨j, hj, rfl⟩ := List.mem_iff_getElem.1 hb
  simpa using h j hj

theorem num_dash : numOk [45] = false := by decide

/-- What a text reads as, told by its digits alone. -/
theorem numOk_digits {l : List UInt8} (h : (l == [48]) = false) (hok : okDig (dig l) = false) : numOk l = false := by unfold numOk; rw [h, hok]; rfl
theorem numOk_of {l : List UInt8} {v : Int} (h : (l == [48]) = false) (hok : okDig (dig l) = true) (hv : rawV l = v) : numOk l = inNum v ∧ (inNum v = true → numV l = v) := by
  unfold numOk numV
  rw [h, hok, hv]
  exact ⟨rfl, fun h => by rw [h]; rfl⟩

theorem tmod_range (x : Int) : -65536 < x.tmod 65536 ∧ x.tmod 65536 < 65536 := by
  have h1 := Int.natAbs_tmod x 65536
  have h2 : x.natAbs % 65536 < 65536 := Nat.mod_lt _ (by omega)
  have h5 : (65536 : Int).natAbs = 65536 := rfl
  rw [h5] at h1
  omega
theorem okDig_of {l : List UInt8} (h1 : 1 ≤ l.length) (h5 : l.length ≤ 5) (hf : (l.headD 0).toNat ≠ 48) : okDig l = allDig l := by
  unfold okDig
  rw [decide_eq_true ⟨h1, h5⟩]
  have : (l.headD 0 == 48) = false := by rw [beq_eq_false_iff_ne]; intro e; apply hf; rw [e]; rfl
  rw [this]; rfl
theorem okDig_len {l : List UInt8} (h : l.length = 0 ∨ 5 < l.length) : okDig l = false := by
  unfold okDig; rw [decide_eq_false (by omega)]; rfl
theorem okDig_head {l : List UInt8} (hf : (l.headD 0).toNat = 48) : okDig l = false := by
  unfold okDig
  have : (l.headD 0 == 48) = true := by rw [beq_iff_eq]; exact UInt8.toNat_inj.1 hf
  rw [this]; simp

theorem dig_pos {l : List UInt8} (h : neg l = false) : dig l = l ∧ rawV l = digV l := by
  have : dig l = l := by unfold dig; rw [h]; rfl
  exact ⟨this, by unfold rawV; rw [h, this]; rfl⟩
theorem dig_neg {l : List UInt8} (h : neg l = true) : dig l = l.tail ∧ rawV l = - digV l.tail := by
  have : dig l = l.tail := by unfold dig; rw [h]; rfl
  exact ⟨this, by unfold rawV; rw [h, this]; rfl⟩
/-- Through the digits: without a sign. -/
theorem num_loop_pos {l : List UInt8} (hz : (l == [48]) = false) (hn : neg l = false ∨ l = [45]) (h1 : 1 ≤ l.length) (h5 : l.length ≤ 5) (hf : (l.headD 0).toNat ≠ 48) :
    numOk l = (allDig l && inNum (val l)) ∧ (numOk l = true → numV l = val l) := by
  rcases hn with hn | rfl
  · obtain ⟨e1, e2⟩ := dig_pos hn
    have e3 := okDig_of h1 h5 hf
    cases ha : allDig l
    · rw [ha] at e3
      have := numOk_digits hz (by rw [e1]; exact e3)
      rw [this]; exact ⟨rfl, fun h => by cases h⟩
    · rw [ha] at e3
      obtain ⟨a, b⟩ := numOk_of (v := (val l : Int)) hz (by rw [e1]; exact e3) (by rw [e2, digV_yes e3])
      rw [a]; exact ⟨rfl, b⟩
  · have h := num_dash
    rw [h]; exact ⟨by decide, fun h => by cases h⟩
/-- .. with one. -/
theorem num_loop_neg {l : List UInt8} (hz : (l == [48]) = false) (hn : neg l = true) (h1 : 1 ≤ l.tail.length) (h5 : l.tail.length ≤ 5) (hf : (l.tail.headD 0).toNat ≠ 48) :
    numOk l = (allDig l.tail && inNum (-(val l.tail : Int))) ∧ (numOk l = true → numV l = -(val l.tail : Int)) := by
  obtain ⟨e1, e2⟩ := dig_neg hn
  have e3 := okDig_of h1 h5 hf
  cases ha : allDig l.tail
  · rw [ha] at e3
    have := numOk_digits hz (by rw [e1]; exact e3)
    rw [this]; exact ⟨rfl, fun h => by cases h⟩
  · rw [ha] at e3
    obtain ⟨a, b⟩ := numOk_of (v := -(val l.tail : Int)) hz (by rw [e1]; exact e3) (by rw [e2, digV_yes e3])
    rw [a]; exact ⟨rfl, b⟩

/-- wrap, as the document's answer has it. -/
theorem wrap_pos {n : Int} (h : 32767 < n.tmod 65536) : wrap16 n = n.tmod 65536 - 65536 := by
  unfold wrap16
  have h1 := Int.tmod_add_mul_tdiv n 65536
  have h2 : -65536 < n.tmod 65536 ∧ n.tmod 65536 < 65536 := ⟨by omega, by
    have := Int.tmod_lt_of_pos n (b := 65536) (by omega); omega⟩
  omega
theorem wrap_neg {n : Int} (h : n.tmod 65536 < -32768) : wrap16 n = n.tmod 65536 + 65536 := by
  unfold wrap16
  have h1 := Int.tmod_add_mul_tdiv n 65536
  have h2 : -65536 < n.tmod 65536 := by
    have h3 := Int.natAbs_tmod n 65536
    have h4 : n.natAbs % 65536 < 65536 := Nat.mod_lt _ (by omega)
    have h5 : (65536 : Int).natAbs = 65536 := rfl
    rw [h5] at h3
    omega
  omega
theorem wrap_mid {n : Int} (h : n.tmod 65536 ≤ 32767) (h' : -32768 ≤ n.tmod 65536) : wrap16 n = n.tmod 65536 := by
  unfold wrap16
  have h1 := Int.tmod_add_mul_tdiv n 65536
  omega

end Go.Proofs.Ytccckonckddadaa.Dk

namespace Go.Proofs.Ytccckonckddadaa.Dk
theorem split_next {m : Int} {l : List UInt8} {P : List (List UInt8)} {f k : Nat} (h : splitAll m l = P ++ splitAll m (l.drop f)) (hf : f ≤ k) (hk : k < l.length) (hn : ∀ j (_ : f ≤ j) (_ : j < k) (hj : j < l.length), (l[j].toNat : Int) ≠ m) (he : (l[k].toNat : Int) = m) :
    splitAll m l = (P ++ [(l.take k).drop f]) ++ splitAll m (l.drop (k + 1)) := by
  have hc := cutAt_found m (l.drop f) (k - f) (by rw [List.length_drop]; omega)
    (fun j hj => by rw [List.getElem_drop]; exact hn (f + j) (by omega) (by omega) (by omega))
    (by rw [List.getElem_drop]; have e : f + (k - f) = k := by omega
        simp only [e]; exact he)
  rw [h, splitAll_cut m (l.drop f), hc, List.append_assoc]
  congr 1
  have e1 : (l.drop f).take (k - f) = (l.take k).drop f := by rw [List.drop_take]
  have e2 : (l.drop f).drop (k - f + 1) = l.drop (k + 1) := by rw [List.drop_drop]; congr 1; omega
  simp only [e1, e2, if_true]
  rfl
theorem split_end {m : Int} {l : List UInt8} {P : List (List UInt8)} {f k : Nat} (h : splitAll m l = P ++ splitAll m (l.drop f)) (hk : k = l.length) (hn : ∀ j (_ : f ≤ j) (_ : j < k) (hj : j < l.length), (l[j].toNat : Int) ≠ m) :
    splitAll m l = P ++ [(l.take k).drop f] := by
  have hc := cutAt_none m (l.drop f) (fun j hj => by rw [List.getElem_drop]; rw [List.length_drop] at hj; exact hn (f + j) (by omega) (by omega) (by omega))
  rw [h, splitAll_cut m (l.drop f), hc]
  simp [hk]
end Go.Proofs.Ytccckonckddadaa.Dk
namespace Go.Proofs.Ytccckonckddadaa.Dk

/-! ### One bar alone -/
theorem mem_split (m : Int) : ∀ (l : List UInt8) (b : UInt8), b ∈ l → (b.toNat : Int) = m ∨ ∃ p ∈ splitAll m l, b ∈ p
  | [], b, h => by cases h
  | c :: r, b, h => by
    simp only [splitAll]
    have hne := splitAll_ne m r
    obtain ⟨q, qs, hq⟩ : ∃ q qs, splitAll m r = q :: qs := by
      cases e : splitAll m r with
      | nil => exact absurd e hne
      | cons q qs => exact ⟨q, qs, rfl⟩
    rcases List.mem_cons.1 h with rfl | h
    · by_cases e : (b.toNat : Int) = m
      · exact .inl e
      · rw [if_neg e]
        exact .inr ⟨_, List.mem_cons_self .., List.mem_cons_self ..⟩
    · rcases mem_split m r b h with e | ⟨p, hp, hb⟩
      · exact .inl e
      · right
        split
        · exact ⟨p, List.mem_cons_of_mem _ hp, hb⟩
        · rw [hq] at hp ⊢
          rcases List.mem_cons.1 hp with rfl | hp
          · exact ⟨_, List.mem_cons_self .., List.mem_cons_of_mem _ hb⟩
          · exact ⟨p, List.mem_cons_of_mem _ hp, hb⟩

theorem allDig_mem {l : List UInt8} (h : allDig l = true) {b : UInt8} (hb : b ∈ l) : 48 ≤ b.toNat ∧ b.toNat ≤ 57 := by
  simpa using List.all_eq_true.1 h b hb
theorem numOk_nobar {l : List UInt8} (h : numOk l = true) : ∀ b ∈ l, (b.toNat : Int) ≠ 124 := by
  intro b hb
  unfold numOk at h
  rw [Bool.or_eq_true] at h
  rcases h with h | h
  · rw [beq_iff_eq] at h
    subst h
    simp at hb
    subst hb
    decide
  · simp only [okDig, Bool.and_eq_true] at h
    have ha := h.1.2
    cases hn : neg l
    · rw [(dig_pos hn).1] at ha
      have := allDig_mem ha hb
      omega
    · rw [(dig_neg hn).1] at ha
      cases l with
      | nil => cases hb
      | cons c r =>
        rcases List.mem_cons.1 hb with rfl | hb
        · simp [neg] at hn
          subst hn
          decide
        · have := allDig_mem ha hb
          omega
theorem isK_nobar {b : UInt8} (h : isK b.toNat = true) : (b.toNat : Int) ≠ 124 := by have := of_isK h; omega
theorem isSign_nobar {b : UInt8} (h : isSign b.toNat = true) : (b.toNat : Int) ≠ 124 := by
  intro e
  rw [e] at h
  exact absurd h (by decide)
theorem argOk_nobar {l : List UInt8} (h : argOk l = true) : ∀ b ∈ l, (b.toNat : Int) ≠ 124 := by
  unfold argOk at h
  rw [Bool.or_eq_true] at h
  rcases h with h | h
  · simp only [argKey, Bool.and_eq_true, decide_eq_true_eq] at h
    match l, h with
    | [c], h =>
      intro b hb
      simp at hb
      subst hb
      exact isK_nobar h.2
  · exact numOk_nobar h
theorem opOk_nobar {l : List UInt8} (h : opOk l = true) : ∀ b ∈ l, (b.toNat : Int) ≠ 124 := by
  simp only [opOk, Bool.and_eq_true, decide_eq_true_eq] at h
  match l, h with
  | a :: c :: r, h =>
    intro b hb
    rcases List.mem_cons.1 hb with rfl | hb
    · exact isK_nobar h.1.1.2
    · rcases List.mem_cons.1 hb with rfl | hb
      · exact isSign_nobar h.1.2
      · exact argOk_nobar h.2 b hb
theorem opsOk_nobar {l : List UInt8} (h : opsOk l = true) : ∀ b ∈ l, (b.toNat : Int) ≠ 124 := by
  intro b hb
  simp only [opsOk, Bool.and_eq_true] at h
  rcases mem_split 59 l b hb with e | ⟨p, hp, hbp⟩
  · omega
  · exact opOk_nobar (List.all_eq_true.1 h.2 p hp) b hbp

theorem cut_whole {m : Int} {l : List UInt8} (h : (cutAt m l).2.2 = false) : (cutAt m l).1 = l := by
  induction l with
  | nil => rfl
  | cons b r ih =>
    simp only [cutAt] at h ⊢
    split at h
    · simp at h
    · rename_i hne
      rw [if_neg hne]
      simp only [List.cons.injEq, true_and]
      exact ih h

/-- The document's way to read a text, and the program's. -/
theorem parse_two {l : List UInt8} (h : (splitAll 124 l).length ≠ 2) : parseOk l = false := by
  cases hp : parseOk l
  · rfl
  · exfalso
    apply h
    simp only [parseOk, Bool.and_eq_true, decide_eq_true_eq] at hp
    rw [split_more hp.1.1.2]
    have hc := cutAt_none 124 (cutAt 124 l).2.1 (fun j hj => opsOk_nobar hp.2 _ (List.getElem_mem hj))
    rw [split_last (by rw [hc])]
    rfl
theorem parse_pair {l p q : List UInt8} (h : splitAll 124 l = [p, q]) : (cutAt 124 l).2.2 = true ∧ (cutAt 124 l).1 = p ∧ (cutAt 124 l).2.1 = q := by
  cases hf : (cutAt 124 l).2.2
  · rw [split_last hf] at h; simp at h
  · rw [split_more hf] at h
    simp only [List.cons.injEq] at h
    refine ⟨rfl, h.1, ?_⟩
    have hs := h.2
    rw [splitAll_cut] at hs
    simp only [List.cons.injEq] at hs
    cases hg : (cutAt 124 (cutAt 124 l).2.1).2.2
    · rw [← hs.1]
      have hn := cut_whole hg
      exact hn.symm
    · rw [hg] at hs
      have := splitAll_ne 124 (cutAt 124 (cutAt 124 l).2.1).2.1
      simp only [if_true] at hs
      exact absurd hs.2 this
theorem split_len (m : Int) : ∀ (l : List UInt8) (p : List UInt8), p ∈ splitAll m l → p.length ≤ l.length
  | [], p, h => by simp [splitAll] at h; rw [h]; simp
  | b :: r, p, h => by
    simp only [splitAll] at h
    split at h
    · rcases List.mem_cons.1 h with rfl | h
      · simp
      · have := split_len m r p h; simp; omega
    · have hne := splitAll_ne m r
      cases e : splitAll m r with
      | nil => exact absurd e hne
      | cons q qs =>
        rw [e] at h
        rcases List.mem_cons.1 h with rfl | h
        · have := split_len m r q (by rw [e]; exact List.mem_cons_self ..); simp; omega
        · have := split_len m r p (by rw [e]; exact List.mem_cons_of_mem _ h); simp; omega
theorem opsOk_many {l : List UInt8} (h : 8 < (splitAll 59 l).length) : opsOk l = false := by unfold opsOk; rw [decide_eq_false (by omega)]; rfl
theorem opsOk_one {l p : List UInt8} (h : p ∈ splitAll 59 l) (hp : opOk p = false) : opsOk l = false := by
  cases ho : opsOk l
  · rfl
  · simp only [opsOk, Bool.and_eq_true] at ho
    rw [List.all_eq_true.1 ho.2 p h] at hp; cases hp
theorem opsOk_all {l : List UInt8} (h : (splitAll 59 l).length ≤ 8) (ha : (splitAll 59 l).all opOk = true) : opsOk l = true := by
  unfold opsOk; rw [decide_eq_true h, ha]; rfl

end Go.Proofs.Ytccckonckddadaa.Dk
namespace Go.Proofs.Ytccckonckddadaa.Dk

theorem numOk_head {l : List UInt8} (h : numOk l = true) : isK (l.headD 0).toNat = false := by
  unfold numOk at h
  rw [Bool.or_eq_true] at h
  rcases h with h | h
  · rw [beq_iff_eq] at h; subst h; decide
  · simp only [okDig, Bool.and_eq_true, decide_eq_true_eq] at h
    cases l with
    | nil => decide
    | cons b r =>
      cases hn : neg (b :: r)
      · rw [(dig_pos hn).1] at h
        have := allDig_mem h.1.2 (List.mem_cons_self ..)
        exact isK_no (by show ((b.toNat : Nat) : Int) < 97 ∨ _; omega)
      · simp [neg] at hn
        subst hn
        show isK ((45 : UInt8).toNat) = false
        decide
theorem opOk_key {l : List UInt8} (h : opOk l = true) : isK ((l.drop 2).headD 0).toNat = argKey (l.drop 2) := by
  simp only [opOk, Bool.and_eq_true, decide_eq_true_eq] at h
  have ha := h.2
  unfold argOk at ha
  cases hk : argKey (l.drop 2)
  · rw [hk] at ha
    exact numOk_head (by simpa using ha)
  · simp only [argKey, Bool.and_eq_true] at hk
    exact hk.2
theorem opOk_len {l : List UInt8} (h : opOk l = true) : 3 ≤ l.length := by
  simp only [opOk, Bool.and_eq_true, decide_eq_true_eq] at h; exact h.1.1.1
theorem opOk_k0 {l : List UInt8} (h : opOk l = true) : isK (l.headD 0).toNat = true := by
  simp only [opOk, Bool.and_eq_true, decide_eq_true_eq] at h; exact h.1.1.2
theorem opOk_num {l : List UInt8} (h : opOk l = true) (hk : argKey (l.drop 2) = false) : numOk (l.drop 2) = true := by
  simp only [opOk, Bool.and_eq_true, decide_eq_true_eq] at h
  have ha := h.2
  unfold argOk at ha
  rw [hk] at ha
  simpa using ha
theorem opOk_len3 {l : List UInt8} (hk : argKey (l.drop 2) = true) (h : 3 ≤ l.length) : l.length = 3 := by
  simp only [argKey, Bool.and_eq_true, decide_eq_true_eq, List.length_drop] at hk; omega
theorem argVal_num {l : List UInt8} {cs : List Int} (hk : argKey (l.drop 2) = false) : argVal (opV l) cs = numV (l.drop 2) := by
  unfold argVal opV
  simp only [hk, Bool.false_and]
  exact (arg_no hk).2.2
theorem argVal_cell {l : List UInt8} {cs : List Int} (hk : argKey (l.drop 2) = true) : argVal (opV l) cs = cs.getD (keyV ((l.drop 2).headD 0).toNat).toNat 0 := by
  have h1 := (arg_yes hk).2.1
  have h2 := argK_bd (l.drop 2)
  unfold argVal opV
  simp only [hk, h1, Bool.true_and]
  rw [← h1, decide_eq_true (by omega : 0 ≤ argK (l.drop 2) ∧ argK (l.drop 2) < 8)]
  rfl

end Go.Proofs.Ytccckonckddadaa.Dk
namespace Go.Proofs.Ytccckonckddadaa.Dk

def In16 (n : Int) : Prop := -32768 ≤ n ∧ n ≤ 32767
def All16 (cs : List Int) : Prop := ∀ y ∈ cs, In16 y

theorem decl_in {l : List UInt8} {j : Nat} (h : j < 8) : decl (keysOf l) j = inB (cutAt 124 l).1 (97 + j) := by
  unfold decl keysOf
  rw [decide_eq_true (by omega), Bool.true_and, Int.toNat_natCast]
  obtain rfl | rfl | rfl | rfl | rfl | rfl | rfl | rfl : j = 0 ∨ j = 1 ∨ j = 2 ∨ j = 3 ∨ j = 4 ∨ j = 5 ∨ j = 6 ∨ j = 7 := by omega
  all_goals rfl

theorem getD_16 {cs : List Int} (h : All16 cs) (j : Nat) : In16 (cs.getD j 0) := by
  rw [List.getD_eq_getElem?_getD]
  cases e : cs[j]? with
  | none => exact ⟨by decide, by decide⟩
  | some y => exact h y (List.mem_of_getElem? e)
theorem num_16 (l : List UInt8) : In16 (opV l).num := by
  show In16 (argN (l.drop 2))
  unfold argN
  split
  · exact ⟨by decide, by decide⟩
  · exact numV_bd _
theorem argVal_16 {cs : List Int} (h : All16 cs) (l : List UInt8) : In16 (argVal (opV l) cs) := by
  unfold argVal
  split
  · exact getD_16 h _
  · exact num_16 l
theorem set_16 {cs : List Int} (h : All16 cs) (j : Nat) {v : Int} (hv : In16 v) : All16 (cs.set j v) := by
  intro y hy
  rcases List.mem_or_eq_of_mem_set hy with hy | rfl
  · exact h y hy
  · exact hv
theorem set_self (cs : List Int) (j : Nat) : cs.set j (cs.getD j 0) = cs := by
  by_cases h : j < cs.length
  · rw [List.getD_eq_getElem?_getD, List.getElem?_eq_getElem h]
    simp
  · exact List.set_eq_of_length_le (by omega)

/-- What a transaction's operations make of cells, the operations told by their texts. -/
theorem runV_step_yes {ks : List Bool} {ps : List (List UInt8)} {cs cs' : List Int} {k : Nat} {p : List UInt8} (h : ps[k]? = some p) (hs : stepV ks (opV p) cs = (cs', true)) :
    runV ks ((ps.map opV).drop k) cs = runV ks ((ps.map opV).drop (k + 1)) cs' := runV_drop_yes (by simp [h]) hs
theorem runV_step_no {ks : List Bool} {ps : List (List UInt8)} {cs cs' : List Int} {k : Nat} {p : List UInt8} (h : ps[k]? = some p) (hs : stepV ks (opV p) cs = (cs', false)) :
    runV ks ((ps.map opV).drop k) cs = none := runV_drop_no (by simp [h]) hs

/-- The step, sign by sign: what is stored, or that it is aborted. -/
theorem sign_eq {j : Nat} {h v : Int} {cs : List Int} : signV 61 j h v cs = (cs.set j v, true) := rfl
theorem sign_add {j : Nat} {h v : Int} {cs : List Int} : signV 43 j h v cs = (cs.set j (wrap16 (h + v)), true) := rfl
theorem sign_sub {j : Nat} {h v : Int} {cs : List Int} : signV 45 j h v cs = (cs.set j (wrap16 (h - v)), true) := rfl
theorem sign_mul {j : Nat} {h v : Int} {cs : List Int} : signV 42 j h v cs = (cs.set j (wrap16 (h * v)), true) := rfl
theorem sign_lt {j : Nat} {v : Int} {cs : List Int} : signV 60 j (cs.getD j 0) v cs = (cs.set j (cs.getD j 0), decide (cs.getD j 0 < v)) := by rw [set_self]; rfl
theorem sign_gt {j : Nat} {v : Int} {cs : List Int} : signV 62 j (cs.getD j 0) v cs = (cs.set j (cs.getD j 0), decide (v < cs.getD j 0)) := by rw [set_self]; rfl
theorem sign_same {j : Nat} {v : Int} {cs : List Int} : signV 126 j (cs.getD j 0) v cs = (cs.set j (cs.getD j 0), cs.getD j 0 == v) := by rw [set_self]; rfl
theorem isSign_of {c : Int} (h : isSign c = true) : c = 61 ∨ c = 43 ∨ c = 45 ∨ c = 42 ∨ c = 60 ∨ c = 62 ∨ c = 126 := by
  simpa [isSign] using h
theorem prod_16 {a b : Int} (ha : In16 a) (hb : In16 b) : -1073741824 ≤ a * b ∧ a * b ≤ 1073741824 := by
  have h1 : a.natAbs ≤ 32768 := by have := ha.1; have := ha.2; omega
  have h2 : b.natAbs ≤ 32768 := by have := hb.1; have := hb.2; omega
  have h3 : (a * b).natAbs ≤ 32768 * 32768 := by rw [Int.natAbs_mul]; exact Nat.mul_le_mul h1 h2
  omega

end Go.Proofs.Ytccckonckddadaa.Dk
namespace Go.Proofs.Ytccckonckddadaa.Dk

/-! ### The bytes of an epoch -/
/-- A number in so many bytes, the one that counts most first. -/
def be : Nat → Nat → List UInt8
  | _, 0 => []
  | n, k + 1 => be (n / 256) k ++ [UInt8.ofNat (n % 256)]
theorem be_len (n k : Nat) : (be n k).length = k := by
  induction k generalizing n with
  | zero => rfl
  | succ k ih => simp [be, ih]

def sumStep (h : Nat) (b : UInt8) : Nat := ((h ^^^ b.toNat) * 16777619) % 4294967296
def sum0 : Nat := 2166136261
def sumFrom (h : Nat) (l : List UInt8) : Nat := l.foldl sumStep h
theorem sumFrom_snoc (h : Nat) (l : List UInt8) (b : UInt8) : sumFrom h (l ++ [b]) = sumStep (sumFrom h l) b := by
  unfold sumFrom
  rw [List.foldl_append, List.foldl_cons, List.foldl_nil]
def sumV (l : List UInt8) : Nat := sumFrom sum0 l
theorem sumV_nil : sumV [] = sum0 := by unfold sumV sumFrom; rw [List.foldl_nil]
theorem sumV_snoc (l : List UInt8) (b : UInt8) : sumV (l ++ [b]) = sumStep (sumV l) b := sumFrom_snoc sum0 l b
theorem sumStep_lt (h : Nat) (b : UInt8) : sumStep h b < 4294967296 := by unfold sumStep; omega
theorem sumV_lt (l : List UInt8) : sumV l < 4294967296 := by
  cases h : l.reverse with
  | nil =>
    have : l = [] := by simpa using h
    subst this
    rw [sumV_nil]
    unfold sum0
    omega
  | cons b r =>
    have : l = r.reverse ++ [b] := by rw [← List.reverse_reverse l, h]; simp
    rw [this, sumV_snoc]
    exact sumStep_lt _ _
theorem xor_low (h b : Nat) (hb : b < 256) : h - h % 256 + (h % 256 ^^^ b) = h ^^^ b := by
  have h1 : (h ^^^ b) % 2 ^ 8 = (h % 2 ^ 8) ^^^ (b % 2 ^ 8) := Nat.xor_mod_two_pow
  have h2 : (h ^^^ b) / 2 ^ 8 = (h / 2 ^ 8) ^^^ (b / 2 ^ 8) := by
    rw [← Nat.shiftRight_eq_div_pow, ← Nat.shiftRight_eq_div_pow, ← Nat.shiftRight_eq_div_pow, Nat.shiftRight_xor_distrib]
  have e : (2 : Nat) ^ 8 = 256 := by decide
  rw [e] at h1 h2
  rw [Nat.mod_eq_of_lt hb] at h1
  rw [Nat.div_eq_of_lt hb, Nat.xor_zero] at h2
  have h3 := Nat.div_add_mod (h ^^^ b) 256
  have h4 := Nat.div_add_mod h 256
  omega

/-- A record, as the list holds it. -/
structure Rec where
  client : Int
  id : Int
  late : Bool
  text : List UInt8

def recOk (r : Rec) : Bool := (if r.late then r.text == [] else parseOk r.text) && decide (0 ≤ r.client ∧ r.client < 8) && decide (0 ≤ r.id ∧ r.id ≤ 999999)
def recBytes (r : Rec) : List UInt8 := be r.client.toNat 1 ++ be r.id.toNat 3 ++ be (if r.late then 1 else 0) 1 ++ be r.text.length 1 ++ r.text
def payload (n : Nat) (rs : List Rec) : List UInt8 := be n 1 ++ be rs.length 1 ++ rs.flatMap recBytes
def epoch (n : Nat) (rs : List Rec) : List UInt8 := be (payload n rs).length 2 ++ payload n rs ++ be (sumV (payload n rs)) 4
def frameOk (n : Int) (rs : List Rec) : Bool := decide (0 ≤ n ∧ n < 200) && decide (rs.length ≤ 64) && rs.all recOk

end Go.Proofs.Ytccckonckddadaa.Dk
namespace Go.Proofs.Ytccckonckddadaa.Dk

/-! ### An epoch read by guessing -/
def recEnd (l : List UInt8) (p : Nat) : Nat := p + 6 + (l.getD (p + 5) 0).toNat
def recAt (l : List UInt8) (p : Nat) : Rec :=
  ⟨((l.getD p 0).toNat : Int), ((l.getD (p + 1) 0).toNat * 65536 + (l.getD (p + 2) 0).toNat * 256 + (l.getD (p + 3) 0).toNat : Nat), (((l.getD (p + 4) 0).toNat : Int) == 1), (l.take (recEnd l p)).drop (p + 6)⟩
def guessFrom (l : List UInt8) : Nat → Nat → List Rec
  | 0, _ => []
  | k + 1, p => if p + 6 ≤ l.length ∧ recEnd l p ≤ l.length then recAt l p :: guessFrom l k (recEnd l p) else []
def guessV (l : List UInt8) : List Rec := if l.length < 4 then [] else guessFrom l (l.getD 3 0).toNat 4

theorem guess_zero (l : List UInt8) (p : Nat) : guessFrom l 0 p = [] := rfl
theorem guess_stop {l : List UInt8} {p : Nat} (k : Nat) (h : l.length < p + 6 ∨ l.length < recEnd l p) : guessFrom l k p = [] := by
  cases k with
  | zero => rfl
  | succ k => rw [guessFrom, if_neg (by omega)]
theorem guess_go {l : List UInt8} {p : Nat} (k : Nat) (h : p + 6 ≤ l.length) (h' : recEnd l p ≤ l.length) : guessFrom l (k + 1) p = recAt l p :: guessFrom l k (recEnd l p) := by
  rw [guessFrom, if_pos ⟨h, h'⟩]

/-- How many epochs a log begins with, and how many bytes these are: from the n-th on, at p. -/
def scanFrom (l : List UInt8) : Nat → Nat → Nat → Nat × Nat
  | 0, n, p => (n, p)
  | k + 1, n, p =>
    if frameOk n (guessV (l.drop p)) && (decide ((epoch n (guessV (l.drop p))).length ≤ (l.drop p).length) && ((l.drop p).take (epoch n (guessV (l.drop p))).length == epoch n (guessV (l.drop p))))
    then scanFrom l k (n + 1) (p + (epoch n (guessV (l.drop p))).length) else (n, p)
def scanV (l : List UInt8) : Nat × Nat := scanFrom l 201 0 0

end Go.Proofs.Ytccckonckddadaa.Dk
