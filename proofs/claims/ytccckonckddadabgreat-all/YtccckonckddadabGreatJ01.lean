/-
  The plain mathematics of docket's texts: no Go, no program here.
-/
namespace Go.Proofs.YtccckonckddadabGreat.Dk

/-- What stands ahead of the first mark, what behind it, whether there is one. -/
def cutAt (m : Int) : List UInt8 → List UInt8 × List UInt8 × Bool
  | [] => ([], [], false)
  | b :: r => if (b.toNat : Int) = m then ([], r, true) else (b :: (cutAt m r).1, (cutAt m r).2.1, (cutAt m r).2.2)

theorem cutAt_found (m : Int) : ∀ (l : List UInt8) (k : Nat) (h : k < l.length), (∀ j (hj : j < k), (l[j].toNat : Int) ≠ m) → (l[k].toNat : Int) = m →
    cutAt m l = (l.take k, l.drop (k + 1), true)
  | [], k, h, _, _ => absurd h (by simp)
  | b :: r, 0, _, _, e => by simp at e; simp [cutAt, e]
  | b :: r, k + 1, h, n, e => by
    have h0 : (b.toNat : Int) ≠ m := n 0 (by omega)
    have := cutAt_found m r k (by simpa using h) (fun j hj => by have := n (j + 1) (by omega); simpa using this) (by simpa using e)
    simp [cutAt, h0, this]

theorem cutAt_none (m : Int) : ∀ (l : List UInt8), (∀ j (hj : j < l.length), (l[j].toNat : Int) ≠ m) → cutAt m l = (l, [], false)
  | [], _ => rfl
  | b :: r, n => by
    have h0 : (b.toNat : Int) ≠ m := n 0 (by simp)
    have := cutAt_none m r (fun j hj => by have := n (j + 1) (by simpa using hj); simpa using this)
    simp [cutAt, h0, this]

/-! ### A key, a sign -/
def isK (b : Int) : Bool := decide (97 ≤ b ∧ b ≤ 104)
def keyV (b : Int) : Int := if 97 ≤ b ∧ b ≤ 104 then b - 97 else 0
theorem isK_yes {b : Int} (h : 97 ≤ b) (h' : b ≤ 104) : isK b = true := by simp [isK]; omega
theorem isK_no {b : Int} (h : b < 97 ∨ 104 < b) : isK b = false := by simp [isK]; omega
theorem keyV_yes {b : Int} (h : 97 ≤ b) (h' : b ≤ 104) : keyV b = b - 97 := if_pos ⟨h, h'⟩
theorem keyV_no {b : Int} (h : b < 97 ∨ 104 < b) : keyV b = 0 := if_neg (by omega)
theorem of_isK {b : Int} (h : isK b = true) : 97 ≤ b ∧ b ≤ 104 := by simpa [isK] using h
theorem of_isK_no {b : Int} (h : isK b = false) : b < 97 ∨ 104 < b := by simp [isK] at h; omega
theorem keyV_bd (b : Int) : 0 ≤ keyV b ∧ keyV b ≤ 7 := by unfold keyV; split <;> omega
def isSign (c : Int) : Bool := (c == 61) || ((c == 43) || ((c == 45) || ((c == 42) || ((c == 60) || ((c == 62) || (c == 126))))))

/-! ### A number -/
def val (l : List UInt8) : Nat := l.foldl (fun n b => n * 10 + (b.toNat - 48)) 0
def allDig (l : List UInt8) : Bool := l.all fun b => decide (48 ≤ b.toNat ∧ b.toNat ≤ 57)
def okDig (l : List UInt8) : Bool := decide (1 ≤ l.length ∧ l.length ≤ 5) && !(l.headD 0 == 48) && allDig l
def digV (l : List UInt8) : Int := if okDig l then (val l : Int) else 0

theorem val_snoc (l : List UInt8) (b : UInt8) : val (l ++ [b]) = val l * 10 + (b.toNat - 48) := by simp [val]
theorem allDig_snoc (l : List UInt8) (b : UInt8) : allDig (l ++ [b]) = (allDig l && decide (48 ≤ b.toNat ∧ b.toNat ≤ 57)) := by simp [allDig]
theorem val_lt (l : List UInt8) : allDig l = true → val l < 10 ^ l.length := by
  suffices H : ∀ n (l : List UInt8), l.length = n → allDig l = true → val l < 10 ^ n by exact H _ l rfl
  intro n
  induction n with
  | zero => intro l hl _; rw [List.length_eq_zero_iff.1 hl]; simp [val]
  | succ n ih =>
    intro l hl h
    have hne : l ≠ [] := by intro e; subst e; simp at hl
    obtain ⟨a, b, rfl⟩ : ∃ a b, l = a ++ [b] := ⟨_, _, (List.dropLast_concat_getLast hne).symm⟩
    rw [allDig_snoc] at h
    simp at h
    have := ih a (by simpa using hl) h.1
    rw [val_snoc, Nat.pow_succ]
    omega
theorem val_lt5 (l : List UInt8) (h : allDig l = true) (h5 : l.length ≤ 5) : val l < 100000 :=
  Nat.lt_of_lt_of_le (val_lt l h) (Nat.pow_le_pow_right (by omega) h5)

theorem allDig_no (l : List UInt8) (k : Nat) (h : k < l.length) (hb : l[k].toNat < 48 ∨ 57 < l[k].toNat) : allDig l = false := by
  unfold allDig
  rw [List.all_eq_false]
  exact ⟨l[k], List.getElem_mem h, by simp; omega⟩
theorem digV_no {l : List UInt8} (h : okDig l = false) : digV l = 0 := by unfold digV; rw [h]; rfl
theorem digV_yes {l : List UInt8} (h : okDig l = true) : digV l = val l := by unfold digV; rw [h]; rfl
theorem headD_get (l : List UInt8) (h : 0 < l.length) : l.headD 0 = l[0] := by
  cases l with
  | nil => simp at h
  | cons a r => rfl
theorem digV_bd (l : List UInt8) : 0 ≤ digV l ∧ digV l ≤ 99999 := by
  cases h : okDig l
  · rw [digV_no h]; omega
  · rw [digV_yes h]
    simp only [okDig, Bool.and_eq_true, decide_eq_true_eq] at h
    have := val_lt5 l h.2 h.1.1.2
    omega

def neg (l : List UInt8) : Bool := l.headD 0 == 45
def dig (l : List UInt8) : List UInt8 := if neg l then l.tail else l
def rawV (l : List UInt8) : Int := if neg l then - digV (dig l) else digV (dig l)
def inNum (n : Int) : Bool := decide (-32768 ≤ n ∧ n ≤ 32767)
def numOk (l : List UInt8) : Bool := l == [48] || (okDig (dig l) && inNum (rawV l))
def numV (l : List UInt8) : Int := if l == [48] then 0 else if okDig (dig l) && inNum (rawV l) then rawV l else 0

theorem num_neg {l : List UInt8} {v : Int} {o : Bool} (hz : (l == [48]) = false) (hn : neg l = true) (hv : digV l.tail = v) (ho : okDig l.tail = o) :
    numOk l = (o && inNum (-v)) ∧ numV l = if o && inNum (-v) then -v else 0 := by
  have e1 : dig l = l.tail := by unfold dig; rw [hn]; rfl
  have e2 : rawV l = -v := by unfold rawV; rw [hn, e1, hv]; rfl
  unfold numOk numV
  rw [hz, e1, e2, ho]
  exact ⟨rfl, rfl⟩
theorem num_pos {l : List UInt8} {v : Int} {o : Bool} (hz : (l == [48]) = false) (hn : neg l = false) (hv : digV l = v) (ho : okDig l = o) :
    numOk l = (o && inNum v) ∧ numV l = if o && inNum v then v else 0 := by
  have e1 : dig l = l := by unfold dig; rw [hn]; rfl
  have e2 : rawV l = v := by unfold rawV; rw [hn, e1, hv]; rfl
  unfold numOk numV
  rw [hz, e1, e2, ho]
  exact ⟨rfl, rfl⟩
theorem inNum_yes {v : Int} (h : -32768 ≤ v) (h' : v ≤ 32767) : inNum v = true := decide_eq_true ⟨h, h'⟩
theorem inNum_no {v : Int} (h : v < -32768 ∨ 32767 < v) : inNum v = false := decide_eq_false (by omega)
theorem numV_bd (l : List UInt8) : -32768 ≤ numV l ∧ numV l ≤ 32767 := by
  unfold numV
  split
  · omega
  · split
    · rename_i h
      simp only [Bool.and_eq_true, inNum, decide_eq_true_eq] at h
      exact h.2
    · omega

/-! ### An argument, an operation -/
def argKey (l : List UInt8) : Bool := decide (l.length = 1) && isK (l.headD 0).toNat
def argOk (l : List UInt8) : Bool := argKey l || numOk l
def argK (l : List UInt8) : Int := if argKey l then keyV (l.headD 0).toNat else 0
def argN (l : List UInt8) : Int := if argKey l then 0 else numV l

theorem arg_no {l : List UInt8} (h : argKey l = false) : argOk l = numOk l ∧ argK l = 0 ∧ argN l = numV l := by
  unfold argOk argK argN; rw [h]; exact ⟨rfl, rfl, rfl⟩
theorem arg_yes {l : List UInt8} (h : argKey l = true) : argOk l = true ∧ argK l = keyV (l.headD 0).toNat ∧ argN l = 0 := by
  unfold argOk argK argN; rw [h]; exact ⟨rfl, rfl, rfl⟩
theorem argKey_of {l : List UInt8} {b : Bool} (h1 : l.length = 1) (hb : isK (l.headD 0).toNat = b) : argKey l = b := by
  unfold argKey; rw [decide_eq_true h1, hb]; rfl

structure Op where
  key : Int
  sign : Int
  isKey : Bool
  akey : Int
  num : Int

def zeroOp : Op := ⟨0, 0, false, 0, 0⟩
def opOk (l : List UInt8) : Bool := decide (3 ≤ l.length) && isK (l.headD 0).toNat && isSign ((l.drop 1).headD 0).toNat && argOk (l.drop 2)
def opV (l : List UInt8) : Op := ⟨keyV (l.headD 0).toNat, ((l.drop 1).headD 0).toNat, argKey (l.drop 2), argK (l.drop 2), argN (l.drop 2)⟩

theorem op_short {l : List UInt8} (h : l.length < 3) : opOk l = false := by
  unfold opOk; rw [decide_eq_false (by omega)]; rfl
theorem op_long {l : List UInt8} {a b c : Bool} (h : 3 ≤ l.length) (ha : isK (l.headD 0).toNat = a) (hb : isSign ((l.drop 1).headD 0).toNat = b) (hc : argOk (l.drop 2) = c) : opOk l = (a && b && c) := by
  unfold opOk; rw [decide_eq_true h, ha, hb, hc]; simp

/-! ### The keys -/
def rise (last : Int) : List UInt8 → Bool
  | [] => true
  | b :: r => isK b.toNat && decide (last < (b.toNat : Int) - 97) && rise ((b.toNat : Int) - 97) r
def hasKey (l : List UInt8) (j : Int) : Bool := l.any fun b => (b.toNat : Int) == 97 + j

theorem rise_drop_yes {l : List UInt8} {k : Nat} {last : Int} (h : k < l.length) (hk : isK l[k].toNat = true) (hl : last < (l[k].toNat : Int) - 97) :
    rise last (l.drop k) = rise ((l[k].toNat : Int) - 97) (l.drop (k + 1)) := by
  rw [List.drop_eq_getElem_cons h, rise, hk, decide_eq_true hl]; rfl
theorem rise_drop_no {l : List UInt8} {k : Nat} {last : Int} (h : k < l.length) (hk : isK l[k].toNat = false ∨ (l[k].toNat : Int) - 97 ≤ last) :
    rise last (l.drop k) = false := by
  rw [List.drop_eq_getElem_cons h, rise]
  rcases hk with hk | hk
  · rw [hk]; rfl
  · rw [decide_eq_false (by omega)]; simp
theorem hasKey_snoc (l : List UInt8) (b : UInt8) (j : Int) : hasKey (l ++ [b]) j = (hasKey l j || ((b.toNat : Int) == 97 + j)) := by simp [hasKey]

end Go.Proofs.YtccckonckddadabGreat.Dk
namespace Go.Proofs.YtccckonckddadabGreat.Dk

/-! ### A text, at each mark -/
def splitAll (m : Int) : List UInt8 → List (List UInt8)
  | [] => [[]]
  | b :: r => if (b.toNat : Int) = m then [] :: splitAll m r else (b :: (splitAll m r).headD []) :: (splitAll m r).tail

theorem splitAll_ne (m : Int) (l : List UInt8) : splitAll m l ≠ [] := by
  cases l with
  | nil => simp [splitAll]
  | cons b r => simp only [splitAll]; split <;> simp
theorem splitAll_pos (m : Int) (l : List UInt8) : 1 ≤ (splitAll m l).length := by
  have := splitAll_ne m l
  cases h : splitAll m l with
  | nil => exact absurd h this
  | cons a r => simp

theorem splitAll_cut (m : Int) (l : List UInt8) : splitAll m l = (cutAt m l).1 :: if (cutAt m l).2.2 then splitAll m (cutAt m l).2.1 else [] := by
  induction l with
  | nil => rfl
  | cons b r ih =>
    simp only [splitAll, cutAt]
    split
    · rfl
    · rw [ih]; rfl
theorem split_more {m : Int} {l : List UInt8} (h : (cutAt m l).2.2 = true) : splitAll m l = (cutAt m l).1 :: splitAll m (cutAt m l).2.1 := by
  rw [splitAll_cut, h]; rfl
theorem split_last {m : Int} {l : List UInt8} (h : (cutAt m l).2.2 = false) : splitAll m l = [(cutAt m l).1] := by
  rw [splitAll_cut, h]; rfl
theorem cut_len {m : Int} (l : List UInt8) : (cutAt m l).1.length + (cutAt m l).2.1.length ≤ l.length ∧ ((cutAt m l).2.2 = true → (cutAt m l).2.1.length < l.length) ∧ ((cutAt m l).2.2 = false → (cutAt m l).2.1 = []) := by
  induction l with
  | nil => simp [cutAt]
  | cons b r ih =>
    simp only [cutAt]
    split
    · simp
    · refine ⟨by simp; omega, fun h => by have := ih.2.1 h; simp; omega, fun h => ih.2.2 h⟩

/-! ### The operations -/
def opsOk (l : List UInt8) : Bool := decide ((splitAll 59 l).length ≤ 8) && (splitAll 59 l).all opOk
def opsV (l : List UInt8) : List Op := (splitAll 59 l).map opV

theorem ops_many {l r : List UInt8} {ds : List (List UInt8)} (h : splitAll 59 l = ds ++ splitAll 59 r) (h8 : ds.length = 8) : opsOk l = false := by
  unfold opsOk
  rw [decide_eq_false]
  · rfl
  · rw [h, List.length_append]; have := splitAll_pos 59 r; omega
theorem ops_bad {l : List UInt8} {ds rs : List (List UInt8)} {d : List UInt8} (h : splitAll 59 l = ds ++ (d :: rs)) (hd : opOk d = false) : opsOk l = false := by
  unfold opsOk
  rw [h]; simp [hd]
theorem ops_good {l : List UInt8} {ds : List (List UInt8)} (h : splitAll 59 l = ds) (h8 : ds.length ≤ 8) (hd : ds.all opOk = true) : opsOk l = true ∧ opsV l = ds.map opV := by
  unfold opsOk opsV
  rw [h, decide_eq_true h8, hd]; exact ⟨rfl, rfl⟩

end Go.Proofs.YtccckonckddadabGreat.Dk
namespace Go.Proofs.YtccckonckddadabGreat.Dk

/-! ### To do a transaction -/
def wrap16 (n : Int) : Int := (n + 32768) % 65536 - 32768
theorem wrap16_bd (n : Int) : -32768 ≤ wrap16 n ∧ wrap16 n ≤ 32767 := by unfold wrap16; omega

def decl (ks : List Bool) (k : Int) : Bool := decide (0 ≤ k ∧ k < 8) && ks.getD k.toNat false
def argVal (o : Op) (cs : List Int) : Int := if o.isKey && decide (0 ≤ o.akey ∧ o.akey < 8) then cs.getD o.akey.toNat 0 else o.num
def stepV (ks : List Bool) (o : Op) (cs : List Int) : List Int × Bool :=
  if !decl ks o.key then (cs, false)
  else if o.isKey && !decl ks o.akey then (cs, false)
  else if o.sign == 61 then (cs.set o.key.toNat (argVal o cs), true)
  else if o.sign == 43 then (cs.set o.key.toNat (wrap16 (cs.getD o.key.toNat 0 + argVal o cs)), true)
  else if o.sign == 45 then (cs.set o.key.toNat (wrap16 (cs.getD o.key.toNat 0 - argVal o cs)), true)
  else if o.sign == 42 then (cs.set o.key.toNat (wrap16 (cs.getD o.key.toNat 0 * argVal o cs)), true)
  else if o.sign == 60 then (cs, decide (cs.getD o.key.toNat 0 < argVal o cs))
  else if o.sign == 62 then (cs, decide (argVal o cs < cs.getD o.key.toNat 0))
  else if o.sign == 126 then (cs, cs.getD o.key.toNat 0 == argVal o cs)
  else (cs, true)

/-- What an operation comes to, once its keys are declared. -/
def signV (sg : Int) (j : Nat) (h v : Int) (cs : List Int) : List Int × Bool :=
  if sg == 61 then (cs.set j v, true)
  else if sg == 43 then (cs.set j (wrap16 (h + v)), true)
  else if sg == 45 then (cs.set j (wrap16 (h - v)), true)
  else if sg == 42 then (cs.set j (wrap16 (h * v)), true)
  else if sg == 60 then (cs, decide (h < v))
  else if sg == 62 then (cs, decide (v < h))
  else if sg == 126 then (cs, h == v)
  else (cs, true)
theorem stepV_go {ks : List Bool} {o : Op} {cs : List Int} (hk : decl ks o.key = true) (ha : o.isKey = true → decl ks o.akey = true) :
    stepV ks o cs = signV o.sign o.key.toNat (cs.getD o.key.toNat 0) (argVal o cs) cs := by
  unfold stepV signV
  rw [hk]
  have : (o.isKey && !decl ks o.akey) = false := by
    cases h : o.isKey
    · rfl
    · rw [ha h]; rfl
  rw [this]
  rfl
theorem stepV_key {ks : List Bool} {o : Op} {cs : List Int} (hk : decl ks o.key = false) : stepV ks o cs = (cs, false) := by
  unfold stepV; rw [hk]; rfl
theorem stepV_arg {ks : List Bool} {o : Op} {cs : List Int} (hk : decl ks o.key = true) (ha : o.isKey = true) (hd : decl ks o.akey = false) : stepV ks o cs = (cs, false) := by
  unfold stepV; rw [hk, ha, hd]; rfl
theorem argVal_key {o : Op} {cs : List Int} (h0 : 0 ≤ o.akey) (h8 : o.akey < 8) : argVal o cs = if o.isKey then cs.getD o.akey.toNat 0 else o.num := by
  unfold argVal; rw [decide_eq_true ⟨h0, h8⟩, Bool.and_true]

/-- The operations one behind the other: the cells behind them; none, if it is aborted. -/
def runV (ks : List Bool) : List Op → List Int → Option (List Int)
  | [], cs => some cs
  | o :: r, cs => if (stepV ks o cs).2 then runV ks r (stepV ks o cs).1 else none

end Go.Proofs.YtccckonckddadabGreat.Dk

namespace Go.Proofs.YtccckonckddadabGreat.Dk
/-! ### A transaction -/
def parseOk (l : List UInt8) : Bool := decide (l.length ≤ 60) && (cutAt 124 l).2.2 && rise (-1) (cutAt 124 l).1 && opsOk (cutAt 124 l).2.1
def keysOf (l : List UInt8) : List Bool := [0, 1, 2, 3, 4, 5, 6, 7].map (hasKey (cutAt 124 l).1)
def opsOf (l : List UInt8) : List Op := opsV (cutAt 124 l).2.1
theorem parse_long {l : List UInt8} (h : 60 < l.length) : parseOk l = false := by unfold parseOk; rw [decide_eq_false (by omega)]; rfl
theorem parse_at {l : List UInt8} {a b c : Bool} (h : l.length ≤ 60) (ha : (cutAt 124 l).2.2 = a) (hb : rise (-1) (cutAt 124 l).1 = b) (hc : opsOk (cutAt 124 l).2.1 = c) : parseOk l = (a && b && c) := by
  unfold parseOk; rw [decide_eq_true h, ha, hb, hc]; simp

/-- What Apply answers: the cells, whether it was done, the error's number. -/
def doV (l : List UInt8) (cs : List Int) : List Int × Bool :=
  match runV (keysOf l) (opsOf l) cs with
  | some cs' => (cs', true)
  | none => (cs, false)
def applyV (l : List UInt8) (cs : List Int) : List Int × Bool × Int :=
  if parseOk l then ((doV l cs).1, (doV l cs).2, 0) else (cs, false, 1)
end Go.Proofs.YtccckonckddadabGreat.Dk
namespace Go.Proofs.YtccckonckddadabGreat.Dk
theorem eight {cs : List Int} (h : cs.length = 8) : ∃ z0 z1 z2 z3 z4 z5 z6 z7, cs = [z0, z1, z2, z3, z4, z5, z6, z7] := by
  match cs, h with
  | [z0, z1, z2, z3, z4, z5, z6, z7], _ => exact ⟨_, _, _, _, _, _, _, _, rfl⟩
theorem stepV_len (ks : List Bool) (o : Op) (cs : List Int) : (stepV ks o cs).1.length = cs.length := by
  unfold stepV
  repeat' split
  all_goals simp
theorem stepV_8 (ks : List Bool) (o : Op) (y0 y1 y2 y3 y4 y5 y6 y7 : Int) : ∃ z0 z1 z2 z3 z4 z5 z6 z7 d, stepV ks o [y0, y1, y2, y3, y4, y5, y6, y7] = ([z0, z1, z2, z3, z4, z5, z6, z7], d) := by
  obtain ⟨z0, z1, z2, z3, z4, z5, z6, z7, h⟩ := eight (stepV_len ks o [y0, y1, y2, y3, y4, y5, y6, y7])
  exact ⟨z0, z1, z2, z3, z4, z5, z6, z7, (stepV ks o [y0, y1, y2, y3, y4, y5, y6, y7]).2, by rw [← h]⟩


theorem runV_drop_yes {ks : List Bool} {os : List Op} {cs cs' : List Int} {k : Nat} {o : Op} (h : os[k]? = some o) (hs : stepV ks o cs = (cs', true)) : runV ks (os.drop k) cs = runV ks (os.drop (k + 1)) cs' := by
  obtain ⟨hk, rfl⟩ := List.getElem?_eq_some_iff.1 h
  rw [List.drop_eq_getElem_cons hk, runV, hs]; rfl
theorem runV_drop_no {ks : List Bool} {os : List Op} {cs cs' : List Int} {k : Nat} {o : Op} (h : os[k]? = some o) (hs : stepV ks o cs = (cs', false)) : runV ks (os.drop k) cs = none := by
  obtain ⟨hk, rfl⟩ := List.getElem?_eq_some_iff.1 h
  rw [List.drop_eq_getElem_cons hk, runV, hs]; rfl
theorem runV_end {ks : List Bool} {os : List Op} {cs : List Int} {k : Nat} (h : os.length ≤ k) : runV ks (os.drop k) cs = some cs := by
  rw [List.drop_eq_nil_of_le h]; rfl

end Go.Proofs.YtccckonckddadabGreat.Dk

namespace Go.Proofs.YtccckonckddadabGreat.Dk
theorem argK_bd (l : List UInt8) : 0 ≤ argK l ∧ argK l < 8 := by
  unfold argK
  have := keyV_bd (l.headD 0).toNat
  split <;> omega
theorem opV_bd (l : List UInt8) : 0 ≤ (opV l).key ∧ (opV l).key < 8 ∧ 0 ≤ (opV l).akey ∧ (opV l).akey < 8 := by
  have h1 := keyV_bd (l.headD 0).toNat
  have h2 := argK_bd (l.drop 2)
  exact ⟨h1.1, by show keyV _ < 8; omega, h2.1, h2.2⟩
theorem opsOf_bd (l : List UInt8) : ∀ o ∈ opsOf l, 0 ≤ o.key ∧ o.key < 8 ∧ 0 ≤ o.akey ∧ o.akey < 8 := by
  intro o ho
  obtain ⟨p, _, rfl⟩ := List.mem_map.1 ho
  exact opV_bd p
theorem opsOf_len {l : List UInt8} (h : parseOk l = true) : (opsOf l).length ≤ 8 := by
  simp only [parseOk, opsOk, Bool.and_eq_true, decide_eq_true_eq] at h
  unfold opsOf opsV
  rw [List.length_map]
  exact h.2.1
theorem applyV_no {l : List UInt8} {cs : List Int} (h : parseOk l = false) : applyV l cs = (cs, false, 1) := by unfold applyV; rw [h]; rfl
theorem applyV_yes {l : List UInt8} {cs : List Int} (h : parseOk l = true) : applyV l cs = ((doV l cs).1, (doV l cs).2, 0) := by unfold applyV; rw [h]; rfl
end Go.Proofs.YtccckonckddadabGreat.Dk
namespace Go.Proofs.YtccckonckddadabGreat.Dk

theorem applyV_undone {l : List UInt8} {cs ys : List Int} {er : Int} (h : applyV l cs = (ys, false, er)) : ys = cs := by
  unfold applyV at h
  split at h
  · unfold doV at h
    cases hr : runV (keysOf l) (opsOf l) cs with
    | none => rw [hr] at h; simp at h; exact h.1.symm
    | some r => rw [hr] at h; simp at h
  · simp at h; exact h.1.symm
theorem applyV_done {l : List UInt8} {cs ys : List Int} {er : Int} (h : applyV l cs = (ys, true, er)) : er = 0 ∧ runV (keysOf l) (opsOf l) cs = some ys := by
  unfold applyV at h
  split at h
  · unfold doV at h
    cases hr : runV (keysOf l) (opsOf l) cs with
    | none => rw [hr] at h; simp at h
    | some r => rw [hr] at h; simp at h; exact ⟨h.2.symm, by rw [h.1]⟩
  · simp at h

theorem getD_set_ne (cs : List Int) (k j : Nat) (v : Int) (h : k ≠ j) : (cs.set k v).getD j 0 = cs.getD j 0 := by
  simp [List.getD_eq_getElem?_getD, List.getElem?_set_ne h]

theorem stepV_frame (ks : List Bool) (o : Op) (cs : List Int) (j : Nat) (h : (stepV ks o cs).1.getD j 0 ≠ cs.getD j 0) : ks.getD j false = true := by
  cases hd : decl ks o.key
  · rw [stepV_key hd] at h; exact absurd rfl h
  · by_cases hj : o.key.toNat = j
    · simp only [decl, Bool.and_eq_true] at hd
      rw [← hj]; exact hd.2
    · exfalso
      apply h
      unfold stepV
      repeat' split
      all_goals first | rfl | exact getD_set_ne _ _ _ _ hj

theorem runV_frame (ks : List Bool) (j : Nat) : ∀ (os : List Op) (cs ys : List Int), runV ks os cs = some ys → ys.getD j 0 ≠ cs.getD j 0 → ks.getD j false = true
  | [], cs, ys, h, hne => by simp [runV] at h; rw [h] at hne; exact absurd rfl hne
  | o :: r, cs, ys, h, hne => by
    rw [runV] at h
    split at h
    · by_cases e : (stepV ks o cs).1.getD j 0 = cs.getD j 0
      · exact runV_frame ks j r _ ys h (by rw [e]; exact hne)
      · exact stepV_frame ks o cs j e
    · cases h

theorem applyV_frame {l : List UInt8} {x0 x1 x2 x3 x4 x5 x6 x7 y0 y1 y2 y3 y4 y5 y6 y7 er : Int} (h : applyV l [x0, x1, x2, x3, x4, x5, x6, x7] = ([y0, y1, y2, y3, y4, y5, y6, y7], true, er)) (j : Nat) (hne : ([y0, y1, y2, y3, y4, y5, y6, y7] : List Int).getD j 0 ≠ ([x0, x1, x2, x3, x4, x5, x6, x7] : List Int).getD j 0) :
    (keysOf l).getD j false = true := runV_frame _ j _ _ _ (applyV_done h).2 hne

theorem applyV_len (l : List UInt8) (cs : List Int) : (applyV l cs).1.length = cs.length := by
  have run : ∀ (os : List Op) (ks : List Bool) (cs ys : List Int), runV ks os cs = some ys → ys.length = cs.length := by
    intro os
    induction os with
    | nil => intro ks cs ys h; simp [runV] at h; rw [h]
    | cons o r ih =>
      intro ks cs ys h
      rw [runV] at h
      split at h
      · rw [ih _ _ _ h, stepV_len]
      · cases h
  unfold applyV
  split
  · unfold doV
    cases hr : runV (keysOf l) (opsOf l) cs with
    | none => rfl
    | some r => exact run _ _ _ _ hr
  · rfl
theorem applyV_8 (l : List UInt8) (x0 x1 x2 x3 x4 x5 x6 x7 : Int) : ∃ y0 y1 y2 y3 y4 y5 y6 y7 d er, applyV l [x0, x1, x2, x3, x4, x5, x6, x7] = ([y0, y1, y2, y3, y4, y5, y6, y7], d, er) := by
  obtain ⟨y0, y1, y2, y3, y4, y5, y6, y7, h⟩ := eight (applyV_len l [x0, x1, x2, x3, x4, x5, x6, x7])
  exact ⟨y0, y1, y2, y3, y4, y5, y6, y7, (applyV l [x0, x1, x2, x3, x4, x5, x6, x7]).2.1, (applyV l [x0, x1, x2, x3, x4, x5, x6, x7]).2.2, by rw [← h]⟩

/-- The bytes ahead of the first bar. -/
theorem cut_at_bar {l : List UInt8} {k : Nat} (hn : ∀ j (_ : j < k) (hj' : j < l.length), (l[j].toNat : Int) ≠ 124) (h : l.length ≤ k ∨ ∃ hk : k < l.length, (l[k].toNat : Int) = 124) : (cutAt 124 l).1 = l.take k := by
  rcases h with h | ⟨hk, he⟩
  · rw [cutAt_none 124 l (fun j hj => hn j (by omega) hj), List.take_of_length_le h]
  · rw [cutAt_found 124 l k hk (fun j hj => hn j hj (by omega)) he]

end Go.Proofs.YtccckonckddadabGreat.Dk
