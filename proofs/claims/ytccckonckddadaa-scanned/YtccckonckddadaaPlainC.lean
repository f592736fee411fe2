import Derived.Test.YtccckonckddadaaPlainB
namespace Go.Proofs.Ytccckonckddadaa.Dk

/-! ### To do a transaction -/
def wrap16 (n : Int) : Int := (n + 32768) % 65536 - 32768
theorem wrap16_bd (n : Int) : -32768 ≤ wrap16 n ∧ wrap16 n ≤ 32767 := by unfold wrap16; omega

def decl (ks : List Bool) (k : Int) : Bool := decide (0 ≤ k ∧ k < 8) && ks.getD k.toNat false
def argVal (o : Op) (cs : List Int) : Int := if o.isKey && decide (0 ≤ o.akey ∧ o.akey < 8) then cs.getD o.akey.toNat 0 else o.num
def stepV (ks : List Bool) (o : Op) (cs : List Int) : List Int × Bool :=
  if !decl ks o.key then (cs, false)
  else if o.isKey && !decl ks o.akey then (cs, false)
  else if o.sign == 61 then (cs.set o.key.toNat (argVal o cs), true)
  else if o.sign == 43 then (cs.set o.key.toNat (wrap16 (cs.getD o.key.toNat 0 + argVal o cs)), true)
  else if o.sign == 45 then (cs.set o.key.toNat (wrap16 (cs.getD o.key.toNat 0 - argVal o cs)), true)
  else if o.sign == 42 then (cs.set o.key.toNat (wrap16 (cs.getD o.key.toNat 0 * argVal o cs)), true)
  else if o.sign == 60 then (cs, decide (cs.getD o.key.toNat 0 < argVal o cs))
  else if o.sign == 62 then (cs, decide (argVal o cs < cs.getD o.key.toNat 0))
  else if o.sign == 126 then (cs, cs.getD o.key.toNat 0 == argVal o cs)
  else (cs, true)

/-- What an operation comes to, once its keys are declared. -/
def signV (sg : Int) (j : Nat) (h v : Int) (cs : List Int) : List Int × Bool :=
  if sg == 61 then (cs.set j v, true)
  else if sg == 43 then (cs.set j (wrap16 (h + v)), true)
  else if sg == 45 then (cs.set j (wrap16 (h - v)), true)
  else if sg == 42 then (cs.set j (wrap16 (h * v)), true)
  else if sg == 60 then (cs, decide (h < v))
  else if sg == 62 then (cs, decide (v < h))
  else if sg == 126 then (cs, h == v)
  else (cs, true)
theorem stepV_go {ks : List Bool} {o : Op} {cs : List Int} (hk : decl ks o.key = true) (ha : o.isKey = true → decl ks o.akey = true) :
    stepV ks o cs = signV o.sign o.key.toNat (cs.getD o.key.toNat 0) (argVal o cs) cs := by
  unfold stepV signV
  rw [hk]
  have : (o.isKey && !decl ks o.akey) = false := by
    cases h : o.isKey
    · rfl
    · rw [ha h]; rfl
  rw [this]
  rfl
theorem stepV_key {ks : List Bool} {o : Op} {cs : List Int} (hk : decl ks o.key = false) : stepV ks o cs = (cs, false) := by
  unfold stepV; rw [hk]; rfl
theorem stepV_arg {ks : List Bool} {o : Op} {cs : List Int} (hk : decl ks o.key = true) (ha : o.isKey = true) (hd : decl ks o.akey = false) : stepV ks o cs = (cs, false) := by
  unfold stepV; rw [hk, ha, hd]; rfl
theorem argVal_key {o : Op} {cs : List Int} (h0 : 0 ≤ o.akey) (h8 : o.akey < 8) : argVal o cs = if o.isKey then cs.getD o.akey.toNat 0 else o.num := by
  unfold argVal; rw [decide_eq_true ⟨h0, h8⟩, Bool.and_true]

/-- The operations one behind the other: the cells behind them; none, if it is aborted. -/
def runV (ks : List Bool) : List Op → List Int → Option (List Int)
  | [], cs => some cs
  | o :: r, cs => if (stepV ks o cs).2 then runV ks r (stepV ks o cs).1 else none

end Go.Proofs.Ytccckonckddadaa.Dk

namespace Go.Proofs.Ytccckonckddadaa.Dk
/-! ### A transaction -/
def parseOk (l : List UInt8) : Bool := decide (l.length ≤ 60) && (cutAt 124 l).2.2 && rise (-1) (cutAt 124 l).1 && opsOk (cutAt 124 l).2.1
def keysOf (l : List UInt8) : List Bool := [0, 1, 2, 3, 4, 5, 6, 7].map (hasKey (cutAt 124 l).1)
def opsOf (l : List UInt8) : List Op := opsV (cutAt 124 l).2.1
theorem parse_long {l : List UInt8} (h : 60 < l.length) : parseOk l = false := by unfold parseOk; rw [decide_eq_false (by omega)]; rfl
theorem parse_at {l : List UInt8} {a b c : Bool} (h : l.length ≤ 60) (ha : (cutAt 124 l).2.2 = a) (hb : rise (-1) (cutAt 124 l).1 = b) (hc : opsOk (cutAt 124 l).2.1 = c) : parseOk l = (a && b && c) := by
  unfold parseOk; rw [decide_eq_true h, ha, hb, hc]; simp

/-- What Apply answers: the cells, whether it was done, the error's number. -/
def doV (l : List UInt8) (cs : List Int) : List Int × Bool :=
  match runV (keysOf l) (opsOf l) cs with
  | some cs' => (cs', true)
  | none => (cs, false)
def applyV (l : List UInt8) (cs : List Int) : List Int × Bool × Int :=
  if parseOk l then ((doV l cs).1, (doV l cs).2, 0) else (cs, false, 1)
end Go.Proofs.Ytccckonckddadaa.Dk
