import Derived.Test.YtccckonckddadabGreatJ02
namespace Go.Proofs.YtccckonckddadabGreat.Dk

/-! ### An epoch read by guessing -/
def recEnd (l : List UInt8) (p : Nat) : Nat := p + 6 + (l.getD (p + 5) 0).toNat
def recAt (l : List UInt8) (p : Nat) : Rec :=
  ⟨((l.getD p 0).toNat : Int), ((l.getD (p + 1) 0).toNat * 65536 + (l.getD (p + 2) 0).toNat * 256 + (l.getD (p + 3) 0).toNat : Nat), (((l.getD (p + 4) 0).toNat : Int) == 1), (l.take (recEnd l p)).drop (p + 6)⟩
def guessFrom (l : List UInt8) : Nat → Nat → List Rec
  | 0, _ => []
  | k + 1, p => if p + 6 ≤ l.length ∧ recEnd l p ≤ l.length then recAt l p :: guessFrom l k (recEnd l p) else []
def guessV (l : List UInt8) : List Rec := if l.length < 4 then [] else guessFrom l (l.getD 3 0).toNat 4

theorem guess_zero (l : List UInt8) (p : Nat) : guessFrom l 0 p = [] := rfl
theorem guess_stop {l : List UInt8} {p : Nat} (k : Nat) (h : l.length < p + 6 ∨ l.length < recEnd l p) : guessFrom l k p = [] := by
  cases k with
  | zero => rfl
  | succ k => rw [guessFrom, if_neg (by omega)]
theorem guess_go {l : List UInt8} {p : Nat} (k : Nat) (h : p + 6 ≤ l.length) (h' : recEnd l p ≤ l.length) : guessFrom l (k + 1) p = recAt l p :: guessFrom l k (recEnd l p) := by
  rw [guessFrom, if_pos ⟨h, h'⟩]

/-- How many epochs a log begins with, and how many bytes these are: from the n-th on, at p. -/
def scanFrom (l : List UInt8) : Nat → Nat → Nat → Nat × Nat
  | 0, n, p => (n, p)
  | k + 1, n, p =>
    if frameOk n (guessV (l.drop p)) && (decide ((epoch n (guessV (l.drop p))).length ≤ (l.drop p).length) && ((l.drop p).take (epoch n (guessV (l.drop p))).length == epoch n (guessV (l.drop p))))
    then scanFrom l k (n + 1) (p + (epoch n (guessV (l.drop p))).length) else (n, p)
def scanV (l : List UInt8) : Nat × Nat := scanFrom l 201 0 0

end Go.Proofs.YtccckonckddadabGreat.Dk
namespace Go.Proofs.YtccckonckddadabGreat.Dk

/-! ### Numbers in bytes, read -/
def numStep (n : Nat) (b : UInt8) : Nat := n * 256 + b.toNat
def num (l : List UInt8) : Nat := l.foldl numStep 0
theorem num_nil : num [] = 0 := rfl
theorem num_snoc (l : List UInt8) (b : UInt8) : num (l ++ [b]) = num l * 256 + b.toNat := by
  unfold num
  rw [List.foldl_append]; rfl
theorem num_two (a b : UInt8) : num [a, b] = a.toNat * 256 + b.toNat := by
  show (0 * 256 + a.toNat) * 256 + b.toNat = _
  omega
theorem num_three (a b c : UInt8) : num [a, b, c] = a.toNat * 65536 + b.toNat * 256 + c.toNat := by
  show ((0 * 256 + a.toNat) * 256 + b.toNat) * 256 + c.toNat = _
  omega
theorem num_four (a b c d : UInt8) : num [a, b, c, d] = a.toNat * 16777216 + b.toNat * 65536 + c.toNat * 256 + d.toNat := by
  show (((0 * 256 + a.toNat) * 256 + b.toNat) * 256 + c.toNat) * 256 + d.toNat = _
  omega

def b8 (n : Nat) : UInt8 := UInt8.ofNat (n % 256)
theorem b8_val (n : Nat) : (b8 n).toNat = n % 256 := by
  unfold b8
  rw [UInt8.toNat_ofNat']
  omega
theorem b8_self (b : UInt8) : b8 b.toNat = b := by
  have := b.toNat_lt
  apply UInt8.toNat_inj.1
  rw [b8_val]
  omega
theorem b8_eq {n : Nat} {b : UInt8} (h : n % 256 = b.toNat) : b8 n = b := by
  apply UInt8.toNat_inj.1
  rw [b8_val, h]
theorem be_one (n : Nat) : be n 1 = [b8 n] := rfl
theorem be_two (n : Nat) : be n 2 = [b8 (n / 256), b8 n] := rfl
theorem be_three (n : Nat) : be n 3 = [b8 (n / 256 / 256), b8 (n / 256), b8 n] := rfl
theorem be_four (n : Nat) : be n 4 = [b8 (n / 256 / 256 / 256), b8 (n / 256 / 256), b8 (n / 256), b8 n] := rfl
theorem num_be_two {n : Nat} (h : n < 65536) : num (be n 2) = n := by
  rw [be_two, num_two, b8_val, b8_val]; omega
theorem num_be_three {n : Nat} (h : n < 16777216) : num (be n 3) = n := by
  rw [be_three, num_three, b8_val, b8_val, b8_val]; omega
theorem num_be_four {n : Nat} (h : n < 4294967296) : num (be n 4) = n := by
  rw [be_four, num_four, b8_val, b8_val, b8_val, b8_val]; omega
theorem be_num_two (a b : UInt8) : be (num [a, b]) 2 = [a, b] := by
  have := a.toNat_lt
  have := b.toNat_lt
  rw [be_two, num_two, b8_eq (b := a) (by omega), b8_eq (b := b) (by omega)]
theorem be_num_three (a b c : UInt8) : be (num [a, b, c]) 3 = [a, b, c] := by
  have := a.toNat_lt
  have := b.toNat_lt
  have := c.toNat_lt
  rw [be_three, num_three, b8_eq (b := a) (by omega), b8_eq (b := b) (by omega), b8_eq (b := c) (by omega)]
theorem be_num_four (a b c d : UInt8) : be (num [a, b, c, d]) 4 = [a, b, c, d] := by
  have := a.toNat_lt
  have := b.toNat_lt
  have := c.toNat_lt
  have := d.toNat_lt
  rw [be_four, num_four, b8_eq (b := a) (by omega), b8_eq (b := b) (by omega), b8_eq (b := c) (by omega), b8_eq (b := d) (by omega)]

/-! ### A record, read -/
def recLen (l : List UInt8) : Nat := 6 + (l.getD 5 0).toNat
def recFront (l : List UInt8) : Rec := ⟨((l.getD 0 0).toNat : Int), (num ((l.take 4).drop 1) : Nat), (((l.getD 4 0).toNat : Int) == 1), (l.take (recLen l)).drop 6⟩
def readRec (l : List UInt8) : Option (Rec × List UInt8) :=
  if l.length < 6 then none else if 1 < (l.getD 4 0).toNat then none else if l.length < recLen l then none else some (recFront l, l.drop (recLen l))

theorem recBytes_eq (r : Rec) : recBytes r = b8 r.client.toNat :: b8 (r.id.toNat / 256 / 256) :: b8 (r.id.toNat / 256) :: b8 r.id.toNat :: b8 (if r.late then 1 else 0) :: b8 r.text.length :: r.text := rfl

theorem six {l : List UInt8} (h : 6 ≤ l.length) : ∃ a b c d e f t, l = a :: b :: c :: d :: e :: f :: t := by
  match l, h with
  | a :: b :: c :: d :: e :: f :: t, _ => exact ⟨a, b, c, d, e, f, t, rfl⟩

theorem readRec_some {l b : List UInt8} {r : Rec} (h : readRec l = some (r, b)) : l = recBytes r ++ b := by
  unfold readRec at h
  split at h
  · cases h
  · rename_i h6
    obtain ⟨x0, x1, x2, x3, x4, x5, t, rfl⟩ := six (l := l) (by omega)
    split at h
    · cases h
    · rename_i h4
      split at h
      · cases h
      · rename_i hl
        have h4' : ¬ 1 < x4.toNat := h4
        have e5 : recLen (x0 :: x1 :: x2 :: x3 :: x4 :: x5 :: t) = 6 + x5.toNat := rfl
        rw [e5] at hl
        have hl' : ¬ t.length + 6 < 6 + x5.toNat := by simpa using hl
        rw [Option.some.injEq, Prod.mk.injEq] at h
        obtain ⟨rfl, rfl⟩ := h
        rw [recBytes_eq]
        unfold recFront
        rw [e5]
        have ht : ((x0 :: x1 :: x2 :: x3 :: x4 :: x5 :: t).take (6 + x5.toNat)).drop 6 = t.take x5.toNat := by
          rw [Nat.add_comm]; rfl
        have hd : (x0 :: x1 :: x2 :: x3 :: x4 :: x5 :: t).drop (6 + x5.toNat) = t.drop x5.toNat := by
          rw [Nat.add_comm]; rfl
        rw [ht, hd]
        have hn : num (((x0 :: x1 :: x2 :: x3 :: x4 :: x5 :: t).take 4).drop 1) = num [x1, x2, x3] := rfl
        have hb := be_num_three x1 x2 x3
        rw [be_three] at hb
        simp only [List.cons.injEq, and_true] at hb
        have h0 : ((x0 :: x1 :: x2 :: x3 :: x4 :: x5 :: t).getD 0 0) = x0 := rfl
        have h4e : ((x0 :: x1 :: x2 :: x3 :: x4 :: x5 :: t).getD 4 0) = x4 := rfl
        simp only [hn, h0, h4e, Int.toNat_natCast, hb.1, hb.2.1, hb.2.2, b8_self]
        have hl5 := x5.toNat_lt
        rw [List.length_take, Nat.min_eq_left (by omega), b8_self]
        have hx : b8 (if ((x4.toNat : Int) == 1) = true then 1 else 0) = x4 := by
          apply b8_eq
          by_cases h1 : x4.toNat = 1
          · rw [h1]; rfl
          · have h1' : x4.toNat = 0 := by omega
            rw [h1']; rfl
        rw [hx]
        simp

theorem recOk_parts {r : Rec} (h : recOk r = true) : 0 ≤ r.client ∧ r.client < 8 ∧ 0 ≤ r.id ∧ r.id ≤ 999999 ∧ r.text.length ≤ 60 := by
  unfold recOk at h
  rw [Bool.and_eq_true, Bool.and_eq_true, decide_eq_true_eq, decide_eq_true_eq] at h
  obtain ⟨⟨h1, h2⟩, h3⟩ := h
  refine ⟨h2.1, h2.2, h3.1, h3.2, ?_⟩
  cases hl : r.late
  · rw [hl] at h1
    have h4 : parseOk r.text = true := h1
    unfold parseOk at h4
    rw [Bool.and_eq_true, Bool.and_eq_true, Bool.and_eq_true, decide_eq_true_eq] at h4
    exact h4.1.1.1
  · rw [hl] at h1
    have : r.text = [] := eq_of_beq h1
    rw [this]; simp

theorem front_of {r : Rec} (b : List UInt8) (h : recOk r = true) : recLen (recBytes r ++ b) = 6 + r.text.length ∧ recFront (recBytes r ++ b) = r ∧ (recBytes r ++ b).drop (6 + r.text.length) = b ∧ ((recBytes r ++ b).getD 4 0).toNat ≤ 1 := by
  obtain ⟨h1, h2, h3, h4, h5⟩ := recOk_parts h
  have hL : recLen (recBytes r ++ b) = 6 + r.text.length := by
    rw [recBytes_eq]
    show 6 + (b8 r.text.length).toNat = _
    rw [b8_val]; omega
  have hd : (recBytes r ++ b).drop (6 + r.text.length) = b := by
    rw [recBytes_eq, Nat.add_comm]
    show (r.text ++ b).drop r.text.length = b
    simp
  refine ⟨hL, ?_, hd, ?_⟩
  · unfold recFront
    rw [hL]
    have hn : num (((recBytes r ++ b).take 4).drop 1) = r.id.toNat := by
      rw [recBytes_eq]
      show num [_, _, _] = _
      rw [num_three, b8_val, b8_val, b8_val]; omega
    have ht : ((recBytes r ++ b).take (6 + r.text.length)).drop 6 = r.text := by
      rw [recBytes_eq, Nat.add_comm]
      show (r.text ++ b).take r.text.length = r.text
      simp
    have hc : ((recBytes r ++ b).getD 0 0).toNat = r.client.toNat := by
      rw [recBytes_eq]
      show (b8 r.client.toNat).toNat = _
      rw [b8_val]; omega
    have he : ((((recBytes r ++ b).getD 4 0).toNat : Int) == 1) = r.late := by
      rw [recBytes_eq]
      show (((b8 (if r.late then 1 else 0)).toNat : Int) == 1) = _
      rw [b8_val]
      cases r.late <;> rfl
    rw [hn, ht, hc, he]
    cases r
    simp only at *
    rw [Int.toNat_of_nonneg h1, Int.toNat_of_nonneg h3]
  · rw [recBytes_eq]
    show (b8 (if r.late then 1 else 0)).toNat ≤ 1
    rw [b8_val]
    cases r.late <;> decide

theorem recBytes_len (r : Rec) : (recBytes r).length = 6 + r.text.length := by rw [recBytes_eq]; simp; omega

theorem readRec_of {r : Rec} (b : List UInt8) (h : recOk r = true) : readRec (recBytes r ++ b) = some (r, b) := by
  obtain ⟨h1, h2, h3, h4⟩ := front_of b h
  have hl : (recBytes r ++ b).length = 6 + r.text.length + b.length := by rw [List.length_append, recBytes_len]
  unfold readRec
  rw [if_neg (by omega), if_neg (by omega), h1, if_neg (by omega), h2, h3]

/-! ### Records, read -/
def readRecs : Nat → List UInt8 → Option (List Rec × List UInt8)
  | 0, l => some ([], l)
  | k + 1, l => match readRec l with
    | none => none
    | some (r, b) => match readRecs k b with
      | none => none
      | some (rs, c) => some (r :: rs, c)

theorem readRecs_some : ∀ {k : Nat} {l c : List UInt8} {rs : List Rec}, readRecs k l = some (rs, c) → l = rs.flatMap recBytes ++ c ∧ rs.length = k
  | 0, l, c, rs, h => by
    rw [readRecs, Option.some.injEq, Prod.mk.injEq] at h
    obtain ⟨rfl, rfl⟩ := h
    exact ⟨rfl, rfl⟩
  | k + 1, l, c, rs, h => by
    rw [readRecs] at h
    split at h
    · cases h
    · rename_i r b hr
      split at h
      · cases h
      · rename_i rs' c' hrs
        rw [Option.some.injEq, Prod.mk.injEq] at h
        obtain ⟨rfl, rfl⟩ := h
        obtain ⟨h1, h2⟩ := readRecs_some hrs
        refine ⟨?_, by simp [h2]⟩
        rw [readRec_some hr, h1, List.flatMap_cons, List.append_assoc]
theorem readRecs_of : ∀ {rs : List Rec} (c : List UInt8), rs.all recOk = true → readRecs rs.length (rs.flatMap recBytes ++ c) = some (rs, c)
  | [], c, _ => rfl
  | r :: rs, c, h => by
    rw [List.all_cons, Bool.and_eq_true] at h
    rw [List.length_cons, readRecs, List.flatMap_cons, List.append_assoc, readRec_of _ h.1]
    simp only
    rw [readRecs_of c h.2]

/-! ### What a sum seals -/
def sealEnd (l : List UInt8) : Nat := 2 + num (l.take 2)
def unsealV (l : List UInt8) : Option (List UInt8 × List UInt8) :=
  if l.length < 2 then none else if l.length < sealEnd l + 4 then none
  else if num ((l.take (sealEnd l + 4)).drop (sealEnd l)) = sumV ((l.take (sealEnd l)).drop 2) then some ((l.take (sealEnd l)).drop 2, l.drop (sealEnd l + 4)) else none
def sealV (p : List UInt8) : List UInt8 := be p.length 2 ++ p ++ be (sumV p) 4

theorem four {l : List UInt8} (h : l.length = 4) : ∃ a b c d, l = [a, b, c, d] := by
  match l, h with
  | [a, b, c, d], _ => exact ⟨a, b, c, d, rfl⟩
theorem two {l : List UInt8} (h : 2 ≤ l.length) : ∃ a b t, l = a :: b :: t := by
  match l, h with
  | a :: b :: t, _ => exact ⟨a, b, t, rfl⟩

theorem unseal_some {l p b : List UInt8} (h : unsealV l = some (p, b)) : l = sealV p ++ b ∧ p.length < 65536 := by
  unfold unsealV at h
  split at h
  · cases h
  · rename_i h2
    obtain ⟨x, y, t, rfl⟩ := two (l := l) (by omega)
    have hE : sealEnd (x :: y :: t) = num [x, y] + 2 := by unfold sealEnd; rw [Nat.add_comm]; rfl
    have hx := x.toNat_lt
    have hy := y.toNat_lt
    have hq := num_two x y
    have hb := be_num_two x y
    generalize num [x, y] = q at *
    split at h
    · cases h
    · rename_i hl
      rw [hE] at hl
      have hl' : ¬ t.length + 2 < q + 2 + 4 := by simpa using hl
      split at h
      · rename_i hs
        rw [Option.some.injEq, Prod.mk.injEq] at h
        obtain ⟨rfl, rfl⟩ := h
        rw [hE] at hs ⊢
        have e1 : ((x :: y :: t).take (q + 2)).drop 2 = t.take q := rfl
        have e2 : ((x :: y :: t).take (q + 2 + 4)).drop (q + 2) = (t.take (q + 4)).drop q := by
          rw [show q + 2 + 4 = q + 4 + 2 from by omega]; rfl
        have e3 : (x :: y :: t).drop (q + 2 + 4) = t.drop (q + 4) := by
          rw [show q + 2 + 4 = q + 4 + 2 from by omega]; rfl
        rw [e1, e2] at hs
        rw [e1, e3]
        have hlen : (t.take q).length = q := by rw [List.length_take]; omega
        have hl4 : ((t.take (q + 4)).drop q).length = 4 := by rw [List.length_drop, List.length_take]; omega
        refine ⟨?_, by rw [hlen]; omega⟩
        unfold sealV
        rw [hlen, hb, ← hs]
        obtain ⟨a, b, c, d, h4⟩ := four hl4
        rw [h4, be_num_four, ← h4]
        have e4 : t.take q ++ (t.take (q + 4)).drop q ++ t.drop (q + 4) = t := by
          have e5 : t.take q = (t.take (q + 4)).take q := by rw [List.take_take, Nat.min_eq_left (by omega)]
          rw [e5, List.take_append_drop, List.take_append_drop]
        show x :: y :: t = x :: y :: (t.take q ++ (t.take (q + 4)).drop q ++ t.drop (q + 4))
        rw [e4]
      · cases h

theorem sealV_len (p : List UInt8) : (sealV p).length = 2 + p.length + 4 := by
  unfold sealV
  simp only [List.length_append, be_len]

theorem unseal_of {p : List UInt8} (b : List UInt8) (h : p.length < 65536) : unsealV (sealV p ++ b) = some (p, b) := by
  have hl : (sealV p ++ b).length = 2 + p.length + 4 + b.length := by rw [List.length_append, sealV_len]
  have hs : sealV p ++ b = b8 (p.length / 256) :: b8 p.length :: (p ++ be (sumV p) 4 ++ b) := rfl
  have hE : sealEnd (sealV p ++ b) = p.length + 2 := by
    unfold sealEnd
    rw [hs]
    show 2 + num [_, _] = _
    rw [num_two, b8_val, b8_val]; omega
  unfold unsealV
  rw [if_neg (by omega), hE, if_neg (by omega)]
  have e1 : ((sealV p ++ b).take (p.length + 2)).drop 2 = p := by
    rw [hs]
    show (p ++ be (sumV p) 4 ++ b).take p.length = p
    rw [List.append_assoc]; simp
  have e2 : ((sealV p ++ b).take (p.length + 2 + 4)).drop (p.length + 2) = be (sumV p) 4 := by
    rw [hs]
    show ((p ++ be (sumV p) 4 ++ b).take (p.length + 4)).drop p.length = _
    have : (p ++ be (sumV p) 4).length = p.length + 4 := by rw [List.length_append, be_len]
    rw [← this, List.take_left]; simp
  have e3 : (sealV p ++ b).drop (p.length + 2 + 4) = b := by
    have : p.length + 2 + 4 = (sealV p).length := by rw [sealV_len]; omega
    rw [this]; simp
  rw [e1, e2, e3, num_be_four (sumV_lt p), if_pos rfl]

/-! ### An epoch, read -/
def readV (n : Nat) (l : List UInt8) : Option (List Rec × List UInt8) :=
  match unsealV l with
  | none => none
  | some (p, b) => if p.length < 2 ∨ (p.getD 0 0).toNat ≠ n then none else
    match readRecs (p.getD 1 0).toNat (p.drop 2) with
    | none => none
    | some (rs, c) => if c = [] ∧ frameOk n rs = true then some (rs, b) else none

theorem epoch_eq (n : Nat) (rs : List Rec) : epoch n rs = sealV (payload n rs) := rfl
theorem payload_eq (n : Nat) (rs : List Rec) : payload n rs = b8 n :: b8 rs.length :: rs.flatMap recBytes := rfl

theorem frame_parts {n : Int} {rs : List Rec} (h : frameOk n rs = true) : 0 ≤ n ∧ n < 200 ∧ rs.length ≤ 64 ∧ rs.all recOk = true := by
  unfold frameOk at h
  rw [Bool.and_eq_true, Bool.and_eq_true, decide_eq_true_eq, decide_eq_true_eq] at h
  exact ⟨h.1.1.1, h.1.1.2, h.1.2, h.2⟩
theorem flat_len : ∀ {rs : List Rec}, rs.all recOk = true → (rs.flatMap recBytes).length ≤ 66 * rs.length
  | [], _ => by simp
  | r :: rs, h => by
    rw [List.all_cons, Bool.and_eq_true] at h
    have h1 := recOk_parts h.1
    have h2 := flat_len h.2
    rw [List.flatMap_cons, List.length_append, List.length_cons, recBytes_len]
    omega
theorem payload_len (n : Nat) (rs : List Rec) : (payload n rs).length = 2 + (rs.flatMap recBytes).length := by
  rw [payload_eq]; simp; omega

theorem read_some {n : Nat} {l b : List UInt8} {rs : List Rec} (h : readV n l = some (rs, b)) : frameOk n rs = true ∧ l = epoch n rs ++ b := by
  unfold readV at h
  split at h
  · cases h
  · rename_i p b' hu
    split at h
    · cases h
    · rename_i hp
      split at h
      · cases h
      · rename_i rs' c hr
        split at h
        · rename_i hc
          rw [Option.some.injEq, Prod.mk.injEq] at h
          obtain ⟨rfl, rfl⟩ := h
          obtain ⟨rfl, hf⟩ := hc
          refine ⟨hf, ?_⟩
          obtain ⟨h1, h2⟩ := unseal_some hu
          obtain ⟨h3, h4⟩ := readRecs_some hr
          rw [h1, epoch_eq, payload_eq]
          obtain ⟨x, y, t, rfl⟩ := two (l := p) (by omega)
          have hx : x.toNat = n := by
            have : ¬ (x.toNat ≠ n) := fun hh => hp (.inr hh)
            omega
          have hy : rs'.length = y.toNat := h4
          have ht : t = rs'.flatMap recBytes := by
            have : t = rs'.flatMap recBytes ++ [] := h3
            simpa using this
          rw [← hx, hy, b8_self, b8_self, ← ht]
        · cases h

theorem read_of {n : Nat} {rs : List Rec} (b : List UInt8) (h : frameOk n rs = true) : readV n (epoch n rs ++ b) = some (rs, b) := by
  obtain ⟨h1, h2, h3, h4⟩ := frame_parts h
  have hl := flat_len h4
  have hp := payload_len n rs
  unfold readV
  rw [epoch_eq, unseal_of b (by omega)]
  simp only
  have e0 : ((payload n rs).getD 0 0).toNat = n := by
    rw [payload_eq]
    show (b8 n).toNat = n
    rw [b8_val]; omega
  have e1 : ((payload n rs).getD 1 0).toNat = rs.length := by
    rw [payload_eq]
    show (b8 rs.length).toNat = _
    rw [b8_val]; omega
  have e2 : (payload n rs).drop 2 = rs.flatMap recBytes ++ [] := by rw [payload_eq]; simp
  rw [if_neg (by omega), e1, e2, readRecs_of [] h4]
  simp only
  rw [if_pos ⟨trivial, h⟩]

theorem getD_drop (l : List UInt8) (p j : Nat) : l.getD (p + j) 0 = (l.drop p).getD j 0 := by
  rw [List.getD_eq_getElem?_getD, List.getD_eq_getElem?_getD, List.getElem?_drop]

theorem recEnd_drop (l : List UInt8) (p : Nat) : recEnd l p = p + recLen (l.drop p) := by
  unfold recEnd recLen
  rw [getD_drop]; omega
theorem recAt_drop {l : List UInt8} {p : Nat} (h : p + 6 ≤ l.length) : recAt l p = recFront (l.drop p) := by
  unfold recAt recFront
  rw [recEnd_drop, show l.getD p 0 = (l.drop p).getD 0 0 from getD_drop l p 0, getD_drop l p 1, getD_drop l p 2, getD_drop l p 3, getD_drop l p 4]
  have e1 : (l.take (p + recLen (l.drop p))).drop (p + 6) = ((l.drop p).take (recLen (l.drop p))).drop 6 := by
    rw [← List.drop_drop, List.drop_take]
    simp
  rw [e1]
  obtain ⟨x0, x1, x2, x3, x4, x5, t, ht⟩ := six (l := l.drop p) (by rw [List.length_drop]; omega)
  rw [ht]
  have hn : num (((x0 :: x1 :: x2 :: x3 :: x4 :: x5 :: t).take 4).drop 1) = num [x1, x2, x3] := rfl
  rw [hn, num_three]
  rfl

theorem guess_recs (l c : List UInt8) : ∀ (rs : List Rec) (p : Nat), rs.all recOk = true → p ≤ l.length → l.drop p = rs.flatMap recBytes ++ c → guessFrom l rs.length p = rs
  | [], _, _, _, _ => rfl
  | r :: rs, p, h, hp, he => by
    rw [List.all_cons, Bool.and_eq_true] at h
    rw [List.flatMap_cons, List.append_assoc] at he
    obtain ⟨h1, h2, h3, h4⟩ := front_of (rs.flatMap recBytes ++ c) h.1
    have hl := congrArg List.length he
    rw [List.length_drop, List.length_append, recBytes_len] at hl
    rw [← he] at h1 h2
    have hE := recEnd_drop l p
    rw [h1] at hE
    rw [List.length_cons, guess_go _ (by omega) (by omega), recAt_drop (by omega), h2, hE, guess_recs l c rs _ h.2 (by omega) ?_]
    rw [← List.drop_drop, he, h3]

theorem guess_epoch {n : Nat} {rs : List Rec} (b : List UInt8) (h : frameOk n rs = true) : guessV (epoch n rs ++ b) = rs := by
  obtain ⟨h1, h2, h3, h4⟩ := frame_parts h
  have he : epoch n rs ++ b = b8 ((payload n rs).length / 256) :: b8 (payload n rs).length :: b8 n :: b8 rs.length :: (rs.flatMap recBytes ++ (be (sumV (payload n rs)) 4 ++ b)) := by
    have h0 : payload n rs ++ be (sumV (payload n rs)) 4 ++ b = b8 n :: b8 rs.length :: (rs.flatMap recBytes ++ (be (sumV (payload n rs)) 4 ++ b)) := by
      rw [List.append_assoc]; rfl
    rw [← h0]; rfl
  unfold guessV
  rw [he, if_neg (by simp)]
  have e3 : (List.getD (b8 ((payload n rs).length / 256) :: b8 (payload n rs).length :: b8 n :: b8 rs.length :: (rs.flatMap recBytes ++ (be (sumV (payload n rs)) 4 ++ b))) 3 0).toNat = rs.length := by
    show (b8 rs.length).toNat = _
    rw [b8_val]; omega
  rw [e3]
  exact guess_recs _ (be (sumV (payload n rs)) 4 ++ b) rs 4 h4 (by simp) rfl

/-! ### Scan, read -/
def starts (l t : List UInt8) : Bool := decide (t.length ≤ l.length) && (l.take t.length == t)
theorem starts_iff (l t : List UInt8) : starts l t = true ↔ ∃ b, l = t ++ b := by
  unfold starts
  rw [Bool.and_eq_true, decide_eq_true_eq]
  constructor
  · rintro ⟨_, h⟩
    exact ⟨l.drop t.length, by have := List.take_append_drop t.length l; rw [eq_of_beq h] at this; exact this.symm⟩
  · rintro ⟨b, rfl⟩
    exact ⟨by simp, by simp⟩

theorem scan_read_some {l b : List UInt8} {rs : List Rec} {k n p : Nat} (h : readV n (l.drop p) = some (rs, b)) : scanFrom l (k + 1) n p = scanFrom l k (n + 1) (p + (epoch n rs).length) ∧ b = l.drop (p + (epoch n rs).length) := by
  obtain ⟨hf, he⟩ := read_some h
  have hg : guessV (l.drop p) = rs := by rw [he]; exact guess_epoch b hf
  constructor
  · have hs := (starts_iff (l.drop p) (epoch n rs)).2 ⟨b, he⟩
    unfold starts at hs
    rw [scanFrom, hg, hf, hs]; rfl
  · rw [← List.drop_drop, he]; simp
theorem scan_read_none {l : List UInt8} {k n p : Nat} (h : readV n (l.drop p) = none) : scanFrom l k n p = (n, p) := by
  cases k with
  | zero => rfl
  | succ k =>
    rw [scanFrom]
    cases hf : frameOk n (guessV (l.drop p))
    · rfl
    · cases hs : starts (l.drop p) (epoch n (guessV (l.drop p)))
      · unfold starts at hs
        rw [hs]; rfl
      · obtain ⟨b, hb⟩ := (starts_iff _ _).1 hs
        have := read_of b hf
        rw [← hb, h] at this
        cases this
theorem read_high {n : Nat} (h : 200 ≤ n) (l : List UInt8) : readV n l = none := by
  cases hr : readV n l with
  | none => rfl
  | some x =>
    obtain ⟨hf, _⟩ := read_some (rs := x.1) (b := x.2) hr
    have := (frame_parts hf).2.1
    omega
theorem epoch_pos (n : Nat) (rs : List Rec) : 8 ≤ (epoch n rs).length := by
  rw [epoch_eq, sealV_len, payload_len]; omega

end Go.Proofs.YtccckonckddadabGreat.Dk
namespace Go.Proofs.YtccckonckddadabGreat.Dk

/-! ### Epochs one behind the other -/
def logFrom : Nat → List (List Rec) → List UInt8
  | _, [] => []
  | n, rs :: es => epoch n rs ++ logFrom (n + 1) es
theorem logFrom_snoc (rs : List Rec) : ∀ (es : List (List Rec)) (n : Nat), logFrom n (es ++ [rs]) = logFrom n es ++ epoch (n + es.length) rs
  | [], n => by simp [logFrom]
  | x :: es, n => by
    show epoch n x ++ logFrom (n + 1) (es ++ [rs]) = epoch n x ++ logFrom (n + 1) es ++ _
    rw [logFrom_snoc rs es (n + 1), List.append_assoc, List.length_cons, show n + 1 + es.length = n + (es.length + 1) from by omega]
theorem logFrom_append : ∀ (es fs : List (List Rec)) (n : Nat), logFrom n (es ++ fs) = logFrom n es ++ logFrom (n + es.length) fs
  | [], fs, n => by simp [logFrom]
  | x :: es, fs, n => by
    show epoch n x ++ logFrom (n + 1) (es ++ fs) = epoch n x ++ logFrom (n + 1) es ++ _
    rw [logFrom_append es fs (n + 1), List.append_assoc, List.length_cons, show n + 1 + es.length = n + (es.length + 1) from by omega]

/-- Epochs that may be written, from the n-th on. -/
def Sound (n : Nat) (es : List (List Rec)) : Prop := ∀ i rs, es[i]? = some rs → frameOk ((n + i : Nat) : Int) rs = true

theorem read_nil (n : Nat) : readV n [] = none := by
  cases hr : readV n [] with
  | none => rfl
  | some x =>
    have h := congrArg List.length (read_some (rs := x.1) (b := x.2) hr).2
    have := epoch_pos n x.1
    rw [List.length_append] at h
    simp at h
    omega
theorem read_zeros (n : Nat) (t : List UInt8) : readV n (0 :: 0 :: t) = none := by
  cases hr : readV n (0 :: 0 :: t) with
  | none => rfl
  | some x =>
    obtain ⟨hf, h⟩ := read_some (rs := x.1) (b := x.2) hr
    obtain ⟨_, _, h3, h4⟩ := frame_parts hf
    have hl := flat_len h4
    have hp := payload_len n x.1
    have he : epoch n x.1 ++ x.2 = b8 ((payload n x.1).length / 256) :: b8 (payload n x.1).length :: (payload n x.1 ++ be (sumV (payload n x.1)) 4 ++ x.2) := rfl
    rw [he, List.cons.injEq, List.cons.injEq] at h
    have e1 := congrArg UInt8.toNat h.1
    have e2 := congrArg UInt8.toNat h.2.1
    rw [b8_val] at e1 e2
    have z : (0 : UInt8).toNat = 0 := rfl
    omega
theorem read_short {n : Nat} {rs : List Rec} (hf : frameOk n rs = true) {j : Nat} (hj : j < (epoch n rs).length) : readV n ((epoch n rs).take j) = none := by
  cases hr : readV n ((epoch n rs).take j) with
  | none => rfl
  | some x =>
    obtain ⟨hf', h⟩ := read_some (rs := x.1) (b := x.2) hr
    have h1 : epoch n rs = epoch n x.1 ++ (x.2 ++ (epoch n rs).drop j) := by
      rw [← List.append_assoc, ← h, List.take_append_drop]
    have g1 := guess_epoch [] hf
    rw [List.append_nil] at g1
    have g2 := guess_epoch (x.2 ++ (epoch n rs).drop j) hf'
    rw [← h1, g1] at g2
    have h2 := congrArg List.length h
    rw [List.length_take, List.length_append, ← g2] at h2
    omega

theorem scanFrom_log (l r : List UInt8) : ∀ (es : List (List Rec)) (n p k : Nat), Sound n es → l.drop p = logFrom n es ++ r → readV (n + es.length) r = none → es.length ≤ k →
    scanFrom l k n p = (n + es.length, p + (logFrom n es).length)
  | [], n, p, k, _, hd, hr, _ => by
    have hd' : l.drop p = r := hd
    have hr' : readV n r = none := hr
    rw [scan_read_none (by rw [hd']; exact hr')]
    rfl
  | rs :: es, n, p, k, hs, hd, hr, hk => by
    obtain ⟨k, rfl⟩ : ∃ j, k = j + 1 := ⟨k - 1, by simp at hk; omega⟩
    have hf : frameOk n rs = true := hs 0 rs rfl
    have hd' : l.drop p = epoch n rs ++ (logFrom (n + 1) es ++ r) := by rw [hd]; show epoch n rs ++ logFrom (n + 1) es ++ r = _; rw [List.append_assoc]
    have hrd := read_of (logFrom (n + 1) es ++ r) hf
    rw [← hd'] at hrd
    obtain ⟨h1, h2⟩ := scan_read_some (k := k) hrd
    rw [h1, scanFrom_log l r es (n + 1) (p + (epoch n rs).length) k ?_ h2.symm ?_ (by simpa using hk)]
    · show _ = (n + (es.length + 1), p + (epoch n rs ++ logFrom (n + 1) es).length)
      rw [List.length_append, show n + 1 + es.length = n + (es.length + 1) from by omega, Nat.add_assoc p]
    · intro i x hx
      have := hs (i + 1) x (by simpa using hx)
      rw [show n + 1 + i = n + (i + 1) from by omega]
      exact this
    · rw [show n + 1 + es.length = n + (rs :: es).length from by simp; omega]
      exact hr

theorem scan_log {es : List (List Rec)} (r : List UInt8) (hs : Sound 0 es) (hn : es.length ≤ 200) (hr : readV es.length r = none) : scanV (logFrom 0 es ++ r) = (es.length, (logFrom 0 es).length) := by
  unfold scanV
  rw [scanFrom_log (logFrom 0 es ++ r) r es 0 0 201 hs rfl (by rw [Nat.zero_add]; exact hr) (by omega), Nat.zero_add, Nat.zero_add]

theorem sound_take {n : Nat} {es : List (List Rec)} (h : Sound n es) (k : Nat) : Sound n (es.take k) := by
  intro i rs hi
  rw [List.getElem?_take] at hi
  split at hi
  · exact h i rs hi
  · cases hi

/-- A front of the bytes: just the epochs that are in it as a whole. -/
theorem scan_front {es : List (List Rec)} (hs : Sound 0 es) (hn : es.length ≤ 200) {at' k : Nat} (hk : k ≤ es.length) (h1 : (logFrom 0 (es.take k)).length ≤ at') (h2 : k < es.length → at' < (logFrom 0 (es.take (k + 1))).length) :
    scanV ((logFrom 0 es).take at') = (k, (logFrom 0 (es.take k)).length) := by
  have hlk : (es.take k).length = k := by rw [List.length_take]; omega
  by_cases hlt : k < es.length
  · have h2' := h2 hlt
    have hes : es = es.take k ++ es[k] :: es.drop (k + 1) := by rw [← List.drop_eq_getElem_cons hlt, List.take_append_drop]
    have e1 : logFrom 0 es = logFrom 0 (es.take k) ++ (epoch k es[k] ++ logFrom (k + 1) (es.drop (k + 1))) := by
      conv => lhs; rw [hes]
      rw [logFrom_append, hlk, Nat.zero_add]
      rfl
    have e2 : (logFrom 0 (es.take (k + 1))).length = (logFrom 0 (es.take k)).length + (epoch k es[k]).length := by
      rw [List.take_succ_eq_append_getElem hlt, logFrom_snoc, hlk, Nat.zero_add, List.length_append]
    have e3 : (logFrom 0 es).take at' = logFrom 0 (es.take k) ++ (epoch k es[k]).take (at' - (logFrom 0 (es.take k)).length) := by
      rw [e1, List.take_append, List.take_of_length_le h1, List.take_append_of_le_length (by omega)]
    have hf : frameOk (k : Int) es[k] = true := by
      have := hs k es[k] (List.getElem?_eq_getElem hlt)
      rw [Nat.zero_add] at this
      exact this
    rw [e3]
    have := scan_log (es := es.take k) ((epoch k es[k]).take (at' - (logFrom 0 (es.take k)).length)) (sound_take hs k) (by omega) (by rw [hlk]; exact read_short hf (by omega))
    rw [hlk] at this
    exact this
  · have hke : es.take k = es := List.take_of_length_le (by omega)
    rw [hke] at h1 ⊢
    have : (logFrom 0 es).take at' = logFrom 0 es ++ [] := by rw [List.take_of_length_le h1, List.append_nil]
    rw [this, scan_log [] hs hn (read_nil _)]
    congr 1
    omega

theorem scan_empty : scanV [0, 2, 0, 0, 17, 118, 151, 205] = (1, 8) := by
  have h := scan_log (es := [[]]) [] (fun i rs hi => by
    have : i = 0 ∧ rs = [] := by
      cases i with
      | zero => exact ⟨rfl, by simpa using hi.symm⟩
      | succ j => simp at hi
    rw [this.1, this.2]; decide) (by decide) (read_nil _)
  have e : logFrom 0 [[]] ++ [] = [0, 2, 0, 0, 17, 118, 151, 205] := by decide
  rw [e] at h
  rw [h]
  have e2 : (logFrom 0 [[]]).length = 8 := by decide
  rw [e2]; rfl

theorem log_mono (es : List (List Rec)) (i : Nat) : (logFrom 0 (es.take i)).length ≤ (logFrom 0 (es.take (i + 1))).length := by
  by_cases hi : i < es.length
  · rw [List.take_succ_eq_append_getElem hi, logFrom_snoc, List.length_append]; omega
  · rw [List.take_of_length_le (by omega), List.take_of_length_le (by omega)]; exact Nat.le_refl _

end Go.Proofs.YtccckonckddadabGreat.Dk
