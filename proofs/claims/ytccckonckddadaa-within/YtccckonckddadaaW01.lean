import Derived.Test.YtccckonckddadaaJ30
import Derived.Test.YtccckonckddadaaJ26
namespace Go.Proofs.Ytccckonckddadaa
set_option linter.unusedVariables false

/-! ### Ahead of Within: what Fill does to one client's queue -/
theorem accV_put_same {p : SeqV} {i : Nat} {a : AccV} (h : i < p.accs.length) : accV (putA p i a) i = a := by
  unfold accV putA
  rw [List.getD_eq_getElem?_getD, List.getElem?_set_self h]; rfl
theorem accV_put_ne {p : SeqV} {i j : Nat} {a : AccV} (h : i ≠ j) : accV (putA p i a) j = accV p j := by
  unfold accV putA
  rw [List.getD_eq_getElem?_getD, List.getD_eq_getElem?_getD, List.getElem?_set_ne h]
theorem putA_len (p : SeqV) (i : Nat) (a : AccV) : (putA p i a).accs.length = p.accs.length := List.length_set

theorem pLate_at : ∀ (r i : Nat) (p : SeqV) (l : List RecV) (c : Nat), i + r ≤ p.accs.length → accV (pLateFrom r i p l).1 c = if i ≤ c ∧ c < i + r then lateA (accV p c) p.epochs else accV p c
  | 0, i, p, l, c, h => by rw [if_neg (by omega)]; rfl
  | r + 1, i, p, l, c, h => by
    rw [pLate_step, pLate_at r (i + 1) _ _ c (by rw [putA_len]; omega)]
    by_cases hc : i = c
    · subst hc
      rw [if_neg (by omega), accV_put_same (by omega), if_pos (by omega)]
    · rw [accV_put_ne hc]
      by_cases h2 : i + 1 ≤ c ∧ c < i + 1 + r
      · rw [if_pos h2, if_pos (by omega)]; rfl
      · rw [if_neg h2, if_neg (by omega)]

/-- Who comes j-th behind f. -/
def turn (n f j : Nat) : Nat := if f + j < n then f + j else f + j - n
theorem turn_behind {n f j : Nat} (hf : f < n) (hj : j < n) : behindV n (turn n f j) = turn n f (j + 1) := by
  unfold behindV turn
  split <;> split <;> split <;> omega
theorem turn_inj {n f i j : Nat} (hf : f < n) (hi : i < n) (hj : j < n) (h : turn n f i = turn n f j) : i = j := by
  unfold turn at h
  split at h <;> split at h <;> omega
theorem turn_all {n f c : Nat} (hf : f < n) (hc : c < n) : ∃ j, j < n ∧ turn n f j = c := by
  by_cases h : f ≤ c
  · exact ⟨c - f, by omega, by unfold turn; rw [if_pos (by omega)]; omega⟩
  · exact ⟨c + n - f, by omega, by unfold turn; rw [if_neg (by omega)]; omega⟩

theorem pVisit_at (n f : Nat) (hf : f < n) : ∀ (r j : Nat) (p : SeqV) (room : Int) (l : List RecV) (c : Nat), p.accs.length = n → j + r ≤ n → c < n →
    (∀ k, j ≤ k → k < j + r → turn n f k ≠ c) → accV (pVisitFrom r (turn n f j) p room l).1 c = accV p c
  | 0, j, p, room, l, c, hn, hj, hc, h => rfl
  | r + 1, j, p, room, l, c, hn, hj, hc, h => by
    rw [pVisit_step, hn, turn_behind hf (by omega), pVisit_at n f hf r (j + 1) _ _ _ c (by rw [putA_len]; exact hn) (by omega) hc (fun k h1 h2 => h k (by omega) (by omega)), accV_put_ne (h j (Nat.le_refl _) (by omega))]

theorem pVisit_on (n f : Nat) (hf : f < n) : ∀ (r j : Nat) (p : SeqV) (room : Int) (l : List RecV) (c : Nat), p.accs.length = n → j + r ≤ n → c < n →
    (∃ k, j ≤ k ∧ k < j + r ∧ turn n f k = c) → ∃ ro, accV (pVisitFrom r (turn n f j) p room l).1 c = visitA (accV p c) p.quantum ro ∧ (turn n f j = c → ro = room)
  | 0, j, p, room, l, c, hn, hj, hc, ⟨k, h1, h2, _⟩ => by omega
  | r + 1, j, p, room, l, c, hn, hj, hc, ⟨k, h1, h2, h3⟩ => by
    by_cases hjc : turn n f j = c
    · refine ⟨room, ?_, fun _ => rfl⟩
      rw [pVisit_step, hn, turn_behind hf (by omega), pVisit_at n f hf r (j + 1) _ _ _ c (by rw [putA_len]; exact hn) (by omega) hc (fun k' h1' h2' e => by
        have := turn_inj hf (by omega) (by omega) (e.trans hjc.symm)
        omega)]
      subst hjc
      rw [accV_put_same (by rw [hn]; exact hc)]
    · have hkj : k ≠ j := fun e => hjc (by rw [← e]; exact h3)
      obtain ⟨ro, e1, _⟩ := pVisit_on n f hf r (j + 1) (putA p (turn n f j) (visitA (accV p (turn n f j)) p.quantum room)) (room - costs (visitL (accV p (turn n f j)) p.quantum room)) (l ++ (visitL (accV p (turn n f j)) p.quantum room).map (textRec (turn n f j))) c (by rw [putA_len]; exact hn) (by omega) hc ⟨k, by omega, by omega, h3⟩
      refine ⟨ro, ?_, fun e => absurd e hjc⟩
      rw [pVisit_step, hn, turn_behind hf (by omega), e1, accV_put_ne hjc]
      rfl

theorem pLate_quantum : ∀ (r i : Nat) (p : SeqV) (l : List RecV), (pLateFrom r i p l).1.quantum = p.quantum
  | 0, i, p, l => rfl
  | r + 1, i, p, l => by rw [pLate_step]; exact pLate_quantum r (i + 1) _ _
theorem accV_settleV (p : SeqV) (l : List RecV) (c : Nat) : accV (settleV p l) c = accV p c := accV_settle p l c

/-- What Fill does to a client's account. -/
theorem fill_acc {p : SeqV} (hf : p.first < p.accs.length) (he : p.epochs < 200) {c : Nat} (hc : c < p.accs.length) :
    ∃ ro, accV (pFillV p).1 c = visitA (lateA (accV p c) p.epochs) p.quantum ro ∧ (p.first = c → ro = p.room) := by
  have hn := (pLate_same p.accs.length 0 p []).1
  obtain ⟨j, hj, hjc⟩ := turn_all hf hc
  obtain ⟨ro, e1, e2⟩ := pVisit_on p.accs.length p.first hf p.accs.length 0 (lateP p).1 p.room [] c hn (by omega) hc ⟨j, by omega, by omega, hjc⟩
  have ht0 : turn p.accs.length p.first 0 = p.first := by unfold turn; rw [if_pos (by omega)]; rfl
  rw [ht0] at e1 e2
  refine ⟨ro, ?_, e2⟩
  rw [pFillV_go he]
  have h1 : accV (lateP p).1 c = lateA (accV p c) p.epochs := by
    show accV (pLateFrom p.accs.length 0 p []).1 c = _
    rw [pLate_at p.accs.length 0 p [] c (by omega), if_pos (by omega)]
  have hq : (lateP p).1.quantum = p.quantum := pLate_quantum p.accs.length 0 p []
  show accV (settleV (visF p) (rsOf p)) c = _
  rw [accV_settleV]
  show accV (visP p).1 c = _
  rw [← h1, ← hq]
  exact e1

end Go.Proofs.Ytccckonckddadaa
namespace Go.Proofs.Ytccckonckddadaa
set_option linter.unusedVariables false

/-! ### Ahead of Within: how long a front waits -/
def kOf (q : List WaitV) (cr qt : Int) : Nat := match q with | [] => 0 | x :: _ => (x.c - cr - qt).toNat
def dOf (n f c : Nat) : Nat := if f ≤ c then c - f else c + n - f
def rOf (q : List WaitV) (cr qt : Int) (n f c : Nat) : Nat := if kOf q cr qt = 0 then dOf n f c + 1 else kOf q cr qt + n

theorem dOf_lt {n f c : Nat} (hf : f < n) (hc : c < n) : dOf n f c < n := by unfold dOf; split <;> omega
theorem dOf_behind {n f c : Nat} (hf : f < n) (hc : c < n) (h : f ≠ c) : dOf n (behindV n f) c + 1 = dOf n f c := by
  unfold dOf behindV
  split <;> split <;> split <;> omega
theorem kOf_le {q : List WaitV} {cr qt : Int} (hc : ∀ x ∈ q, 0 ≤ x.c ∧ x.c ≤ 8) (h0 : 0 ≤ cr) (h1 : 1 ≤ qt) : kOf q cr qt ≤ 7 := by
  cases q with
  | nil => exact Nat.zero_le _
  | cons x q =>
    have := hc x (by simp)
    show (x.c - cr - qt).toNat ≤ 7
    omega
theorem rOf_le {q : List WaitV} {cr qt : Int} {n f c : Nat} (hq : ∀ x ∈ q, 0 ≤ x.c ∧ x.c ≤ 8) (h0 : 0 ≤ cr) (h1 : 1 ≤ qt) (hf : f < n) (hc : c < n) : 1 ≤ rOf q cr qt n f c ∧ rOf q cr qt n f c ≤ 7 + n := by
  have h2 := kOf_le hq h0 h1
  have h3 := dOf_lt hf hc
  unfold rOf
  split <;> omega

/-- One Fill: the one that is looked for leaves, or comes nearer. -/
theorem near_step {a : AccV} {qt ro e : Int} {pre post : List WaitV} {x0 : WaitV} {n f c : Nat} (hq : a.q = pre ++ x0 :: post) (hx : ¬ x0.d < e) (hfit : ∀ x ∈ a.q, 0 ≤ x.c ∧ x.c ≤ 8) (h0 : 0 ≤ a.cr) (h1 : 1 ≤ qt) (hf : f < n) (hc : c < n) (hro : f = c → 8 ≤ ro) :
    x0 ∈ visitL (lateA a e) qt ro ∨ ∃ pre' post', (visitA (lateA a e) qt ro).q = pre' ++ x0 :: post' ∧ (pre'.length < pre.length ∨ pre'.length = pre.length ∧ rOf (visitA (lateA a e) qt ro).q (visitA (lateA a e) qt ro).cr qt n (behindV n f) c < rOf a.q a.cr qt n f c) := by
  have hl0 : isLate e x0 = false := by unfold isLate; exact decide_eq_false hx
  have hq1 : (lateA a e).q = pre.filter (fun x => !isLate e x) ++ x0 :: post.filter (fun x => !isLate e x) := by
    show a.q.filter _ = _
    rw [hq, List.filter_append, List.filter_cons_of_pos (by rw [hl0]; rfl)]
  have hcr1 : (lateA a e).cr = a.cr := rfl
  have hpl : (pre.filter (fun x => !isLate e x)).length ≤ pre.length := List.length_filter_le _ _
  obtain ⟨t, ht⟩ : ∃ t, takeN (lateA a e).q (given (lateA a e) qt) ro = t := ⟨_, rfl⟩
  have hg : given (lateA a e) qt = a.cr + qt := by
    unfold given
    rw [if_neg (by rw [hq1]; simp), hcr1]
  by_cases htl : (pre.filter (fun x => !isLate e x)).length < t
  · refine .inl ?_
    show x0 ∈ (lateA a e).q.take (takeN (lateA a e).q (given (lateA a e) qt) ro)
    rw [ht, hq1, List.take_append]
    refine List.mem_append_right _ ?_
    obtain ⟨u, hu⟩ : ∃ u, t - (pre.filter (fun x => !isLate e x)).length = u + 1 := ⟨t - (pre.filter (fun x => !isLate e x)).length - 1, by omega⟩
    rw [hu, List.take_succ_cons]
    exact List.mem_cons_self
  · refine .inr ⟨(pre.filter (fun x => !isLate e x)).drop t, post.filter (fun x => !isLate e x), ?_, ?_⟩
    · show (lateA a e).q.drop (takeN (lateA a e).q (given (lateA a e) qt) ro) = _
      rw [ht, hq1, List.drop_append_of_le_length (by omega)]
    · by_cases hlt : ((pre.filter (fun x => !isLate e x)).drop t).length < pre.length
      · exact .inl hlt
      · rw [List.length_drop] at hlt
        have ht0 : t = 0 := by
          by_cases hp0 : pre.length = 0
          · omega
          · omega
        have hpe : (pre.filter (fun x => !isLate e x)).length = pre.length := by omega
        have hpp : pre.filter (fun x => !isLate e x) = pre := List.filter_eq_self.2 (List.length_filter_eq_length_iff.1 hpe)
        refine .inr ⟨by rw [List.length_drop]; omega, ?_⟩
        -- the front stays
        have hqd : (visitA (lateA a e) qt ro).q = pre ++ x0 :: post.filter (fun x => !isLate e x) := by
          show (lateA a e).q.drop (takeN (lateA a e).q (given (lateA a e) qt) ro) = _
          rw [ht, ht0, List.drop_zero, hq1, hpp]
        have hcd : (visitA (lateA a e) qt ro).cr = a.cr + qt := by
          show (if (lateA a e).q.drop (takeN (lateA a e).q (given (lateA a e) qt) ro) = [] then (0 : Int) else given (lateA a e) qt - costs ((lateA a e).q.take (takeN (lateA a e).q (given (lateA a e) qt) ro))) = _
          rw [ht, ht0, List.drop_zero, if_neg (by rw [hq1]; simp), List.take_zero, hg]
          show a.cr + qt - 0 = _
          omega
        obtain ⟨y, r1, r2, e1, e2⟩ : ∃ y r1 r2, a.q = y :: r1 ∧ pre ++ x0 :: post.filter (fun x => !isLate e x) = y :: r2 := by
          rw [hq]
          cases pre with
          | nil => exact ⟨x0, _, _, rfl, rfl⟩
          | cons y pre => exact ⟨y, _, _, rfl, rfl⟩
        have hy := hfit y (by rw [e1]; simp)
        have hno : ¬ (y.c ≤ a.cr + qt ∧ y.c ≤ ro) := fun hh => by
          have h5 := ht
          rw [ht0, hg, hq1, hpp, e2, takeN, if_pos hh] at h5
          omega
        rw [hqd, hcd, e2, e1]
        have hdl := dOf_lt (n := n) (f := behindV n f) (c := c) (by unfold behindV; split <;> omega) hc
        show (if (y.c - (a.cr + qt) - qt).toNat = 0 then dOf n (behindV n f) c + 1 else (y.c - (a.cr + qt) - qt).toNat + n) < (if (y.c - a.cr - qt).toNat = 0 then dOf n f c + 1 else (y.c - a.cr - qt).toNat + n)
        by_cases hk : (y.c - a.cr - qt).toNat = 0
        · have hfc : f ≠ c := fun e => by
            have := hro e
            exact hno ⟨by omega, by omega⟩
          have := dOf_behind hf hc hfc
          rw [if_pos hk, if_pos (by omega)]
          omega
        · rw [if_neg hk]
          split <;> omega

end Go.Proofs.Ytccckonckddadaa
namespace Go.Proofs.Ytccckonckddadaa
set_option linter.unusedVariables false

/-! ### Ahead of Within: within so many epochs -/
theorem pVisit_mem : ∀ (r i : Nat) (p : SeqV) (room : Int) (l : List RecV) (x : RecV), x ∈ l → x ∈ (pVisitFrom r i p room l).2
  | 0, i, p, room, l, x, h => h
  | r + 1, i, p, room, l, x, h => by
    rw [pVisit_step]
    exact pVisit_mem r _ _ _ _ x (List.mem_append_left _ h)

theorem pVisit_on2 (n f : Nat) (hf : f < n) : ∀ (r j : Nat) (p : SeqV) (room : Int) (l : List RecV) (c : Nat), p.accs.length = n → j + r ≤ n → c < n →
    (∃ k, j ≤ k ∧ k < j + r ∧ turn n f k = c) → ∃ ro, accV (pVisitFrom r (turn n f j) p room l).1 c = visitA (accV p c) p.quantum ro ∧ (turn n f j = c → ro = room) ∧ ∀ x ∈ visitL (accV p c) p.quantum ro, textRec c x ∈ (pVisitFrom r (turn n f j) p room l).2
  | 0, j, p, room, l, c, hn, hj, hc, ⟨k, h1, h2, _⟩ => by omega
  | r + 1, j, p, room, l, c, hn, hj, hc, ⟨k, h1, h2, h3⟩ => by
    by_cases hjc : turn n f j = c
    · refine ⟨room, ?_, fun _ => rfl, fun x hx => ?_⟩
      · rw [pVisit_step, hn, turn_behind hf (by omega), pVisit_at n f hf r (j + 1) _ _ _ c (by rw [putA_len]; exact hn) (by omega) hc (fun k' h1' h2' e => by
          have := turn_inj hf (by omega) (by omega) (e.trans hjc.symm)
          omega)]
        subst hjc
        rw [accV_put_same (by rw [hn]; exact hc)]
      · rw [pVisit_step]
        refine pVisit_mem r _ _ _ _ _ (List.mem_append_right _ ?_)
        subst hjc
        exact List.mem_map.2 ⟨x, hx, rfl⟩
    · have hkj : k ≠ j := fun e => hjc (by rw [← e]; exact h3)
      obtain ⟨ro, e1, _, e3⟩ := pVisit_on2 n f hf r (j + 1) (putA p (turn n f j) (visitA (accV p (turn n f j)) p.quantum room)) (room - costs (visitL (accV p (turn n f j)) p.quantum room)) (l ++ (visitL (accV p (turn n f j)) p.quantum room).map (textRec (turn n f j))) c (by rw [putA_len]; exact hn) (by omega) hc ⟨k, by omega, by omega, h3⟩
      rw [accV_put_ne hjc] at e1 e3
      refine ⟨ro, ?_, fun e => absurd e hjc, fun x hx => ?_⟩
      · rw [pVisit_step, hn, turn_behind hf (by omega), e1]
        rfl
      · rw [pVisit_step, hn, turn_behind hf (by omega)]
        exact e3 x hx

theorem fill_acc2 {p : SeqV} (hf : p.first < p.accs.length) (he : p.epochs < 200) {c : Nat} (hc : c < p.accs.length) :
    ∃ ro, accV (pFillV p).1 c = visitA (lateA (accV p c) p.epochs) p.quantum ro ∧ (p.first = c → ro = p.room) ∧ ∀ x ∈ visitL (lateA (accV p c) p.epochs) p.quantum ro, textRec c x ∈ rsOf p := by
  have hn := (pLate_same p.accs.length 0 p []).1
  obtain ⟨j, hj, hjc⟩ := turn_all hf hc
  obtain ⟨ro, e1, e2, e3⟩ := pVisit_on2 p.accs.length p.first hf p.accs.length 0 (lateP p).1 p.room [] c hn (by omega) hc ⟨j, by omega, by omega, hjc⟩
  have ht0 : turn p.accs.length p.first 0 = p.first := by unfold turn; rw [if_pos (by omega)]; rfl
  rw [ht0] at e1 e2 e3
  have h1 : accV (lateP p).1 c = lateA (accV p c) p.epochs := by
    show accV (pLateFrom p.accs.length 0 p []).1 c = _
    rw [pLate_at p.accs.length 0 p [] c (by omega), if_pos (by omega)]
  have hq : (lateP p).1.quantum = p.quantum := pLate_quantum p.accs.length 0 p []
  rw [h1, hq] at e3
  refine ⟨ro, ?_, e2, fun x hx => List.mem_append_right _ (e3 x hx)⟩
  rw [pFillV_go he]
  show accV (settleV (visF p) (rsOf p)) c = _
  rw [accV_settleV]
  show accV (visP p).1 c = _
  rw [← h1, ← hq]
  exact e1

theorem take_costs_cr : ∀ (q : List WaitV) (cr room : Int), (∀ x ∈ q, 0 ≤ x.c) → 0 ≤ cr → costs (q.take (takeN q cr room)) ≤ cr
  | [], cr, room, _, h1 => h1
  | x :: q, cr, room, h, h1 => by
    rw [takeN]
    split
    · rename_i hc
      have := take_costs_cr q (cr - x.c) (room - x.c) (fun y hy => h y (by simp [hy])) (by omega)
      rw [List.take_succ_cons, costs_cons]
      omega
    · exact h1

/-- x0 waits in client c's queue, and goes within b epochs more. -/
structure NearAt (p : SeqV) (c : Nat) (x0 : WaitV) (b : Nat) : Prop where
  lt : c < p.accs.length
  q : ∃ pre post, (accV p c).q = pre ++ x0 :: post ∧ pre.length * (8 + p.accs.length) + rOf (accV p c).q (accV p c).cr p.quantum p.accs.length p.first c ≤ b

theorem pVisit_quantum : ∀ (r i : Nat) (p : SeqV) (room : Int) (l : List RecV), (pVisitFrom r i p room l).1.quantum = p.quantum
  | 0, i, p, room, l => rfl
  | r + 1, i, p, room, l => by rw [pVisit_step]; exact pVisit_quantum r _ _ _ _
theorem fill_lens {p : SeqV} (he : p.epochs < 200) : (pFillV p).1.accs.length = p.accs.length ∧ (pFillV p).1.quantum = p.quantum ∧ (pFillV p).1.first = behindV p.accs.length p.first := by
  rw [pFillV_go he]
  refine ⟨?_, ?_, ?_⟩
  · show (settleV (visF p) (rsOf p)).accs.length = _
    rw [(settle_accs _ _).1]
    exact (pVisit_same p.accs.length p.first (lateP p).1 p.room []).1.trans (pLate_same p.accs.length 0 p []).1
  · show (settleV (visF p) (rsOf p)).quantum = _
    rw [(settle_accs _ _).2.2.1]
    exact (pVisit_quantum p.accs.length p.first (lateP p).1 p.room []).trans (pLate_quantum p.accs.length 0 p [])
  · show (settleV (visF p) (rsOf p)).first = _
    rw [(settle_accs _ _).2.2.2.1]
    rfl

/-- One epoch: it is among the records, or one epoch nearer. -/
theorem near_fill {p : SeqV} {c : Nat} {x0 : WaitV} {b : Nat} (h : NearAt p c x0 b) (hfit : SeqFit p) (he : p.epochs < 200) (hx : ¬ x0.d < (p.epochs : Int)) : textRec c x0 ∈ rsOf p ∨ ∃ b', b' < b ∧ NearAt (pFillV p).1 c x0 b' := by
  obtain ⟨ro, e1, e2, e3⟩ := fill_acc2 hfit.first he h.lt
  obtain ⟨pre, post, hq, hb⟩ := h.q
  obtain ⟨hfa, _⟩ := hfit.at h.lt
  obtain ⟨l1, l2, l3⟩ := fill_lens he
  have hro : p.first = c → 8 ≤ ro := fun e => by rw [e2 e]; exact hfit.ro.1
  rcases near_step (qt := p.quantum) (ro := ro) (e := (p.epochs : Int)) (n := p.accs.length) (f := p.first) (c := c) hq hx (acc_costs hfa) hfa.2.1 hfit.qt.1 hfit.first h.lt hro with h1 | ⟨pre', post', h2, h3⟩
  · exact .inl (e3 x0 h1)
  · right
    have hR := (rOf_le (n := p.accs.length) (f := p.first) (c := c) (acc_costs hfa) hfa.2.1 hfit.qt.1 hfit.first h.lt).1
    have hfit' : AccFit (lateA (accV p c) p.epochs) := fit_late hfa p.epochs
    have hqf : ∀ x ∈ (visitA (lateA (accV p c) p.epochs) p.quantum ro).q, 0 ≤ x.c ∧ x.c ≤ 8 := fun x hx => acc_costs hfit' x (List.mem_of_mem_drop hx)
    have hbl : behindV p.accs.length p.first < p.accs.length := by have := h.lt; unfold behindV; split <;> omega
    have hcr0 : 0 ≤ (visitA (lateA (accV p c) p.epochs) p.quantum ro).cr := by
      show 0 ≤ (if (lateA (accV p c) p.epochs).q.drop (takeN (lateA (accV p c) p.epochs).q (given (lateA (accV p c) p.epochs) p.quantum) ro) = [] then (0 : Int) else given (lateA (accV p c) p.epochs) p.quantum - costs ((lateA (accV p c) p.epochs).q.take (takeN (lateA (accV p c) p.epochs).q (given (lateA (accV p c) p.epochs) p.quantum) ro)))
      have hg0 : 0 ≤ given (lateA (accV p c) p.epochs) p.quantum := by
        have := hfit.qt.1
        have := hfit'.2.1
        unfold given
        split <;> omega
      have := take_costs_cr (lateA (accV p c) p.epochs).q (given (lateA (accV p c) p.epochs) p.quantum) ro (fun x hx => (acc_costs hfit' x hx).1) hg0
      split <;> omega
    have hR' := (rOf_le (n := p.accs.length) (f := behindV p.accs.length p.first) (c := c) hqf hcr0 hfit.qt.1 hbl h.lt).2
    refine ⟨pre'.length * (8 + p.accs.length) + rOf (visitA (lateA (accV p c) p.epochs) p.quantum ro).q (visitA (lateA (accV p c) p.epochs) p.quantum ro).cr p.quantum p.accs.length (behindV p.accs.length p.first) c, ?_, by rw [l1]; exact h.lt, pre', post', by rw [e1]; exact h2, by rw [e1, l1, l2, l3]; exact Nat.le_refl _⟩
    rcases h3 with h3 | ⟨h3, h4⟩
    · have hm : (pre'.length + 1) * (8 + p.accs.length) ≤ pre.length * (8 + p.accs.length) := Nat.mul_le_mul_right _ h3
      rw [Nat.succ_mul] at hm
      omega
    · rw [h3]; omega
theorem near_pos {p : SeqV} {c : Nat} {x0 : WaitV} {b : Nat} (h : NearAt p c x0 b) : 1 ≤ b := by
  obtain ⟨pre, post, hq, hb⟩ := h.q
  have : 1 ≤ rOf (accV p c).q (accV p c).cr p.quantum p.accs.length p.first c ∨ p.accs.length = 0 := by
    unfold rOf
    split
    · left; omega
    · left; omega
  have := h.lt
  omega

end Go.Proofs.Ytccckonckddadaa
namespace Go.Proofs.Ytccckonckddadaa
set_option linter.unusedVariables false

theorem rOf_head {q : List WaitV} {y : WaitV} {cr qt : Int} {n f c : Nat} (h : q ≠ []) : rOf (q ++ [y]) cr qt n f c = rOf q cr qt n f c := by
  cases q with
  | nil => exact absurd rfl h
  | cons x q => rfl

theorem submit_cases (p : SeqV) (client id : Int) (t : ByteArray) (d : Int) : ((pSubmitV p client id t d).2 ≠ 0 ∧ (pSubmitV p client id t d).1 = p) ∨
    ((pSubmitV p client id t d).2 = 0 ∧ ∃ c : Nat, client = (c : Int) ∧ c < p.accs.length ∧ Dk.parseOk t.data.toList = true ∧ 0 ≤ id ∧ id ≤ 999999 ∧ (((accV p c).q.length : Int) < p.queue) ∧ (pSubmitV p client id t d).1 = putA p c ⟨(accV p c).q ++ [⟨id, t, costV t, d⟩], (accV p c).cr⟩) := by
  unfold pSubmitV
  split
  · exact .inl ⟨show (4 : Int) ≠ 0 by decide, rfl⟩
  split
  · exact .inl ⟨show (5 : Int) ≠ 0 by decide, rfl⟩
  split
  · exact .inl ⟨show (1 : Int) ≠ 0 by decide, rfl⟩
  split
  · exact .inl ⟨show (6 : Int) ≠ 0 by decide, rfl⟩
  split
  · exact .inl ⟨show (7 : Int) ≠ 0 by decide, rfl⟩
  split
  · exact .inl ⟨show (8 : Int) ≠ 0 by decide, rfl⟩
  · rename_i h1 h2 h3 h4 h5 h6
    refine .inr ⟨rfl, client.toNat, by omega, by omega, ?_, by omega, by omega, by omega, rfl⟩
    cases hp : Dk.parseOk t.data.toList
    · exact absurd hp h3
    · rfl

/-- What others hand in keeps nobody out. -/
theorem near_submit {p : SeqV} {c : Nat} {x0 : WaitV} {b : Nat} (h : NearAt p c x0 b) (client id : Int) (t : ByteArray) (d : Int) : NearAt (pSubmitV p client id t d).1 c x0 b := by
  rcases submit_cases p client id t d with ⟨_, e⟩ | ⟨_, c', rfl, hc', _, _, _, _, e⟩
  · rw [e]; exact h
  · rw [e]
    obtain ⟨pre, post, hq, hb⟩ := h.q
    refine ⟨by rw [putA_len]; exact h.lt, ?_⟩
    by_cases hcc : c' = c
    · subst hcc
      rw [accV_put_same hc', putA_len]
      refine ⟨pre, post ++ [⟨id, t, costV t, d⟩], by show (accV p c').q ++ _ = _; rw [hq]; simp, ?_⟩
      show _ + rOf ((accV p c').q ++ [_]) (accV p c').cr p.quantum p.accs.length p.first c' ≤ b
      rw [rOf_head (by rw [hq]; simp)]
      exact hb
    · rw [accV_put_ne hcc, putA_len]
      exact ⟨pre, post, hq, hb⟩

/-- What is taken in goes within Queue times (8 and Clients) epochs. -/
theorem near_start {p : SeqV} (hfit : SeqFit p) {client id : Int} {t : ByteArray} {d : Int} (h0 : (pSubmitV p client id t d).2 = 0) : ∃ c : Nat, client = (c : Int) ∧ NearAt (pSubmitV p client id t d).1 c ⟨id, t, costV t, d⟩ (p.queue.toNat * (8 + p.accs.length) - 1) := by
  rcases submit_cases p client id t d with ⟨hne, _⟩ | ⟨_, c, rfl, hc, hok, _, _, hlen, e⟩
  · exact absurd h0 hne
  · refine ⟨c, rfl, ?_⟩
    rw [e]
    refine ⟨by rw [putA_len]; exact hc, (accV p c).q, [], by rw [accV_put_same hc], ?_⟩
    rw [accV_put_same hc, putA_len]
    obtain ⟨hfa, _⟩ := hfit.at hc
    have hcost : ∀ x ∈ (accV p c).q ++ [⟨id, t, costV t, d⟩], 0 ≤ x.c ∧ x.c ≤ 8 := fun x hx => by
      rcases List.mem_append.1 hx with hx | hx
      · exact acc_costs hfa x hx
      · have : x = ⟨id, t, costV t, d⟩ := by simpa using hx
        subst this
        have := cost_le hok
        show 0 ≤ (costV t : Int) ∧ (costV t : Int) ≤ 8
        omega
    have hR := (rOf_le (q := (accV p c).q ++ [⟨id, t, costV t, d⟩]) (cr := (accV p c).cr) (qt := p.quantum) (n := p.accs.length) (f := p.first) (c := c) hcost hfa.2.1 hfit.qt.1 hfit.first hc).2
    have hq1 := hfit.qu.1
    obtain ⟨Q, hQ⟩ : ∃ Q : Nat, p.queue.toNat = Q + 1 := ⟨p.queue.toNat - 1, by omega⟩
    have hl : (accV p c).q.length ≤ Q := by omega
    have hm := Nat.mul_le_mul_right (8 + p.accs.length) hl
    rw [hQ, Nat.succ_mul]
    show (accV p c).q.length * (8 + p.accs.length) + rOf ((accV p c).q ++ [⟨id, t, costV t, d⟩]) (accV p c).cr p.quantum p.accs.length p.first c ≤ _
    omega

/-- What has become a record, and has a text, is done or aborted. -/
theorem settle_out : ∀ (l : List RecV) (p : SeqV) (r : RecV), r ∈ l → ∃ cs, (⟨r.i, (doRec r cs).2, p.epochs⟩ : OutV) ∈ (settleV p l).outs
  | [], p, r, h => by cases h
  | x :: l, p, r, h => by
    have keep : ∀ (l : List RecV) (p : SeqV) (y : OutV), y ∈ p.outs → y ∈ (settleV p l).outs := by
      intro l
      induction l with
      | nil => exact fun p y hy => hy
      | cons z l ih => exact fun p y hy => ih (settle1 p z) y (List.mem_append_left _ hy)
    rcases List.mem_cons.1 h with rfl | h
    · exact ⟨p.cells, keep l (settle1 p r) _ (List.mem_append_right _ (by simp))⟩
    · exact settle_out l (settle1 p x) r h

theorem reply_text {p : SeqV} {s' : CluV} {c : Nat} {x0 : WaitV} (he : p.epochs < 200) (hr : textRec c x0 ∈ rsOf p) (hS : Sim (pFillV p).1 s') (hf : CluFit s') : ((pReplyV (pFillV p).1 x0.i).1 = 1 ∨ (pReplyV (pFillV p).1 x0.i).1 = 2) ∧ (pReplyV (pFillV p).1 x0.i).2.2 = 0 := by
  obtain ⟨cs, hm⟩ := settle_out (rsOf p) (visF p) _ hr
  have ho : (pFillV p).1.outs = (settleV (visF p) (rsOf p)).outs := by rw [pFillV_go he]
  rw [← ho] at hm
  obtain ⟨t, ht, hs, e⟩ := (hS.outs _).1 hm
  have hid : t.i = x0.i := by
    have := congrArg OutV.i e
    exact this.symm
  have hst : t.s = (doRec (textRec c x0) cs).2 := by
    have := congrArg OutV.s e
    exact this.symm
  rw [reply_sim hS hf, ← hid, (reply_found hf ht).1]
  refine ⟨?_, rfl⟩
  show t.s = 1 ∨ t.s = 2
  rw [hst]
  unfold doRec
  rw [if_neg (by show ¬ false = true; simp)]
  split
  · show (if _ then (1 : Int) else 2) = 1 ∨ (if _ then (1 : Int) else 2) = 2
    split
    · exact .inl rfl
    · exact .inr rfl
  · exact .inr rfl

end Go.Proofs.Ytccckonckddadaa
