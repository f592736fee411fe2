import Derived.Test.YtccckonckddadaaJ23
import Derived.Test.YtccckonckddadaaJ13
import Derived.Laws.AppendOwnNone
namespace Go.Proofs.Ytccckonckddadaa
open Go.RowKit
set_option linter.unusedVariables false

/-- 'all = append(all, l...)': both rows are the call's own. -/
theorem wpList_append_all {w : World} {ops : Array Oper} {rest : List Oper} {o : Oper} {a : Act} {Q : Exit → Act → World → Prop} (hgd : o.guard = none) (s x : Operand)
    (ho : o.op = .call { callee := .builtin .append, args := #[s, x], argTypes := #[34, 34] })
    (B : Nat) (a1 : Option Addr) (m1 c1 : Nat) (l1 : List RecV) (hs : a.eval s = .slice a1 m1 c1) (h1 : w.ownsRow B 49 4 (.slice a1 m1 c1) m1 (recsCells l1))
    (a2 : Option Addr) (m2 c2 : Nat) (l2 : List RecV) (hx : a.eval x = .slice a2 m2 c2) (h2 : w.ownsRow B 49 4 (.slice a2 m2 c2) m2 (recsCells l2)) (hm : m1 + m2 ≤ 1000000) (hB : B ≤ w.heap.size)
    (h : ∀ a' c' w', w'.ownsRow B 49 4 (.slice a' (m1 + m2) c') (m1 + m2) (recsCells (l1 ++ l2)) → w.grownBy w' (Value.slice a1 m1 c1).ownBlock → wpList Try.prog ops Q rest (a.put o.dst (.slice a' (m1 + m2) c')) w') :
    wpList Try.prog ops Q (o :: rest) a w := by
  obtain ⟨ti, i1, i2, i3, i4⟩ := info_parts info_rec
  have hl2 : l2.length = m2 := by have := h2.1; rw [recsCells_len] at this; omega
  rcases h2.2 with ⟨hv, h0⟩ | ⟨g, cap, cur, hv, _, hg, q1, q2, q3, q4⟩
  · obtain ⟨rfl, rfl⟩ : a2 = none ∧ c2 = 0 := by
      have hv' : Value.slice a2 m2 c2 = .slice none 0 0 := hv
      injection hv' with e1 e2 e3
      exact ⟨e1, e3⟩
    subst h0
    have : l2 = [] := List.eq_nil_of_length_eq_zero hl2
    subst this
    refine wpList_append_own_none hgd s x 34 ho B 49 ti 4 Try.underlying34 i1 (.slice a1 m1 c1) m1 (recsCells l1) hs h1 hx ?_
    have := h a1 c1 w (by rw [List.append_nil]; exact h1) ⟨rfl, rfl, rfl, Nat.le_refl _, fun _ _ _ => rfl⟩
    exact this
  · obtain ⟨rfl, rfl⟩ : a2 = some ⟨g, 0, none⟩ ∧ c2 = cap := by
      have hv' : Value.slice a2 m2 c2 = .slice (some ⟨g, 0, none⟩) m2 cap := hv
      injection hv' with e1 e2 e3
      exact ⟨e1, e3⟩
    refine wpList_append_own w hgd s x 34 ho B 49 ti (.agg #[.int .i64 0, .int .i64 0, .bool false, .string ⟨#[]⟩]) 4 40 Try.underlying34 i1 i2 i3 i4 rfl (by decide) (.slice a1 m1 c1) m1 (recsCells l1) hs h1 ⟨g, 0, none⟩ m2 c2 (recsCells l2) hx (by rw [recsCells_len, hl2]) ?_ (recs_one l2) (by unfold maxLen; omega) (by omega) hB ?_
    · intro j u hj
      have hadd : (⟨g, 0, none⟩ : Addr).add j = ⟨g, j, none⟩ := by unfold Addr.add; split <;> simp_all
      have hjl : j < m2 * 4 := by
        have := (List.getElem?_eq_some_iff.1 hj).1
        rw [recsCells_len, hl2] at this
        exact this
      rw [hadd, (heap_cells hg).1, ← hj, ← q4, ← Array.getElem?_toList, List.getElem?_take_of_lt hjl]
    · intro v' w' hown hgr _
      obtain ⟨a', c', rfl⟩ : ∃ a' c', v' = .slice a' (m1 + m2) c' := by
        rcases hown.2 with ⟨hv', h0⟩ | ⟨g', cap', _, hv', _⟩
        · exact ⟨none, 0, by rw [hv', h0]⟩
        · exact ⟨_, _, hv'⟩
      exact h a' c' w' (by rw [recsCells_append]; exact hown) hgr

/-! ### Fill -/
def lateFrom : Nat → Nat → CluV → List RecV → CluV × List RecV
  | 0, _, s, l => (s, l)
  | r + 1, i, s, l => lateFrom r (i + 1) (lateV s i).1 (l ++ (lateV s i).2)
def visitFrom : Nat → Nat → CluV → Int → List RecV → CluV × List RecV
  | 0, _, s, _, l => (s, l)
  | r + 1, i, s, room, l => visitFrom r (i + 1) (visitV s ((s.first + i) % s.conf.clients).toNat room).1 (visitV s ((s.first + i) % s.conf.clients).toNat room).2.2 (l ++ (visitV s ((s.first + i) % s.conf.clients).toNat room).2.1)
def fillV (s : CluV) : CluV × Int × Int :=
  if 200 ≤ s.epochs.length then (s, 0, 9) else
  let a := lateFrom s.conf.clients.toNat 0 s []
  let b := visitFrom s.conf.clients.toNat 0 a.1 s.conf.room a.2
  ({ b.1 with first := (b.1.first + 1) % s.conf.clients, epochs := b.1.epochs ++ [b.2] }, b.2.length, 0)

end Go.Proofs.Ytccckonckddadaa
namespace Go.Proofs.Ytccckonckddadaa
set_option linter.unusedVariables false

theorem mild_cred (s : CluV) (c : Nat) (x : Int) : Mild s (credV s c x) := ⟨rfl, rfl, rfl, rfl, fun _ => Nat.le_refl _⟩

theorem visitV_mild {s : CluV} (hf : CluFit s) {client : Nat} (h8 : client < 8) {room : Int} (hr : 0 ≤ room) (hcr : s.credit.getD client 0 ≤ 8 * (s.epochs.length : Int)) :
    Mild s (visitV s client room).1 ∧ CluFit (visitV s client room).1 ∧ (visitV s client room).2.1.length + waiting (visitV s client room).1 = waiting s ∧ (recs (visitV s client room).2.1).all Dk.recOk = true ∧ (∀ j, j ≠ client → (visitV s client room).1.credit[j]? = s.credit[j]?) ∧ 0 ≤ (visitV s client room).2.2 ∧ (visitV s client room).2.2 ≤ room := by
  have hcf := hf.conf
  unfold confOk at hcf
  simp only [Bool.and_eq_true, decide_eq_true_eq] at hcf
  have hl : client < s.credit.length := by rw [hf.credit]; exact h8
  have h0 : 0 ≤ s.credit.getD client 0 := by
    rw [List.getD_eq_getElem?_getD, List.getElem?_eq_getElem hl]
    exact (hf.cr _ (List.getElem_mem hl)).1
  have f1 := fit_cred hf (c := client) (x := s.credit.getD client 0 + s.conf.quantum) ⟨by omega, by omega⟩
  obtain ⟨a1, a2, a3, a4, a5, a6, a7⟩ := visitGo_mild h8 65 (credV s client (s.credit.getD client 0 + s.conf.quantum)) room [] f1 hr rfl
  have a5' : ∀ j, j ≠ client → (visitGo client 65 (credV s client (s.credit.getD client 0 + s.conf.quantum)) room []).1.credit[j]? = s.credit[j]? := fun j hj => by
    rw [a5 j hj]
    show (s.credit.set client _)[j]? = _
    rw [List.getElem?_set_ne (fun e => hj e.symm)]
  have a3' : (visitGo client 65 (credV s client (s.credit.getD client 0 + s.conf.quantum)) room []).2.1.length + waiting (visitGo client 65 (credV s client (s.credit.getD client 0 + s.conf.quantum)) room []).1 = waiting s := by
    rw [a3]
    show 0 + s.txs.countP wait = _
    rw [Nat.zero_add]; rfl
  unfold visitV
  simp only
  split
  · refine ⟨((mild_cred s client _).trans a1).trans (mild_cred _ client 0), fit_cred a2 ⟨Int.le_refl _, by omega⟩, a3', a4, fun j hj => ?_, a6, a7⟩
    show ((visitGo client 65 (credV s client (s.credit.getD client 0 + s.conf.quantum)) room []).1.credit.set client 0)[j]? = _
    rw [List.getElem?_set_ne (fun e => hj e.symm)]
    exact a5' j hj
  · exact ⟨(mild_cred s client _).trans a1, a2, a3', a4, a5', a6, a7⟩

theorem late_step (r i : Nat) (s : CluV) (l : List RecV) : lateFrom (r + 1) i s l = lateFrom r (i + 1) (lateV s i).1 (l ++ (lateV s i).2) := rfl
theorem recs_append (a b : List RecV) : recs (a ++ b) = recs a ++ recs b := by unfold recs; rw [List.map_append]
theorem recs_all {a b : List RecV} (ha : (recs a).all Dk.recOk = true) (hb : (recs b).all Dk.recOk = true) : (recs (a ++ b)).all Dk.recOk = true := by rw [recs_append, List.all_append, ha, hb]; rfl

theorem emod_over {a n : Int} (h0 : n ≤ a) (h1 : a < n + n) : a % n = a - n := by
  have e : a = (a - n) + n * 1 := by omega
  have h2 : ((a - n) + n * 1) % n = (a - n) % n := Int.add_mul_emod_self_left (a - n) n 1
  rw [← e] at h2
  rw [h2]
  exact Int.emod_eq_of_lt (by omega) (by omega)
/-- Who is visited: no one twice. -/
theorem turn_ne {f n : Int} {i j : Nat} (h0 : 0 ≤ f) (h1 : f < n) (hi : (i : Int) < n) (hj : (j : Int) < n) (hij : i ≠ j) : ((f + i) % n).toNat ≠ ((f + j) % n).toNat := by
  intro e
  have p1 := Int.emod_nonneg (f + i) (by omega : n ≠ 0)
  have p2 := Int.emod_nonneg (f + j) (by omega : n ≠ 0)
  have e' : (f + i) % n = (f + j) % n := by omega
  have r1 : (f + i) % n = f + i ∨ (f + i) % n = f + i - n := by
    by_cases h : f + i < n
    · exact .inl (Int.emod_eq_of_lt (by omega) h)
    · exact .inr (emod_over (by omega) (by omega))
  have r2 : (f + j) % n = f + j ∨ (f + j) % n = f + j - n := by
    by_cases h : f + j < n
    · exact .inl (Int.emod_eq_of_lt (by omega) h)
    · exact .inr (emod_over (by omega) (by omega))
  rcases r1 with r1 | r1 <;> rcases r2 with r2 | r2 <;> omega
theorem turn_lt {f n : Int} {i : Nat} (hn : 0 < n) (h8 : n ≤ 8) : ((f + i) % n).toNat < 8 ∧ 0 ≤ (f + i) % n ∧ (f + i) % n < n := by
  have p1 := Int.emod_nonneg (f + i) (by omega : n ≠ 0)
  have p2 := Int.emod_lt_of_pos (f + i) hn
  omega

/-- What is true of a cluster at rest, beside CluFit. -/
structure Rest (s : CluV) : Prop where
  queue : ∀ c : Nat, ((queueV s.txs c).length : Int) ≤ s.conf.queue
  credit : ∀ k, s.credit.getD k 0 ≤ 8 * (s.epochs.length : Int)

end Go.Proofs.Ytccckonckddadaa
namespace Go.Proofs.Ytccckonckddadaa
open Go.RowKit
set_option linter.unusedVariables false

theorem zip_snoc {eas : List (Option Addr × Nat)} {es : List (List RecV)} (h : eas.length = es.length) (a : Option Addr) (c : Nat) (l : List RecV) :
    List.zipWith (fun (a : Option Addr × Nat) (rs : List RecV) => Value.slice a.1 rs.length a.2) (eas ++ [(a, c)]) (es ++ [l]) = List.zipWith (fun (a : Option Addr × Nat) (rs : List RecV) => Value.slice a.1 rs.length a.2) eas es ++ [.slice a l.length c] := by
  rw [List.zipWith_append h]
  rfl

end Go.Proofs.Ytccckonckddadaa
namespace Go.Proofs.Ytccckonckddadaa
open Go.RowKit
set_option linter.unusedVariables false

theorem own_down {w : World} {B B' e size n : Nat} {v : Value} {xs : List Value} (h : w.ownsRow B e size v n xs) (hb : B' ≤ B) : w.ownsRow B' e size v n xs := by
  refine ⟨h.1, ?_⟩
  rcases h.2 with h0 | ⟨g, cap, cur, hv, hB, r⟩
  · exact .inl h0
  · exact .inr ⟨g, cap, cur, hv, Nat.le_trans hb hB, r⟩

end Go.Proofs.Ytccckonckddadaa
namespace Go.Proofs.Ytccckonckddadaa
open Go.RowKit
set_option linter.unusedVariables false

theorem conf_edges {c : ConfV} (h : confOk c = true) : 1 ≤ c.clients ∧ c.clients ≤ 8 ∧ 0 ≤ c.room ∧ c.room ≤ 64 := by
  unfold confOk at h
  simp only [Bool.and_eq_true, decide_eq_true_eq] at h
  omega

theorem info_row : (Try.prog.info? 34).map (fun i => (i.zero, i.size, i.bytes)) = some (some (.slice none 0 0), 1, 24) := by kernel_rfl

theorem fit_first {s : CluV} (h : CluFit s) {x : Int} (h0 : 0 ≤ x) (h1 : x < s.conf.clients) : CluFit { s with first := x } :=
  ⟨h.conf, h.credit, h.cells, h.reps, h.many, h0, h1, h.few, h.tx, h.once, h.ep, h.c16, h.cr⟩

theorem fit_epoch {s : CluV} (h : CluFit s) {l : List RecV} (hm : s.epochs.length < 200) (hl : l.length ≤ 64) (ha : (recs l).all Dk.recOk = true) : CluFit { s with epochs := s.epochs ++ [l] } := by
  have hlen : (s.epochs ++ [l]).length = s.epochs.length + 1 := by rw [List.length_append]; rfl
  refine ⟨h.conf, h.credit, h.cells, h.reps, ?_, h.first0, h.first1, h.few, h.tx, h.once, ?_, h.c16, ?_⟩
  · show (s.epochs ++ [l]).length ≤ 200
    omega
  · intro rs hrs
    rcases List.mem_append.1 hrs with hrs | hrs
    · exact h.ep rs hrs
    · have : rs = l := by simpa using hrs
      subst this
      exact ⟨hl, ha⟩
  · intro x hx
    have := h.cr x hx
    show 0 ≤ x ∧ x ≤ 8 * (((s.epochs ++ [l]).length : Int) + 1)
    rw [hlen]
    omega

end Go.Proofs.Ytccckonckddadaa
namespace Go.Proofs.Ytccckonckddadaa
set_option linter.unusedVariables false

/-! ### A cluster stays at rest -/
theorem lateFrom_mild : ∀ (r i : Nat) (s : CluV) (l : List RecV), CluFit s → i + r ≤ 8 → Mild s (lateFrom r i s l).1 ∧ CluFit (lateFrom r i s l).1 ∧ (lateFrom r i s l).1.credit = s.credit
  | 0, i, s, l, hf, _ => ⟨Mild.refl s, hf, rfl⟩
  | r + 1, i, s, l, hf, h8 => by
    obtain ⟨y1, y2, y3, _, _⟩ := lateV_mild hf (client := (i : Int)) (by omega) (by omega)
    obtain ⟨z1, z2, z3⟩ := lateFrom_mild r (i + 1) (lateV s i).1 (l ++ (lateV s i).2) y2 (by omega)
    rw [late_step]
    exact ⟨y1.trans z1, z2, z3.trans y3⟩

theorem visitFrom_mild : ∀ (r i : Nat) (s : CluV) (room : Int) (l : List RecV), CluFit s → (i : Int) + r ≤ s.conf.clients → 0 ≤ room → (∀ j : Nat, i ≤ j → (j : Int) < s.conf.clients → s.credit.getD ((s.first + j) % s.conf.clients).toNat 0 ≤ 8 * (s.epochs.length : Int)) →
    Mild s (visitFrom r i s room l).1 ∧ CluFit (visitFrom r i s room l).1
  | 0, i, s, room, l, hf, _, _, _ => ⟨Mild.refl s, hf⟩
  | r + 1, i, s, room, l, hf, hn, hr, hc => by
    obtain ⟨e1, e2, _, _⟩ := conf_edges hf.conf
    obtain ⟨t1, t2, t3⟩ := turn_lt (f := s.first) (i := i) (by omega : 0 < s.conf.clients) e2
    obtain ⟨y1, y2, y3, y4, y5, y6, y7⟩ := visitV_mild hf t1 hr (hc i (Nat.le_refl _) (by omega))
    rw [visitFrom]
    obtain ⟨z1, z2⟩ := visitFrom_mild r (i + 1) _ _ (l ++ (visitV s ((s.first + i) % s.conf.clients).toNat room).2.1) y2 (by rw [y1.conf]; omega) y6 (fun j hj hjn => by
      rw [y1.conf] at hjn
      rw [y1.conf, y1.first, y1.epochs]
      have hne := turn_ne hf.first0 hf.first1 hjn (by omega : (i : Int) < s.conf.clients) (by omega : j ≠ i)
      rw [List.getD_eq_getElem?_getD, y5 _ hne, ← List.getD_eq_getElem?_getD]
      exact hc j (by omega) hjn)
    exact ⟨y1.trans z1, z2⟩

theorem getD_le {l : List Int} {b : Int} (h : ∀ x ∈ l, x ≤ b) (h0 : 0 ≤ b) (k : Nat) : l.getD k 0 ≤ b := by
  rw [List.getD_eq_getElem?_getD]
  cases hk : l[k]? with
  | none => exact h0
  | some x => exact h x (List.mem_of_getElem? hk)

theorem fillV_rest {s : CluV} (hf : CluFit s) (hr : Rest s) : Rest (fillV s).1 := by
  unfold fillV
  split
  · exact hr
  · obtain ⟨e1, e2, e3, _⟩ := conf_edges hf.conf
    obtain ⟨y1, y2, y3⟩ := lateFrom_mild s.conf.clients.toNat 0 s [] hf (by omega)
    obtain ⟨z1, z2⟩ := visitFrom_mild s.conf.clients.toNat 0 (lateFrom s.conf.clients.toNat 0 s []).1 s.conf.room (lateFrom s.conf.clients.toNat 0 s []).2 y2 (by rw [y1.conf]; omega) e3 (fun j _ _ => by rw [y3, y1.epochs]; exact hr.credit _)
    have hM := y1.trans z1
    refine ⟨fun c => ?_, fun k => ?_⟩
    · have := hM.queue (c : Int)
      have h2 := hr.queue c
      show ((queueV (visitFrom s.conf.clients.toNat 0 (lateFrom s.conf.clients.toNat 0 s []).1 s.conf.room (lateFrom s.conf.clients.toNat 0 s []).2).1.txs c).length : Int) ≤ (visitFrom s.conf.clients.toNat 0 (lateFrom s.conf.clients.toNat 0 s []).1 s.conf.room (lateFrom s.conf.clients.toNat 0 s []).2).1.conf.queue
      rw [hM.conf]
      omega
    · simp only
      rw [List.length_append]
      exact getD_le (fun x hx => (z2.cr x hx).2) (by omega) k

theorem newV_rest {c : ConfV} (h : confOk c = true) : Rest (newV c) := by
  unfold confOk at h
  simp only [Bool.and_eq_true, decide_eq_true_eq] at h
  refine ⟨fun x => ?_, fun k => getD_le (fun x hx => ?_) (by omega) k⟩
  · show ((0 : Nat) : Int) ≤ c.queue
    omega
  · have : x ∈ [(0 : Int), 0, 0, 0, 0, 0, 0, 0] := hx
    have h0 : x = 0 := by simpa using this
    show x ≤ 8 * ((0 : Nat) : Int)
    omega

theorem submitV_rest {s : CluV} (hr : Rest s) (client id : Int) (t : ByteArray) (d : Int) : Rest (submitV s client id t d).1 := by
  unfold submitV
  iterate 6 (split; exact hr)
  rename_i h6
  refine ⟨fun c => ?_, hr.credit⟩
  show ((queueV (s.txs ++ [⟨client, id, t, d, 0, 0⟩]) c).length : Int) ≤ s.conf.queue
  have h1 := hr.queue c
  unfold queueV at h1 h6 ⊢
  rw [queue_count] at h1 h6 ⊢
  rw [List.countP_append]
  by_cases hc : client = (c : Int)
  · rw [hc] at h6
    have : List.countP (waits (c : Int)) [⟨client, id, t, d, 0, 0⟩] ≤ 1 := List.countP_le_length
    omega
  · have : List.countP (waits (c : Int)) [⟨client, id, t, d, 0, 0⟩] = 0 := by
      simp [waits, hc]
    omega

end Go.Proofs.Ytccckonckddadaa
namespace Go.Proofs.Ytccckonckddadaa
set_option linter.unusedVariables false

/-! ### The plain state of the program's sequencer -/
structure WaitV where
  i : Int
  t : ByteArray
  c : Int
  d : Int
structure AccV where
  q : List WaitV
  cr : Int
structure OutV where
  i : Int
  s : Int
  e : Int
structure RepV where
  disk : ByteArray
  safe : Nat
  count : Nat
  cells : List Int
structure SeqV where
  queue : Int
  quantum : Int
  room : Int
  accs : List AccV
  first : Nat
  epochs : Nat
  log : List UInt8
  cells : List Int
  outs : List OutV
  eps : List ByteArray
  reps : List RepV

def costs : List WaitV → Int
  | [] => 0
  | x :: l => x.c + costs l
/-- How many a visit takes off the front. -/
def takeN : List WaitV → Int → Int → Nat
  | [], _, _ => 0
  | x :: q, cr, room => if x.c ≤ cr ∧ x.c ≤ room then takeN q (cr - x.c) (room - x.c) + 1 else 0
def isLate (n : Int) (x : WaitV) : Bool := decide (x.d < n)
def lateA (a : AccV) (n : Int) : AccV := ⟨a.q.filter (fun x => !isLate n x), a.cr⟩
def lateL (a : AccV) (n : Int) : List WaitV := a.q.filter (isLate n)
def given (a : AccV) (quantum : Int) : Int := if a.q = [] then a.cr else a.cr + quantum
def visitA (a : AccV) (quantum room : Int) : AccV :=
  ⟨a.q.drop (takeN a.q (given a quantum) room), if a.q.drop (takeN a.q (given a quantum) room) = [] then 0 else given a quantum - costs (a.q.take (takeN a.q (given a quantum) room))⟩
def visitL (a : AccV) (quantum room : Int) : List WaitV := a.q.take (takeN a.q (given a quantum) room)
def lateRec (i : Nat) (x : WaitV) : RecV := ⟨i, x.i, true, ⟨#[]⟩⟩
def textRec (i : Nat) (x : WaitV) : RecV := ⟨i, x.i, false, x.t⟩
def accV (p : SeqV) (i : Nat) : AccV := p.accs.getD i ⟨[], 0⟩
def putA (p : SeqV) (i : Nat) (a : AccV) : SeqV := { p with accs := p.accs.set i a }

def pLateFrom : Nat → Nat → SeqV → List RecV → SeqV × List RecV
  | 0, _, p, l => (p, l)
  | r + 1, i, p, l => pLateFrom r (i + 1) (putA p i (lateA (accV p i) p.epochs)) (l ++ (lateL (accV p i) p.epochs).map (lateRec i))
def behindV (n i : Nat) : Nat := if i + 1 < n then i + 1 else 0
def pVisitFrom : Nat → Nat → SeqV → Int → List RecV → SeqV × List RecV
  | 0, _, p, _, l => (p, l)
  | r + 1, i, p, room, l => pVisitFrom r (behindV p.accs.length i) (putA p i (visitA (accV p i) p.quantum room)) (room - costs (visitL (accV p i) p.quantum room)) (l ++ (visitL (accV p i) p.quantum room).map (textRec i))
/-- What becomes of a record. -/
def doRec (r : RecV) (cs : List Int) : List Int × Int :=
  if r.l = true then (cs, 3) else if Dk.parseOk r.t.data.toList = true then ((Dk.doV r.t.data.toList cs).1, if (Dk.doV r.t.data.toList cs).2 then 1 else 2) else (cs, 2)
def settle1 (p : SeqV) (r : RecV) : SeqV := { p with cells := (doRec r p.cells).1, outs := p.outs ++ [⟨r.i, (doRec r p.cells).2, p.epochs⟩] }
def settleV : SeqV → List RecV → SeqV
  | p, [] => p
  | p, r :: l => settleV (settle1 p r) l
def pFillV (p : SeqV) : SeqV × Int × Int :=
  if 200 ≤ p.epochs then (p, 0, 9) else
  let a := pLateFrom p.accs.length 0 p []
  let b := pVisitFrom p.accs.length p.first a.1 p.room []
  let c := settleV { b.1 with first := behindV p.accs.length p.first } (a.2 ++ b.2)
  ({ c with log := c.log ++ Dk.epoch p.epochs (recs (a.2 ++ b.2)), epochs := p.epochs + 1, eps := c.eps ++ [⟨(Dk.epoch p.epochs (recs (a.2 ++ b.2))).toArray⟩] }, (a.2 ++ b.2).length, 0)
def outV (p : SeqV) (id : Int) : Option OutV := p.outs.find? (fun x => decide (x.i = id))
def awaits (id : Int) (a : AccV) : Bool := a.q.any (fun x => decide (x.i = id))
def pReplyV (p : SeqV) (id : Int) : Int × Int × Int :=
  match outV p id with
  | some x => (x.s, x.e, 0)
  | none => if p.accs.any (awaits id) then (0, 0, 0) else (0, 0, 10)
def pSubmitV (p : SeqV) (client id : Int) (t : ByteArray) (d : Int) : SeqV × Int :=
  if ¬ (0 ≤ client ∧ client < (p.accs.length : Int)) then (p, 4)
  else if ¬ (0 ≤ id ∧ id ≤ 999999) then (p, 5)
  else if Dk.parseOk t.data.toList = false then (p, 1)
  else if (pReplyV p id).2.2 = 0 then (p, 6)
  else if d < (p.epochs : Int) then (p, 7)
  else if p.queue ≤ ((accV p client.toNat).q.length : Int) then (p, 8)
  else (putA p client.toNat ⟨(accV p client.toNat).q ++ [⟨id, t, costV t, d⟩], (accV p client.toNat).cr⟩, 0)
def pNewV (c : ConfV) : SeqV := ⟨c.queue, c.quantum, c.room, List.replicate c.clients.toNat ⟨[], 0⟩, 0, 0, [], [0, 0, 0, 0, 0, 0, 0, 0], [], [], List.replicate c.reps.toNat ⟨⟨#[]⟩, 0, 0, [0, 0, 0, 0, 0, 0, 0, 0]⟩⟩

theorem bytes_eq {a b : ByteArray} (h : a.data.toList = b.data.toList) : a = b := by
  cases a; cases b
  congr 1
  exact Array.ext' h

/-! ### It goes with the document's -/
def waitOf (t : TxV) : WaitV := ⟨t.i, t.t, costV t.t, t.d⟩
def qOf (c : Nat) (txs : List TxV) : List WaitV := (txs.filter (waits (c : Int))).map waitOf
/-- The bytes of each epoch. -/
def epsL (s : CluV) : List (List UInt8) := s.epochs.mapIdx (fun i e => Dk.epoch i (recs e))
structure Sim (p : SeqV) (s : CluV) : Prop where
  queue : p.queue = s.conf.queue
  quantum : p.quantum = s.conf.quantum
  room : p.room = s.conf.room
  first : (p.first : Int) = s.first
  epochs : p.epochs = s.epochs.length
  log : p.log = logV s s.epochs.length ∧ p.eps.map (fun b => b.data.toList) = epsL s
  cells : p.cells = s.cells
  many : (p.accs.length : Int) = s.conf.clients
  acc : ∀ i : Nat, i < p.accs.length → p.accs[i]? = some ⟨qOf i s.txs, s.credit.getD i 0⟩
  outs : ∀ x, x ∈ p.outs ↔ ∃ t ∈ s.txs, t.s ≠ 0 ∧ x = ⟨t.i, t.s, t.e⟩
  few : p.outs.length + waiting s = s.txs.length
  e0 : ∀ t ∈ s.txs, t.s = 0 → t.e = 0

theorem qOf_append (c : Nat) (a b : List TxV) : qOf c (a ++ b) = qOf c a ++ qOf c b := by
  unfold qOf; rw [List.filter_append, List.map_append]
theorem qOf_yes {c : Nat} {t : TxV} (h : waits (c : Int) t = true) (l : List TxV) : qOf c (t :: l) = waitOf t :: qOf c l := by
  unfold qOf; rw [List.filter_cons_of_pos h, List.map_cons]
theorem qOf_no {c : Nat} {t : TxV} (h : waits (c : Int) t = false) (l : List TxV) : qOf c (t :: l) = qOf c l := by
  unfold qOf; rw [List.filter_cons_of_neg (by rw [h]; simp)]
theorem waits_iff {c : Int} {t : TxV} : waits c t = true ↔ t.c = c ∧ t.s = 0 := by
  unfold waits; rw [Bool.and_eq_true, decide_eq_true_eq, decide_eq_true_eq]
theorem waits_ended {c : Int} {t : TxV} (h : t.s ≠ 0) : waits c t = false := by
  unfold waits; rw [decide_eq_false h]; simp

theorem Sim.accV {p : SeqV} {s : CluV} (h : Sim p s) {i : Nat} (hi : i < p.accs.length) : accV p i = ⟨qOf i s.txs, s.credit.getD i 0⟩ := by
  unfold Go.Proofs.Ytccckonckddadaa.accV
  rw [List.getD_eq_getElem?_getD, h.acc i hi]; rfl

theorem modify_mid (pre post : List TxV) (t : TxV) (f : TxV → TxV) : (pre ++ t :: post).modify pre.length f = pre ++ f t :: post := by
  induction pre with
  | nil => rfl
  | cons x pre ih => show x :: (pre ++ t :: post).modify pre.length f = _; rw [ih]; rfl

/-- One ends: the program takes it out of its queue, and notes what became of it. -/
theorem Sim.ended {p : SeqV} {s : CluV} (h : Sim p s) {c : Nat} (hc : c < p.accs.length) (h8 : s.credit.length = 8) (hc8 : c < 8) {pre post : List TxV} {t : TxV} (htx : s.txs = pre ++ t :: post) (hw : waits (c : Int) t = true) {st : Int} (hst : st ≠ 0) (cr : Int) (cs : List Int) :
    Sim { putA p c ⟨qOf c (pre ++ post), cr⟩ with cells := cs, outs := p.outs ++ [⟨t.i, st, p.epochs⟩] } (endsV (cellsV (credV s c cr) cs) pre.length st) := by
  have htx' : (endsV (cellsV (credV s c cr) cs) pre.length st).txs = pre ++ { t with s := st, e := (s.epochs.length : Int) } :: post := by
    show s.txs.modify pre.length _ = _
    rw [htx, modify_mid]
    rfl
  have hwt := waits_iff.1 hw
  have hcr : s.credit.set c cr = (credV s c cr).credit := rfl
  refine ⟨h.queue, h.quantum, h.room, h.first, h.epochs, h.log, rfl, ?_, ?_, ?_, ?_, ?_⟩
  · show ((p.accs.set c _).length : Int) = _
    rw [List.length_set]; exact h.many
  · intro i hi
    have hi' : i < p.accs.length := by
      have : i < (p.accs.set c ⟨qOf c (pre ++ post), cr⟩).length := hi
      rwa [List.length_set] at this
    show (p.accs.set c ⟨qOf c (pre ++ post), cr⟩)[i]? = some ⟨qOf i _, (s.credit.set c cr).getD i 0⟩
    have hqe : qOf i (pre ++ { t with s := st, e := (s.epochs.length : Int) } :: post) = qOf i (pre ++ post) := by
      rw [qOf_append, qOf_no (t := { t with s := st, e := (s.epochs.length : Int) }) (waits_ended hst), ← qOf_append]
    rw [htx', hqe]
    by_cases hic : c = i
    · subst hic
      rw [List.getElem?_set_self hi', List.getD_eq_getElem?_getD, List.getElem?_set_self (by omega)]
      rfl
    · rw [List.getElem?_set_ne hic, h.acc i hi', List.getD_eq_getElem?_getD, List.getD_eq_getElem?_getD, List.getElem?_set_ne hic, htx, qOf_append, qOf_append, qOf_no]
      rw [← Bool.not_eq_true, waits_iff]
      intro hh
      have := hh.1
      rw [hwt.1] at this
      omega
  · intro x
    show x ∈ p.outs ++ [_] ↔ _
    rw [List.mem_append, h.outs x, htx', htx]
    constructor
    · rintro (⟨u, hu, hs, rfl⟩ | hx)
      · have hu2 : u ∈ pre ∨ u = t ∨ u ∈ post := by simpa using hu
        rcases hu2 with h1 | h1 | h1
        · exact ⟨u, by simp [h1], hs, rfl⟩
        · subst h1; exact absurd hwt.2 hs
        · exact ⟨u, by simp [h1], hs, rfl⟩
      · have : x = ⟨t.i, st, p.epochs⟩ := by simpa using hx
        subst this
        exact ⟨{ t with s := st, e := (s.epochs.length : Int) }, by simp, hst, by rw [h.epochs]⟩
    · rintro ⟨u, hu, hs, rfl⟩
      have hu2 : u ∈ pre ∨ u = { t with s := st, e := (s.epochs.length : Int) } ∨ u ∈ post := by simpa using hu
      rcases hu2 with h1 | h1 | h1
      · exact .inl ⟨u, by simp [h1], hs, rfl⟩
      · subst h1; exact .inr (by rw [h.epochs]; simp)
      · exact .inl ⟨u, by simp [h1], hs, rfl⟩
  · have hcnt := h.few
    unfold waiting at hcnt
    rw [htx] at hcnt
    show (p.outs ++ [(⟨t.i, st, p.epochs⟩ : OutV)]).length + (endsV (cellsV (credV s c cr) cs) pre.length st).txs.countP wait = (endsV (cellsV (credV s c cr) cs) pre.length st).txs.length
    have e1 : wait t = true := by unfold wait; rw [decide_eq_true hwt.2]
    have e2 : wait { t with s := st, e := (s.epochs.length : Int) } = false := by unfold wait; exact decide_eq_false hst
    rw [List.countP_append, List.countP_cons, e1, List.length_append, List.length_cons] at hcnt
    rw [htx', List.countP_append, List.countP_cons, e2, List.length_append, List.length_append, List.length_cons]
    simp only [List.length_cons, List.length_nil, if_true, Bool.false_eq_true, if_false] at hcnt ⊢
    omega
  · intro u hu hs
    rw [htx'] at hu
    have hu2 : u ∈ pre ∨ u = { t with s := st, e := (s.epochs.length : Int) } ∨ u ∈ post := by simpa using hu
    rcases hu2 with h1 | h1 | h1
    · exact h.e0 u (by rw [htx]; simp [h1]) hs
    · subst h1; exact absurd hs hst
    · exact h.e0 u (by rw [htx]; simp [h1]) hs

theorem settleV_append : ∀ (p : SeqV) (a b : List RecV), settleV p (a ++ b) = settleV (settleV p a) b
  | p, [], b => rfl
  | p, r :: a, b => by show settleV (settle1 p r) (a ++ b) = _; rw [settleV_append]; rfl
theorem settle_put : ∀ (l : List RecV) (p : SeqV) (i : Nat) (a : AccV), settleV (putA p i a) l = putA (settleV p l) i a
  | [], p, i, a => rfl
  | r :: l, p, i, a => by
    show settleV (settle1 (putA p i a) r) l = putA (settleV (settle1 p r) l) i a
    rw [← settle_put l (settle1 p r) i a]; rfl
theorem settle_accs : ∀ (l : List RecV) (p : SeqV), (settleV p l).accs = p.accs ∧ (settleV p l).epochs = p.epochs ∧ (settleV p l).quantum = p.quantum ∧ (settleV p l).first = p.first ∧ (settleV p l).log = p.log
  | [], p => ⟨rfl, rfl, rfl, rfl, rfl⟩
  | r :: l, p => settle_accs l (settle1 p r)
theorem settle_reps : ∀ (l : List RecV) (p : SeqV), (settleV p l).eps = p.eps ∧ (settleV p l).reps = p.reps
  | [], p => ⟨rfl, rfl⟩
  | r :: l, p => settle_reps l (settle1 p r)
theorem settle_first : ∀ (l : List RecV) (p : SeqV) (f : Nat), settleV { p with first := f } l = { settleV p l with first := f }
  | [], p, f => rfl
  | r :: l, p, f => settle_first l (settle1 p r) f
theorem putA_putA (p : SeqV) (i : Nat) (a b : AccV) : putA (putA p i a) i b = putA p i b := by
  unfold putA; simp only [List.set_set]

end Go.Proofs.Ytccckonckddadaa
namespace Go.Proofs.Ytccckonckddadaa
open Go.RowKit
set_option linter.unusedVariables false

/-! ### Do, Cost -/
def EDoPost (r : RecV) (cs : List Int) (w : World) (e : Ending) (w' : World) : Prop :=
  ∃ (y0 y1 y2 y3 y4 y5 y6 y7 : Int), e = .returned (.tuple #[.agg #[.int .i16 y0, .int .i16 y1, .int .i16 y2, .int .i16 y3, .int .i16 y4, .int .i16 y5, .int .i16 y6, .int .i16 y7], .int .u8 (doRec r cs).2]) ∧
    [y0, y1, y2, y3, y4, y5, y6, y7] = (doRec r cs).1 ∧ Below w.heap.size w w'

set_option maxHeartbeats 2000000 in
theorem edo_any (c i : Int) (l : Bool) (t : ByteArray) (x0 x1 x2 x3 x4 x5 x6 x7 : Int) (w : World) (ht : t.size ≤ maxLen) :
    Calls Try.prog 110 #[.agg #[.int .i64 c, .int .i64 i, .bool l, .string t], .agg #[.int .i16 x0, .int .i16 x1, .int .i16 x2, .int .i16 x3, .int .i16 x4, .int .i16 x5, .int .i16 x6, .int .i16 x7]] w (EDoPost ⟨c, i, l, t⟩ [x0, x1, x2, x3, x4, x5, x6, x7] w) := by
  cases l
  case true =>
    have HD : Hid (doRec ⟨c, i, true, t⟩ [x0, x1, x2, x3, x4, x5, x6, x7] = ([x0, x1, x2, x3, x4, x5, x6, x7], 3)) := rfl
    go_enter Try.func110, Try.ntmps110
    go_wp2
    refine bodyPost_ret (v := .tuple #[.agg #[.int .i16 x0, .int .i16 x1, .int .i16 x2, .int .i16 x3, .int .i16 x4, .int .i16 x5, .int .i16 x6, .int .i16 x7], .int .u8 3]) (by simp [results, Try.results110, go_sem]) rfl ?_
    refine ⟨x0, x1, x2, x3, x4, x5, x6, x7, by rw [HD.out], by rw [HD.out], ?_⟩
    first
      | exact (((Below.refl _ _).alloc (Nat.le_refl _) _).alloc (by simp) _).alloc (by simp; omega) _
      | (iterate 8 refine Below.setCell ?_ (by simp) _
         exact (((Below.refl _ _).alloc (Nat.le_refl _) _).alloc (by simp) _).alloc (by simp; omega) _)
  case false =>
    go_enter Try.func110, Try.ntmps110
    go_wp2_with fail
    refine (parse_any t _ ht).mono ?_
    rintro e w1 ⟨b0, b1, b2, b3, b4, b5, b6, b7, a, n, c', rfl, hp, hb⟩
    have HP : Hid _ := hp
    clear hp
    obtain ⟨g0, g1, g2, hb1⟩ := below_three hb
    obtain ⟨c0, f0, z0⟩ := heap_cells g0
    obtain ⟨c1, f1, z1⟩ := heap_cells g1
    obtain ⟨c2, f2, z2⟩ := heap_cells g2
    have HB : Hid (Below w.heap.size w w1) := hb1
    have HG : Hid (_ ∧ _) := ⟨g1, g2⟩
    clear hb hb1 g0 g1 g2
    cases hok : Dk.parseOk t.data.toList
    · have HD : Hid (doRec ⟨c, i, false, t⟩ [x0, x1, x2, x3, x4, x5, x6, x7] = ([x0, x1, x2, x3, x4, x5, x6, x7], 2)) := by
        show _ = _
        unfold doRec
        rw [if_neg (by simp), if_neg (by rw [hok]; simp)]
      clear hok
      go_wp2
      refine bodyPost_ret (v := .tuple #[.agg #[.int .i16 x0, .int .i16 x1, .int .i16 x2, .int .i16 x3, .int .i16 x4, .int .i16 x5, .int .i16 x6, .int .i16 x7], .int .u8 2]) (by simp [results, Try.results110, go_sem, c2, z2]) rfl ?_
      refine ⟨x0, x1, x2, x3, x4, x5, x6, x7, by rw [HD.out], by rw [HD.out], ?_⟩
      refine Below.alloc ?_ (by simp; omega) _
      iterate 8 refine Below.setCell ?_ (by show w.heap.size ≤ w.heap.size + 2; omega) _
      exact HB.out
    · have HD : Hid (doRec ⟨c, i, false, t⟩ [x0, x1, x2, x3, x4, x5, x6, x7] = ((Dk.doV t.data.toList [x0, x1, x2, x3, x4, x5, x6, x7]).1, if (Dk.doV t.data.toList [x0, x1, x2, x3, x4, x5, x6, x7]).2 then 1 else 2)) := by
        show _ = _
        unfold doRec
        rw [if_neg (by simp), if_pos (by exact hok)]
      obtain ⟨hk, hn, hown⟩ := HP.out hok
      have hl := Dk.opsOf_len hok
      have HK : Hid (_ ∧ _ ∧ _ ∧ _) := ⟨hk, hn, own_base (B' := w.heap.size) hown (by simp; omega), hl⟩
      clear HP hok hk hn hown hl
      go_wp2_with fail
      have hd := do_any b0 b1 b2 b3 b4 b5 b6 b7 a n c' w.heap.size (Dk.opsOf t.data.toList) x0 x1 x2 x3 x4 x5 x6 x7 (w1.alloc (.cells #[.bool b0, .bool b1, .bool b2, .bool b3, .bool b4, .bool b5, .bool b6, .bool b7, .slice a n c'] 94)) HK.out.2.1 (by have := HK.out; omega) (HK.out.2.2.1.alloc _) (Dk.opsOf_bd _)
      refine hd.mono ?_
      rintro e w2 ⟨y0, y1, y2, y3, y4, y5, y6, y7, d, rfl, hy, hb⟩
      have HY : Hid (([y0, y1, y2, y3, y4, y5, y6, y7], d) = Dk.doV t.data.toList [x0, x1, x2, x3, x4, x5, x6, x7]) := by
        show _ = _
        rw [hy]
        unfold Dk.doV
        rw [← HK.out.1]
        cases Dk.runV [b0, b1, b2, b3, b4, b5, b6, b7] (Dk.opsOf t.data.toList) [x0, x1, x2, x3, x4, x5, x6, x7] <;> rfl
      have HB2 := below_of_new hb
      obtain ⟨d1, e1, u1⟩ := heap_cells ((HB2.block _ z1).trans HG.out.1)
      obtain ⟨d2, e2, u2⟩ := heap_cells ((HB2.block _ z2).trans HG.out.2)
      have HB3 : Hid (Below w.heap.size w w2) := HB.out.trans (HB2.mono HB.out.size)
      clear hy hb hd HB2 c0 c1 c2 f0 f1 f2 z0 z1 z2
      rw [← HY.out] at HD
      cases d
      · have hx : [y0, y1, y2, y3, y4, y5, y6, y7] = [x0, x1, x2, x3, x4, x5, x6, x7] := by
          have h1 := HY.out
          unfold Dk.doV at h1
          split at h1
          · cases h1
          · injection h1
        have HXX : Hid _ := hx
        clear hx
        go_wp2
        refine bodyPost_ret (v := .tuple #[.agg #[.int .i16 x0, .int .i16 x1, .int .i16 x2, .int .i16 x3, .int .i16 x4, .int .i16 x5, .int .i16 x6, .int .i16 x7], .int .u8 2]) (by simp [results, Try.results110, go_sem, d2, u2]) rfl ?_
        refine ⟨x0, x1, x2, x3, x4, x5, x6, x7, by rw [HD.out]; rfl, by rw [HD.out]; exact HXX.out.symm, ?_⟩
        refine Below.alloc ?_ (by simp; omega) _
        iterate 8 refine Below.setCell ?_ (by show w.heap.size ≤ w.heap.size + 2; omega) _
        exact HB3.out
      · go_wp2
        refine bodyPost_ret (v := .tuple #[.agg #[.int .i16 y0, .int .i16 y1, .int .i16 y2, .int .i16 y3, .int .i16 y4, .int .i16 y5, .int .i16 y6, .int .i16 y7], .int .u8 1]) (by simp [results, Try.results110, go_sem, d2, u2]) rfl ?_
        refine ⟨y0, y1, y2, y3, y4, y5, y6, y7, by rw [HD.out]; rfl, by rw [HD.out], ?_⟩
        refine Below.alloc ?_ (by simp; omega) _
        iterate 8 refine Below.setCell ?_ (by show w.heap.size ≤ w.heap.size + 2; omega) _
        exact HB3.out

theorem pcost_any (b0 b1 b2 b3 b4 b5 b6 b7 : Bool) (a : Option Addr) (n c : Nat) (w : World) :
    Calls Try.prog 84 #[.agg #[.bool b0, .bool b1, .bool b2, .bool b3, .bool b4, .bool b5, .bool b6, .bool b7, .slice a n c]] w fun e w' => e = .returned (.int .i64 (n : Int)) ∧ Below w.heap.size w w' := by
  go_enter Try.func84, Try.ntmps84
  go_wp2
  go_ret
  exact ⟨rfl, (Below.refl _ _).alloc (Nat.le_refl _) _⟩

theorem opsOf_cost {t : ByteArray} : (Dk.opsOf t.data.toList).length = costV t := by
  unfold Dk.opsOf Dk.opsV costV
  rw [List.length_map]

end Go.Proofs.Ytccckonckddadaa
namespace Go.Proofs.Ytccckonckddadaa
open Go.RowKit
set_option linter.unusedVariables false

/-! ### The program's cluster in memory -/
def waitCells (x : WaitV) : List Value := [.int .i64 x.i, .string x.t, .int .i64 x.c, .int .i64 x.d]
def waitsCells (q : List WaitV) : List Value := q.flatMap waitCells
def outCells (x : OutV) : List Value := [.int .i64 x.i, .int .u8 x.s, .int .i64 x.e]
def outsCells (l : List OutV) : List Value := l.flatMap outCells
def sixCells (l : List Int) : List Value := l.map (.int .i16 ·)
/-- Where the epochs' texts and the replicas lie. -/
structure TailV where
  aE : Option Addr
  cE : Nat
  gR : Nat
def prepCells (x : RepV) : List Value := .string x.disk :: .int .i64 x.safe :: .int .i64 x.count :: sixCells x.cells
def prepsCells (l : List RepV) : List Value := l.flatMap prepCells
def seqCells (p : SeqV) (vA : Value) (lb : TailV) (vS : Value) : List Value :=
  .int .i64 p.queue :: .int .i64 p.quantum :: .int .i64 p.room :: vA :: .int .i64 p.first :: .slice lb.aE p.eps.length lb.cE :: (sixCells p.cells ++ [vS, .slice (some ⟨lb.gR, 0, none⟩) p.reps.length p.reps.length])

theorem waitsCells_len : ∀ q : List WaitV, (waitsCells q).length = q.length * 4
  | [] => rfl
  | x :: q => by
    show (waitCells x ++ waitsCells q).length = _
    rw [List.length_append, waitsCells_len q, List.length_cons]; simp [waitCells]; omega
theorem waitsCells_at : ∀ (q : List WaitV) (k j : Nat) (x : WaitV), q[k]? = some x → j < 4 → (waitsCells q)[k * 4 + j]? = (waitCells x)[j]?
  | [], k, j, x, h, _ => by simp at h
  | y :: q, 0, j, x, h, hj => by
    have : y = x := by simpa using h
    subst this
    show (waitCells y ++ waitsCells q)[0 * 4 + j]? = _
    rw [List.getElem?_append_left (by simp [waitCells]; omega)]; simp
  | y :: q, k + 1, j, x, h, hj => by
    show (waitCells y ++ waitsCells q)[(k + 1) * 4 + j]? = _
    rw [List.getElem?_append_right (by simp [waitCells]; omega)]
    have e : (k + 1) * 4 + j - (waitCells y).length = k * 4 + j := by simp [waitCells]; omega
    rw [e, waitsCells_at q k j x (by simpa using h) hj]
theorem waitsCells_append (a b : List WaitV) : waitsCells (a ++ b) = waitsCells a ++ waitsCells b := by
  unfold waitsCells; rw [List.flatMap_append]
theorem waitsCells_snoc (q : List WaitV) (x : WaitV) : waitsCells (q ++ [x]) = waitsCells q ++ waitCells x := by
  rw [waitsCells_append]; simp [waitsCells]
theorem outsCells_len : ∀ l : List OutV, (outsCells l).length = l.length * 3
  | [] => rfl
  | x :: l => by
    show (outCells x ++ outsCells l).length = _
    rw [List.length_append, outsCells_len l, List.length_cons]; simp [outCells]; omega
theorem outsCells_at : ∀ (l : List OutV) (k j : Nat) (x : OutV), l[k]? = some x → j < 3 → (outsCells l)[k * 3 + j]? = (outCells x)[j]?
  | [], k, j, x, h, _ => by simp at h
  | y :: q, 0, j, x, h, hj => by
    have : y = x := by simpa using h
    subst this
    show (outCells y ++ outsCells q)[0 * 3 + j]? = _
    rw [List.getElem?_append_left (by simp [outCells]; omega)]; simp
  | y :: q, k + 1, j, x, h, hj => by
    show (outCells y ++ outsCells q)[(k + 1) * 3 + j]? = _
    rw [List.getElem?_append_right (by simp [outCells]; omega)]
    have e : (k + 1) * 3 + j - (outCells y).length = k * 3 + j := by simp [outCells]; omega
    rw [e, outsCells_at q k j x (by simpa using h) hj]
theorem outsCells_snoc (l : List OutV) (x : OutV) : outsCells (l ++ [x]) = outsCells l ++ outCells x := by
  unfold outsCells; rw [List.flatMap_append]; simp

/-- A waiting transaction in its row. -/
theorem wait_cell {w : World} {B n c : Nat} {a : Option Addr} {q : List WaitV} (h : w.ownsRow B 164 4 (.slice a n c) n (waitsCells q)) {k : Nat} {x : WaitV} (hk : q[k]? = some x) (hn : k < n) :
    ∃ g, a = some ⟨g, 0, none⟩ ∧ g < w.heap.size ∧ w.cell? ⟨g, k * 4, none⟩ = some (.int .i64 x.i) ∧ w.cell? ⟨g, k * 4 + 1, none⟩ = some (.string x.t) ∧ w.cell? ⟨g, k * 4 + 2, none⟩ = some (.int .i64 x.c) ∧ w.cell? ⟨g, k * 4 + 3, none⟩ = some (.int .i64 x.d) := by
  obtain ⟨g, rfl, hg, hc, _⟩ := own_cell h (by omega)
  have hx : ∀ j, j < 4 → ∀ v, (waitCells x)[j]? = some v → w.cell? ⟨g, k * 4 + j, none⟩ = some v := fun j hj v hv => hc _ _ (by rw [waitsCells_at q k j x hk hj]; exact hv)
  exact ⟨g, rfl, hg, hx 0 (by omega) _ rfl, hx 1 (by omega) _ rfl, hx 2 (by omega) _ rfl, hx 3 (by omega) _ rfl⟩
theorem out_cell {w : World} {B n c : Nat} {a : Option Addr} {l : List OutV} (h : w.ownsRow B 153 3 (.slice a n c) n (outsCells l)) {k : Nat} {x : OutV} (hk : l[k]? = some x) (hn : k < n) :
    ∃ g, a = some ⟨g, 0, none⟩ ∧ g < w.heap.size ∧ w.cell? ⟨g, k * 3, none⟩ = some (.int .i64 x.i) ∧ w.cell? ⟨g, k * 3 + 1, none⟩ = some (.int .u8 x.s) ∧ w.cell? ⟨g, k * 3 + 2, none⟩ = some (.int .i64 x.e) := by
  obtain ⟨g, rfl, hg, hc, _⟩ := own_cell h (by omega)
  have hx : ∀ j, j < 3 → ∀ v, (outCells x)[j]? = some v → w.cell? ⟨g, k * 3 + j, none⟩ = some v := fun j hj v hv => hc _ _ (by rw [outsCells_at l k j x hk hj]; exact hv)
  exact ⟨g, rfl, hg, hx 0 (by omega) _ rfl, hx 1 (by omega) _ rfl, hx 2 (by omega) _ rfl⟩

/-- An account: two cells, and its queue's row in block b. -/
def AccAt (w : World) (gA i : Nat) (b : Option Nat) (a : AccV) : Prop :=
  ∃ ad c, w.cell? ⟨gA, i * 2, none⟩ = some (.slice ad a.q.length c) ∧ w.cell? ⟨gA, i * 2 + 1, none⟩ = some (.int .i64 a.cr) ∧
    w.ownsRow 0 164 4 (.slice ad a.q.length c) a.q.length (waitsCells a.q) ∧ (Value.slice ad a.q.length c).ownBlock = b
theorem AccAt.same {w W : World} {gA i : Nat} {b : Option Nat} {a : AccV} (h : AccAt w gA i b a) (hA0 : W.cell? ⟨gA, i * 2, none⟩ = w.cell? ⟨gA, i * 2, none⟩) (hA1 : W.cell? ⟨gA, i * 2 + 1, none⟩ = w.cell? ⟨gA, i * 2 + 1, none⟩) (hb : ∀ k, b = some k → W.heap[k]? = w.heap[k]?) : AccAt W gA i b a := by
  obtain ⟨ad, c, h1, h2, h3, h4⟩ := h
  exact ⟨ad, c, hA0.trans h1, hA1.trans h2, own_same h3 (fun k hk => hb k (by rw [← h4]; exact hk)), h4⟩

/-- What is always true of its numbers. -/
structure SeqFit (p : SeqV) : Prop where
  n0 : 1 ≤ p.accs.length
  n8 : p.accs.length ≤ 8
  qu : 1 ≤ p.queue ∧ p.queue ≤ 8
  qt : 1 ≤ p.quantum ∧ p.quantum ≤ 8
  ro : 8 ≤ p.room ∧ p.room ≤ 64
  first : p.first < p.accs.length
  many : p.epochs ≤ 200
  cells : p.cells.length = 8
  long : p.log.length ≤ 2000000
  outs : p.outs.length ≤ 1000000
  acc : ∀ a ∈ p.accs, a.q.length ≤ 8 ∧ 0 ≤ a.cr ∧ a.cr ≤ 100000 ∧ ∀ x ∈ a.q, Dk.parseOk x.t.data.toList = true ∧ x.c = costV x.t ∧ 0 ≤ x.i ∧ x.i ≤ 999999

def RepOk (x : RepV) : Prop := x.cells.length = 8 ∧ x.disk.size ≤ 2000000 ∧ x.safe ≤ 2000000 ∧ x.count ≤ 200
structure TailAt (w : World) (g : Nat) (F : Nat → Prop) (p : SeqV) (gA : Nat) (qb : Nat → Option Nat) (vS : Value) (lb : TailV) : Prop where
  eplen : p.eps.length = p.epochs
  eplog : p.log = p.eps.flatMap (fun b => b.data.toList)
  epfit : ∀ b ∈ p.eps, 0 < b.size ∧ b.size ≤ 4232
  row : w.ownsRow 0 9 1 (.slice lb.aE p.eps.length lb.cE) p.eps.length (p.eps.map (Value.string ·))
  eF : ∀ k, (Value.slice lb.aE p.eps.length lb.cE).ownBlock = some k → F k ∧ k ≠ g ∧ k ≠ gA ∧ k ≠ lb.gR ∧ vS.ownBlock ≠ some k ∧ ∀ i, qb i ≠ some k
  reps : w.heap[lb.gR]? = some (.cells (prepsCells p.reps).toArray 120)
  rF : F lb.gR ∧ lb.gR ≠ g ∧ lb.gR ≠ gA ∧ vS.ownBlock ≠ some lb.gR ∧ ∀ i, qb i ≠ some lb.gR
  rfit : p.reps.length ≤ 4 ∧ ∀ x ∈ p.reps, RepOk x
theorem TailAt.move {w W : World} {g : Nat} {F F' : Nat → Prop} {p p' : SeqV} {gA : Nat} {qb qb' : Nat → Option Nat} {vS vS' : Value} {lb : TailV} (t : TailAt w g F p gA qb vS lb) (h1 : p'.eps = p.eps) (h2 : p'.reps = p.reps) (h3 : p'.epochs = p.epochs) (h4 : p'.log = p.log)
    (hF : ∀ k, F k → F' k) (hk : ∀ k, F k → k ≠ g → k ≠ gA → vS.ownBlock ≠ some k → (∀ i, qb i ≠ some k) → W.heap[k]? = w.heap[k]?)
    (hq : ∀ i k, F k → qb' i = some k → qb i = some k) (hS : ∀ k, F k → vS'.ownBlock = some k → vS.ownBlock = some k) : TailAt W g F' p' gA qb' vS' lb := by
  obtain ⟨t1, t2, t2b, t3, t4, t5, t6, t7⟩ := t
  refine ⟨by rw [h1, h3]; exact t1, by rw [h1, h4]; exact t2, by rw [h1]; exact t2b, ?_, ?_, ?_, ?_, by rw [h2]; exact t7⟩
  · rw [h1]; exact own_same t3 (fun k hk' => by obtain ⟨a, b, c, d, e, f⟩ := t4 k hk'; exact hk k a b c e f)
  · rw [h1]; intro k hk'; obtain ⟨a, b, c, d, e, f⟩ := t4 k hk'; exact ⟨hF k a, b, c, d, fun x => e (hS k a x), fun i x => f i (hq i k a x)⟩
  · rw [h2, hk _ t6.1 t6.2.1 t6.2.2.1 t6.2.2.2.1 t6.2.2.2.2]; exact t5
  · exact ⟨hF _ t6.1, t6.2.1, t6.2.2.1, fun x => t6.2.2.2.1 (hS _ t6.1 x), fun i x => t6.2.2.2.2 i (hq i _ t6.1 x)⟩

structure SeqMem (w : World) (g : Nat) (F : Nat → Prop) (p : SeqV) (gA : Nat) (qb : Nat → Option Nat) (aS : Option Addr) (cS : Nat) (lb : TailV) : Prop where
  blk : w.heap[g]? = some (.cells (seqCells p (.slice (some ⟨gA, 0, none⟩) p.accs.length p.accs.length) lb (.slice aS p.outs.length cS)).toArray 117)
  log : TailAt w g F p gA qb (.slice aS p.outs.length cS) lb
  row : ∃ arr, w.heap[gA]? = some (.cells arr 156)
  acc : ∀ i a, p.accs[i]? = some a → AccAt w gA i (qb i) a
  aF : F gA ∧ gA ≠ g
  qF : ∀ i k, qb i = some k → F k ∧ k ≠ g ∧ k ≠ gA ∧ (Value.slice aS p.outs.length cS).ownBlock ≠ some k
  qone : ∀ i j k, qb i = some k → qb j = some k → i = j
  outs : w.ownsRow 0 153 3 (.slice aS p.outs.length cS) p.outs.length (outsCells p.outs)
  sF : ∀ k, (Value.slice aS p.outs.length cS).ownBlock = some k → F k ∧ k ≠ g ∧ k ≠ gA

structure SeqAt (w : World) (g : Nat) (F : Nat → Prop) (p : SeqV) : Prop where
  fit : SeqFit p
  gF : F g
  own : ∀ k, F k → k < w.heap.size
  mem : ∃ gA qb aS cS lb, SeqMem w g F p gA qb aS cS lb

theorem SeqAt.block {w : World} {g : Nat} {F : Nat → Prop} {p : SeqV} (h : SeqAt w g F p) : g < w.heap.size := h.own g h.gF
theorem SeqAt.same {w W : World} {g : Nat} {F : Nat → Prop} {p : SeqV} (h : SeqAt w g F p) (hs : w.heap.size ≤ W.heap.size) (hb : ∀ k, F k → W.heap[k]? = w.heap[k]?) : SeqAt W g F p := by
  obtain ⟨gA, qb, aS, cS, lb, m⟩ := h.mem
  have hA : ∀ x, W.cell? ⟨gA, x, none⟩ = w.cell? ⟨gA, x, none⟩ := fun x => World.cell?_of_block (a := ⟨gA, x, none⟩) (hb gA m.aF.1)
  refine ⟨h.fit, h.gF, fun k hk => Nat.lt_of_lt_of_le (h.own k hk) hs, gA, qb, aS, cS, lb, (hb g h.gF).trans m.blk, m.log.move rfl rfl rfl rfl (fun _ hk => hk) (fun k hk _ _ _ _ => hb k hk) (fun _ _ _ hh => hh) (fun _ _ hh => hh), ?_, ?_, m.aF, m.qF, m.qone, own_same m.outs (fun k hk => hb k (m.sF k hk).1), m.sF⟩
  · obtain ⟨arr, h1⟩ := m.row
    exact ⟨arr, (hb gA m.aF.1).trans h1⟩
  · intro i a ha
    exact (m.acc i a ha).same (hA _) (hA _) (fun k hk => hb k (m.qF i k hk).1)
theorem SeqAt.below {w W : World} {g : Nat} {F : Nat → Prop} {p : SeqV} (h : SeqAt w g F p) (hb : Below w.heap.size w W) : SeqAt W g F p := h.same hb.size (fun k hk => hb.block k (h.own k hk))
/-- What a call that changes the program's cluster leaves. -/
def SeqPost (g : Nat) (F : Nat → Prop) (p' : SeqV) (w w' : World) : Prop := ∃ F' : Nat → Prop, SeqAt w' g F' p' ∧ Kept F w w' ∧ (∀ k, F' k → F k ∨ w.heap.size ≤ k)
theorem SeqPost.same {g : Nat} {F : Nat → Prop} {p : SeqV} {w w' : World} (h : SeqAt w g F p) (hb : Below w.heap.size w w') : SeqPost g F p w w' := ⟨F, h.below hb, Kept.of hb, fun k hk => .inl hk⟩
theorem SeqPost.trans {g : Nat} {F F' : Nat → Prop} {p : SeqV} {w w' w'' : World} (hk : Kept F w w') (hF : ∀ k, F' k → F k ∨ w.heap.size ≤ k) (h : SeqPost g F' p w' w'') : SeqPost g F p w w'' := by
  obtain ⟨F2, h1, h2, h3⟩ := h
  refine ⟨F2, h1, hk.trans h2 (fun i hi hf => ?_), fun k hk2 => ?_⟩
  · rcases hF i hf with h | h
    · exact h
    · omega
  · rcases h3 k hk2 with h | h
    · exact hF k h
    · exact .inr (Nat.le_trans hk.size h)

/-- What a call on an account leaves: its two cells and its row. -/
structure AccPost (w w' : World) (gA i : Nat) (b b' : Option Nat) (a' : AccV) : Prop where
  kept : Kept (fun k => k = gA ∨ b = some k) w w'
  side : ∃ arr', w'.heap[gA]? = some (.cells arr' 156) ∧ ∀ x, x ≠ i * 2 → x ≠ i * 2 + 1 → w'.cell? ⟨gA, x, none⟩ = w.cell? ⟨gA, x, none⟩
  acc : AccAt w' gA i b' a'
  new : ∀ k, b' = some k → (b = some k ∨ w.heap.size ≤ k) ∧ k < w'.heap.size
  ne : b' ≠ some gA
theorem AccPost.trans {w w1 w2 : World} {gA i : Nat} {b b1 b2 : Option Nat} {a1 a2 : AccV} (h : AccPost w w1 gA i b b1 a1) (k : AccPost w1 w2 gA i b1 b2 a2) : AccPost w w2 gA i b b2 a2 := by
  refine ⟨h.kept.trans k.kept (fun x hx hh => ?_), ?_, k.acc, fun x hx => ?_, k.ne⟩
  · rcases hh with hh | hh
    · exact .inl hh
    · rcases (h.new x hh).1 with h1 | h1
      · exact .inr h1
      · omega
  · obtain ⟨r, r1, r2⟩ := k.side
    obtain ⟨_, _, r3⟩ := h.side
    exact ⟨r, r1, fun x h1 h2 => (r2 x h1 h2).trans (r3 x h1 h2)⟩
  · obtain ⟨h1, h2⟩ := k.new x hx
    refine ⟨?_, h2⟩
    rcases h1 with h1 | h1
    · exact (h.new x h1).1
    · exact .inr (Nat.le_trans h.kept.size h1)
/-- Nothing of it changes. -/
theorem AccPost.below {w w' : World} {gA i : Nat} {b : Option Nat} {a : AccV} (hA : ∃ arr, w.heap[gA]? = some (.cells arr 156)) (h : AccAt w gA i b a) (hn : b ≠ some gA) (hb : Below w.heap.size w w') : AccPost w w' gA i b b a := by
  obtain ⟨arr, hA⟩ := hA
  have hg := (heap_cells hA).2.2
  have hc : ∀ x, w'.cell? ⟨gA, x, none⟩ = w.cell? ⟨gA, x, none⟩ := fun x => hb.cell (p := ⟨gA, x, none⟩) hg
  have hlt : ∀ k, b = some k → k < w.heap.size := fun k hk => by
    obtain ⟨_, _, _, _, h3, h4⟩ := h
    exact (h3.lt k (h4.trans hk)).2
  exact ⟨Kept.of hb, ⟨arr, (hb.block gA hg).trans hA, fun x _ _ => hc x⟩, h.same (hc _) (hc _) (fun k hk => hb.block k (hlt k hk)), fun k hk => ⟨.inl hk, Nat.lt_of_lt_of_le (hlt k hk) hb.size⟩, hn⟩
/-- The credit is written. -/
theorem AccPost.credit {w : World} {gA i : Nat} {b : Option Nat} {q : List WaitV} {cr : Int} (hA : ∃ arr, w.heap[gA]? = some (.cells arr 156)) (h : AccAt w gA i b ⟨q, cr⟩) (hn : b ≠ some gA) (x : Int) : AccPost w (w.setCell ⟨gA, i * 2 + 1, none⟩ (.int .i64 x)) gA i b b ⟨q, x⟩ := by
  obtain ⟨arr, hA⟩ := hA
  have hg := (heap_cells hA).2.2
  obtain ⟨ad, c, h1, h2, h3, h4⟩ := h
  have hset := heap_set hA (x := i * 2 + 1) (v := .int .i64 x)
  have hsz : (w.setCell ⟨gA, i * 2 + 1, none⟩ (.int .i64 x)).heap.size = w.heap.size := by simp [World.setCell]
  have hother : ∀ y, y ≠ i * 2 + 1 → (w.setCell ⟨gA, i * 2 + 1, none⟩ (.int .i64 x)).cell? ⟨gA, y, none⟩ = w.cell? ⟨gA, y, none⟩ := fun y hy => by
    rw [(heap_cells hset).1, (heap_cells hA).1, Array.getElem?_setIfInBounds_ne (fun e => hy e.symm)]
  have hin : i * 2 + 1 < arr.size := by
    rw [(heap_cells hA).1] at h2
    exact (Array.getElem?_eq_some_iff.1 h2).1
  have hne : ∀ k, b = some k → k ≠ gA := fun k hk e => hn (by rw [hk, e])
  refine ⟨Kept.set (Kept.refl _ _) (.inl (.inl rfl)) _, ⟨_, hset, fun y _ hy => hother y hy⟩, ⟨ad, c, (hother _ (by omega)).trans h1, ?_, own_same h3 (fun k hk => Below.heap_setCell _ _ _ _ (by exact hne k (h4.symm.trans hk))), h4⟩, fun k hk => ⟨.inl hk, ?_⟩, hn⟩
  · rw [(heap_cells hset).1, Array.getElem?_setIfInBounds_self_of_lt hin]
  · rw [hsz]; exact (h3.lt k (h4.trans hk)).2
/-- The queue is written: a row that lies elsewhere. -/
theorem AccPost.queue {w : World} {gA i : Nat} {b b' : Option Nat} {q q' : List WaitV} {cr : Int} {ad : Option Addr} {c B : Nat} (hA : ∃ arr, w.heap[gA]? = some (.cells arr 156)) (h : AccAt w gA i b ⟨q, cr⟩)
    (hr : w.ownsRow B 164 4 (.slice ad q'.length c) q'.length (waitsCells q')) (hb : (Value.slice ad q'.length c).ownBlock = b') (hn : b' ≠ some gA) : 
    Kept (fun k => k = gA) w (w.setCell ⟨gA, i * 2, none⟩ (.slice ad q'.length c)) ∧ (∃ arr', (w.setCell ⟨gA, i * 2, none⟩ (.slice ad q'.length c)).heap[gA]? = some (.cells arr' 156) ∧ ∀ x, x ≠ i * 2 → (w.setCell ⟨gA, i * 2, none⟩ (.slice ad q'.length c)).cell? ⟨gA, x, none⟩ = w.cell? ⟨gA, x, none⟩) ∧ AccAt (w.setCell ⟨gA, i * 2, none⟩ (.slice ad q'.length c)) gA i b' ⟨q', cr⟩ := by
  obtain ⟨arr, hA⟩ := hA
  obtain ⟨ad0, c0, h1, h2, h3, h4⟩ := h
  have hset := heap_set hA (x := i * 2) (v := .slice ad q'.length c)
  have hother : ∀ y, y ≠ i * 2 → (w.setCell ⟨gA, i * 2, none⟩ (.slice ad q'.length c)).cell? ⟨gA, y, none⟩ = w.cell? ⟨gA, y, none⟩ := fun y hy => by
    rw [(heap_cells hset).1, (heap_cells hA).1, Array.getElem?_setIfInBounds_ne (fun e => hy e.symm)]
  have hin : i * 2 < arr.size := by
    rw [(heap_cells hA).1] at h1
    exact (Array.getElem?_eq_some_iff.1 h1).1
  have hne : ∀ k, b' = some k → k ≠ gA := fun k hk e => hn (by rw [hk, e])
  refine ⟨Kept.set (F := fun k => k = gA) (Kept.refl _ _) (.inl rfl) _, ⟨_, hset, fun y hy => hother y hy⟩, ⟨ad, c, ?_, (hother _ (by omega)).trans h2, ?_, hb⟩⟩
  · rw [(heap_cells hset).1, Array.getElem?_setIfInBounds_self_of_lt hin]
  · exact own_base (own_same hr (fun k hk => Below.heap_setCell _ _ _ _ (by exact hne k (hb.symm.trans hk)))) (Nat.zero_le _)

/-- One account changed. -/
theorem seq_put {w w' : World} {g : Nat} {F : Nat → Prop} {p : SeqV} (hF : F g) (hown : ∀ k, F k → k < w.heap.size) {gA : Nat} {qb : Nat → Option Nat} {aS : Option Addr} {cS : Nat} {lb : TailV} (m : SeqMem w g F p gA qb aS cS lb) {i : Nat} {a' : AccV} (hi : i < p.accs.length) (hfit : SeqFit (putA p i a')) {b' : Option Nat} (h : AccPost w w' gA i (qb i) b' a') :
    SeqPost g F (putA p i a') w w' := by
  have hb1 := h.acc
  have hb2 := h.new
  have hb3 := h.ne
  obtain ⟨arr', r1, r2⟩ := h.side
  have hlen : (p.accs.set i a').length = p.accs.length := List.length_set
  have hkeep : ∀ k, F k → k ≠ gA → qb i ≠ some k → w'.heap[k]? = w.heap[k]? := fun k hk h1 h2 => h.kept.block k (hown k hk) (fun hh => by rcases hh with hh | hh; exact h1 hh; exact h2 hh)
  refine ⟨fun k => F k ∨ b' = some k, ⟨hfit, .inl hF, ?_, gA, fun j => if j = i then b' else qb j, aS, cS, lb, ?_, ?_, ⟨arr', r1⟩, ?_, ⟨.inl m.aF.1, m.aF.2⟩, ?_, ?_, ?_, ?_⟩, ?_, ?_⟩
  · intro k hk
    rcases hk with hk | hk
    · exact Nat.lt_of_lt_of_le (hown k hk) h.kept.size
    · exact (hb2 k hk).2
  · rw [hkeep g hF (fun e => m.aF.2 e.symm) (fun e => (m.qF i g e).2.1 rfl), m.blk]
    unfold seqCells putA
    simp only [hlen]
  · refine m.log.move rfl rfl rfl rfl (fun k hk => .inl hk) (fun k hk _ h1 _ h2 => hkeep k hk h1 (h2 i)) (fun j k hk hj => ?_) (fun _ _ hh => hh)
    by_cases hji : j = i
    · rw [if_pos hji] at hj
      rcases (hb2 k hj).1 with h1 | h1
      · rw [hji]; exact h1
      · have := hown k hk; omega
    · rw [if_neg hji] at hj
      exact hj
  · intro j a ha
    by_cases hj : j = i
    · subst hj
      have : (p.accs.set j a')[j]? = some a := ha
      rw [List.getElem?_set_self hi] at this
      cases this
      rw [if_pos rfl]
      exact hb1
    · have : (p.accs.set i a')[j]? = some a := ha
      rw [List.getElem?_set_ne (fun e => hj e.symm)] at this
      rw [if_neg hj]
      exact (m.acc j a this).same (r2 _ (by omega) (by omega)) (r2 _ (by omega) (by omega)) (fun k hk => hkeep k (m.qF j k hk).1 (m.qF j k hk).2.2.1 (fun e => hj (m.qone j i k hk e)))
  · intro j k hk
    by_cases hj : j = i
    · rw [if_pos hj] at hk
      rcases (hb2 k hk).1 with h1 | h1
      · have := m.qF i k h1
        exact ⟨.inl this.1, this.2⟩
      · refine ⟨.inr hk, ?_, fun e => hb3 (e ▸ hk), fun e => ?_⟩
        · have := hown g hF; omega
        · have := hown k (m.sF k e).1; omega
    · rw [if_neg hj] at hk
      have := m.qF j k hk
      exact ⟨.inl this.1, this.2⟩
  · have hdis : ∀ j k, j ≠ i → qb j = some k → b' = some k → False := fun j k hj hq hb => by
      rcases (hb2 k hb).1 with h1 | h1
      · exact hj (m.qone j i k hq h1)
      · have := hown k (m.qF j k hq).1; omega
    intro j j' k hj hj'
    by_cases h1 : j = i
    · by_cases h2 : j' = i
      · rw [h1, h2]
      · rw [if_pos h1] at hj; rw [if_neg h2] at hj'
        exact (hdis j' k h2 hj' hj).elim
    · by_cases h2 : j' = i
      · rw [if_neg h1] at hj; rw [if_pos h2] at hj'
        exact (hdis j k h1 hj hj').elim
      · rw [if_neg h1] at hj; rw [if_neg h2] at hj'
        exact m.qone j j' k hj hj'
  · exact own_same m.outs (fun k hk => hkeep k (m.sF k hk).1 (m.sF k hk).2.2 (fun e => (m.qF i k e).2.2.2 hk))
  · intro k hk
    have := m.sF k hk
    exact ⟨.inl this.1, this.2⟩
  · refine ⟨h.kept.os, h.kept.tape, h.kept.output, h.kept.size, fun k hk hF' => h.kept.block k hk (fun hh => ?_)⟩
    rcases hh with rfl | hh
    · exact hF' m.aF.1
    · exact hF' (m.qF i k hh).1
  · intro k hk
    rcases hk with hk | hk
    · exact .inl hk
    · rcases (hb2 k hk).1 with h1 | h1
      · exact .inl (m.qF i k h1).1
      · exact .inr h1

end Go.Proofs.Ytccckonckddadaa
