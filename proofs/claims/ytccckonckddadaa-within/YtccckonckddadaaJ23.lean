import Derived.Test.YtccckonckddadaaJ22
import Derived.Test.YtccckonckddadaaJ14
import Derived.Test.YtccckonckddadaaJ02
import Derived.Deep.RegionHeld3
namespace Go.Proofs.Ytccckonckddadaa
open Go.RowKit
set_option linter.unusedVariables false

/-! ### visit -/
def roundV (s : CluV) (client q : Nat) (t : TxV) : CluV :=
  endsV (cellsV (credV s client (s.credit.getD client 0 - costV t.t)) (Dk.doV t.t.data.toList s.cells).1) q (if (Dk.doV t.t.data.toList s.cells).2 then 1 else 2)
def visitGo (client : Nat) : Nat → CluV → Int → List RecV → CluV × List RecV × Int
  | 0, s, room, l => (s, l, room)
  | k + 1, s, room, l =>
    if frontV s client room < 0 then (s, l, room) else
    match s.txs[(frontV s client room).toNat]? with
    | none => (s, l, room)
    | some t => visitGo client k (roundV s client (frontV s client room).toNat t) (room - costV t.t) (l ++ [⟨client, t.i, false, t.t⟩])
def visitV (s : CluV) (client : Nat) (room : Int) : CluV × List RecV × Int :=
  let x := visitGo client 65 (credV s client (s.credit.getD client 0 + s.conf.quantum)) room []
  if queueV x.1.txs client = [] then (credV x.1 client 0, x.2) else x

theorem front_some {s : CluV} {client : Nat} {room : Int} (h : 0 ≤ frontV s client room) : ∃ (q : Nat) (t : TxV), frontV s client room = (q : Int) ∧ s.txs[q]? = some t ∧ (costV t.t : Int) ≤ s.credit.getD client 0 ∧ (costV t.t : Int) ≤ room := by
  unfold frontV at h ⊢
  cases hq : queueV s.txs client with
  | nil => rw [hq] at h; simp at h
  | cons q qs =>
    rw [hq] at h
    simp only at h ⊢
    cases ht : s.txs[q]? with
    | none => rw [ht] at h; simp at h
    | some t =>
      rw [ht] at h
      simp only at h ⊢
      by_cases hc : s.credit.getD client 0 < (costV t.t : Int) ∨ room < (costV t.t : Int)
      · rw [if_pos hc] at h; omega
      · rw [if_neg hc]
        exact ⟨q, t, rfl, ht, by omega, by omega⟩

theorem visit_stop {client k : Nat} {s : CluV} {room : Int} {l : List RecV} (h : frontV s client room < 0) : visitGo client k s room l = (s, l, room) := by
  cases k with
  | zero => rfl
  | succ k => rw [visitGo, if_pos h]
theorem visit_go {client k q : Nat} {s : CluV} {room : Int} {l : List RecV} {t : TxV} (h : frontV s client room = (q : Int)) (ht : s.txs[q]? = some t) : visitGo client (k + 1) s room l = visitGo client k (roundV s client q t) (room - costV t.t) (l ++ [⟨client, t.i, false, t.t⟩]) := by
  rw [visitGo, if_neg (by omega), h, Int.toNat_natCast, ht]

theorem runV_len (ks : List Bool) : ∀ (os : List Dk.Op) (cs cs' : List Int), cs.length = 8 → Dk.runV ks os cs = some cs' → cs'.length = 8
  | [], cs, cs', h, hr => by
    rw [Dk.runV] at hr
    cases hr
    exact h
  | o :: os, cs, cs', h, hr => by
    obtain ⟨y0, y1, y2, y3, y4, y5, y6, y7, rfl⟩ := list8' cs h
    obtain ⟨z0, z1, z2, z3, z4, z5, z6, z7, sd, hstep⟩ := Dk.stepV_8 ks o y0 y1 y2 y3 y4 y5 y6 y7
    rw [Dk.runV, hstep] at hr
    split at hr
    · exact runV_len ks os _ _ rfl hr
    · cases hr
theorem doV_len (l : List UInt8) {cs : List Int} (h : cs.length = 8) : (Dk.doV l cs).1.length = 8 := by
  unfold Dk.doV
  cases hr : Dk.runV (Dk.keysOf l) (Dk.opsOf l) cs with
  | none => exact h
  | some cs' => exact runV_len _ _ _ _ h hr

theorem Kept.drew {F : Nat → Prop} {a w : World} (h : Kept F a w) : Kept F a w.drew := ⟨h.os, h.tape, h.output, h.size, h.block⟩
theorem Kept.then {F : Nat → Prop} {a b c : World} (h : Kept F a b) (hb : Below b.heap.size b c) : Kept F a c := h.trans (G := fun _ => False) (Kept.of hb) (fun _ _ hh => hh.elim)

end Go.Proofs.Ytccckonckddadaa
namespace Go.Proofs.Ytccckonckddadaa
set_option linter.unusedVariables false

/-! ### How many wait -/
def wait (t : TxV) : Bool := decide (t.s = 0)
def waiting (s : CluV) : Nat := s.txs.countP wait

theorem queue_count (client : Int) : ∀ (l : List TxV) (k : Nat), (queueFrom client k l).length = l.countP (waits client)
  | [], _ => rfl
  | t :: l, k => by
    rw [queueFrom, List.countP_cons]
    split
    · rw [List.length_cons, queue_count client l (k + 1)]
    · rw [queue_count client l (k + 1)]; rfl

theorem count_modify (p : TxV → Bool) (f : TxV → TxV) : ∀ (l : List TxV) (i : Nat) (t : TxV), l[i]? = some t → (l.modify i f).countP p + (if p t then 1 else 0) = l.countP p + (if p (f t) then 1 else 0)
  | [], i, t, h => by simp at h
  | x :: l, 0, t, h => by
    have : x = t := by simpa using h
    subst this
    show (f x :: l).countP p + _ = _
    rw [List.countP_cons, List.countP_cons]
    omega
  | x :: l, i + 1, t, h => by
    have ih := count_modify p f l i t (by simpa using h)
    show (x :: l.modify i f).countP p + _ = _
    rw [List.countP_cons, List.countP_cons]
    omega

/-- What ends waits no longer. -/
theorem ends_waiting {s : CluV} {i : Nat} {t : TxV} {st : Int} (hi : s.txs[i]? = some t) (ht : t.s = 0) (hst : st ≠ 0) : waiting (endsV s i st) + 1 = waiting s := by
  have h := count_modify wait (fun t => { t with s := st, e := s.epochs.length }) s.txs i t hi
  have h1 : wait t = true := by unfold wait; rw [decide_eq_true ht]
  have h2 : wait { t with s := st, e := s.epochs.length } = false := by unfold wait; exact decide_eq_false hst
  rw [h1, h2] at h
  exact h
theorem ends_queue {s : CluV} {i : Nat} {t : TxV} {st : Int} (hi : s.txs[i]? = some t) (hst : st ≠ 0) (c : Int) : (queueV (endsV s i st).txs c).length ≤ (queueV s.txs c).length := by
  unfold queueV
  rw [queue_count, queue_count]
  have h := count_modify (waits c) (fun t => { t with s := st, e := s.epochs.length }) s.txs i t hi
  have h2 : waits c { t with s := st, e := s.epochs.length } = false := by unfold waits; rw [decide_eq_false hst]; simp
  rw [h2] at h
  simp only [Bool.false_eq_true, if_false] at h
  show (s.txs.modify i _).countP _ ≤ _
  omega

def upTo (t : TxV) (m : Nat) : Nat := if (wait t && decide (t.c < (m : Int))) = true then 1 else 0
theorem upTo_zero {t : TxV} (h : 0 ≤ t.c) : upTo t 0 = 0 := by
  unfold upTo
  rw [decide_eq_false (by omega)]; simp
theorem upTo_all {t : TxV} {n : Nat} (h : t.c < (n : Int)) : upTo t n = if wait t = true then 1 else 0 := by
  unfold upTo
  rw [decide_eq_true h]; simp
theorem upTo_succ (t : TxV) (m : Nat) : upTo t (m + 1) = upTo t m + (if waits (m : Int) t = true then 1 else 0) := by
  unfold upTo waits wait
  cases hs : decide (t.s = 0)
  · simp
  · by_cases h1 : t.c < (m : Int)
    · rw [decide_eq_true h1, decide_eq_true (by omega : t.c < ((m + 1 : Nat) : Int)), decide_eq_false (by omega : ¬ t.c = (m : Int))]; simp
    · by_cases h2 : t.c = (m : Int)
      · rw [decide_eq_false h1, decide_eq_true (by omega : t.c < ((m + 1 : Nat) : Int)), decide_eq_true h2]; simp
      · rw [decide_eq_false h1, decide_eq_false (by omega : ¬ t.c < ((m + 1 : Nat) : Int)), decide_eq_false h2]; simp

/-- All that wait, client by client. -/
theorem waiting_sum : ∀ (l : List TxV) (n : Nat), (∀ t ∈ l, 0 ≤ t.c ∧ t.c < (n : Int)) → l.countP wait = ((List.range n).map fun (c : Nat) => l.countP (waits (c : Int))).sum
  | [], n, _ => by
    have : ∀ m, ((List.range m).map fun (c : Nat) => ([] : List TxV).countP (waits (c : Int))).sum = 0 := fun m => by
      induction m with
      | zero => rfl
      | succ m ih => rw [List.range_succ, List.map_append, List.sum_append, ih]; rfl
    rw [this]; rfl
  | t :: l, n, h => by
    have ih := waiting_sum l n (fun x hx => h x (by simp [hx]))
    have ht := h t (by simp)
    have key : ∀ m : Nat, ((List.range m).map fun (c : Nat) => (t :: l).countP (waits (c : Int))).sum = ((List.range m).map fun (c : Nat) => l.countP (waits (c : Int))).sum + upTo t m := fun m => by
      induction m with
      | zero => rw [upTo_zero ht.1]; rfl
      | succ m ihm =>
        have hs := upTo_succ t m
        rw [List.range_succ, List.map_append, List.map_append, List.sum_append, List.sum_append, ihm]
        simp only [List.map_cons, List.map_nil, List.sum_cons, List.sum_nil, List.countP_cons]
        omega
    rw [key n, ← ih, List.countP_cons, upTo_all ht.2]

theorem sum_le (f : Nat → Nat) (k : Nat) : ∀ n, (∀ c, c < n → f c ≤ k) → ((List.range n).map f).sum ≤ n * k
  | 0, _ => by simp
  | n + 1, h => by
    have := sum_le f k n (fun c hc => h c (by omega))
    rw [List.range_succ, List.map_append, List.sum_append]
    have h2 := h n (by omega)
    simp only [List.map_cons, List.map_nil, List.sum_cons, List.sum_nil]
    rw [Nat.succ_mul]
    omega

theorem waiting_le {s : CluV} (h : CluFit s) (hq : ∀ c : Nat, ((queueV s.txs c).length : Int) ≤ s.conf.queue) : waiting s ≤ 64 := by
  have hcf := h.conf
  unfold confOk at hcf
  simp only [Bool.and_eq_true, decide_eq_true_eq] at hcf
  obtain ⟨n, hn⟩ := Int.eq_ofNat_of_zero_le (by omega : 0 ≤ s.conf.clients)
  have h1 := waiting_sum s.txs n (fun t ht => by have := h.tx t ht; rw [hn] at this; exact ⟨this.2.1, this.2.2.1⟩)
  have h2 := sum_le (fun c => s.txs.countP (waits (c : Int))) 8 n (fun c _ => by
    have := hq c
    unfold queueV at this
    rw [queue_count] at this
    show s.txs.countP _ ≤ 8
    omega)
  unfold waiting
  rw [h1]
  omega

end Go.Proofs.Ytccckonckddadaa
namespace Go.Proofs.Ytccckonckddadaa
set_option linter.unusedVariables false

/-- What a client's part of an epoch leaves alone. -/
structure Mild (s s' : CluV) : Prop where
  conf : s'.conf = s.conf
  epochs : s'.epochs = s.epochs
  first : s'.first = s.first
  reps : s'.reps = s.reps
  queue : ∀ c : Int, (queueV s'.txs c).length ≤ (queueV s.txs c).length
theorem Mild.refl (s : CluV) : Mild s s := ⟨rfl, rfl, rfl, rfl, fun _ => Nat.le_refl _⟩
theorem Mild.trans {a b c : CluV} (h : Mild a b) (k : Mild b c) : Mild a c := ⟨k.conf.trans h.conf, k.epochs.trans h.epochs, k.first.trans h.first, k.reps.trans h.reps, fun x => Nat.le_trans (k.queue x) (h.queue x)⟩
theorem mild_ends {s : CluV} {i : Nat} {t : TxV} {st : Int} (hi : s.txs[i]? = some t) (hst : st ≠ 0) : Mild s (endsV s i st) := ⟨rfl, rfl, rfl, rfl, fun c => ends_queue hi hst c⟩

theorem fit_client {s : CluV} (h : CluFit s) {t : TxV} (ht : t ∈ s.txs) : 0 ≤ t.c ∧ t.c < 8 ∧ 0 ≤ t.i ∧ t.i ≤ 999999 := by
  have hcf := h.conf
  unfold confOk at hcf
  simp only [Bool.and_eq_true, decide_eq_true_eq] at hcf
  have := h.tx t ht
  omega

theorem late_rec {client i : Int} (h0 : 0 ≤ client) (h8 : client < 8) (hi : 0 ≤ i ∧ i ≤ 999999) : Dk.recOk (⟨client, i, true, ⟨#[]⟩⟩ : RecV).told = true := by
  show ((if true = true then (([] : List UInt8) == []) else _) && decide (0 ≤ client ∧ client < 8) && decide (0 ≤ i ∧ i ≤ 999999)) = true
  rw [decide_eq_true ⟨h0, h8⟩, decide_eq_true hi]; rfl

theorem lateGo_mild {client : Int} (h0 : 0 ≤ client) (h8 : client < 8) : ∀ (q : List Nat) (s : CluV) (l : List RecV), CluFit s → (∀ x ∈ q, ∃ t, s.txs[x]? = some t ∧ t.s = 0) → q.Nodup → (recs l).all Dk.recOk = true →
    Mild s (lateGo client q s l).1 ∧ CluFit (lateGo client q s l).1 ∧ (lateGo client q s l).1.credit = s.credit ∧ (lateGo client q s l).2.length + waiting (lateGo client q s l).1 = l.length + waiting s ∧ (recs (lateGo client q s l).2).all Dk.recOk = true
  | [], s, l, hf, _, _, hl => ⟨Mild.refl s, hf, rfl, rfl, hl⟩
  | x :: q, s, l, hf, hw, hn, hl => by
    obtain ⟨t, ht, hs⟩ := hw x (by simp)
    rw [List.nodup_cons] at hn
    rw [lateGo, ht]
    simp only
    split
    · have h1 := fit_ends hf x 3
      have h2 : ∀ y ∈ q, ∃ t, (endsV s x 3).txs[y]? = some t ∧ t.s = 0 := by
        intro y hy
        obtain ⟨t', ht', hs'⟩ := hw y (by simp [hy])
        refine ⟨t', ?_, hs'⟩
        show (s.txs.modify x _)[y]? = some t'
        rw [modify_get, if_neg (fun e => hn.1 (by rw [e]; exact hy))]
        exact ht'
      have hid := fit_client hf (List.mem_of_getElem? ht)
      have h3 : (recs (l ++ [⟨client, t.i, true, ⟨#[]⟩⟩])).all Dk.recOk = true := by
        unfold recs at hl ⊢
        rw [List.map_append, List.all_append, hl]
        simp only [List.map_cons, List.map_nil, List.all_cons, List.all_nil, Bool.true_and, Bool.and_true]
        exact late_rec h0 h8 hid.2.2
      obtain ⟨a1, a2, a3, a4, a5⟩ := lateGo_mild h0 h8 q (endsV s x 3) (l ++ [⟨client, t.i, true, ⟨#[]⟩⟩]) h1 h2 hn.2 h3
      refine ⟨(mild_ends ht (by decide)).trans a1, a2, a3, ?_, a5⟩
      have h4 := ends_waiting (st := 3) ht hs (by decide)
      rw [a4, List.length_append, List.length_singleton]
      omega
    · exact lateGo_mild h0 h8 q s l hf (fun y hy => hw y (by simp [hy])) hn.2 hl

theorem queue_rise (client : Int) : ∀ (l : List TxV) (k : Nat), (queueFrom client k l).Nodup ∧ ∀ x ∈ queueFrom client k l, ∃ t, l[x - k]? = some t ∧ k ≤ x ∧ t.s = 0 ∧ t.c = client
  | [], k => ⟨List.nodup_nil, fun x hx => by simp [queueFrom] at hx⟩
  | t :: l, k => by
    obtain ⟨h1, h2⟩ := queue_rise client l (k + 1)
    have hin : ∀ x ∈ queueFrom client (k + 1) l, ∃ t', (t :: l)[x - k]? = some t' ∧ k ≤ x ∧ t'.s = 0 ∧ t'.c = client := fun x hx => by
      obtain ⟨t', e1, e2, e3⟩ := h2 x hx
      refine ⟨t', ?_, by omega, e3⟩
      rw [show x - k = (x - (k + 1)) + 1 from by omega, List.getElem?_cons_succ]
      exact e1
    rw [queueFrom]
    split
    · rename_i hw
      refine ⟨List.nodup_cons.2 ⟨fun hk => ?_, h1⟩, fun x hx => ?_⟩
      · obtain ⟨_, _, e2, _⟩ := h2 k hk
        omega
      · rcases List.mem_cons.1 hx with rfl | hx
        · unfold waits at hw
          rw [Bool.and_eq_true, decide_eq_true_eq, decide_eq_true_eq] at hw
          exact ⟨t, by rw [Nat.sub_self]; rfl, Nat.le_refl _, hw.2, hw.1⟩
        · exact hin x hx
    · exact ⟨h1, hin⟩

theorem lateV_mild {s : CluV} (hf : CluFit s) {client : Int} (h0 : 0 ≤ client) (h8 : client < 8) : Mild s (lateV s client).1 ∧ CluFit (lateV s client).1 ∧ (lateV s client).1.credit = s.credit ∧ (lateV s client).2.length + waiting (lateV s client).1 = waiting s ∧ (recs (lateV s client).2).all Dk.recOk = true := by
  obtain ⟨h1, h2⟩ := queue_rise client s.txs 0
  have h := lateGo_mild h0 h8 (queueV s.txs client) s [] hf (fun x hx => by
    obtain ⟨t, e1, _, e3, _⟩ := h2 x hx
    exact ⟨t, e1, e3⟩) h1 rfl
  obtain ⟨a1, a2, a3, a4, a5⟩ := h
  refine ⟨a1, a2, a3, ?_, a5⟩
  show (lateGo client (queueV s.txs client) s []).2.length + waiting (lateGo client (queueV s.txs client) s []).1 = _
  rw [a4]; simp

/-! ### visit -/
theorem front_waits {s : CluV} {client : Nat} {room : Int} {q : Nat} {t : TxV} (h : frontV s client room = (q : Int)) (ht : s.txs[q]? = some t) : t.s = 0 := by
  unfold frontV at h
  cases hq : queueV s.txs client with
  | nil => rw [hq] at h; simp at h
  | cons x qs =>
    rw [hq] at h
    simp only at h
    obtain ⟨_, h2⟩ := queue_rise client s.txs 0
    obtain ⟨t', e1, _, e3, _⟩ := h2 x (by show x ∈ queueV s.txs client; rw [hq]; simp)
    rw [Nat.sub_zero] at e1
    rw [e1] at h
    simp only at h
    split at h
    · omega
    · have : x = q := by omega
      subst this
      rw [e1] at ht
      cases ht
      exact e3

theorem visit_rec {client : Nat} {i : Int} {t : ByteArray} (h8 : client < 8) (hi : 0 ≤ i ∧ i ≤ 999999) (ht : Dk.parseOk t.data.toList = true) : Dk.recOk (⟨client, i, false, t⟩ : RecV).told = true := by
  show ((if false = true then _ else Dk.parseOk t.data.toList) && decide (0 ≤ (client : Int) ∧ (client : Int) < 8) && decide (0 ≤ i ∧ i ≤ 999999)) = true
  rw [decide_eq_true ⟨by omega, by omega⟩, decide_eq_true hi]
  simp [ht]

theorem sign_16 {sg : Int} {j : Nat} {h v : Int} {cs : List Int} (hc : Dk.All16 cs) (hv : Dk.In16 v) : Dk.All16 (Dk.signV sg j h v cs).1 := by
  unfold Dk.signV
  split
  · exact Dk.set_16 hc j hv
  split
  · exact Dk.set_16 hc j (Dk.wrap16_bd _)
  split
  · exact Dk.set_16 hc j (Dk.wrap16_bd _)
  split
  · exact Dk.set_16 hc j (Dk.wrap16_bd _)
  split
  · exact hc
  split
  · exact hc
  split
  · exact hc
  · exact hc
theorem step_16 {ks : List Bool} {l : List UInt8} {cs : List Int} (h : Dk.All16 cs) : Dk.All16 (Dk.stepV ks (Dk.opV l) cs).1 := by
  cases hk : Dk.decl ks (Dk.opV l).key
  · rw [Dk.stepV_key hk]; exact h
  · cases hi : (Dk.opV l).isKey
    · rw [Dk.stepV_go hk (fun hh => by rw [hi] at hh; cases hh)]
      exact sign_16 h (Dk.argVal_16 h l)
    · cases hd : Dk.decl ks (Dk.opV l).akey
      · rw [Dk.stepV_arg hk hi hd]; exact h
      · rw [Dk.stepV_go hk (fun _ => hd)]
        exact sign_16 h (Dk.argVal_16 h l)
theorem run_16 (ks : List Bool) : ∀ (ps : List (List UInt8)) (cs cs' : List Int), Dk.All16 cs → Dk.runV ks (ps.map Dk.opV) cs = some cs' → Dk.All16 cs'
  | [], cs, cs', h, hr => by
    rw [List.map_nil, Dk.runV] at hr
    cases hr
    exact h
  | p :: ps, cs, cs', h, hr => by
    rw [List.map_cons, Dk.runV] at hr
    split at hr
    · exact run_16 ks ps _ _ (step_16 h) hr
    · cases hr
theorem doV_16 {l : List UInt8} {cs : List Int} (h : Dk.All16 cs) : Dk.All16 (Dk.doV l cs).1 := by
  unfold Dk.doV
  cases hr : Dk.runV (Dk.keysOf l) (Dk.opsOf l) cs with
  | none => exact h
  | some cs' => exact run_16 _ _ _ _ h hr

theorem round_mild {s : CluV} (hf : CluFit s) {client q : Nat} {room : Int} {t : TxV} (hfr : frontV s client room = (q : Int)) (ht : s.txs[q]? = some t) (hc : (costV t.t : Int) ≤ s.credit.getD client 0) :
    Mild s (roundV s client q t) ∧ CluFit (roundV s client q t) ∧ waiting (roundV s client q t) + 1 = waiting s ∧ (∀ k, k ≠ client → (roundV s client q t).credit[k]? = s.credit[k]?) := by
  have hs := front_waits hfr ht
  have hst : (if (Dk.doV t.t.data.toList s.cells).2 then (1 : Int) else 2) ≠ 0 := by split <;> decide
  have hcr : 0 ≤ s.credit.getD client 0 - (costV t.t : Int) ∧ s.credit.getD client 0 - (costV t.t : Int) ≤ 8 * ((s.epochs.length : Int) + 1) := by
    refine ⟨by omega, ?_⟩
    by_cases hl : client < s.credit.length
    · have := hf.cr s.credit[client] (List.getElem_mem hl)
      rw [List.getD_eq_getElem?_getD, List.getElem?_eq_getElem hl]
      simp only [Option.getD_some]
      omega
    · rw [List.getD_eq_getElem?_getD, List.getElem?_eq_none (by omega)]
      simp only [Option.getD_none]
      omega
  have f1 := fit_cells (fit_cred hf (c := client) hcr) (doV_len t.t.data.toList hf.cells) (doV_16 hf.c16)
  have f2 := fit_ends f1 q (if (Dk.doV t.t.data.toList s.cells).2 then 1 else 2)
  have ht' : (cellsV (credV s client (s.credit.getD client 0 - (costV t.t : Int))) (Dk.doV t.t.data.toList s.cells).1).txs[q]? = some t := ht
  refine ⟨?_, f2, ends_waiting ht' hs hst, fun k hk => ?_⟩
  · exact Mild.trans (b := cellsV (credV s client (s.credit.getD client 0 - (costV t.t : Int))) (Dk.doV t.t.data.toList s.cells).1) ⟨rfl, rfl, rfl, rfl, fun _ => Nat.le_refl _⟩ (mild_ends ht' hst)
  · show (s.credit.set client _)[k]? = _
    rw [List.getElem?_set_ne (fun e => hk e.symm)]

theorem visitGo_mild {client : Nat} (h8 : client < 8) : ∀ (k : Nat) (s : CluV) (room : Int) (l : List RecV), CluFit s → 0 ≤ room → (recs l).all Dk.recOk = true →
    Mild s (visitGo client k s room l).1 ∧ CluFit (visitGo client k s room l).1 ∧ (visitGo client k s room l).2.1.length + waiting (visitGo client k s room l).1 = l.length + waiting s ∧ (recs (visitGo client k s room l).2.1).all Dk.recOk = true ∧ (∀ j, j ≠ client → (visitGo client k s room l).1.credit[j]? = s.credit[j]?) ∧ 0 ≤ (visitGo client k s room l).2.2 ∧ (visitGo client k s room l).2.2 ≤ room
  | 0, s, room, l, hf, hr, hl => ⟨Mild.refl s, hf, rfl, hl, fun _ _ => rfl, hr, Int.le_refl _⟩
  | k + 1, s, room, l, hf, hr, hl => by
    by_cases hlt : frontV s client room < 0
    · rw [visit_stop hlt]
      exact ⟨Mild.refl s, hf, rfl, hl, fun _ _ => rfl, hr, Int.le_refl _⟩
    · obtain ⟨q, t, h1, h2, h3, h4⟩ := front_some (by omega : 0 ≤ frontV s client room)
      rw [visit_go h1 h2]
      obtain ⟨m1, m2, m3, m4⟩ := round_mild hf h1 h2 h3
      have hid := fit_client hf (List.mem_of_getElem? h2)
      have hpt := (hf.tx _ (List.mem_of_getElem? h2)).1
      have h5 : (recs (l ++ [⟨client, t.i, false, t.t⟩])).all Dk.recOk = true := by
        unfold recs at hl ⊢
        rw [List.map_append, List.all_append, hl]
        simp only [List.map_cons, List.map_nil, List.all_cons, List.all_nil, Bool.true_and, Bool.and_true]
        exact visit_rec h8 hid.2.2 hpt
      obtain ⟨a1, a2, a3, a4, a5, a6, a7⟩ := visitGo_mild h8 k (roundV s client q t) (room - costV t.t) (l ++ [⟨client, t.i, false, t.t⟩]) m2 (by omega) h5
      refine ⟨m1.trans a1, a2, ?_, a4, fun j hj => (a5 j hj).trans (m4 j hj), a6, by omega⟩
      rw [a3, List.length_append, List.length_singleton]
      omega

end Go.Proofs.Ytccckonckddadaa
namespace Go.Proofs.Ytccckonckddadaa
open Go.RowKit
set_option linter.unusedVariables false

/-! ### The bytes of the first epochs -/
def logV (s : CluV) (n : Nat) : List UInt8 := Dk.logFrom 0 ((s.epochs.take n).map recs)

theorem ep_cell {w : World} {n c : Nat} {a : Option Addr} {eas : List (Option Addr × Nat)} {es : List (List RecV)} (h : w.ownsRow 0 34 1 (.slice a n c) n (List.zipWith (fun (a : Option Addr × Nat) (rs : List RecV) => Value.slice a.1 rs.length a.2) eas es)) (hl : eas.length = es.length) (hn : es.length = n) {k : Nat} (hk : k < n) :
    ∃ (g : Nat) (x : Option Addr × Nat) (rs : List RecV), a = some ⟨g, 0, none⟩ ∧ g < w.heap.size ∧ eas[k]? = some x ∧ es[k]? = some rs ∧ w.cell? ⟨g, k, none⟩ = some (.slice x.1 rs.length x.2) := by
  obtain ⟨g, rfl, hg, hc, _⟩ := own_cell h (by omega)
  have h1 : k < eas.length := by omega
  have h2 : k < es.length := by omega
  refine ⟨g, eas[k], es[k], rfl, hg, List.getElem?_eq_getElem h1, List.getElem?_eq_getElem h2, hc k _ ?_⟩
  rw [List.getElem?_zipWith, List.getElem?_eq_getElem h1, List.getElem?_eq_getElem h2]

theorem log_snoc {s : CluV} {k : Nat} {rs : List RecV} (hk : s.epochs[k]? = some rs) : logV s (k + 1) = logV s k ++ Dk.epoch k (recs rs) := by
  obtain ⟨hl, rfl⟩ := List.getElem?_eq_some_iff.1 hk
  unfold logV
  rw [List.take_succ_eq_append_getElem hl, List.map_append]
  show Dk.logFrom 0 (_ ++ [recs s.epochs[k]]) = _
  rw [Dk.logFrom_snoc, List.length_map, List.length_take, Nat.min_eq_left (by omega), Nat.zero_add]

end Go.Proofs.Ytccckonckddadaa
namespace Go.Proofs.Ytccckonckddadaa
open Go.RowKit
set_option linter.unusedVariables false

/-! ### New -/
def newCells (c : ConfV) : Array Value := #[.int .i64 c.clients, .int .i64 c.queue, .int .i64 c.quantum, .int .i64 c.room, .int .i64 c.reps, .slice none 0 0, .int .i64 0, .int .i64 0, .int .i64 0, .int .i64 0, .int .i64 0, .int .i64 0, .int .i64 0, .int .i64 0, .int .i64 0, .slice none 0 0, .int .i64 0, .int .i64 0, .int .i64 0, .int .i64 0, .int .i64 0, .int .i64 0, .int .i64 0, .int .i64 0, .int .i64 0, .int .i64 0, .int .i64 0, .int .i64 0, .int .i64 0, .int .i64 0, .int .i64 0, .int .i64 0]

theorem fit_new {c : ConfV} (h : confOk c = true) : CluFit (newV c) := by
  have hc := h
  unfold confOk at hc
  simp only [Bool.and_eq_true, decide_eq_true_eq] at hc
  exact ⟨h, rfl, rfl, rfl, Nat.zero_le _, Int.le_refl _, by show (0 : Int) < c.clients; omega, Nat.zero_le _, (fun t ht => by cases ht), (fun i j x y hx => by simp [newV] at hx), (fun rs hrs => by cases hrs), (fun y hy => by simp [newV] at hy; subst hy; unfold Dk.In16; omega), (fun y hy => by simp [newV] at hy; subst hy; exact ⟨Int.le_refl _, by simp [newV]⟩)⟩
end Go.Proofs.Ytccckonckddadaa
