import Derived.Test.YtccckonckddadabGreatJ30
import Derived.Test.YtccckonckddadabGreatJ28
import Derived.Test.YtccckonckddadabGreatJ03
import Derived.Deep.RegionHeld3
namespace Go.Proofs.YtccckonckddadabGreat
set_option linter.unusedVariables false

/-! ### How many wait -/
def wait (t : TxV) : Bool := decide (t.s = 0)
def waiting (s : CluV) : Nat := s.txs.countP wait

theorem queue_count (client : Int) : ∀ (l : List TxV) (k : Nat), (queueFrom client k l).length = l.countP (waits client)
  | [], _ => rfl
  | t :: l, k => by
    rw [queueFrom, List.countP_cons]
    split
    · rw [List.length_cons, queue_count client l (k + 1)]
    · rw [queue_count client l (k + 1)]; rfl

theorem count_modify (p : TxV → Bool) (f : TxV → TxV) : ∀ (l : List TxV) (i : Nat) (t : TxV), l[i]? = some t → (l.modify i f).countP p + (if p t then 1 else 0) = l.countP p + (if p (f t) then 1 else 0)
  | [], i, t, h => by simp at h
  | x :: l, 0, t, h => by
    have : x = t := by simpa using h
    subst this
    show (f x :: l).countP p + _ = _
    rw [List.countP_cons, List.countP_cons]
    omega
  | x :: l, i + 1, t, h => by
    have ih := count_modify p f l i t (by simpa using h)
    show (x :: l.modify i f).countP p + _ = _
    rw [List.countP_cons, List.countP_cons]
    omega

/-- What ends waits no longer. -/
theorem ends_waiting {s : CluV} {i : Nat} {t : TxV} {st : Int} (hi : s.txs[i]? = some t) (ht : t.s = 0) (hst : st ≠ 0) : waiting (endsV s i st) + 1 = waiting s := by
  have h := count_modify wait (fun t => { t with s := st, e := s.epochs.length }) s.txs i t hi
  have h1 : wait t = true := by unfold wait; rw [decide_eq_true ht]
  have h2 : wait { t with s := st, e := s.epochs.length } = false := by unfold wait; exact decide_eq_false hst
  rw [h1, h2] at h
  exact h
theorem ends_queue {s : CluV} {i : Nat} {t : TxV} {st : Int} (hi : s.txs[i]? = some t) (hst : st ≠ 0) (c : Int) : (queueV (endsV s i st).txs c).length ≤ (queueV s.txs c).length := by
  unfold queueV
  rw [queue_count, queue_count]
  have h := count_modify (waits c) (fun t => { t with s := st, e := s.epochs.length }) s.txs i t hi
  have h2 : waits c { t with s := st, e := s.epochs.length } = false := by unfold waits; rw [decide_eq_false hst]; simp
  rw [h2] at h
  simp only [Bool.false_eq_true, if_false] at h
  show (s.txs.modify i _).countP _ ≤ _
  omega

def upTo (t : TxV) (m : Nat) : Nat := if (wait t && decide (t.c < (m : Int))) = true then 1 else 0
theorem upTo_zero {t : TxV} (h : 0 ≤ t.c) : upTo t 0 = 0 := by
  unfold upTo
  rw [decide_eq_false (by omega)]; simp
theorem upTo_all {t : TxV} {n : Nat} (h : t.c < (n : Int)) : upTo t n = if wait t = true then 1 else 0 := by
  unfold upTo
  rw [decide_eq_true h]; simp
theorem upTo_succ (t : TxV) (m : Nat) : upTo t (m + 1) = upTo t m + (if waits (m : Int) t = true then 1 else 0) := by
  unfold upTo waits wait
  cases hs : decide (t.s = 0)
  · simp
  · by_cases h1 : t.c < (m : Int)
    · rw [decide_eq_true h1, decide_eq_true (by omega : t.c < ((m + 1 : Nat) : Int)), decide_eq_false (by omega : ¬ t.c = (m : Int))]; simp
    · by_cases h2 : t.c = (m : Int)
      · rw [decide_eq_false h1, decide_eq_true (by omega : t.c < ((m + 1 : Nat) : Int)), decide_eq_true h2]; simp
      · rw [decide_eq_false h1, decide_eq_false (by omega : ¬ t.c < ((m + 1 : Nat) : Int)), decide_eq_false h2]; simp

/-- All that wait, client by client. -/
theorem waiting_sum : ∀ (l : List TxV) (n : Nat), (∀ t ∈ l, 0 ≤ t.c ∧ t.c < (n : Int)) → l.countP wait = ((List.range n).map fun (c : Nat) => l.countP (waits (c : Int))).sum
  | [], n, _ => by
    have : ∀ m, ((List.range m).map fun (c : Nat) => ([] : List TxV).countP (waits (c : Int))).sum = 0 := fun m => by
      induction m with
      | zero => rfl
      | succ m ih => rw [List.range_succ, List.map_append, List.sum_append, ih]; rfl
    rw [this]; rfl
  | t :: l, n, h => by
    have ih := waiting_sum l n (fun x hx => h x (by simp [hx]))
    have ht := h t (by simp)
    have key : ∀ m : Nat, ((List.range m).map fun (c : Nat) => (t :: l).countP (waits (c : Int))).sum = ((List.range m).map fun (c : Nat) => l.countP (waits (c : Int))).sum + upTo t m := fun m => by
      induction m with
      | zero => rw [upTo_zero ht.1]; rfl
      | succ m ihm =>
        have hs := upTo_succ t m
        rw [List.range_succ, List.map_append, List.map_append, List.sum_append, List.sum_append, ihm]
        simp only [List.map_cons, List.map_nil, List.sum_cons, List.sum_nil, List.countP_cons]
        omega
    rw [key n, ← ih, List.countP_cons, upTo_all ht.2]

theorem sum_le (f : Nat → Nat) (k : Nat) : ∀ n, (∀ c, c < n → f c ≤ k) → ((List.range n).map f).sum ≤ n * k
  | 0, _ => by simp
  | n + 1, h => by
    have := sum_le f k n (fun c hc => h c (by omega))
    rw [List.range_succ, List.map_append, List.sum_append]
    have h2 := h n (by omega)
    simp only [List.map_cons, List.map_nil, List.sum_cons, List.sum_nil]
    rw [Nat.succ_mul]
    omega

theorem waiting_le {s : CluV} (h : CluFit s) (hq : ∀ c : Nat, ((queueV s.txs c).length : Int) ≤ s.conf.queue) : waiting s ≤ 64 := by
  have hcf := h.conf
  unfold confOk at hcf
  simp only [Bool.and_eq_true, decide_eq_true_eq] at hcf
  obtain ⟨n, hn⟩ := Int.eq_ofNat_of_zero_le (by omega : 0 ≤ s.conf.clients)
  have h1 := waiting_sum s.txs n (fun t ht => by have := h.tx t ht; rw [hn] at this; exact ⟨this.2.1, this.2.2.1⟩)
  have h2 := sum_le (fun c => s.txs.countP (waits (c : Int))) 8 n (fun c _ => by
    have := hq c
    unfold queueV at this
    rw [queue_count] at this
    show s.txs.countP _ ≤ 8
    omega)
  unfold waiting
  rw [h1]
  omega

end Go.Proofs.YtccckonckddadabGreat
namespace Go.Proofs.YtccckonckddadabGreat
set_option linter.unusedVariables false

/-- What a client's part of an epoch leaves alone. -/
structure Mild (s s' : CluV) : Prop where
  conf : s'.conf = s.conf
  epochs : s'.epochs = s.epochs
  first : s'.first = s.first
  reps : s'.reps = s.reps
  queue : ∀ c : Int, (queueV s'.txs c).length ≤ (queueV s.txs c).length
theorem Mild.refl (s : CluV) : Mild s s := ⟨rfl, rfl, rfl, rfl, fun _ => Nat.le_refl _⟩
theorem Mild.trans {a b c : CluV} (h : Mild a b) (k : Mild b c) : Mild a c := ⟨k.conf.trans h.conf, k.epochs.trans h.epochs, k.first.trans h.first, k.reps.trans h.reps, fun x => Nat.le_trans (k.queue x) (h.queue x)⟩
theorem mild_ends {s : CluV} {i : Nat} {t : TxV} {st : Int} (hi : s.txs[i]? = some t) (hst : st ≠ 0) : Mild s (endsV s i st) := ⟨rfl, rfl, rfl, rfl, fun c => ends_queue hi hst c⟩

theorem fit_client {s : CluV} (h : CluFit s) {t : TxV} (ht : t ∈ s.txs) : 0 ≤ t.c ∧ t.c < 8 ∧ 0 ≤ t.i ∧ t.i ≤ 999999 := by
  have hcf := h.conf
  unfold confOk at hcf
  simp only [Bool.and_eq_true, decide_eq_true_eq] at hcf
  have := h.tx t ht
  omega

theorem late_rec {client i : Int} (h0 : 0 ≤ client) (h8 : client < 8) (hi : 0 ≤ i ∧ i ≤ 999999) : Dk.recOk (⟨client, i, true, ⟨#[]⟩⟩ : RecV).told = true := by
  show ((if true = true then (([] : List UInt8) == []) else _) && decide (0 ≤ client ∧ client < 8) && decide (0 ≤ i ∧ i ≤ 999999)) = true
  rw [decide_eq_true ⟨h0, h8⟩, decide_eq_true hi]; rfl

theorem lateGo_mild {client : Int} (h0 : 0 ≤ client) (h8 : client < 8) : ∀ (q : List Nat) (s : CluV) (l : List RecV), CluFit s → (∀ x ∈ q, ∃ t, s.txs[x]? = some t ∧ t.s = 0) → q.Nodup → (recs l).all Dk.recOk = true →
    Mild s (lateGo client q s l).1 ∧ CluFit (lateGo client q s l).1 ∧ (lateGo client q s l).1.credit = s.credit ∧ (lateGo client q s l).2.length + waiting (lateGo client q s l).1 = l.length + waiting s ∧ (recs (lateGo client q s l).2).all Dk.recOk = true
  | [], s, l, hf, _, _, hl => ⟨Mild.refl s, hf, rfl, rfl, hl⟩
  | x :: q, s, l, hf, hw, hn, hl => by
    obtain ⟨t, ht, hs⟩ := hw x (by simp)
    rw [List.nodup_cons] at hn
    rw [lateGo, ht]
    simp only
    split
    · have h1 := fit_ends hf x 3
      have h2 : ∀ y ∈ q, ∃ t, (endsV s x 3).txs[y]? = some t ∧ t.s = 0 := by
        intro y hy
        obtain ⟨t', ht', hs'⟩ := hw y (by simp [hy])
        refine ⟨t', ?_, hs'⟩
        show (s.txs.modify x _)[y]? = some t'
        rw [modify_get, if_neg (fun e => hn.1 (by rw [e]; exact hy))]
        exact ht'
      have hid := fit_client hf (List.mem_of_getElem? ht)
      have h3 : (recs (l ++ [⟨client, t.i, true, ⟨#[]⟩⟩])).all Dk.recOk = true := by
        unfold recs at hl ⊢
        rw [List.map_append, List.all_append, hl]
        simp only [List.map_cons, List.map_nil, List.all_cons, List.all_nil, Bool.true_and, Bool.and_true]
        exact late_rec h0 h8 hid.2.2
      obtain ⟨a1, a2, a3, a4, a5⟩ := lateGo_mild h0 h8 q (endsV s x 3) (l ++ [⟨client, t.i, true, ⟨#[]⟩⟩]) h1 h2 hn.2 h3
      refine ⟨(mild_ends ht (by decide)).trans a1, a2, a3, ?_, a5⟩
      have h4 := ends_waiting (st := 3) ht hs (by decide)
      rw [a4, List.length_append, List.length_singleton]
      omega
    · exact lateGo_mild h0 h8 q s l hf (fun y hy => hw y (by simp [hy])) hn.2 hl

theorem queue_rise (client : Int) : ∀ (l : List TxV) (k : Nat), (queueFrom client k l).Nodup ∧ ∀ x ∈ queueFrom client k l, ∃ t, l[x - k]? = some t ∧ k ≤ x ∧ t.s = 0 ∧ t.c = client
  | [], k => ⟨List.nodup_nil, fun x hx => by simp [queueFrom] at hx⟩
  | t :: l, k => by
    obtain ⟨h1, h2⟩ := queue_rise client l (k + 1)
    have hin : ∀ x ∈ queueFrom client (k + 1) l, ∃ t', (t :: l)[x - k]? = some t' ∧ k ≤ x ∧ t'.s = 0 ∧ t'.c = client := fun x hx => by
      obtain ⟨t', e1, e2, e3⟩ := h2 x hx
      refine ⟨t', ?_, by omega, e3⟩
      rw [show x - k = (x - (k + 1)) + 1 from by omega, List.getElem?_cons_succ]
      exact e1
    rw [queueFrom]
    split
    · rename_i hw
      refine ⟨List.nodup_cons.2 ⟨fun hk => ?_, h1⟩, fun x hx => ?_⟩
      · obtain ⟨_, _, e2, _⟩ := h2 k hk
        omega
      · rcases List.mem_cons.1 hx with rfl | hx
        · unfold waits at hw
          rw [Bool.and_eq_true, decide_eq_true_eq, decide_eq_true_eq] at hw
          exact ⟨t, by rw [Nat.sub_self]; rfl, Nat.le_refl _, hw.2, hw.1⟩
        · exact hin x hx
    · exact ⟨h1, hin⟩

theorem lateV_mild {s : CluV} (hf : CluFit s) {client : Int} (h0 : 0 ≤ client) (h8 : client < 8) : Mild s (lateV s client).1 ∧ CluFit (lateV s client).1 ∧ (lateV s client).1.credit = s.credit ∧ (lateV s client).2.length + waiting (lateV s client).1 = waiting s ∧ (recs (lateV s client).2).all Dk.recOk = true := by
  obtain ⟨h1, h2⟩ := queue_rise client s.txs 0
  have h := lateGo_mild h0 h8 (queueV s.txs client) s [] hf (fun x hx => by
    obtain ⟨t, e1, _, e3, _⟩ := h2 x hx
    exact ⟨t, e1, e3⟩) h1 rfl
  obtain ⟨a1, a2, a3, a4, a5⟩ := h
  refine ⟨a1, a2, a3, ?_, a5⟩
  show (lateGo client (queueV s.txs client) s []).2.length + waiting (lateGo client (queueV s.txs client) s []).1 = _
  rw [a4]; simp

/-! ### visit -/
theorem front_waits {s : CluV} {client : Nat} {room : Int} {q : Nat} {t : TxV} (h : frontV s client room = (q : Int)) (ht : s.txs[q]? = some t) : t.s = 0 := by
  unfold frontV at h
  cases hq : queueV s.txs client with
  | nil => rw [hq] at h; simp at h
  | cons x qs =>
    rw [hq] at h
    simp only at h
    obtain ⟨_, h2⟩ := queue_rise client s.txs 0
    obtain ⟨t', e1, _, e3, _⟩ := h2 x (by show x ∈ queueV s.txs client; rw [hq]; simp)
    rw [Nat.sub_zero] at e1
    rw [e1] at h
    simp only at h
    split at h
    · omega
    · have : x = q := by omega
      subst this
      rw [e1] at ht
      cases ht
      exact e3

theorem visit_rec {client : Nat} {i : Int} {t : ByteArray} (h8 : client < 8) (hi : 0 ≤ i ∧ i ≤ 999999) (ht : Dk.parseOk t.data.toList = true) : Dk.recOk (⟨client, i, false, t⟩ : RecV).told = true := by
  show ((if false = true then _ else Dk.parseOk t.data.toList) && decide (0 ≤ (client : Int) ∧ (client : Int) < 8) && decide (0 ≤ i ∧ i ≤ 999999)) = true
  rw [decide_eq_true ⟨by omega, by omega⟩, decide_eq_true hi]
  simp [ht]

theorem sign_16 {sg : Int} {j : Nat} {h v : Int} {cs : List Int} (hc : Dk.All16 cs) (hv : Dk.In16 v) : Dk.All16 (Dk.signV sg j h v cs).1 := by
  unfold Dk.signV
  split
  · exact Dk.set_16 hc j hv
  split
  · exact Dk.set_16 hc j (Dk.wrap16_bd _)
  split
  · exact Dk.set_16 hc j (Dk.wrap16_bd _)
  split
  · exact Dk.set_16 hc j (Dk.wrap16_bd _)
  split
  · exact hc
  split
  · exact hc
  split
  · exact hc
  · exact hc
theorem step_16 {ks : List Bool} {l : List UInt8} {cs : List Int} (h : Dk.All16 cs) : Dk.All16 (Dk.stepV ks (Dk.opV l) cs).1 := by
  cases hk : Dk.decl ks (Dk.opV l).key
  · rw [Dk.stepV_key hk]; exact h
  · cases hi : (Dk.opV l).isKey
    · rw [Dk.stepV_go hk (fun hh => by rw [hi] at hh; cases hh)]
      exact sign_16 h (Dk.argVal_16 h l)
    · cases hd : Dk.decl ks (Dk.opV l).akey
      · rw [Dk.stepV_arg hk hi hd]; exact h
      · rw [Dk.stepV_go hk (fun _ => hd)]
        exact sign_16 h (Dk.argVal_16 h l)
theorem run_16 (ks : List Bool) : ∀ (ps : List (List UInt8)) (cs cs' : List Int), Dk.All16 cs → Dk.runV ks (ps.map Dk.opV) cs = some cs' → Dk.All16 cs'
  | [], cs, cs', h, hr => by
    rw [List.map_nil, Dk.runV] at hr
    cases hr
    exact h
  | p :: ps, cs, cs', h, hr => by
    rw [List.map_cons, Dk.runV] at hr
    split at hr
    · exact run_16 ks ps _ _ (step_16 h) hr
    · cases hr
theorem doV_16 {l : List UInt8} {cs : List Int} (h : Dk.All16 cs) : Dk.All16 (Dk.doV l cs).1 := by
  unfold Dk.doV
  cases hr : Dk.runV (Dk.keysOf l) (Dk.opsOf l) cs with
  | none => exact h
  | some cs' => exact run_16 _ _ _ _ h hr

theorem round_mild {s : CluV} (hf : CluFit s) {client q : Nat} {room : Int} {t : TxV} (hfr : frontV s client room = (q : Int)) (ht : s.txs[q]? = some t) (hc : (costV t.t : Int) ≤ s.credit.getD client 0) :
    Mild s (roundV s client q t) ∧ CluFit (roundV s client q t) ∧ waiting (roundV s client q t) + 1 = waiting s ∧ (∀ k, k ≠ client → (roundV s client q t).credit[k]? = s.credit[k]?) := by
  have hs := front_waits hfr ht
  have hst : (if (Dk.doV t.t.data.toList s.cells).2 then (1 : Int) else 2) ≠ 0 := by split <;> decide
  have hcr : 0 ≤ s.credit.getD client 0 - (costV t.t : Int) ∧ s.credit.getD client 0 - (costV t.t : Int) ≤ 8 * ((s.epochs.length : Int) + 1) := by
    refine ⟨by omega, ?_⟩
    by_cases hl : client < s.credit.length
    · have := hf.cr s.credit[client] (List.getElem_mem hl)
      rw [List.getD_eq_getElem?_getD, List.getElem?_eq_getElem hl]
      simp only [Option.getD_some]
      omega
    · rw [List.getD_eq_getElem?_getD, List.getElem?_eq_none (by omega)]
      simp only [Option.getD_none]
      omega
  have f1 := fit_cells (fit_cred hf (c := client) hcr) (doV_len t.t.data.toList hf.cells) (doV_16 hf.c16)
  have f2 := fit_ends f1 q (if (Dk.doV t.t.data.toList s.cells).2 then 1 else 2)
  have ht' : (cellsV (credV s client (s.credit.getD client 0 - (costV t.t : Int))) (Dk.doV t.t.data.toList s.cells).1).txs[q]? = some t := ht
  refine ⟨?_, f2, ends_waiting ht' hs hst, fun k hk => ?_⟩
  · exact Mild.trans (b := cellsV (credV s client (s.credit.getD client 0 - (costV t.t : Int))) (Dk.doV t.t.data.toList s.cells).1) ⟨rfl, rfl, rfl, rfl, fun _ => Nat.le_refl _⟩ (mild_ends ht' hst)
  · show (s.credit.set client _)[k]? = _
    rw [List.getElem?_set_ne (fun e => hk e.symm)]

theorem visitGo_mild {client : Nat} (h8 : client < 8) : ∀ (k : Nat) (s : CluV) (room : Int) (l : List RecV), CluFit s → 0 ≤ room → (recs l).all Dk.recOk = true →
    Mild s (visitGo client k s room l).1 ∧ CluFit (visitGo client k s room l).1 ∧ (visitGo client k s room l).2.1.length + waiting (visitGo client k s room l).1 = l.length + waiting s ∧ (recs (visitGo client k s room l).2.1).all Dk.recOk = true ∧ (∀ j, j ≠ client → (visitGo client k s room l).1.credit[j]? = s.credit[j]?) ∧ 0 ≤ (visitGo client k s room l).2.2 ∧ (visitGo client k s room l).2.2 ≤ room
  | 0, s, room, l, hf, hr, hl => ⟨Mild.refl s, hf, rfl, hl, fun _ _ => rfl, hr, Int.le_refl _⟩
  | k + 1, s, room, l, hf, hr, hl => by
    by_cases hlt : frontV s client room < 0
    · rw [visit_stop hlt]
      exact ⟨Mild.refl s, hf, rfl, hl, fun _ _ => rfl, hr, Int.le_refl _⟩
    · obtain ⟨q, t, h1, h2, h3, h4⟩ := front_some (by omega : 0 ≤ frontV s client room)
      rw [visit_go h1 h2]
      obtain ⟨m1, m2, m3, m4⟩ := round_mild hf h1 h2 h3
      have hid := fit_client hf (List.mem_of_getElem? h2)
      have hpt := (hf.tx _ (List.mem_of_getElem? h2)).1
      have h5 : (recs (l ++ [⟨client, t.i, false, t.t⟩])).all Dk.recOk = true := by
        unfold recs at hl ⊢
        rw [List.map_append, List.all_append, hl]
        simp only [List.map_cons, List.map_nil, List.all_cons, List.all_nil, Bool.true_and, Bool.and_true]
        exact visit_rec h8 hid.2.2 hpt
      obtain ⟨a1, a2, a3, a4, a5, a6, a7⟩ := visitGo_mild h8 k (roundV s client q t) (room - costV t.t) (l ++ [⟨client, t.i, false, t.t⟩]) m2 (by omega) h5
      refine ⟨m1.trans a1, a2, ?_, a4, fun j hj => (a5 j hj).trans (m4 j hj), a6, by omega⟩
      rw [a3, List.length_append, List.length_singleton]
      omega

end Go.Proofs.YtccckonckddadabGreat
namespace Go.Proofs.YtccckonckddadabGreat
open Go.RowKit
set_option linter.unusedVariables false

/-! ### The bytes of the first epochs -/
def logV (s : CluV) (n : Nat) : List UInt8 := Dk.logFrom 0 ((s.epochs.take n).map recs)

theorem ep_cell {w : World} {n c : Nat} {a : Option Addr} {eas : List (Option Addr × Nat)} {es : List (List RecV)} (h : w.ownsRow 0 38 1 (.slice a n c) n (List.zipWith (fun (a : Option Addr × Nat) (rs : List RecV) => Value.slice a.1 rs.length a.2) eas es)) (hl : eas.length = es.length) (hn : es.length = n) {k : Nat} (hk : k < n) :
    ∃ (g : Nat) (x : Option Addr × Nat) (rs : List RecV), a = some ⟨g, 0, none⟩ ∧ g < w.heap.size ∧ eas[k]? = some x ∧ es[k]? = some rs ∧ w.cell? ⟨g, k, none⟩ = some (.slice x.1 rs.length x.2) := by
  obtain ⟨g, rfl, hg, hc, _⟩ := own_cell h (by omega)
  have h1 : k < eas.length := by omega
  have h2 : k < es.length := by omega
  refine ⟨g, eas[k], es[k], rfl, hg, List.getElem?_eq_getElem h1, List.getElem?_eq_getElem h2, hc k _ ?_⟩
  rw [List.getElem?_zipWith, List.getElem?_eq_getElem h1, List.getElem?_eq_getElem h2]

theorem log_snoc {s : CluV} {k : Nat} {rs : List RecV} (hk : s.epochs[k]? = some rs) : logV s (k + 1) = logV s k ++ Dk.epoch k (recs rs) := by
  obtain ⟨hl, rfl⟩ := List.getElem?_eq_some_iff.1 hk
  unfold logV
  rw [List.take_succ_eq_append_getElem hl, List.map_append]
  show Dk.logFrom 0 (_ ++ [recs s.epochs[k]]) = _
  rw [Dk.logFrom_snoc, List.length_map, List.length_take, Nat.min_eq_left (by omega), Nat.zero_add]

set_option maxRecDepth 100000 in
set_option maxHeartbeats 2000000 in
theorem refbytes_any (g : Nat) (F : Nat → Prop) (s : CluV) (n : Nat) (w : World) (h : CluAt w g F s) (hn : n ≤ s.epochs.length) :
    Calls Tryz.prog 71 #[.pointer (some ⟨g, 0, none⟩), .int .i64 n] w fun e w' => ∃ b : ByteArray, e = .returned (.string b) ∧ b.data.toList = logV s n ∧ Below w.heap.size w w' := by
  have hg := h.block
  have hmany := h.fit.many
  obtain ⟨aT, aE, cT, cE, eas, m1, _, _, m4, _, m6, m7⟩ := h.mem
  have c15 : w.cell? ⟨g, 15, none⟩ = some (.slice aE s.epochs.length cE) := by
    rw [(heap_cells m1).1, List.getElem?_toArray]
    exact clu_epochs h.fit.credit
  have H : Hid _ := h
  have HM : Hid (_ ∧ _ ∧ _) := ⟨m4, m6, m7⟩
  have C15 : Hid _ := c15
  clear m1 m4 m6 m7 h c15
  obtain ⟨ne, hne⟩ : ∃ x, s.epochs.length = x := ⟨_, rfl⟩
  rw [hne] at hmany hn C15
  have HNe : Hid _ := hne
  clear hne
  go_enter Tryz.func71, Tryz.ntmps71
  go_wp2
  go_loopw [5, 6] (fun v5 v6 wr => ∃ (k : Nat) (lg : ByteArray), k ≤ n ∧ v5 = .string lg ∧ v6 = .int .i64 k ∧ lg.size ≤ 4232 * k ∧ Hid (lg.data.toList = logV s k) ∧ Hid (Below w.heap.size w wr)) (fun _ v6 _ => n - (intOf v6).toNat)
  case atStart => exact ⟨0, ⟨#[]⟩, Nat.zero_le _, rfl, rfl, Nat.le_refl _, rfl, Below.refl _ _⟩
  case round =>
    obtain ⟨k, lg, hk, rfl, rfl, hls, HLg, HB⟩ := hrel
    have c15 : wr.cell? ⟨g, 15, none⟩ = some (.slice aE ne cE) := (HB.out.cell (p := ⟨g, 15, none⟩) hg).trans C15.out
    have hgr : g < wr.heap.size := Nat.lt_of_lt_of_le hg HB.out.size
    by_cases hlt : k < n
    · have k1 : (k : Int) < (n : Int) := by omega
      have k2 : (k : Int) < (ne : Int) := by omega
      have k0 : (0 : Int) ≤ (k : Int) := by omega
      have m4 := HM.out.1
      rw [HNe.out] at m4
      obtain ⟨gE, x, rs, rfl, hgE, hx, hrs, d0⟩ := ep_cell m4 HM.out.2.1 HNe.out (by omega : k < ne)
      obtain ⟨hrow, _⟩ := HM.out.2.2 k x rs hx hrs
      have e0 := (HB.out.cell (p := ⟨gE, k, none⟩) hgE).trans d0
      have hgEr : gE < wr.heap.size := Nat.lt_of_lt_of_le hgE HB.out.size
      have hep := H.out.fit.ep rs (List.mem_of_getElem? hrs)
      have HF : Hid (Dk.frameOk (k : Int) (recs rs) = true) := by
        show _ = _
        unfold Dk.frameOk
        rw [decide_eq_true ⟨k0, by omega⟩, decide_eq_true (by rw [recs, List.length_map]; exact hep.1), hep.2]; rfl
      have HRow : Hid (RecRow wr x.1 rs.length rs) := hrow.kept HB.out
      have HRs : Hid _ := hrs
      have hrl := hep.1
      clear m4 hx hrs d0 hrow hep
      obtain ⟨xa, xc⟩ := x
      simp only at e0
      generalize rs.length = rl at *
      go_wp2_with fail
      refine (frame_any (k : Int) xa rl xc rs _ (by unfold maxLen; omega) HRow.out).mono ?_
      rintro e w4 ⟨b, rfl, hb, hB4⟩
      rewrite [HF.out]
      rw [HF.out] at hb
      have HBb : Hid (b.data.toList = Dk.epoch k (recs rs)) := hb
      have hbs : b.size ≤ 4232 := by
        have := epoch_small HF.out
        have h2 := congrArg List.length HBb.out
        rw [len_list] at h2
        rw [Int.toNat_natCast] at this
        omega
      have HB4 : Hid (Below w.heap.size w w4) := HB.out.trans (hB4.mono HB.out.size)
      have y1 : ¬ 9223372036854775807 < lg.size + b.size := by omega
      have HLn : Hid ((lg ++ b).data.toList = logV s (k + 1)) := by
        show _ = _
        rw [app_list, HLg.out, HBb.out, log_snoc HRs.out]
      have hls2 : (lg ++ b).size ≤ 4232 * (k + 1) := by rw [app_size]; omega
      clear hb hB4 e0 c15
      go_wp2
      go_roundw
      case rel => exact ⟨k + 1, lg ++ b, by omega, rfl, by go_num, hls2, HLn, HB4⟩
      case measure => simp [intOf]; omega
    · have hkn : k = n := by omega
      subst hkn
      have hii : decide ((k : Int) < (k : Int)) = false := decide_eq_false (by omega)
      go_wp2
      go_ret
      exact ⟨lg, rfl, HLg.out, HB.out⟩

theorem reflog_any (g : Nat) (F : Nat → Prop) (s : CluV) (w : World) (h : CluAt w g F s) :
    Calls Tryz.prog 36 #[.pointer (some ⟨g, 0, none⟩)] w fun e w' => ∃ b : ByteArray, e = .returned (.string b) ∧ b.data.toList = logV s s.epochs.length ∧ Below w.heap.size w w' := by
  have hg := h.block
  obtain ⟨aT, aE, cT, cE, eas, m1, _⟩ := h.mem
  have c15 : w.cell? ⟨g, 15, none⟩ = some (.slice aE s.epochs.length cE) := by
    rw [(heap_cells m1).1, List.getElem?_toArray]
    exact clu_epochs h.fit.credit
  have H : Hid _ := h
  clear m1 h
  go_enter Tryz.func36, Tryz.ntmps36
  go_wp2_with fail
  refine (refbytes_any g F s s.epochs.length _ H.out (Nat.le_refl _)).mono ?_
  rintro e w1 ⟨b, rfl, hb, hB⟩
  have HB : Hid (_ ∧ _) := ⟨hb, hB⟩
  clear hb hB c15
  go_wp2
  go_ret
  exact ⟨b, rfl, HB.out.1, HB.out.2⟩

end Go.Proofs.YtccckonckddadabGreat
namespace Go.Proofs.YtccckonckddadabGreat
open Go.RowKit
set_option linter.unusedVariables false

/-! ### New -/
def newCells (c : ConfV) : Array Value := #[.int .i64 c.clients, .int .i64 c.queue, .int .i64 c.quantum, .int .i64 c.room, .int .i64 c.reps, .slice none 0 0, .int .i64 0, .int .i64 0, .int .i64 0, .int .i64 0, .int .i64 0, .int .i64 0, .int .i64 0, .int .i64 0, .int .i64 0, .slice none 0 0, .int .i64 0, .int .i64 0, .int .i64 0, .int .i64 0, .int .i64 0, .int .i64 0, .int .i64 0, .int .i64 0, .int .i64 0, .int .i64 0, .int .i64 0, .int .i64 0, .int .i64 0, .int .i64 0, .int .i64 0, .int .i64 0]

theorem fit_new {c : ConfV} (h : confOk c = true) : CluFit (newV c) := by
  have hc := h
  unfold confOk at hc
  simp only [Bool.and_eq_true, decide_eq_true_eq] at hc
  exact ⟨h, rfl, rfl, rfl, Nat.zero_le _, Int.le_refl _, by show (0 : Int) < c.clients; omega, Nat.zero_le _, (fun t ht => by cases ht), (fun i j x y hx => by simp [newV] at hx), (fun rs hrs => by cases hrs), (fun y hy => by simp [newV] at hy; subst hy; unfold Dk.In16; omega), (fun y hy => by simp [newV] at hy; subst hy; exact ⟨Int.le_refl _, by simp [newV]⟩)⟩
theorem clu_new {w : World} {g : Nat} {c : ConfV} (h : confOk c = true) (hg : w.heap[g]? = some (.cells (newCells c) 115)) : CluAt w g (fun k => k = g) (newV c) := by
  refine ⟨fit_new h, rfl, (fun k hk => by subst hk; exact (heap_cells hg).2.2), none, none, 0, 0, [], hg, World.ownsRow_nil _ _ _ _, (fun k hk => by cases hk), World.ownsRow_nil _ _ _ _, (fun k hk => by cases hk), rfl, (fun i a rs ha => by simp at ha)⟩

def NewPost (c : ConfV) (w : World) (e : Ending) (w' : World) : Prop :=
  (confOk c = true ∧ ∃ g, e = .returned (.tuple #[.pointer (some ⟨g, 0, none⟩), .int .i64 0]) ∧ CluAt w' g (fun k => k = g) (newV c) ∧ w.heap.size ≤ g ∧ Below w.heap.size w w') ∨
  (confOk c = false ∧ e = .returned (.tuple #[.pointer none, .int .i64 3]) ∧ Below w.heap.size w w')

set_option maxRecDepth 100000 in
set_option maxHeartbeats 2000000 in
theorem refnew_any (c : ConfV) (w : World) : Calls Tryz.prog 17 #[.agg #[.int .i64 c.clients, .int .i64 c.queue, .int .i64 c.quantum, .int .i64 c.room, .int .i64 c.reps]] w (NewPost c w) := by
  have HBa : Hid (∀ o, Below w.heap.size w (w.alloc o)) := fun o => (Below.refl _ _).alloc (Nat.le_refl _) _
  obtain ⟨x1, x2, x3, x4, x5⟩ := c
  by_cases h1 : 1 ≤ x1 ∧ x1 ≤ 8
  rotate_left
  · have HC : Hid (confOk ⟨x1, x2, x3, x4, x5⟩ = false) := by show _ = _; unfold confOk; simp only [decide_eq_false h1]; simp
    by_cases h4 : 8 ≤ x4 ∧ x4 ≤ 64
    · by_cases h5 : 1 ≤ x5 ∧ x5 ≤ 4
      · go_enter Tryz.func17, Tryz.ntmps17
        go_wp2_with (first | (go_at_call_of 46 (Value.int IntKind.i64 x1); refine (off_yes _ h1).mono ?_; rintro e w' ⟨rfl, rfl⟩) | (go_at_call_of 46 (Value.int IntKind.i64 x4); refine (off_no _ h4).mono ?_; rintro e w' ⟨rfl, rfl⟩) | (go_at_call_of 46 (Value.int IntKind.i64 x5); refine (off_no _ h5).mono ?_; rintro e w' ⟨rfl, rfl⟩))
        go_ret2
        exact .inr ⟨HC.out, rfl, HBa.out _⟩
      · go_enter Tryz.func17, Tryz.ntmps17
        go_wp2_with (first | (go_at_call_of 46 (Value.int IntKind.i64 x1); refine (off_yes _ h1).mono ?_; rintro e w' ⟨rfl, rfl⟩) | (go_at_call_of 46 (Value.int IntKind.i64 x4); refine (off_no _ h4).mono ?_; rintro e w' ⟨rfl, rfl⟩) | (go_at_call_of 46 (Value.int IntKind.i64 x5); refine (off_yes _ h5).mono ?_; rintro e w' ⟨rfl, rfl⟩))
        go_ret2
        exact .inr ⟨HC.out, rfl, HBa.out _⟩
    · go_enter Tryz.func17, Tryz.ntmps17
      go_wp2_with (first | (go_at_call_of 46 (Value.int IntKind.i64 x1); refine (off_yes _ h1).mono ?_; rintro e w' ⟨rfl, rfl⟩) | (go_at_call_of 46 (Value.int IntKind.i64 x4); refine (off_yes _ h4).mono ?_; rintro e w' ⟨rfl, rfl⟩))
      go_ret2
      exact .inr ⟨HC.out, rfl, HBa.out _⟩
  by_cases h2 : 1 ≤ x2 ∧ x2 ≤ 8
  rotate_left
  · have HC : Hid (confOk ⟨x1, x2, x3, x4, x5⟩ = false) := by show _ = _; unfold confOk; simp only [decide_eq_false h2]; simp
    by_cases h4 : 8 ≤ x4 ∧ x4 ≤ 64
    · by_cases h5 : 1 ≤ x5 ∧ x5 ≤ 4
      · go_enter Tryz.func17, Tryz.ntmps17
        go_wp2_with (first | (go_at_call_of 46 (Value.int IntKind.i64 x1); refine (off_no _ h1).mono ?_; rintro e w' ⟨rfl, rfl⟩) | (go_at_call_of 46 (Value.int IntKind.i64 x2); refine (off_yes _ h2).mono ?_; rintro e w' ⟨rfl, rfl⟩) | (go_at_call_of 46 (Value.int IntKind.i64 x4); refine (off_no _ h4).mono ?_; rintro e w' ⟨rfl, rfl⟩) | (go_at_call_of 46 (Value.int IntKind.i64 x5); refine (off_no _ h5).mono ?_; rintro e w' ⟨rfl, rfl⟩))
        go_ret2
        exact .inr ⟨HC.out, rfl, HBa.out _⟩
      · go_enter Tryz.func17, Tryz.ntmps17
        go_wp2_with (first | (go_at_call_of 46 (Value.int IntKind.i64 x1); refine (off_no _ h1).mono ?_; rintro e w' ⟨rfl, rfl⟩) | (go_at_call_of 46 (Value.int IntKind.i64 x2); refine (off_yes _ h2).mono ?_; rintro e w' ⟨rfl, rfl⟩) | (go_at_call_of 46 (Value.int IntKind.i64 x4); refine (off_no _ h4).mono ?_; rintro e w' ⟨rfl, rfl⟩) | (go_at_call_of 46 (Value.int IntKind.i64 x5); refine (off_yes _ h5).mono ?_; rintro e w' ⟨rfl, rfl⟩))
        go_ret2
        exact .inr ⟨HC.out, rfl, HBa.out _⟩
    · go_enter Tryz.func17, Tryz.ntmps17
      go_wp2_with (first | (go_at_call_of 46 (Value.int IntKind.i64 x1); refine (off_no _ h1).mono ?_; rintro e w' ⟨rfl, rfl⟩) | (go_at_call_of 46 (Value.int IntKind.i64 x2); refine (off_yes _ h2).mono ?_; rintro e w' ⟨rfl, rfl⟩) | (go_at_call_of 46 (Value.int IntKind.i64 x4); refine (off_yes _ h4).mono ?_; rintro e w' ⟨rfl, rfl⟩))
      go_ret2
      exact .inr ⟨HC.out, rfl, HBa.out _⟩
  by_cases h3 : 1 ≤ x3 ∧ x3 ≤ 8
  rotate_left
  · have HC : Hid (confOk ⟨x1, x2, x3, x4, x5⟩ = false) := by show _ = _; unfold confOk; simp only [decide_eq_false h3]; simp
    by_cases h4 : 8 ≤ x4 ∧ x4 ≤ 64
    · by_cases h5 : 1 ≤ x5 ∧ x5 ≤ 4
      · go_enter Tryz.func17, Tryz.ntmps17
        go_wp2_with (first | (go_at_call_of 46 (Value.int IntKind.i64 x1); refine (off_no _ h1).mono ?_; rintro e w' ⟨rfl, rfl⟩) | (go_at_call_of 46 (Value.int IntKind.i64 x2); refine (off_no _ h2).mono ?_; rintro e w' ⟨rfl, rfl⟩) | (go_at_call_of 46 (Value.int IntKind.i64 x3); refine (off_yes _ h3).mono ?_; rintro e w' ⟨rfl, rfl⟩) | (go_at_call_of 46 (Value.int IntKind.i64 x4); refine (off_no _ h4).mono ?_; rintro e w' ⟨rfl, rfl⟩) | (go_at_call_of 46 (Value.int IntKind.i64 x5); refine (off_no _ h5).mono ?_; rintro e w' ⟨rfl, rfl⟩))
        go_ret2
        exact .inr ⟨HC.out, rfl, HBa.out _⟩
      · go_enter Tryz.func17, Tryz.ntmps17
        go_wp2_with (first | (go_at_call_of 46 (Value.int IntKind.i64 x1); refine (off_no _ h1).mono ?_; rintro e w' ⟨rfl, rfl⟩) | (go_at_call_of 46 (Value.int IntKind.i64 x2); refine (off_no _ h2).mono ?_; rintro e w' ⟨rfl, rfl⟩) | (go_at_call_of 46 (Value.int IntKind.i64 x3); refine (off_yes _ h3).mono ?_; rintro e w' ⟨rfl, rfl⟩) | (go_at_call_of 46 (Value.int IntKind.i64 x4); refine (off_no _ h4).mono ?_; rintro e w' ⟨rfl, rfl⟩) | (go_at_call_of 46 (Value.int IntKind.i64 x5); refine (off_yes _ h5).mono ?_; rintro e w' ⟨rfl, rfl⟩))
        go_ret2
        exact .inr ⟨HC.out, rfl, HBa.out _⟩
    · go_enter Tryz.func17, Tryz.ntmps17
      go_wp2_with (first | (go_at_call_of 46 (Value.int IntKind.i64 x1); refine (off_no _ h1).mono ?_; rintro e w' ⟨rfl, rfl⟩) | (go_at_call_of 46 (Value.int IntKind.i64 x2); refine (off_no _ h2).mono ?_; rintro e w' ⟨rfl, rfl⟩) | (go_at_call_of 46 (Value.int IntKind.i64 x3); refine (off_yes _ h3).mono ?_; rintro e w' ⟨rfl, rfl⟩) | (go_at_call_of 46 (Value.int IntKind.i64 x4); refine (off_yes _ h4).mono ?_; rintro e w' ⟨rfl, rfl⟩))
      go_ret2
      exact .inr ⟨HC.out, rfl, HBa.out _⟩
  by_cases h4 : 8 ≤ x4 ∧ x4 ≤ 64
  rotate_left
  · have HC : Hid (confOk ⟨x1, x2, x3, x4, x5⟩ = false) := by show _ = _; unfold confOk; simp only [decide_eq_false h4]; simp
    go_enter Tryz.func17, Tryz.ntmps17
    go_wp2_with (first | (go_at_call_of 46 (Value.int IntKind.i64 x1); refine (off_no _ h1).mono ?_; rintro e w' ⟨rfl, rfl⟩) | (go_at_call_of 46 (Value.int IntKind.i64 x2); refine (off_no _ h2).mono ?_; rintro e w' ⟨rfl, rfl⟩) | (go_at_call_of 46 (Value.int IntKind.i64 x3); refine (off_no _ h3).mono ?_; rintro e w' ⟨rfl, rfl⟩) | (go_at_call_of 46 (Value.int IntKind.i64 x4); refine (off_yes _ h4).mono ?_; rintro e w' ⟨rfl, rfl⟩))
    go_ret2
    exact .inr ⟨HC.out, rfl, HBa.out _⟩
  by_cases h5 : 1 ≤ x5 ∧ x5 ≤ 4
  rotate_left
  · have HC : Hid (confOk ⟨x1, x2, x3, x4, x5⟩ = false) := by show _ = _; unfold confOk; simp only [decide_eq_false h5]; simp
    go_enter Tryz.func17, Tryz.ntmps17
    go_wp2_with (first | (go_at_call_of 46 (Value.int IntKind.i64 x1); refine (off_no _ h1).mono ?_; rintro e w' ⟨rfl, rfl⟩) | (go_at_call_of 46 (Value.int IntKind.i64 x2); refine (off_no _ h2).mono ?_; rintro e w' ⟨rfl, rfl⟩) | (go_at_call_of 46 (Value.int IntKind.i64 x3); refine (off_no _ h3).mono ?_; rintro e w' ⟨rfl, rfl⟩) | (go_at_call_of 46 (Value.int IntKind.i64 x4); refine (off_no _ h4).mono ?_; rintro e w' ⟨rfl, rfl⟩) | (go_at_call_of 46 (Value.int IntKind.i64 x5); refine (off_yes _ h5).mono ?_; rintro e w' ⟨rfl, rfl⟩))
    go_ret2
    exact .inr ⟨HC.out, rfl, HBa.out _⟩
  have HC : Hid (confOk ⟨x1, x2, x3, x4, x5⟩ = true) := by show _ = _; unfold confOk; simp only [decide_eq_true h1, decide_eq_true h2, decide_eq_true h3, decide_eq_true h4, decide_eq_true h5]; rfl
  go_enter Tryz.func17, Tryz.ntmps17
  go_wp2_with (first | (go_at_call_of 46 (Value.int IntKind.i64 x1); refine (off_no _ h1).mono ?_; rintro e w' ⟨rfl, rfl⟩) | (go_at_call_of 46 (Value.int IntKind.i64 x2); refine (off_no _ h2).mono ?_; rintro e w' ⟨rfl, rfl⟩) | (go_at_call_of 46 (Value.int IntKind.i64 x3); refine (off_no _ h3).mono ?_; rintro e w' ⟨rfl, rfl⟩) | (go_at_call_of 46 (Value.int IntKind.i64 x4); refine (off_no _ h4).mono ?_; rintro e w' ⟨rfl, rfl⟩) | (go_at_call_of 46 (Value.int IntKind.i64 x5); refine (off_no _ h5).mono ?_; rintro e w' ⟨rfl, rfl⟩))
  go_ret2
  exact .inl ⟨HC.out, w.heap.size + 1, rfl, clu_new HC.out (heap_at (by simp)), by omega, (HBa.out _).alloc (by simp) _⟩

end Go.Proofs.YtccckonckddadabGreat
namespace Go.Proofs.YtccckonckddadabGreat
open Go.RowKit
set_option linter.unusedVariables false

def SubmitPost (g : Nat) (F : Nat → Prop) (x : CluV × Int) (w : World) (e : Ending) (w' : World) : Prop := e = .returned (.int .i64 x.2) ∧ CluPost g F x.1 w w'

set_option maxRecDepth 100000 in
set_option maxHeartbeats 4000000 in
theorem refsubmit_any (g : Nat) (F : Nat → Prop) (s : CluV) (client id : Int) (t : ByteArray) (d : Int) (w : World) (h : CluAt w g F s) (ht : t.size ≤ maxLen) :
    Calls Tryz.prog 26 #[.pointer (some ⟨g, 0, none⟩), .int .i64 client, .int .i64 id, .string t, .int .i64 d] w (SubmitPost g F (submitV s client id t d) w) := by
  obtain ⟨ti, hi, hz0, hz1, hz2⟩ := info_parts info_tx
  have HI : Hid (_ ∧ _ ∧ _ ∧ _) := ⟨hi, hz0, hz1, hz2⟩
  clear hi hz0 hz1 hz2
  have hg := h.block
  have hfit := h.fit
  have hcf := hfit.conf
  have H : Hid _ := h
  have hfew := hfit.few
  have hmany := hfit.many
  obtain ⟨aT, aE, cT, cE, eas, m1, m2, m3, m4, m5, m6, m7⟩ := h.mem
  have hcl : 1 ≤ s.conf.clients ∧ s.conf.clients ≤ 8 := by
    unfold confOk at hcf
    simp only [Bool.and_eq_true, decide_eq_true_eq] at hcf
    exact hcf.1.1.1.1
  obtain ⟨hcl0, hcl8⟩ := hcl
  have c0 : w.cell? ⟨g, 0, none⟩ = some (.int .i64 s.conf.clients) := by rw [(heap_cells m1).1]; rfl
  have c1 : w.cell? ⟨g, 1, none⟩ = some (.int .i64 s.conf.queue) := by rw [(heap_cells m1).1]; rfl
  have c5 : w.cell? ⟨g, 5, none⟩ = some (.slice aT s.txs.length cT) := by rw [(heap_cells m1).1]; rfl
  have c15 : w.cell? ⟨g, 15, none⟩ = some (.slice aE s.epochs.length cE) := by
    rw [(heap_cells m1).1, List.getElem?_toArray]
    exact clu_epochs hfit.credit
  have HM : Hid (_ ∧ _ ∧ _ ∧ _ ∧ _ ∧ _ ∧ _) := ⟨m1, m2, m3, m4, m5, m6, m7⟩
  have HFit : Hid _ := hfit
  have HV : Hid (submitV s client id t d = submitV s client id t d) := rfl
  clear m1 m2 m3 m4 m5 m6 m7 h hfit hcf
  obtain ⟨cls, hcls⟩ : ∃ x, s.conf.clients = x := ⟨_, rfl⟩
  obtain ⟨qu, hqu⟩ : ∃ x, s.conf.queue = x := ⟨_, rfl⟩
  obtain ⟨n, hn⟩ : ∃ x, s.txs.length = x := ⟨_, rfl⟩
  obtain ⟨ne, hne⟩ : ∃ x, s.epochs.length = x := ⟨_, rfl⟩
  have HX : Hid (s.conf.clients = cls ∧ s.conf.queue = qu ∧ s.txs.length = n ∧ s.epochs.length = ne) := ⟨hcls, hqu, hn, hne⟩
  rw [hcls] at c0 hcl0 hcl8
  rw [hqu] at c1
  rw [hn] at c5 hfew
  rw [hne] at c15 hmany
  clear hcls hqu hn hne
  by_cases h1 : 0 ≤ client ∧ client ≤ cls - 1
  · go_enter Tryz.func26, Tryz.ntmps26
    go_wp2_with fail
    refine (off_no (n := client) (lo := 0) (hi := cls - 1) _ h1).mono ?_
    rintro e w1 ⟨rfl, hw⟩
    obtain rfl := hw.symm
    by_cases h2 : 0 ≤ id ∧ id ≤ 999999
    · go_wp2_with fail
      refine (off_no (n := id) (lo := 0) (hi := 999999) _ h2).mono ?_
      rintro e w2 ⟨rfl, hw⟩
      obtain rfl := hw.symm
      go_wp2_with fail
      refine (parts_any t _ ht).mono ?_
      rintro e w3 ⟨mk, aP, nP, cP, ps, rfl, _, _, hB3⟩
      have HB3 : Hid _ := hB3
      have H3 : Hid (CluAt w3 g F s) := H.out.below hB3
      have d5 := (hB3.cell (p := ⟨g, 5, none⟩) hg).trans c5
      have d1 := (hB3.cell (p := ⟨g, 1, none⟩) hg).trans c1
      have d15 := (hB3.cell (p := ⟨g, 15, none⟩) hg).trans c15
      have hg3 : g < w3.heap.size := H3.out.block
      clear hB3 c0 c1 c5 c15
      cases hok : Dk.parseOk t.data.toList
      · have HS : Hid (submitV s client id t d = (s, 1)) := by
          show _ = _
          unfold submitV
          rw [HX.out.1, if_neg (by omega), if_neg (by omega), if_pos hok]
        clear hok
        go_wp2
        go_ret
        exact ⟨by rw [HS.out]; rfl, by rw [HS.out]; exact CluPost.same H.out HB3.out⟩
      · have HOk : Hid _ := hok
        clear hok
        go_wp2_with fail
        refine (find_any g F s id _ H3.out).mono ?_
        rintro e w4 ⟨rfl, hw⟩
        obtain rfl := hw.symm
        obtain ⟨fi, hfi⟩ : ∃ x, findV s.txs id = x := ⟨_, rfl⟩
        rewrite [hfi]
        have HFi : Hid _ := hfi
        clear hfi
        by_cases h4 : 0 ≤ fi
        · have HS : Hid (submitV s client id t d = (s, 6)) := by
            show _ = _
            unfold submitV
            rw [HX.out.1, if_neg (by omega), if_neg (by omega), if_neg (by rw [HOk.out]; simp), HFi.out, if_pos h4]
          go_wp2
          go_ret
          exact ⟨by rw [HS.out]; rfl, by rw [HS.out]; exact CluPost.same H.out HB3.out⟩
        · have h4' : fi < 0 := by omega
          by_cases h5 : d < (ne : Int)
          · have HS : Hid (submitV s client id t d = (s, 7)) := by
              show _ = _
              unfold submitV
              rw [HX.out.1, if_neg (by omega), if_neg (by omega), if_neg (by rw [HOk.out]; simp), HFi.out, if_neg (by omega), HX.out.2.2.2, if_pos h5]
            go_wp2
            go_ret
            exact ⟨by rw [HS.out]; rfl, by rw [HS.out]; exact CluPost.same H.out HB3.out⟩
          · have h5' : (ne : Int) ≤ d := by omega
            go_wp2_with fail
            refine (queue_any g F s client _ H3.out).mono ?_
            rintro e w5 ⟨aQ, cQ, rfl, hQ⟩
            obtain ⟨ql, hql⟩ : ∃ x, (queueV s.txs client).length = x := ⟨_, rfl⟩
            rewrite [hql]
            rw [hql] at hQ
            have HQl : Hid _ := hql
            have hB5 := hQ.bel
            have HB5 : Hid (Below w.heap.size w w5) := HB3.out.trans (hB5.mono HB3.out.size)
            have e5 := (hB5.cell (p := ⟨g, 5, none⟩) hg3).trans d5
            have e1 := (hB5.cell (p := ⟨g, 1, none⟩) hg3).trans d1
            have hg5 : g < w5.heap.size := Nat.lt_of_lt_of_le hg3 hB5.size
            clear hB5 hQ hql d1 d5 d15
            by_cases h6 : qu ≤ (ql : Int)
            · have HS : Hid (submitV s client id t d = (s, 8)) := by
                show _ = _
                unfold submitV
                rw [HX.out.1, if_neg (by omega), if_neg (by omega), if_neg (by rw [HOk.out]; simp), HFi.out, if_neg (by omega), HX.out.2.2.2, if_neg (by omega), HX.out.2.1, HQl.out, if_pos h6]
              go_wp2
              go_ret
              exact ⟨by rw [HS.out]; rfl, by rw [HS.out]; exact CluPost.same H.out HB5.out⟩
            · have HS : Hid (submitV s client id t d = ({ s with txs := s.txs ++ [⟨client, id, t, d, 0, 0⟩] }, 0)) := by
                show _ = _
                unfold submitV
                rw [HX.out.1, if_neg (by omega), if_neg (by omega), if_neg (by rw [HOk.out]; simp), HFi.out, if_neg (by omega), HX.out.2.2.2, if_neg (by omega), HX.out.2.1, HQl.out, if_neg (by omega)]
              have HO : Hid (w5.ownsRow 0 140 6 (.slice aT n cT) n (txsCells s.txs)) := by
                have := own_below HM.out.2.1 HB5.out
                rw [HX.out.2.2.1] at this
                exact this
              have h6' : (ql : Int) < qu := by omega
              go_wp2_with (at_builtin; refine wpList_append_lies _ rfl (.tmp 61) (.tmp 67) 108 rfl 0 140 ti (.agg #[.int .i64 0, .int .i64 0, .string ⟨#[]⟩, .int .i64 0, .int .i64 0, .int .i64 0]) 6 56 Tryz.underlying108 HI.out.1 HI.out.2.1 HI.out.2.2.1 HI.out.2.2.2 rfl (by decide) (.slice aT n cT) n (txsCells s.txs) rfl (HO.out.alloc _) ⟨w5.heap.size, 0, none⟩ 1 1 [.int .i64 client, .int .i64 id, .string t, .int .i64 d, .int .i64 0, .int .i64 0] rfl rfl ?c1 ?c2 ?c3 ?c4 ?c5 ?c6 _ rfl ?_)
              try (case c1 => exact cells_new _ _ rfl [.int .i64 client, .int .i64 id, .string t, .int .i64 d, .int .i64 0, .int .i64 0] _)
              try (case c2 => intro u hu; simp at hu; rcases hu with rfl | rfl | rfl | rfl | rfl | rfl <;> rfl)
              try (case c3 => decide)
              try (case c4 => unfold maxLen; omega)
              try (case c5 => omega)
              try (case c6 => first | exact Nat.zero_le _ | omega | simp)
              intro gN cap w7 hown7 hgr7 hat7 hlt7
              have hne : some g ≠ (Value.slice aT n cT).ownBlock := fun hh => by
                have := HM.out.2.2.1 g (by rw [HX.out.2.2.1]; exact hh.symm)
                exact this.2 rfl
              have hzx : (w5.alloc (.cells #[.int .i64 client, .int .i64 id, .string t, .int .i64 d, .int .i64 0, .int .i64 0] 140)).heap.size = w5.heap.size + 1 := by simp
              have hblk7 := ((hgr7.block g (by rw [hzx]; omega) hne).trans (heap_old hg5)).trans ((HB5.out.block g hg).trans HM.out.1)
              have c7 : w7.cell? ⟨g, 5, none⟩ = some (.slice aT s.txs.length cT) := by rw [(heap_cells hblk7).1]; rfl
              have f7 := (heap_cells hblk7).2.1
              have z7 := (heap_cells hblk7).2.2
              have HXb : Hid (Below w.heap.size w (w5.alloc (.cells #[.int .i64 client, .int .i64 id, .string t, .int .i64 d, .int .i64 0, .int .i64 0] 140))) := HB5.out.alloc HB5.out.size _
              have HP : Hid (_ ∧ _ ∧ _) := ⟨hown7, hgr7, hat7⟩
              clear hown7 hgr7 hat7 hblk7 hne
              go_wp2
              go_ret
              refine ⟨by rw [HS.out]; rfl, ?_⟩
              rw [HS.out]
              have hlast : ∀ x ∈ s.txs, x.i ≠ id := find_none id s.txs 0 (by have := HFi.out; unfold findV at this; omega)
              have hft : CluFit { s with txs := s.txs ++ [⟨client, id, t, d, 0, 0⟩] } := fit_submit HFit.out ⟨HOk.out, h1.1, by rw [HX.out.1]; show client < cls; omega, h2.1, h2.2⟩ hlast
              obtain ⟨_, _, rfl, rfl⟩ := HX.out
              exact clu_submit H.out.gF H.out.own HM.out.1 HM.out.2.2.1 HM.out.2.2.2.1 HM.out.2.2.2.2.1 HM.out.2.2.2.2.2.1 HM.out.2.2.2.2.2.2 hft HXb.out HP.out.2.1 HP.out.1 (by rw [hzx]; exact HP.out.2.2)
    · have HS : Hid (submitV s client id t d = (s, 5)) := by
        show _ = _
        unfold submitV
        rw [HX.out.1, if_neg (by omega), if_pos h2]
      go_wp2_with fail
      refine (off_yes (n := id) (lo := 0) (hi := 999999) _ h2).mono ?_
      rintro e w2 ⟨rfl, hw⟩
      obtain rfl := hw.symm
      go_wp2
      go_ret
      exact ⟨by rw [HS.out]; rfl, by rw [HS.out]; exact CluPost.same H.out (Below.refl _ _)⟩
  · have HS : Hid (submitV s client id t d = (s, 4)) := by
      show _ = _
      unfold submitV
      rw [HX.out.1, if_pos h1]
    go_enter Tryz.func26, Tryz.ntmps26
    go_wp2_with fail
    refine (off_yes (n := client) (lo := 0) (hi := cls - 1) _ h1).mono ?_
    rintro e w1 ⟨rfl, hw⟩
    obtain rfl := hw.symm
    go_wp2
    go_ret
    exact ⟨by rw [HS.out]; rfl, by rw [HS.out]; exact CluPost.same H.out (Below.refl _ _)⟩

end Go.Proofs.YtccckonckddadabGreat
