import Derived.Test.YtccckonckddadaaJ24
import Derived.Test.YtccckonckddadaaJ23
import Derived.BigQuiet
import Derived.Deep.RegionHeld3
namespace Go.Proofs.Ytccckonckddadaa
open Go.RowKit
set_option linter.unusedVariables false

theorem info_wait : (Try.prog.info? 164).map (fun i => (i.zero, i.size, i.bytes)) = some (some (.agg #[.int .i64 0, .string ⟨#[]⟩, .int .i64 0, .int .i64 0]), 4, 40) := by kernel_rfl
theorem info_out : (Try.prog.info? 153).map (fun i => (i.zero, i.size, i.bytes)) = some (some (.agg #[.int .i64 0, .int .u8 0, .int .i64 0]), 3, 24) := by kernel_rfl

/-! ### awaits -/
set_option maxHeartbeats 1000000 in
theorem awaits_any (gA i : Nat) (b : Option Nat) (a : AccV) (id : Int) (w : World) (h : AccAt w gA i b a) (hg : gA < w.heap.size) (hq : a.q.length ≤ 8) :
    Calls Try.prog 78 #[.pointer (some ⟨gA, i * 2, none⟩), .int .i64 id] w fun e w' => e = .returned (.bool (awaits id a)) ∧ w' = w := by
  obtain ⟨ad, c, c0, _, ho, _⟩ := h
  have HO : Hid _ := ho
  have HV : Hid (awaits id a = a.q.any (fun x => decide (x.i = id))) := rfl
  clear ho
  obtain ⟨q, cr⟩ := a
  simp only at c0 hq HO HV
  obtain ⟨n, hn⟩ : ∃ n, q.length = n := ⟨_, rfl⟩
  rw [hn] at c0 hq HO
  go_enter Try.func78, Try.ntmps78
  go_wp2
  go_loop [5] (fun v => ∃ k : Nat, k ≤ n ∧ v = .int .i64 k ∧ Hid ((q.take k).any (fun x => decide (x.i = id)) = false)) (fun v => n - (intOf v).toNat)
  case atStart => exact ⟨0, Nat.zero_le _, rfl, rfl⟩
  case round =>
    obtain ⟨k, hk, rfl, HF⟩ := hrel
    by_cases hlt : k < n
    · have hkl : k < q.length := by omega
      obtain ⟨gQ, rfl, hgQ, d0, _⟩ := wait_cell HO.out (List.getElem?_eq_getElem hkl) hlt
      have HT : Hid ((q.take (k + 1)).any (fun x => decide (x.i = id)) = decide (q[k].i = id)) := by
        show _ = _
        rw [List.take_succ_eq_append_getElem hkl, List.any_append, HF.out]
        simp
      have HM : Hid (q[k] ∈ q) := List.getElem_mem hkl
      generalize q[k] = x at *
      by_cases he : x.i = id
      · have heb : (x.i == id) = true := by rw [beq_iff_eq]; exact he
        have HX : Hid (awaits id ⟨q, cr⟩ = true) := by
          show _ = _
          rw [HV.out, List.any_eq_true]
          exact ⟨x, HM.out, decide_eq_true he⟩
        clear HT he
        go_wp2
        go_ret
        exact ⟨by rw [HX.out]; rfl, rfl⟩
      · have heb : (x.i == id) = false := by rw [beq_eq_false_iff_ne]; exact he
        have HT' : Hid ((q.take (k + 1)).any (fun x => decide (x.i = id)) = false) := by
          show _ = _
          rw [HT.out]; exact decide_eq_false he
        clear HT
        go_wp2
        go_round
        case rel => exact ⟨k + 1, by omega, by go_num, HT'⟩
        case measure => simp [intOf]; omega
    · have hkn : k = n := by omega
      subst hkn
      have HX : Hid (awaits id ⟨q, cr⟩ = false) := by
        show _ = _
        have := HF.out
        rw [List.take_of_length_le (by omega)] at this
        rw [HV.out]; exact this
      go_wp2
      go_ret
      exact ⟨by rw [HX.out]; rfl, rfl⟩

/-! ### Two rows -/
structure TwoAt (w wr : World) (l1 l2 : List WaitV) (a1 : Option Addr) (m1 c1 : Nat) (a2 : Option Addr) (m2 c2 : Nat) : Prop where
  n1 : l1.length = m1
  n2 : l2.length = m2
  o1 : wr.ownsRow w.heap.size 164 4 (.slice a1 m1 c1) m1 (waitsCells l1)
  o2 : wr.ownsRow w.heap.size 164 4 (.slice a2 m2 c2) m2 (waitsCells l2)
  ap : ∀ x, (Value.slice a1 m1 c1).ownBlock = some x → (Value.slice a2 m2 c2).ownBlock ≠ some x
  bel : Below w.heap.size w wr

theorem TwoAt.left {w wr : World} {l1 l2 : List WaitV} {a1 a2 : Option Addr} {m1 c1 m2 c2 : Nat} (h : TwoAt w wr l1 l2 a1 m1 c1 a2 m2 c2) {x : WaitV} {gN cap : Nat} {w7 : World} {o : Obj}
    (hown : w7.ownsRow w.heap.size 164 4 (.slice (some ⟨gN, 0, none⟩) (m1 + 1) cap) (m1 + 1) (waitsCells l1 ++ waitCells x)) (hgr : (wr.alloc o).grownBy w7 (Value.slice a1 m1 c1).ownBlock) (hat : (Value.slice a1 m1 c1).ownBlock = some gN ∨ gN = (wr.alloc o).heap.size) :
    TwoAt w w7 (l1 ++ [x]) l2 (some ⟨gN, 0, none⟩) (m1 + 1) cap a2 m2 c2 := by
  have hz : (wr.alloc o).heap.size = wr.heap.size + 1 := by simp
  have hsame : ∀ y, y < wr.heap.size → (Value.slice a1 m1 c1).ownBlock ≠ some y → w7.heap[y]? = wr.heap[y]? := fun y hy hne => (hgr.block y (by rw [hz]; omega) (fun hh => hne hh.symm)).trans (heap_old hy)
  have hlt : ∀ y, (Value.slice a2 m2 c2).ownBlock = some y → y < wr.heap.size := fun y hy => (h.o2.lt y hy).2
  refine ⟨by rw [List.length_append, h.n1]; rfl, h.n2, ?_, own_same h.o2 (fun y hy => hsame y (hlt y hy) (fun hh => h.ap y hh hy)), ?_, (h.bel.alloc h.bel.size _).grown hgr (by rw [hz]; have := h.bel.size; omega) (fun k hk => (h.o1.lt k hk).1)⟩
  · rw [waitsCells_snoc]; exact hown
  · intro y hy hy2
    have e : gN = y := by simpa [Value.ownBlock] using hy
    subst e
    rcases hat with h1 | h1
    · exact h.ap _ h1 hy2
    · have := hlt gN hy2; omega
theorem TwoAt.right {w wr : World} {l1 l2 : List WaitV} {a1 a2 : Option Addr} {m1 c1 m2 c2 : Nat} (h : TwoAt w wr l1 l2 a1 m1 c1 a2 m2 c2) {x : WaitV} {gN cap : Nat} {w7 : World} {o : Obj}
    (hown : w7.ownsRow w.heap.size 164 4 (.slice (some ⟨gN, 0, none⟩) (m2 + 1) cap) (m2 + 1) (waitsCells l2 ++ waitCells x)) (hgr : (wr.alloc o).grownBy w7 (Value.slice a2 m2 c2).ownBlock) (hat : (Value.slice a2 m2 c2).ownBlock = some gN ∨ gN = (wr.alloc o).heap.size) :
    TwoAt w w7 l1 (l2 ++ [x]) a1 m1 c1 (some ⟨gN, 0, none⟩) (m2 + 1) cap := by
  have hz : (wr.alloc o).heap.size = wr.heap.size + 1 := by simp
  have hsame : ∀ y, y < wr.heap.size → (Value.slice a2 m2 c2).ownBlock ≠ some y → w7.heap[y]? = wr.heap[y]? := fun y hy hne => (hgr.block y (by rw [hz]; omega) (fun hh => hne hh.symm)).trans (heap_old hy)
  have hlt : ∀ y, (Value.slice a1 m1 c1).ownBlock = some y → y < wr.heap.size := fun y hy => (h.o1.lt y hy).2
  refine ⟨h.n1, by rw [List.length_append, h.n2]; rfl, own_same h.o1 (fun y hy => hsame y (hlt y hy) (fun hh => h.ap y hy hh)), ?_, ?_, (h.bel.alloc h.bel.size _).grown hgr (by rw [hz]; have := h.bel.size; omega) (fun k hk => (h.o2.lt k hk).1)⟩
  · rw [waitsCells_snoc]; exact hown
  · intro y hy hy2
    have e : gN = y := by simpa [Value.ownBlock] using hy2
    subst e
    rcases hat with h1 | h1
    · exact h.ap _ hy h1
    · have := hlt gN hy; omega

def TakePost (gA i : Nat) (b : Option Nat) (a' : AccV) (l : List WaitV) (w : World) (e : Ending) (w' : World) : Prop :=
  ∃ (ad : Option Addr) (m c : Nat) (b' : Option Nat), e = .returned (.slice ad m c) ∧ l.length = m ∧ AccPost w w' gA i b b' a' ∧ w'.ownsRow w.heap.size 164 4 (.slice ad m c) m (waitsCells l)

/-- The queue is the second row now. -/
theorem TwoAt.fin {w wr : World} {l1 l2 : List WaitV} {a1 a2 : Option Addr} {m1 c1 m2 c2 : Nat} (h : TwoAt w wr l1 l2 a1 m1 c1 a2 m2 c2) {gA i : Nat} {b : Option Nat} {q : List WaitV} {cr : Int} (hA : ∃ arr, w.heap[gA]? = some (.cells arr 156)) (ha : AccAt w gA i b ⟨q, cr⟩) (hn : b ≠ some gA) :
    TakePost gA i b ⟨l2, cr⟩ l1 w (.returned (.slice a1 m1 c1)) (wr.setCell ⟨gA, i * 2, none⟩ (.slice a2 m2 c2)) := by
  have h1 := AccPost.below hA ha hn h.bel
  obtain ⟨arr0, hA0⟩ := hA
  have hg := (heap_cells hA0).2.2
  obtain ⟨arr, r1, r2⟩ := h1.side
  have hne : (Value.slice a2 m2 c2).ownBlock ≠ some gA := fun e => by have := (h.o2.lt gA e).1; omega
  have e2 := h.n2
  subst e2
  obtain ⟨k1, ⟨arr', k2, k3⟩, k4⟩ := AccPost.queue (q' := l2) (ad := a2) (c := c2) ⟨arr, r1⟩ h1.acc h.o2 rfl hne
  refine ⟨a1, m1, c1, _, rfl, h.n1, ⟨?_, ⟨arr', k2, fun x hx hy => (k3 x hx).trans (r2 x hx hy)⟩, k4, fun k hk => ?_, hne⟩, ?_⟩
  · exact h1.kept.trans k1 (fun x _ hx => .inl hx)
  · have := h.o2.lt k hk
    refine ⟨.inr this.1, ?_⟩
    rw [show (wr.setCell ⟨gA, i * 2, none⟩ (.slice a2 l2.length c2)).heap.size = wr.heap.size from by simp [World.setCell]]
    exact this.2
  · exact own_same h.o1 (fun k hk => Below.heap_setCell _ _ _ _ (by have := (h.o1.lt k hk).1; show k ≠ gA; omega))

end Go.Proofs.Ytccckonckddadaa
namespace Go.Proofs.Ytccckonckddadaa
set_option linter.unusedVariables false

theorem putA_self {p : SeqV} {i : Nat} {a : AccV} (h : p.accs[i]? = some a) : putA p i a = p := by
  obtain ⟨hi, rfl⟩ := List.getElem?_eq_some_iff.1 h
  unfold putA
  rw [List.set_getElem_self]
theorem credV_self {s : CluV} {c : Nat} (h : c < s.credit.length) : credV s c (s.credit.getD c 0) = s := by
  have e : s.credit.set c (s.credit.getD c 0) = s.credit := by
    rw [List.getD_eq_getElem?_getD, List.getElem?_eq_getElem h]
    exact List.set_getElem_self h
  show { s with credit := s.credit.set c (s.credit.getD c 0) } = s
  rw [e]
theorem filter_yes {f : WaitV → Bool} {x : WaitV} {l : List WaitV} (h : f x = true) : (x :: l).filter f = x :: l.filter f := List.filter_cons_of_pos h
theorem filter_no {f : WaitV → Bool} {x : WaitV} {l : List WaitV} (h : f x = false) : (x :: l).filter f = l.filter f := List.filter_cons_of_neg (by rw [h]; simp)
theorem settle1_put (p : SeqV) (i : Nat) (a : AccV) (r : RecV) : settle1 (putA p i a) r = putA (settle1 p r) i a := rfl

/-- late, client by client. -/
theorem late_sim (c : Nat) (hc8 : c < 8) : ∀ (ts pre : List TxV) (s : CluV) (p : SeqV) (l : List RecV), Sim p s → s.txs = pre ++ ts → c < p.accs.length → s.credit.length = 8 →
    (lateGo (c : Int) (queueFrom (c : Int) pre.length ts) s l).2 = l ++ ((qOf c ts).filter (isLate p.epochs)).map (lateRec c) ∧
    Sim (settleV (putA p c ⟨qOf c pre ++ (qOf c ts).filter (fun x => !isLate p.epochs x), s.credit.getD c 0⟩) (((qOf c ts).filter (isLate p.epochs)).map (lateRec c))) (lateGo (c : Int) (queueFrom (c : Int) pre.length ts) s l).1
  | [], pre, s, p, l, h, htx, hc, h8 => by
    refine ⟨by show l = l ++ []; rw [List.append_nil], ?_⟩
    show Sim (settleV (putA p c ⟨qOf c pre ++ [], s.credit.getD c 0⟩) []) s
    rw [List.append_nil] at htx ⊢
    have := h.acc c hc
    rw [htx] at this
    rw [putA_self this]
    exact h
  | t :: ts, pre, s, p, l, h, htx, hc, h8 => by
    have hget : s.txs[pre.length]? = some t := by rw [htx, List.getElem?_append_right (Nat.le_refl _), Nat.sub_self]; rfl
    cases hw : waits (c : Int) t with
    | false =>
      have ih := late_sim c hc8 ts (pre ++ [t]) s p l h (by rw [htx]; simp) hc h8
      rw [List.length_append, List.length_singleton, qOf_append, qOf_no hw, show qOf c [] = [] from rfl, List.append_nil] at ih
      rw [queueFrom, if_neg (by rw [hw]; simp), qOf_no hw]
      exact ih
    | true =>
      rw [queueFrom, if_pos hw, qOf_yes hw, lateGo, hget]
      simp only
      have hep := h.epochs
      by_cases hd : t.d < (s.epochs.length : Int)
      · have hl : isLate p.epochs (waitOf t) = true := by unfold isLate; rw [hep]; exact decide_eq_true hd
        have h1 := h.ended hc h8 hc8 htx hw (st := 3) (by decide) (s.credit.getD c 0) s.cells
        rw [credV_self (by omega)] at h1
        have hs' : endsV (cellsV s s.cells) pre.length 3 = endsV s pre.length 3 := rfl
        rw [hs'] at h1
        have htx' : (endsV s pre.length 3).txs = (pre ++ [{ t with s := 3, e := (s.epochs.length : Int) }]) ++ ts := by
          show s.txs.modify pre.length _ = _
          rw [htx, modify_mid]; simp
        have ep : ({ putA p c ⟨qOf c (pre ++ ts), s.credit.getD c 0⟩ with cells := s.cells, outs := p.outs ++ [⟨t.i, 3, p.epochs⟩] } : SeqV) = settle1 (putA p c ⟨qOf c (pre ++ ts), s.credit.getD c 0⟩) (lateRec c (waitOf t)) := by
          unfold settle1
          show _ = ({ putA p c ⟨qOf c (pre ++ ts), s.credit.getD c 0⟩ with cells := p.cells, outs := p.outs ++ [⟨t.i, 3, p.epochs⟩] } : SeqV)
          rw [h.cells]
        rw [ep] at h1
        obtain ⟨i1, i2⟩ := late_sim c hc8 ts (pre ++ [{ t with s := 3, e := (s.epochs.length : Int) }]) _ _ (l ++ [⟨(c : Int), t.i, true, ⟨#[]⟩⟩]) h1 htx' (by show c < (p.accs.set c _).length; rw [List.length_set]; exact hc) h8
        rw [List.length_append, List.length_singleton] at i1 i2
        rw [if_pos hd, filter_yes hl, filter_no (by rw [hl]; rfl)]
        have hE : (settle1 (putA p c ⟨qOf c (pre ++ ts), s.credit.getD c 0⟩) (lateRec c (waitOf t))).epochs = p.epochs := rfl
        rw [hE] at i1 i2
        refine ⟨?_, ?_⟩
        · rw [i1, List.map_cons, List.append_assoc]; rfl
        · rw [← settle1_put, putA_putA, qOf_append, qOf_no (t := { t with s := 3, e := (s.epochs.length : Int) }) (waits_ended (show (3 : Int) ≠ 0 by decide)), show qOf c [] = [] from rfl, List.append_nil] at i2
          exact i2
      · have hl : isLate p.epochs (waitOf t) = false := by unfold isLate; rw [hep]; exact decide_eq_false hd
        have ih := late_sim c hc8 ts (pre ++ [t]) s p l h (by rw [htx]; simp) hc h8
        rw [List.length_append, List.length_singleton, qOf_append, qOf_yes hw, show qOf c [] = [] from rfl] at ih
        rw [if_neg hd, filter_no hl, filter_yes (by rw [hl]; rfl)]
        refine ⟨ih.1, ?_⟩
        have h2 := ih.2
        rw [List.append_assoc] at h2
        exact h2

theorem lateV_sim {p : SeqV} {s : CluV} (h : Sim p s) {c : Nat} (hc : c < p.accs.length) (hc8 : c < 8) (h8 : s.credit.length = 8) :
    (lateV s c).2 = (lateL (accV p c) p.epochs).map (lateRec c) ∧ Sim (settleV (putA p c (lateA (accV p c) p.epochs)) ((lateL (accV p c) p.epochs).map (lateRec c))) (lateV s c).1 := by
  have := late_sim c hc8 s.txs [] s p [] h rfl hc h8
  unfold lateA lateL
  rw [h.accV hc]
  exact this

/-! ### visit -/
theorem Sim.cred {p : SeqV} {s : CluV} (h : Sim p s) {c : Nat} (hc : c < s.credit.length) (cr : Int) : Sim (putA p c ⟨qOf c s.txs, cr⟩) (credV s c cr) := by
  refine ⟨h.queue, h.quantum, h.room, h.first, h.epochs, h.log, h.cells, ?_, ?_, h.outs, h.few, h.e0⟩
  · show ((p.accs.set c _).length : Int) = _
    rw [List.length_set]; exact h.many
  · intro i hi
    have hi' : i < p.accs.length := by
      have : i < (p.accs.set c ⟨qOf c s.txs, cr⟩).length := hi
      rwa [List.length_set] at this
    show (p.accs.set c ⟨qOf c s.txs, cr⟩)[i]? = some ⟨qOf i s.txs, (s.credit.set c cr).getD i 0⟩
    by_cases hic : c = i
    · subst hic
      rw [List.getElem?_set_self hi', List.getD_eq_getElem?_getD, List.getElem?_set_self hc]
      rfl
    · rw [List.getElem?_set_ne hic, h.acc i hi', List.getD_eq_getElem?_getD, List.getD_eq_getElem?_getD, List.getElem?_set_ne hic]

theorem qOf_split (c : Nat) : ∀ (l : List TxV) (x : WaitV) (q : List WaitV), qOf c l = x :: q → ∃ pre t post, l = pre ++ t :: post ∧ qOf c pre = [] ∧ waits (c : Int) t = true ∧ waitOf t = x ∧ qOf c post = q
  | [], x, q, h => by cases h
  | t :: l, x, q, h => by
    cases hw : waits (c : Int) t with
    | true =>
      rw [qOf_yes hw] at h
      injection h with h1 h2
      exact ⟨[], t, l, rfl, rfl, hw, h1, h2⟩
    | false =>
      rw [qOf_no hw] at h
      obtain ⟨pre, t', post, h1, h2, h3⟩ := qOf_split c l x q h
      exact ⟨t :: pre, t', post, by rw [h1]; rfl, by rw [qOf_no hw]; exact h2, h3⟩
theorem queue_len_of (c : Nat) (l : List TxV) (k : Nat) : (queueFrom (c : Int) k l).length = (qOf c l).length := by
  rw [queue_count]; unfold qOf; rw [List.length_map, List.countP_eq_length_filter]
theorem queue_nil {c : Nat} {l : List TxV} (h : qOf c l = []) (k : Nat) : queueFrom (c : Int) k l = [] := by
  apply List.eq_nil_of_length_eq_zero
  rw [queue_len_of, h]; rfl
theorem queue_nil_iff (c : Nat) (l : List TxV) : queueV l c = [] ↔ qOf c l = [] := by
  constructor
  · intro h
    apply List.eq_nil_of_length_eq_zero
    rw [← queue_len_of c l 0]
    show (queueV l c).length = 0
    rw [h]; rfl
  · exact fun h => queue_nil h 0
theorem front_split {s : CluV} {c : Nat} {room : Int} {pre post : List TxV} {t : TxV} (htx : s.txs = pre ++ t :: post) (hp : qOf c pre = []) (hw : waits (c : Int) t = true) :
    frontV s c room = if s.credit.getD c 0 < (costV t.t : Int) ∨ room < (costV t.t : Int) then (-1 : Int) else (pre.length : Int) := by
  have hq : queueV s.txs c = pre.length :: queueFrom (c : Int) (pre.length + 1) post := by
    unfold queueV
    rw [htx, queueFrom_append, queue_nil hp, List.nil_append, Nat.zero_add, queueFrom, if_pos hw]
  have hget : s.txs[pre.length]? = some t := by rw [htx, List.getElem?_append_right (Nat.le_refl _), Nat.sub_self]; rfl
  unfold frontV
  rw [hq]
  simp only
  rw [hget]
theorem front_empty {s : CluV} {c : Nat} {room : Int} (h : qOf c s.txs = []) : frontV s c room = -1 := by
  unfold frontV
  rw [(queue_nil_iff c s.txs).2 h]

theorem costs_cons (x : WaitV) (l : List WaitV) : costs (x :: l) = x.c + costs l := rfl

theorem visit_sim (c : Nat) (hc8 : c < 8) : ∀ (k : Nat) (q : List WaitV) (s : CluV) (p : SeqV) (room : Int) (l : List RecV), Sim p s → c < p.accs.length → s.credit.length = 8 → (∀ t ∈ s.txs, Dk.parseOk t.t.data.toList = true) → qOf c s.txs = q → q.length < k →
    (visitGo c k s room l).2.1 = l ++ (q.take (takeN q (s.credit.getD c 0) room)).map (textRec c) ∧ (visitGo c k s room l).2.2 = room - costs (q.take (takeN q (s.credit.getD c 0) room)) ∧
    Sim (settleV (putA p c ⟨q.drop (takeN q (s.credit.getD c 0) room), s.credit.getD c 0 - costs (q.take (takeN q (s.credit.getD c 0) room))⟩) ((q.take (takeN q (s.credit.getD c 0) room)).map (textRec c))) (visitGo c k s room l).1 ∧
    (visitGo c k s room l).1.credit.length = 8
  | 0, q, s, p, room, l, h, hc, h8, hpa, hq, hk => absurd hk (by omega)
  | k + 1, [], s, p, room, l, h, hc, h8, hpa, hq, hk => by
    rw [visit_stop (by rw [front_empty hq]; omega)]
    refine ⟨by show l = l ++ []; rw [List.append_nil], by show room = room - 0; omega, ?_, h8⟩
    show Sim (putA p c ⟨[], s.credit.getD c 0 - 0⟩) s
    have := h.acc c hc
    rw [hq] at this
    rw [Int.sub_zero, putA_self this]
    exact h
  | k + 1, x :: q, s, p, room, l, h, hc, h8, hpa, hq, hk => by
    obtain ⟨pre, t, post, htx, hpre, hw, rfl, hpost⟩ := qOf_split c s.txs x q hq
    have hfr := front_split (room := room) htx hpre hw
    have hget : s.txs[pre.length]? = some t := by rw [htx, List.getElem?_append_right (Nat.le_refl _), Nat.sub_self]; rfl
    have hok := hpa t (List.mem_of_getElem? hget)
    by_cases hg : (costV t.t : Int) ≤ s.credit.getD c 0 ∧ (costV t.t : Int) ≤ room
    · rw [if_neg (by omega)] at hfr
      have hT : takeN (waitOf t :: q) (s.credit.getD c 0) room = takeN q (s.credit.getD c 0 - costV t.t) (room - costV t.t) + 1 := by
        rw [takeN, if_pos (show (waitOf t).c ≤ s.credit.getD c 0 ∧ (waitOf t).c ≤ room from hg)]; rfl
      rw [visit_go hfr hget, hT, List.take_succ_cons, List.drop_succ_cons, costs_cons, List.map_cons]
      have h1 := h.ended hc h8 hc8 htx hw (st := if (Dk.doV t.t.data.toList s.cells).2 then 1 else 2) (by split <;> decide) (s.credit.getD c 0 - costV t.t) (Dk.doV t.t.data.toList s.cells).1
      have ep : ({ putA p c ⟨qOf c (pre ++ post), s.credit.getD c 0 - costV t.t⟩ with cells := (Dk.doV t.t.data.toList s.cells).1, outs := p.outs ++ [⟨t.i, if (Dk.doV t.t.data.toList s.cells).2 then 1 else 2, p.epochs⟩] } : SeqV) = settle1 (putA p c ⟨qOf c (pre ++ post), s.credit.getD c 0 - costV t.t⟩) (textRec c (waitOf t)) := by
        unfold settle1
        have hdo : doRec (textRec c (waitOf t)) p.cells = ((Dk.doV t.t.data.toList s.cells).1, if (Dk.doV t.t.data.toList s.cells).2 then 1 else 2) := by
          unfold doRec
          rw [if_neg (by show ¬ false = true; simp), if_pos (by exact hok), h.cells]
          rfl
        show _ = ({ putA p c ⟨qOf c (pre ++ post), s.credit.getD c 0 - costV t.t⟩ with cells := (doRec (textRec c (waitOf t)) p.cells).1, outs := p.outs ++ [⟨t.i, (doRec (textRec c (waitOf t)) p.cells).2, p.epochs⟩] } : SeqV)
        rw [hdo]
      rw [ep] at h1
      have hrd : endsV (cellsV (credV s c (s.credit.getD c 0 - costV t.t)) (Dk.doV t.t.data.toList s.cells).1) pre.length (if (Dk.doV t.t.data.toList s.cells).2 then 1 else 2) = roundV s c pre.length t := rfl
      rw [hrd] at h1
      have htx' : (roundV s c pre.length t).txs = pre ++ { t with s := (if (Dk.doV t.t.data.toList s.cells).2 then 1 else 2), e := (s.epochs.length : Int) } :: post := by
        show s.txs.modify pre.length _ = _
        rw [htx, modify_mid]; rfl
      have hq' : qOf c (roundV s c pre.length t).txs = q := by
        rw [htx', qOf_append, hpre, List.nil_append, qOf_no (t := { t with s := (if (Dk.doV t.t.data.toList s.cells).2 then 1 else 2), e := (s.epochs.length : Int) }) (waits_ended (by show (if (Dk.doV t.t.data.toList s.cells).2 = true then (1 : Int) else 2) ≠ 0; split <;> decide))]
        exact hpost
      have hcr' : (roundV s c pre.length t).credit.getD c 0 = s.credit.getD c 0 - costV t.t := by
        show (s.credit.set c _).getD c 0 = _
        rw [List.getD_eq_getElem?_getD, List.getElem?_set_self (by omega)]; rfl
      have hpa' : ∀ u ∈ (roundV s c pre.length t).txs, Dk.parseOk u.t.data.toList = true := by
        intro u hu
        rw [htx'] at hu
        have hu2 : u ∈ pre ∨ u = { t with s := (if (Dk.doV t.t.data.toList s.cells).2 then 1 else 2), e := (s.epochs.length : Int) } ∨ u ∈ post := by simpa using hu
        rcases hu2 with h1 | h1 | h1
        · exact hpa u (by rw [htx]; simp [h1])
        · rw [h1]; exact hok
        · exact hpa u (by rw [htx]; simp [h1])
      obtain ⟨i1, i2, i3, i4⟩ := visit_sim c hc8 k q _ _ (room - costV t.t) (l ++ [⟨(c : Int), t.i, false, t.t⟩]) h1 (by show c < (p.accs.set c _).length; rw [List.length_set]; exact hc) (by show (s.credit.set c _).length = 8; rw [List.length_set]; exact h8) hpa' hq' (by rw [List.length_cons] at hk; omega)
      rw [hcr'] at i1 i2 i3
      refine ⟨?_, ?_, ?_, i4⟩
      · rw [i1, List.append_assoc]; rfl
      · rw [i2]
        show _ = room - ((costV t.t : Int) + _)
        omega
      · rw [← settle1_put, putA_putA] at i3
        have e : s.credit.getD c 0 - ((waitOf t).c + costs (q.take (takeN q (s.credit.getD c 0 - costV t.t) (room - costV t.t)))) = s.credit.getD c 0 - costV t.t - costs (q.take (takeN q (s.credit.getD c 0 - costV t.t) (room - costV t.t))) := by
          show _ - ((costV t.t : Int) + _) = _
          omega
        rw [e]
        exact i3
    · rw [if_pos (by omega)] at hfr
      rw [visit_stop (by rw [hfr]; omega)]
      have hT : takeN (waitOf t :: q) (s.credit.getD c 0) room = 0 := by
        rw [takeN, if_neg (by exact hg)]
      rw [hT]
      refine ⟨by show l = l ++ []; rw [List.append_nil], by show room = room - 0; omega, ?_, h8⟩
      show Sim (putA p c ⟨waitOf t :: q, s.credit.getD c 0 - 0⟩) s
      have := h.acc c hc
      rw [hq] at this
      rw [Int.sub_zero, putA_self this]
      exact h

theorem visitV_sim {p : SeqV} {s : CluV} (h : Sim p s) {c : Nat} (hc : c < p.accs.length) (hc8 : c < 8) (h8 : s.credit.length = 8) (hpa : ∀ t ∈ s.txs, Dk.parseOk t.t.data.toList = true) (hq : (qOf c s.txs).length ≤ 64) (room : Int) :
    (visitV s c room).2.1 = (visitL (accV p c) p.quantum room).map (textRec c) ∧ (visitV s c room).2.2 = room - costs (visitL (accV p c) p.quantum room) ∧
    Sim (settleV (putA p c (visitA (accV p c) p.quantum room)) ((visitL (accV p c) p.quantum room).map (textRec c))) (visitV s c room).1 := by
  have ha := h.accV hc
  have h1 := h.cred (c := c) (by omega) (s.credit.getD c 0 + s.conf.quantum)
  have hcr1 : (credV s c (s.credit.getD c 0 + s.conf.quantum)).credit.getD c 0 = s.credit.getD c 0 + s.conf.quantum := by
    show (s.credit.set c _).getD c 0 = _
    rw [List.getD_eq_getElem?_getD, List.getElem?_set_self (by omega)]; rfl
  have h18 : (credV s c (s.credit.getD c 0 + s.conf.quantum)).credit.length = 8 := by show (s.credit.set c _).length = 8; rw [List.length_set]; exact h8
  obtain ⟨i1, i2, i3, i4⟩ := visit_sim c hc8 65 (qOf c s.txs) (credV s c (s.credit.getD c 0 + s.conf.quantum)) _ room [] h1 (by show c < (p.accs.set c _).length; rw [List.length_set]; exact hc) h18 hpa rfl (by omega)
  rw [hcr1] at i1 i2 i3
  rw [putA_putA] at i3
  have hgiven : qOf c s.txs ≠ [] → given (accV p c) p.quantum = s.credit.getD c 0 + s.conf.quantum := by
    intro hne
    unfold given
    rw [ha, if_neg hne, h.quantum]
  have hqx : qOf c (visitGo c 65 (credV s c (s.credit.getD c 0 + s.conf.quantum)) room []).1.txs = (qOf c s.txs).drop (takeN (qOf c s.txs) (s.credit.getD c 0 + s.conf.quantum) room) := by
    have hcl : c < (settleV (putA p c ⟨(qOf c s.txs).drop (takeN (qOf c s.txs) (s.credit.getD c 0 + s.conf.quantum) room), s.credit.getD c 0 + s.conf.quantum - costs ((qOf c s.txs).take (takeN (qOf c s.txs) (s.credit.getD c 0 + s.conf.quantum) room))⟩) (((qOf c s.txs).take (takeN (qOf c s.txs) (s.credit.getD c 0 + s.conf.quantum) room)).map (textRec c))).accs.length := by
      rw [(settle_accs _ _).1]
      show c < (p.accs.set c _).length
      rw [List.length_set]; exact hc
    have := i3.acc c hcl
    rw [(settle_accs _ _).1] at this
    have h2 : (p.accs.set c ⟨(qOf c s.txs).drop (takeN (qOf c s.txs) (s.credit.getD c 0 + s.conf.quantum) room), s.credit.getD c 0 + s.conf.quantum - costs ((qOf c s.txs).take (takeN (qOf c s.txs) (s.credit.getD c 0 + s.conf.quantum) room))⟩)[c]? = _ := this
    rw [List.getElem?_set_self hc] at h2
    injection h2 with h2
    injection h2 with h2 h3
    exact h2.symm
  by_cases hne : qOf c s.txs = []
  · -- nobody waits
    rw [hne] at hqx i1 i2 i3
    have e0 : visitL (accV p c) p.quantum room = [] := by unfold visitL; rw [ha, hne]; rfl
    have e1 : visitA (accV p c) p.quantum room = ⟨[], 0⟩ := by unfold visitA; rw [ha, hne]; rfl
    rw [e0, e1]
    unfold visitV
    simp only
    rw [if_pos ((queue_nil_iff c _).2 hqx)]
    refine ⟨i1, i2, ?_⟩
    have h5 := i3.cred (c := c) (by omega) 0
    rw [hqx] at h5
    have h6 : Sim (putA (putA p c ⟨[], _⟩) c ⟨[], 0⟩) _ := h5
    rw [putA_putA] at h6
    exact h6
  · have hg := hgiven hne
    have e0 : visitL (accV p c) p.quantum room = (qOf c s.txs).take (takeN (qOf c s.txs) (s.credit.getD c 0 + s.conf.quantum) room) := by unfold visitL; rw [hg, ha]
    have e1 : visitA (accV p c) p.quantum room = ⟨(qOf c s.txs).drop (takeN (qOf c s.txs) (s.credit.getD c 0 + s.conf.quantum) room), if (qOf c s.txs).drop (takeN (qOf c s.txs) (s.credit.getD c 0 + s.conf.quantum) room) = [] then 0 else s.credit.getD c 0 + s.conf.quantum - costs ((qOf c s.txs).take (takeN (qOf c s.txs) (s.credit.getD c 0 + s.conf.quantum) room))⟩ := by unfold visitA; rw [hg, ha]
    rw [e0, e1]
    unfold visitV
    simp only
    by_cases hx : (qOf c s.txs).drop (takeN (qOf c s.txs) (s.credit.getD c 0 + s.conf.quantum) room) = []
    · rw [if_pos ((queue_nil_iff c _).2 (hqx.trans hx)), if_pos hx]
      refine ⟨i1, i2, ?_⟩
      have h5 := i3.cred (c := c) (by omega) 0
      rw [hqx, ← settle_put, putA_putA] at h5
      exact h5
    · rw [if_neg (fun hh => hx (hqx.symm.trans ((queue_nil_iff c _).1 hh))), if_neg hx]
      exact ⟨i1, i2, i3⟩

end Go.Proofs.Ytccckonckddadaa
namespace Go.Proofs.Ytccckonckddadaa
set_option linter.unusedVariables false

theorem accV_settle (p : SeqV) (l : List RecV) (i : Nat) : accV (settleV p l) i = accV p i := by
  unfold accV; rw [(settle_accs l p).1]

theorem pLate_step (r i : Nat) (p : SeqV) (l : List RecV) : pLateFrom (r + 1) i p l = pLateFrom r (i + 1) (putA p i (lateA (accV p i) p.epochs)) (l ++ (lateL (accV p i) p.epochs).map (lateRec i)) := rfl
theorem pVisit_step (r i : Nat) (p : SeqV) (room : Int) (l : List RecV) : pVisitFrom (r + 1) i p room l = pVisitFrom r (behindV p.accs.length i) (putA p i (visitA (accV p i) p.quantum room)) (room - costs (visitL (accV p i) p.quantum room)) (l ++ (visitL (accV p i) p.quantum room).map (textRec i)) := rfl

theorem lateFrom_sim : ∀ (r i : Nat) (s : CluV) (p : SeqV) (l : List RecV), Sim (settleV p l) s → CluFit s → i + r = p.accs.length →
    (lateFrom r i s l).2 = (pLateFrom r i p l).2 ∧ Sim (settleV (pLateFrom r i p l).1 (pLateFrom r i p l).2) (lateFrom r i s l).1 ∧ (pLateFrom r i p l).1.accs.length = p.accs.length ∧ (pLateFrom r i p l).1.first = p.first ∧ (pLateFrom r i p l).1.epochs = p.epochs ∧ (pLateFrom r i p l).1.log = p.log
  | 0, i, s, p, l, h, hf, hi => ⟨rfl, h, rfl, rfl, rfl, rfl⟩
  | r + 1, i, s, p, l, h, hf, hi => by
    have hcl : (p.accs.length : Int) = s.conf.clients := by have := h.many; rw [(settle_accs l p).1] at this; exact this
    obtain ⟨c1, c2, _, _⟩ := conf_edges hf.conf
    have hi8 : i < 8 := by omega
    obtain ⟨e1, e2⟩ := lateV_sim h (c := i) (by rw [(settle_accs l p).1]; omega) hi8 hf.credit
    rw [accV_settle, (settle_accs l p).2.1] at e1 e2
    rw [← settle_put, ← settleV_append] at e2
    obtain ⟨y1, y2, _⟩ := lateV_mild hf (client := (i : Int)) (by omega) (by omega)
    obtain ⟨i1, i2, i3, i4, i5, i6⟩ := lateFrom_sim r (i + 1) (lateV s i).1 (putA p i (lateA (accV p i) p.epochs)) (l ++ (lateL (accV p i) p.epochs).map (lateRec i)) e2 y2 (by show _ = (p.accs.set i _).length; rw [List.length_set]; omega)
    rw [late_step, pLate_step, e1]
    refine ⟨i1, i2, ?_, i4, i5, i6⟩
    rw [i3]
    show (p.accs.set i _).length = _
    rw [List.length_set]

theorem behind_mod {f n : Int} {i m : Nat} (hm : (m : Int) = n) (hn : 0 < n) (h : (i : Int) < n) (h0 : 0 ≤ f) (hf : f < n) : behindV m ((f + i) % n).toNat = ((f + ((i + 1 : Nat) : Int)) % n).toNat := by
  have r1 : f + i < n ∧ (f + i) % n = f + i ∨ n ≤ f + i ∧ (f + i) % n = f + i - n := by
    by_cases h1 : f + i < n
    · exact .inl ⟨h1, Int.emod_eq_of_lt (by omega) h1⟩
    · exact .inr ⟨by omega, emod_over (by omega) (by omega)⟩
  have r2 : f + ((i + 1 : Nat) : Int) < n ∧ (f + ((i + 1 : Nat) : Int)) % n = f + i + 1 ∨ n ≤ f + ((i + 1 : Nat) : Int) ∧ f + ((i + 1 : Nat) : Int) < n + n ∧ (f + ((i + 1 : Nat) : Int)) % n = f + i + 1 - n ∨ f + ((i + 1 : Nat) : Int) = n + n ∧ False := by
    by_cases h1 : f + ((i + 1 : Nat) : Int) < n
    · exact .inl ⟨h1, (Int.emod_eq_of_lt (by omega) h1).trans (by omega)⟩
    · exact .inr (.inl ⟨by omega, by omega, (emod_over (by omega) (by omega)).trans (by omega)⟩)
  unfold behindV
  rcases r1 with ⟨a1, a2⟩ | ⟨a1, a2⟩ <;> rcases r2 with ⟨b1, b2⟩ | ⟨b1, b2, b3⟩ | ⟨_, b3⟩
  · rw [a2, b2, if_pos (by omega)]; omega
  · rw [a2, b3, if_neg (by omega)]; omega
  · exact b3.elim
  · omega
  · rw [a2, b3, if_pos (by omega)]; omega
  · exact b3.elim

theorem visitFrom_step (r i : Nat) (s : CluV) (room : Int) (l : List RecV) : visitFrom (r + 1) i s room l = visitFrom r (i + 1) (visitV s ((s.first + i) % s.conf.clients).toNat room).1 (visitV s ((s.first + i) % s.conf.clients).toNat room).2.2 (l ++ (visitV s ((s.first + i) % s.conf.clients).toNat room).2.1) := rfl

theorem visitFrom_sim (l0 : List RecV) : ∀ (r i : Nat) (s : CluV) (p : SeqV) (room : Int) (l : List RecV), Sim (settleV p (l0 ++ l)) s → CluFit s → (i : Int) + r ≤ s.conf.clients → 0 ≤ room → (∀ j : Nat, i ≤ j → (j : Int) < s.conf.clients → s.credit.getD ((s.first + j) % s.conf.clients).toNat 0 ≤ 8 * (s.epochs.length : Int)) → (∀ c : Nat, (queueV s.txs c).length ≤ 64) →
    (visitFrom r i s room (l0 ++ l)).2 = l0 ++ (pVisitFrom r ((s.first + i) % s.conf.clients).toNat p room l).2 ∧
    Sim (settleV (pVisitFrom r ((s.first + i) % s.conf.clients).toNat p room l).1 (l0 ++ (pVisitFrom r ((s.first + i) % s.conf.clients).toNat p room l).2)) (visitFrom r i s room (l0 ++ l)).1 ∧ (pVisitFrom r ((s.first + i) % s.conf.clients).toNat p room l).1.accs.length = p.accs.length ∧ (pVisitFrom r ((s.first + i) % s.conf.clients).toNat p room l).1.first = p.first ∧ (pVisitFrom r ((s.first + i) % s.conf.clients).toNat p room l).1.epochs = p.epochs ∧ (pVisitFrom r ((s.first + i) % s.conf.clients).toNat p room l).1.log = p.log
  | 0, i, s, p, room, l, h, hf, _, _, _, _ => ⟨rfl, h, rfl, rfl, rfl, rfl⟩
  | r + 1, i, s, p, room, l, h, hf, hn, hr, hc, hq => by
    obtain ⟨e1, e2, _, _⟩ := conf_edges hf.conf
    have hcl : (p.accs.length : Int) = s.conf.clients := by have := h.many; rw [(settle_accs _ p).1] at this; exact this
    obtain ⟨t1, t2, t3⟩ := turn_lt (f := s.first) (i := i) (by omega : 0 < s.conf.clients) e2
    obtain ⟨y1, y2, y3, y4, y5, y6, y7⟩ := visitV_mild hf t1 hr (hc i (Nat.le_refl _) (by omega))
    have hnext := behind_mod (f := s.first) (i := i) hcl (by omega) (by omega) hf.first0 hf.first1
    have hqc : (qOf ((s.first + i) % s.conf.clients).toNat s.txs).length ≤ 64 := by
      have := hq ((s.first + i) % s.conf.clients).toNat
      unfold queueV at this
      rw [queue_len_of] at this
      exact this
    obtain ⟨v1, v2, v3⟩ := visitV_sim h (c := ((s.first + i) % s.conf.clients).toNat) (by rw [(settle_accs _ p).1]; omega) t1 hf.credit (fun t ht => (hf.tx t ht).1) hqc room
    rw [accV_settle, (settle_accs _ p).2.2.1] at v1 v2 v3
    rw [← settle_put, ← settleV_append, List.append_assoc] at v3
    have ih := visitFrom_sim l0 r (i + 1) _ (putA p ((s.first + i) % s.conf.clients).toNat (visitA (accV p ((s.first + i) % s.conf.clients).toNat) p.quantum room)) (visitV s ((s.first + i) % s.conf.clients).toNat room).2.2 (l ++ (visitL (accV p ((s.first + i) % s.conf.clients).toNat) p.quantum room).map (textRec ((s.first + i) % s.conf.clients).toNat)) v3 y2 (by rw [y1.conf]; omega) y6 (fun j hj hjn => by
      rw [y1.conf] at hjn
      rw [y1.conf, y1.first, y1.epochs]
      have hne := turn_ne hf.first0 hf.first1 hjn (by omega : (i : Int) < s.conf.clients) (by omega : j ≠ i)
      rw [List.getD_eq_getElem?_getD, y5 _ hne, ← List.getD_eq_getElem?_getD]
      exact hc j (by omega) hjn) (fun c => Nat.le_trans (y1.queue (c : Int)) (hq c))
    rw [y1.conf, y1.first] at ih
    rw [visitFrom_step, pVisit_step, hnext, v1, List.append_assoc, ← v2]
    obtain ⟨j1, j2, j3, j4, j5, j6⟩ := ih
    refine ⟨j1, j2, ?_, j4, j5, j6⟩
    rw [j3]
    show (p.accs.set _ _).length = _
    rw [List.length_set]

theorem mod_first {f n : Int} (h0 : 0 ≤ f) (hf : f < n) : ((f + (0 : Nat)) % n).toNat = f.toNat := by
  rw [show f + ((0 : Nat) : Int) = f from by omega, Int.emod_eq_of_lt h0 hf]

theorem fill_sim {p : SeqV} {s : CluV} (h : Sim p s) (hf : CluFit s) (hr : Rest s) : (pFillV p).2 = (fillV s).2 ∧ Sim (pFillV p).1 (fillV s).1 := by
  unfold pFillV fillV
  rw [h.epochs]
  by_cases he : 200 ≤ s.epochs.length
  · rw [if_pos he, if_pos he]
    exact ⟨rfl, h⟩
  · rw [if_neg he, if_neg he]
    obtain ⟨e1, e2, e3, _⟩ := conf_edges hf.conf
    have hcl := h.many
    have hcn : s.conf.clients.toNat = p.accs.length := by omega
    rw [hcn]
    obtain ⟨l1, l2, l3, l4, l5, l6⟩ := lateFrom_sim p.accs.length 0 s p [] h hf (by omega)
    obtain ⟨y1, y2, y3⟩ := lateFrom_mild p.accs.length 0 s [] hf (by omega)
    have hv := visitFrom_sim (pLateFrom p.accs.length 0 p []).2 p.accs.length 0 (lateFrom p.accs.length 0 s []).1 (pLateFrom p.accs.length 0 p []).1 s.conf.room [] (by rw [List.append_nil]; exact l2) y2 (by rw [y1.conf]; omega) e3 (fun j _ _ => by rw [y3, y1.epochs]; exact hr.credit _) (fun c => by
      have h1 := y1.queue (c : Int)
      have h2 := hr.queue c
      obtain ⟨_, _, _, _⟩ := conf_edges hf.conf
      have h3 := hf.conf
      unfold confOk at h3
      simp only [Bool.and_eq_true, decide_eq_true_eq] at h3
      omega)
    rw [y1.first, y1.conf, mod_first hf.first0 hf.first1, List.append_nil, show s.first.toNat = p.first from by have := h.first; omega] at hv
    obtain ⟨v1, v2, v3, v4, v5, v6⟩ := hv
    obtain ⟨z1, z2⟩ := visitFrom_mild p.accs.length 0 (lateFrom p.accs.length 0 s []).1 s.conf.room (pLateFrom p.accs.length 0 p []).2 y2 (by rw [y1.conf]; omega) e3 (fun j _ _ => by rw [y3, y1.epochs]; exact hr.credit _)
    have hM := y1.trans z1
    simp only
    rw [← h.room] at v1 v2 v3 v4 v5 v6 z1 z2 hM
    rw [l1, ← h.room]
    rw [v1, settle_first]
    refine ⟨rfl, ?_⟩
    have hsp := v2.epochs
    have hfi := h.first
    have hb := behind_mod (f := s.first) (i := 0) hcl (by omega) (by omega) hf.first0 hf.first1
    rw [mod_first hf.first0 hf.first1, show s.first.toNat = p.first from by omega] at hb
    refine ⟨v2.queue, v2.quantum, v2.room, ?_, ?_, ?_, v2.cells, v2.many, v2.acc, v2.outs, v2.few, v2.e0⟩
    · show ((behindV p.accs.length p.first : Nat) : Int) = ((visitFrom p.accs.length 0 (lateFrom p.accs.length 0 s []).1 p.room (pLateFrom p.accs.length 0 p []).2).1.first + 1) % s.conf.clients
      rw [hM.first, hb]
      have := Int.emod_nonneg (s.first + 1) (by omega : s.conf.clients ≠ 0)
      show ((((s.first + ((0 + 1 : Nat) : Int)) % s.conf.clients).toNat : Nat) : Int) = _
      rw [show s.first + ((0 + 1 : Nat) : Int) = s.first + 1 from by omega]
      omega
    · show s.epochs.length + 1 = ((visitFrom p.accs.length 0 (lateFrom p.accs.length 0 s []).1 p.room (pLateFrom p.accs.length 0 p []).2).1.epochs ++ [_]).length
      rw [List.length_append, hM.epochs]; rfl
    · refine ⟨?_, ?_⟩
      rotate_left
      · show ((settleV (pVisitFrom p.accs.length p.first (pLateFrom p.accs.length 0 p []).1 p.room []).1 _).eps ++ [_]).map _ = ((visitFrom p.accs.length 0 (lateFrom p.accs.length 0 s []).1 p.room (pLateFrom p.accs.length 0 p []).2).1.epochs ++ [_]).mapIdx _
        rw [List.map_append, v2.log.2, epsL, List.mapIdx_append, hM.epochs]
        simp only [List.map_cons, List.map_nil, List.mapIdx_cons, List.mapIdx_nil, Nat.zero_add]
      show (settleV (pVisitFrom p.accs.length p.first (pLateFrom p.accs.length 0 p []).1 p.room []).1 _).log ++ Dk.epoch s.epochs.length _ = _
      have hlog := v2.log.1
      rw [hlog]
      have hge : ({ (visitFrom p.accs.length 0 (lateFrom p.accs.length 0 s []).1 p.room (pLateFrom p.accs.length 0 p []).2).1 with first := ((visitFrom p.accs.length 0 (lateFrom p.accs.length 0 s []).1 p.room (pLateFrom p.accs.length 0 p []).2).1.first + 1) % s.conf.clients, epochs := (visitFrom p.accs.length 0 (lateFrom p.accs.length 0 s []).1 p.room (pLateFrom p.accs.length 0 p []).2).1.epochs ++ [(pLateFrom p.accs.length 0 p []).2 ++ (pVisitFrom p.accs.length p.first (pLateFrom p.accs.length 0 p []).1 p.room []).2] } : CluV).epochs[s.epochs.length]? = some ((pLateFrom p.accs.length 0 p []).2 ++ (pVisitFrom p.accs.length p.first (pLateFrom p.accs.length 0 p []).1 p.room []).2) := by
        show ((visitFrom p.accs.length 0 (lateFrom p.accs.length 0 s []).1 p.room (pLateFrom p.accs.length 0 p []).2).1.epochs ++ [_])[s.epochs.length]? = _
        rw [hM.epochs, List.getElem?_append_right (Nat.le_refl _), Nat.sub_self]; rfl
      have hs := log_snoc hge
      rw [show ({ (visitFrom p.accs.length 0 (lateFrom p.accs.length 0 s []).1 p.room (pLateFrom p.accs.length 0 p []).2).1 with first := ((visitFrom p.accs.length 0 (lateFrom p.accs.length 0 s []).1 p.room (pLateFrom p.accs.length 0 p []).2).1.first + 1) % s.conf.clients, epochs := (visitFrom p.accs.length 0 (lateFrom p.accs.length 0 s []).1 p.room (pLateFrom p.accs.length 0 p []).2).1.epochs ++ [(pLateFrom p.accs.length 0 p []).2 ++ (pVisitFrom p.accs.length p.first (pLateFrom p.accs.length 0 p []).1 p.room []).2] } : CluV).epochs.length = s.epochs.length + 1 from by
        show ((visitFrom p.accs.length 0 (lateFrom p.accs.length 0 s []).1 p.room (pLateFrom p.accs.length 0 p []).2).1.epochs ++ [_]).length = _
        rw [List.length_append, hM.epochs]; rfl, hs]
      congr 1
      unfold logV
      congr 2
      show _ = List.take s.epochs.length ((visitFrom p.accs.length 0 (lateFrom p.accs.length 0 s []).1 p.room (pLateFrom p.accs.length 0 p []).2).1.epochs ++ [_])
      rw [hM.epochs, List.take_append_of_le_length (Nat.le_refl _)]

end Go.Proofs.Ytccckonckddadaa
namespace Go.Proofs.Ytccckonckddadaa
set_option linter.unusedVariables false

/-! ### Reply, Submit, New -/
theorem once_mem {s : CluV} (hf : CluFit s) {x y : TxV} (hx : x ∈ s.txs) (hy : y ∈ s.txs) (h : x.i = y.i) : x = y := by
  obtain ⟨i, hi⟩ := List.getElem?_of_mem hx
  obtain ⟨j, hj⟩ := List.getElem?_of_mem hy
  have := hf.once i j x y hi hj h
  subst this
  rw [hi] at hj
  exact Option.some.inj hj

theorem reply_found {s : CluV} (hf : CluFit s) {t : TxV} (ht : t ∈ s.txs) : replyV s t.i = (t.s, t.e, 0) ∧ 0 ≤ findV s.txs t.i := by
  have h0 : 0 ≤ findV s.txs t.i := by
    by_cases h : findV s.txs t.i < 0
    · exact absurd rfl (find_none t.i s.txs 0 h t ht)
    · omega
  obtain ⟨i, u, h1, h2, h3⟩ := find_some t.i s.txs 0 h0
  have hu : u = t := once_mem hf (List.mem_of_getElem? h2) ht h3
  subst hu
  refine ⟨?_, h0⟩
  unfold replyV
  rw [if_neg (by omega)]
  have e : (findV s.txs u.i).toNat = i := by unfold findV; rw [h1]; omega
  rw [e, h2]
theorem reply_none {s : CluV} {id : Int} (h : ∀ t ∈ s.txs, t.i ≠ id) : replyV s id = (0, 0, 10) ∧ findV s.txs id < 0 := by
  have h0 : findV s.txs id < 0 := by
    by_cases h0 : findV s.txs id < 0
    · exact h0
    · obtain ⟨i, u, h1, h2, h3⟩ := find_some id s.txs 0 (by unfold findV at h0; omega)
      exact absurd h3 (h u (List.mem_of_getElem? h2))
  refine ⟨?_, h0⟩
  unfold replyV
  rw [if_pos h0]

theorem awaits_iff {p : SeqV} {s : CluV} (h : Sim p s) (hf : CluFit s) (id : Int) : p.accs.any (awaits id) = true ↔ ∃ t ∈ s.txs, t.s = 0 ∧ t.i = id := by
  rw [List.any_eq_true]
  constructor
  · rintro ⟨a, ha, hw⟩
    obtain ⟨i, hi⟩ := List.getElem?_of_mem ha
    have hil := (List.getElem?_eq_some_iff.1 hi).1
    rw [h.acc i hil] at hi
    cases hi
    unfold awaits at hw
    rw [List.any_eq_true] at hw
    obtain ⟨x, hx, hid⟩ := hw
    have hx' : x ∈ qOf i s.txs := hx
    unfold qOf at hx'
    obtain ⟨t, ht, rfl⟩ := List.mem_map.1 hx'
    obtain ⟨h1, h2⟩ := List.mem_filter.1 ht
    exact ⟨t, h1, (waits_iff.1 h2).2, of_decide_eq_true hid⟩
  · rintro ⟨t, ht, hs, hid⟩
    have hb := hf.tx t ht
    have hm := h.many
    obtain ⟨i, hi⟩ : ∃ i : Nat, t.c = (i : Int) := ⟨t.c.toNat, by omega⟩
    have hil : i < p.accs.length := by omega
    refine ⟨_, List.mem_of_getElem? (h.acc i hil), ?_⟩
    unfold awaits
    rw [List.any_eq_true]
    refine ⟨waitOf t, ?_, decide_eq_true hid⟩
    show waitOf t ∈ qOf i s.txs
    unfold qOf
    exact List.mem_map.2 ⟨t, List.mem_filter.2 ⟨ht, waits_iff.2 ⟨hi, hs⟩⟩, rfl⟩

theorem reply_sim {p : SeqV} {s : CluV} (h : Sim p s) (hf : CluFit s) (id : Int) : pReplyV p id = replyV s id := by
  unfold pReplyV
  cases ho : outV p id with
  | some x =>
    unfold outV at ho
    have hid : x.i = id := by have := List.find?_some ho; exact of_decide_eq_true this
    obtain ⟨t, ht, hs, rfl⟩ := (h.outs x).1 (List.mem_of_find?_eq_some ho)
    have hid' : t.i = id := hid
    rw [← hid', (reply_found hf ht).1]
  | none =>
    have hno : ∀ x ∈ p.outs, x.i ≠ id := by
      unfold outV at ho
      rw [List.find?_eq_none] at ho
      intro x hx he
      exact ho x hx (decide_eq_true he)
    simp only
    by_cases ha : p.accs.any (awaits id) = true
    · obtain ⟨t, ht, hs, hid⟩ := (awaits_iff h hf id).1 ha
      rw [if_pos ha, ← hid, (reply_found hf ht).1, hs]
      have := h.e0 t ht hs
      rw [this]
    · rw [if_neg ha, (reply_none (fun t ht he => ?_)).1]
      by_cases hs : t.s = 0
      · exact ha ((awaits_iff h hf id).2 ⟨t, ht, hs, he⟩)
      · exact hno _ ((h.outs ⟨t.i, t.s, t.e⟩).2 ⟨t, ht, hs, rfl⟩) he

theorem reply_code {s : CluV} (hf : CluFit s) (id : Int) : (replyV s id).2.2 = 0 ↔ 0 ≤ findV s.txs id := by
  by_cases h : findV s.txs id < 0
  · rw [(reply_none (find_none id s.txs 0 h)).1]
    constructor
    · intro h1; cases h1
    · intro h1; omega
  · obtain ⟨i, u, h1, h2, h3⟩ := find_some id s.txs 0 (by unfold findV at h; omega)
    have := reply_found hf (List.mem_of_getElem? h2)
    rw [h3] at this
    rw [this.1]
    exact ⟨fun _ => this.2, fun _ => rfl⟩

theorem submit_sim {p : SeqV} {s : CluV} (h : Sim p s) (hf : CluFit s) (client id : Int) (t : ByteArray) (d : Int) : (pSubmitV p client id t d).2 = (submitV s client id t d).2 ∧ Sim (pSubmitV p client id t d).1 (submitV s client id t d).1 := by
  have hm := h.many
  unfold pSubmitV submitV
  by_cases h1 : ¬ (0 ≤ client ∧ client ≤ s.conf.clients - 1)
  · rw [if_pos (by omega), if_pos h1]; exact ⟨rfl, h⟩
  rw [if_neg (by omega), if_neg h1]
  by_cases h2 : ¬ (0 ≤ id ∧ id ≤ 999999)
  · rw [if_pos h2, if_pos h2]; exact ⟨rfl, h⟩
  rw [if_neg h2, if_neg h2]
  by_cases h3 : Dk.parseOk t.data.toList = false
  · rw [if_pos h3, if_pos h3]; exact ⟨rfl, h⟩
  rw [if_neg h3, if_neg h3, reply_sim h hf]
  by_cases h4 : 0 ≤ findV s.txs id
  · rw [if_pos ((reply_code hf id).2 h4), if_pos h4]; exact ⟨rfl, h⟩
  rw [if_neg (fun hh => h4 ((reply_code hf id).1 hh)), if_neg h4, h.epochs]
  by_cases h5 : d < (s.epochs.length : Int)
  · rw [if_pos h5, if_pos h5]; exact ⟨rfl, h⟩
  have hcl : client.toNat < p.accs.length := by omega
  have hcc : ((client.toNat : Nat) : Int) = client := by omega
  have ha := h.accV hcl
  have hql : ((accV p client.toNat).q.length : Int) = ((queueV s.txs client).length : Int) := by
    rw [ha]
    show ((qOf client.toNat s.txs).length : Int) = _
    rw [← queue_len_of client.toNat s.txs 0, hcc]; rfl
  rw [if_neg h5, if_neg h5, hql, h.queue]
  by_cases h6 : s.conf.queue ≤ ((queueV s.txs client).length : Int)
  · rw [if_pos h6, if_pos h6]; exact ⟨rfl, h⟩
  rw [if_neg h6, if_neg h6]
  refine ⟨rfl, ?_⟩
  rw [ha]
  refine ⟨h.queue, h.quantum, h.room, h.first, h.epochs, h.log, h.cells, ?_, ?_, ?_, ?_, ?_⟩
  · show ((p.accs.set _ _).length : Int) = _
    rw [List.length_set]; exact hm
  · intro i hi
    have hi' : i < p.accs.length := by
      have : i < (p.accs.set client.toNat ⟨qOf client.toNat s.txs ++ [⟨id, t, costV t, d⟩], s.credit.getD client.toNat 0⟩).length := hi
      rwa [List.length_set] at this
    show (p.accs.set client.toNat ⟨qOf client.toNat s.txs ++ [⟨id, t, costV t, d⟩], s.credit.getD client.toNat 0⟩)[i]? = some ⟨qOf i (s.txs ++ [⟨client, id, t, d, 0, 0⟩]), s.credit.getD i 0⟩
    rw [qOf_append]
    by_cases hic : client.toNat = i
    · subst hic
      rw [List.getElem?_set_self hi', qOf_yes (waits_iff.2 ⟨hcc.symm, rfl⟩)]
      rfl
    · rw [List.getElem?_set_ne hic, h.acc i hi', qOf_no]
      · rw [show qOf i [] = [] from rfl, List.append_nil]
      · rw [← Bool.not_eq_true, waits_iff]
        intro hh
        have h9 : client = (i : Int) := hh.1
        omega
  · intro x
    rw [show (putA p client.toNat ⟨qOf client.toNat s.txs ++ [⟨id, t, costV t, d⟩], s.credit.getD client.toNat 0⟩).outs = p.outs from rfl, h.outs x]
    constructor
    · rintro ⟨u, hu, hs, rfl⟩
      exact ⟨u, List.mem_append_left _ hu, hs, rfl⟩
    · rintro ⟨u, hu, hs, rfl⟩
      rcases List.mem_append.1 hu with hu | hu
      · exact ⟨u, hu, hs, rfl⟩
      · have : u = ⟨client, id, t, d, 0, 0⟩ := by simpa using hu
        subst this
        exact absurd rfl hs
  · have := h.few
    unfold waiting at this ⊢
    show p.outs.length + (s.txs ++ [(⟨client, id, t, d, 0, 0⟩ : TxV)]).countP wait = (s.txs ++ [(⟨client, id, t, d, 0, 0⟩ : TxV)]).length
    rw [List.countP_append, List.length_append, List.countP_cons]
    simp only [wait, decide_true, if_true, List.countP_nil, List.length_cons, List.length_nil] at this ⊢
    omega
  · intro u hu hs
    rcases List.mem_append.1 hu with hu | hu
    · exact h.e0 u hu hs
    · have : u = ⟨client, id, t, d, 0, 0⟩ := by simpa using hu
      subst this
      rfl

theorem new_sim {c : ConfV} (h : confOk c = true) : Sim (pNewV c) (newV c) := by
  unfold confOk at h
  simp only [Bool.and_eq_true, decide_eq_true_eq] at h
  refine ⟨rfl, rfl, rfl, rfl, rfl, ⟨rfl, rfl⟩, rfl, ?_, ?_, ?_, rfl, ?_⟩
  · show ((List.replicate c.clients.toNat (⟨[], 0⟩ : AccV)).length : Int) = c.clients
    rw [List.length_replicate]; omega
  · intro i hi
    have hi' : i < c.clients.toNat := by
      have : i < (List.replicate c.clients.toNat (⟨[], 0⟩ : AccV)).length := hi
      rwa [List.length_replicate] at this
    show (List.replicate c.clients.toNat (⟨[], 0⟩ : AccV))[i]? = some ⟨[], ([0, 0, 0, 0, 0, 0, 0, 0] : List Int).getD i 0⟩
    rw [List.getElem?_replicate, if_pos hi']
    have : ([0, 0, 0, 0, 0, 0, 0, 0] : List Int).getD i 0 = 0 := by
      have hall : ∀ j : Fin 8, ([0, 0, 0, 0, 0, 0, 0, 0] : List Int).getD j.1 0 = 0 := by decide
      exact hall ⟨i, by omega⟩
    rw [this]
  · intro x
    constructor
    · intro hx; cases hx
    · rintro ⟨u, hu, _⟩; cases hu
  · intro u hu; cases hu

end Go.Proofs.Ytccckonckddadaa
namespace Go.Proofs.Ytccckonckddadaa
open Go.RowKit
set_option linter.unusedVariables false

/-! ### Count -/
def countV (s : CluV) (r : Int) : Int × Int := if ¬ (0 ≤ r ∧ r ≤ s.conf.reps - 1) then (0, 11) else ((s.reps.getD r.toNat (0, 0)).1, 0)

theorem conf_reps {c : ConfV} (h : confOk c = true) : 1 ≤ c.reps ∧ c.reps ≤ 4 := by
  unfold confOk at h
  simp only [Bool.and_eq_true, decide_eq_true_eq] at h
  omega

/-! ### Sync -/
def repV (s : CluV) (k : Nat) (x : Int × Int) : CluV := { s with reps := s.reps.set k x }
def syncV (s : CluV) (r : Int) : CluV × Int := if ¬ (0 ≤ r ∧ r ≤ s.conf.reps - 1) then (s, 11) else (repV s r.toNat ((s.reps.getD r.toNat (0, 0)).1, (s.reps.getD r.toNat (0, 0)).1), 0)

theorem fit_rep {s : CluV} (h : CluFit s) (k : Nat) (x : Int × Int) : CluFit (repV s k x) :=
  ⟨h.conf, h.credit, h.cells, by show (s.reps.set k x).length = 4; rw [List.length_set]; exact h.reps, h.many, h.first0, h.first1, h.few, h.tx, h.once, h.ep, h.c16, h.cr⟩

theorem reps_safe : ∀ (l : List (Int × Int)) (k : Nat) (y : Int), k < l.length → (repCells l).set (k * 2 + 1) (.int .i64 y) = repCells (l.set k ((l.getD k (0, 0)).1, y))
  | [], k, y, h => by simp at h
  | z :: l, 0, y, h => rfl
  | z :: l, k + 1, y, h => by
    have ih := reps_safe l k y (by simpa using h)
    have e : repCells (z :: l) = .int .i64 z.1 :: .int .i64 z.2 :: repCells l := rfl
    rw [e, show (k + 1) * 2 + 1 = (k * 2 + 1) + 1 + 1 from by omega, List.set_cons_succ, List.set_cons_succ, ih]
    rfl
theorem reps_count : ∀ (l : List (Int × Int)) (k : Nat) (y : Int), k < l.length → (repCells l).set (k * 2) (.int .i64 y) = repCells (l.set k (y, (l.getD k (0, 0)).2))
  | [], k, y, h => by simp at h
  | z :: l, 0, y, h => rfl
  | z :: l, k + 1, y, h => by
    have ih := reps_count l k y (by simpa using h)
    have e : repCells (z :: l) = .int .i64 z.1 :: .int .i64 z.2 :: repCells l := rfl
    rw [e, show (k + 1) * 2 = k * 2 + 1 + 1 from by omega, List.set_cons_succ, List.set_cons_succ, ih]
    rfl

end Go.Proofs.Ytccckonckddadaa
namespace Go.Proofs.Ytccckonckddadaa
open Go.RowKit
set_option linter.unusedVariables false

/-! ### Send, Disk -/
def sendV (s : CluV) (r n : Int) : CluV × Int :=
  if ¬ (0 ≤ r ∧ r ≤ s.conf.reps - 1) then (s, 11)
  else if ¬ (0 ≤ n ∧ n ≤ (s.epochs.length : Int) - 1) then (s, 10)
  else if n < (s.reps.getD r.toNat (0, 0)).1 then (s, 12)
  else if (s.reps.getD r.toNat (0, 0)).1 < n then (s, 13)
  else (repV s r.toNat (n + 1, (s.reps.getD r.toNat (0, 0)).2), 0)

/-- What is true of the replicas. -/
def RepFit (s : CluV) : Prop := ∀ x ∈ s.reps, 0 ≤ x.2 ∧ x.2 ≤ x.1 ∧ x.1 ≤ (s.epochs.length : Int)

end Go.Proofs.Ytccckonckddadaa
namespace Go.Proofs.Ytccckonckddadaa
open Go.RowKit
set_option linter.unusedVariables false

/-! ### Disk -/
def diskV (s : CluV) (r : Int) : List UInt8 × Int := if ¬ (0 ≤ r ∧ r ≤ s.conf.reps - 1) then ([], 11) else (logV s (s.reps.getD r.toNat (0, 0)).1.toNat, 0)

theorem rep_fit {s : CluV} (h : RepFit s) (k : Nat) : 0 ≤ (s.reps.getD k (0, 0)).2 ∧ (s.reps.getD k (0, 0)).2 ≤ (s.reps.getD k (0, 0)).1 ∧ (s.reps.getD k (0, 0)).1 ≤ (s.epochs.length : Int) := by
  rw [List.getD_eq_getElem?_getD]
  cases hk : s.reps[k]? with
  | none => exact ⟨Int.le_refl _, Int.le_refl _, by show (0 : Int) ≤ _; omega⟩
  | some x => exact h x (List.mem_of_getElem? hk)

end Go.Proofs.Ytccckonckddadaa
namespace Go.Proofs.Ytccckonckddadaa
open Go.RowKit
set_option linter.unusedVariables false

/-! ### Crash -/
def crashGo (s : CluV) (safe : Nat) (keep : Int) : Nat → Nat → Nat
  | 0, n => n
  | f + 1, n => if keep < ((logV s (n + 1)).length : Int) - (logV s safe).length then n else crashGo s safe keep f (n + 1)
def crashN (s : CluV) (x : Int × Int) (keep : Int) : Nat := crashGo s x.2.toNat keep (x.1.toNat - x.2.toNat) x.2.toNat
def crashV (s : CluV) (r keep : Int) : CluV × Int := if ¬ (0 ≤ r ∧ r ≤ s.conf.reps - 1) then (s, 11) else (repV s r.toNat (crashN s (s.reps.getD r.toNat (0, 0)) keep, crashN s (s.reps.getD r.toNat (0, 0)) keep), 0)

theorem logV_le (s : CluV) (hf : CluFit s) : ∀ n, n ≤ s.epochs.length → (logV s n).length ≤ 4232 * n
  | 0, _ => by simp [logV, Dk.logFrom]
  | n + 1, h => by
    have ih := logV_le s hf n (by omega)
    have hg := List.getElem?_eq_getElem (show n < s.epochs.length by omega)
    rw [log_snoc hg, List.length_append]
    have hep := hf.ep _ (List.mem_of_getElem? hg)
    have HF : Dk.frameOk (n : Int) (recs s.epochs[n]) = true := by
      have := hf.many
      unfold Dk.frameOk
      rw [decide_eq_true ⟨by omega, by omega⟩, decide_eq_true (by rw [recs, List.length_map]; exact hep.1), hep.2]; rfl
    have h2 := epoch_small HF
    rw [Int.toNat_natCast] at h2
    omega

theorem logV_mono (s : CluV) (y : Nat) : ∀ d, y + d ≤ s.epochs.length → (logV s y).length ≤ (logV s (y + d)).length
  | 0, _ => Nat.le_refl _
  | d + 1, h => by
    have ih := logV_mono s y d (by omega)
    have hg := List.getElem?_eq_getElem (show y + d < s.epochs.length by omega)
    rw [← Nat.add_assoc, log_snoc hg, List.length_append]
    omega

end Go.Proofs.Ytccckonckddadaa
namespace Go.Proofs.Ytccckonckddadaa
set_option linter.unusedVariables false

/-! ### What is true of the replicas stays true -/
theorem rep_put {s : CluV} (h : RepFit s) (k : Nat) {x : Int × Int} (hx : 0 ≤ x.2 ∧ x.2 ≤ x.1 ∧ x.1 ≤ (s.epochs.length : Int)) : RepFit (repV s k x) := by
  intro y hy
  rcases List.mem_or_eq_of_mem_set hy with hy | rfl
  · exact h y hy
  · exact hx

theorem newV_rep (c : ConfV) : RepFit (newV c) := by
  intro x hx
  have h0 : x ∈ [((0 : Int), (0 : Int)), (0, 0), (0, 0), (0, 0)] := hx
  have h1 : x = (0, 0) := by simpa using h0
  subst h1
  exact ⟨Int.le_refl _, Int.le_refl _, Int.le_refl _⟩

theorem submitV_rep {s : CluV} (h : RepFit s) (client id : Int) (t : ByteArray) (d : Int) : RepFit (submitV s client id t d).1 := by
  unfold submitV
  iterate 6 (split; exact h)
  exact h

theorem sendV_rep {s : CluV} (h : RepFit s) (r n : Int) : RepFit (sendV s r n).1 := by
  unfold sendV
  iterate 4 (split; exact h)
  obtain ⟨p0, p1, p2⟩ := rep_fit h r.toNat
  refine rep_put h _ ⟨p0, ?_, ?_⟩
  · show (s.reps.getD r.toNat (0, 0)).2 ≤ n + 1
    omega
  · show n + 1 ≤ _
    omega

theorem syncV_rep {s : CluV} (h : RepFit s) (r : Int) : RepFit (syncV s r).1 := by
  unfold syncV
  split
  · exact h
  obtain ⟨p0, p1, p2⟩ := rep_fit h r.toNat
  exact rep_put h _ ⟨Int.le_trans p0 p1, Int.le_refl _, p2⟩

theorem crashGo_le (s : CluV) (safe : Nat) (keep : Int) : ∀ f n, n ≤ crashGo s safe keep f n ∧ crashGo s safe keep f n ≤ n + f
  | 0, n => ⟨Nat.le_refl _, Nat.le_refl _⟩
  | f + 1, n => by
    have ih := crashGo_le s safe keep f (n + 1)
    rw [crashGo]
    split
    · omega
    · omega

theorem crashV_rep {s : CluV} (h : RepFit s) (r keep : Int) : RepFit (crashV s r keep).1 := by
  unfold crashV
  split
  · exact h
  obtain ⟨p0, p1, p2⟩ := rep_fit h r.toNat
  have := crashGo_le s (s.reps.getD r.toNat (0, 0)).2.toNat keep ((s.reps.getD r.toNat (0, 0)).1.toNat - (s.reps.getD r.toNat (0, 0)).2.toNat) (s.reps.getD r.toNat (0, 0)).2.toNat
  refine rep_put h _ ⟨by show (0 : Int) ≤ ((crashN _ _ _ : Nat) : Int); omega, Int.le_refl _, ?_⟩
  show ((crashGo s (s.reps.getD r.toNat (0, 0)).2.toNat keep ((s.reps.getD r.toNat (0, 0)).1.toNat - (s.reps.getD r.toNat (0, 0)).2.toNat) (s.reps.getD r.toNat (0, 0)).2.toNat : Nat) : Int) ≤ _
  omega

theorem fillV_rep {s : CluV} (hf : CluFit s) (hr : Rest s) (h : RepFit s) : RepFit (fillV s).1 := by
  unfold fillV
  split
  · exact h
  · obtain ⟨e1, e2, e3, _⟩ := conf_edges hf.conf
    obtain ⟨y1, y2, y3⟩ := lateFrom_mild s.conf.clients.toNat 0 s [] hf (by omega)
    obtain ⟨z1, z2⟩ := visitFrom_mild s.conf.clients.toNat 0 (lateFrom s.conf.clients.toNat 0 s []).1 s.conf.room (lateFrom s.conf.clients.toNat 0 s []).2 y2 (by rw [y1.conf]; omega) e3 (fun j _ _ => by rw [y3, y1.epochs]; exact hr.credit _)
    have hM := y1.trans z1
    intro x hx
    have hx' : x ∈ (visitFrom s.conf.clients.toNat 0 (lateFrom s.conf.clients.toNat 0 s []).1 s.conf.room (lateFrom s.conf.clients.toNat 0 s []).2).1.reps := hx
    rw [hM.reps] at hx'
    obtain ⟨p0, p1, p2⟩ := h x hx'
    refine ⟨p0, p1, ?_⟩
    simp only
    rw [List.length_append, hM.epochs]
    omega

theorem send_rest {s : CluV} (h : Rest s) (r n : Int) : Rest (sendV s r n).1 := by
  unfold sendV
  iterate 4 (split; exact h)
  exact ⟨h.queue, h.credit⟩
theorem sync_rest {s : CluV} (h : Rest s) (r : Int) : Rest (syncV s r).1 := by
  unfold syncV
  split
  · exact h
  · exact ⟨h.queue, h.credit⟩
theorem crash_rest {s : CluV} (h : Rest s) (r keep : Int) : Rest (crashV s r keep).1 := by
  unfold crashV
  split
  · exact h
  · exact ⟨h.queue, h.credit⟩

end Go.Proofs.Ytccckonckddadaa
namespace Go.Proofs.Ytccckonckddadaa
open Go.RowKit
set_option linter.unusedVariables false

theorem late_take {n : Int} {q : List WaitV} {k : Nat} (hk : k < q.length) (h : isLate n q[k] = true) : (q.take (k + 1)).filter (isLate n) = (q.take k).filter (isLate n) ++ [q[k]] ∧ (q.take (k + 1)).filter (fun x => !isLate n x) = (q.take k).filter (fun x => !isLate n x) := by
  rw [List.take_succ_eq_append_getElem hk, List.filter_append, List.filter_append]
  refine ⟨?_, ?_⟩
  · rw [List.filter_cons_of_pos h]; rfl
  · rw [List.filter_cons_of_neg (by rw [h]; simp)]; simp
theorem late_keep {n : Int} {q : List WaitV} {k : Nat} (hk : k < q.length) (h : isLate n q[k] = false) : (q.take (k + 1)).filter (isLate n) = (q.take k).filter (isLate n) ∧ (q.take (k + 1)).filter (fun x => !isLate n x) = (q.take k).filter (fun x => !isLate n x) ++ [q[k]] := by
  rw [List.take_succ_eq_append_getElem hk, List.filter_append, List.filter_append]
  refine ⟨?_, ?_⟩
  · rw [List.filter_cons_of_neg (by rw [h]; simp)]; simp
  · rw [List.filter_cons_of_pos (by rw [h]; rfl)]; rfl

set_option maxRecDepth 100000 in
set_option maxHeartbeats 4000000 in
theorem takeLate_any (gA i : Nat) (b : Option Nat) (a : AccV) (n : Int) (w : World) (hA : ∃ arr, w.heap[gA]? = some (.cells arr 156)) (h : AccAt w gA i b a) (hn : b ≠ some gA) (hq : a.q.length ≤ 8) :
    Calls Try.prog 107 #[.pointer (some ⟨gA, i * 2, none⟩), .int .i64 n] w (TakePost gA i b (lateA a n) (lateL a n) w) := by
  obtain ⟨ti, hi, hz0, hz1, hz2⟩ := info_parts info_wait
  have HI : Hid (_ ∧ _ ∧ _ ∧ _) := ⟨hi, hz0, hz1, hz2⟩
  clear hi hz0 hz1 hz2
  obtain ⟨q, cr⟩ := a
  have H : Hid (_ ∧ _ ∧ _) := ⟨hA, h, hn⟩
  have hg : gA < w.heap.size := by obtain ⟨arr, hA⟩ := hA; exact (heap_cells hA).2.2
  have fz : ∀ x, w.frozen? ⟨gA, x, none⟩ = false := by obtain ⟨arr, hA⟩ := hA; exact (heap_cells hA).2.1
  obtain ⟨ad, c, c0, _, ho, _⟩ := h
  have HO : Hid _ := ho
  clear ho hA hn
  simp only at c0 hq HO
  have HV : Hid (lateA ⟨q, cr⟩ n = ⟨q.filter (fun x => !isLate n x), cr⟩ ∧ lateL ⟨q, cr⟩ n = q.filter (isLate n)) := ⟨rfl, rfl⟩
  obtain ⟨N, hN⟩ : ∃ n, q.length = n := ⟨_, rfl⟩
  rw [hN] at c0 hq HO
  go_enter Try.func107, Try.ntmps107
  go_wp2
  go_loopw [5, 6, 7] (fun v5 v6 v7 wr => ∃ (a1 a2 : Option Addr) (m1 c1 m2 c2 k : Nat), v5 = .slice a1 m1 c1 ∧ v6 = .slice a2 m2 c2 ∧ v7 = .int .i64 k ∧ k ≤ N ∧ m1 ≤ k ∧ m2 ≤ k ∧ Hid (TwoAt w wr ((q.take k).filter (isLate n)) ((q.take k).filter (fun x => !isLate n x)) a1 m1 c1 a2 m2 c2)) (fun _ _ v7 _ => N - (intOf v7).toNat)
  case atStart => exact ⟨none, none, 0, 0, 0, 0, 0, rfl, rfl, rfl, Nat.zero_le _, Nat.le_refl _, Nat.le_refl _, ⟨rfl, rfl, World.ownsRow_nil _ _ _ _, World.ownsRow_nil _ _ _ _, (fun x hx => by cases hx), Below.refl _ _⟩⟩
  case round =>
    obtain ⟨a1, a2, m1, c1, m2, c2, k, rfl, rfl, rfl, hk, hk1, hk2, HT⟩ := hrel
    have e0 := (HT.out.bel.cell (p := ⟨gA, i * 2, none⟩) hg).trans c0
    have hgr : gA < wr.heap.size := Nat.lt_of_lt_of_le hg HT.out.bel.size
    have hzw : w.heap.size ≤ wr.heap.size := HT.out.bel.size
    have fzr : ∀ x, wr.frozen? ⟨gA, x, none⟩ = false := fun x => (HT.out.bel.frozen (p := ⟨gA, x, none⟩) hg).trans (fz x)
    by_cases hlt : k < N
    · have hkl : k < q.length := by omega
      obtain ⟨gQ, rfl, hgQ, d0, d1, d2, d3⟩ := wait_cell HO.out (List.getElem?_eq_getElem hkl) hlt
      have hgQr : gQ < wr.heap.size := Nat.lt_of_lt_of_le hgQ hzw
      replace d0 := (HT.out.bel.cell (p := ⟨gQ, k * 4, none⟩) hgQ).trans d0
      replace d1 := (HT.out.bel.cell (p := ⟨gQ, k * 4 + 1, none⟩) hgQ).trans d1
      replace d2 := (HT.out.bel.cell (p := ⟨gQ, k * 4 + 2, none⟩) hgQ).trans d2
      replace d3 := (HT.out.bel.cell (p := ⟨gQ, k * 4 + 3, none⟩) hgQ).trans d3
      have HY : Hid (isLate n q[k] = true → _) := late_take hkl
      have HK : Hid (isLate n q[k] = false → _) := late_keep hkl
      generalize q[k] = x at *
      obtain ⟨xi, xt, xc, xd⟩ := x
      simp only at d0 d1 d2 d3
      have k1 : (k : Int) < (N : Int) := by omega
      have k0 : (0 : Int) ≤ (k : Int) := by omega
      by_cases hd : xd < n
      · have HS := HY.out (decide_eq_true hd)
        have HS' : Hid _ := HS
        clear HS HY HK
        go_wp2_with (at_builtin; refine wpList_append_lies _ rfl (.tmp 27) (.tmp 35) 154 rfl w.heap.size 164 ti (.agg #[.int .i64 0, .string ⟨#[]⟩, .int .i64 0, .int .i64 0]) 4 40 Try.underlying154 HI.out.1 HI.out.2.1 HI.out.2.2.1 HI.out.2.2.2 rfl (by decide) (.slice a1 m1 c1) m1 (waitsCells ((q.take k).filter (isLate n))) rfl (HT.out.o1.alloc _) ⟨wr.heap.size, 0, none⟩ 1 1 [.int .i64 xi, .string xt, .int .i64 xc, .int .i64 xd] rfl rfl ?c1 ?c2 ?c3 ?c4 ?c5 ?c6 _ rfl ?_)
        try (case c1 => exact cells_new _ _ rfl [.int .i64 xi, .string xt, .int .i64 xc, .int .i64 xd] _)
        case c2 => first | (intro u hu; simp only [List.mem_cons, List.not_mem_nil, or_false] at hu; rcases hu with rfl | rfl | rfl | rfl <;> rfl) | exact ⟨rfl, rfl, rfl, rfl⟩
        try (case c3 => decide)
        try (case c4 => unfold maxLen; omega)
        try (case c5 => omega)
        try (case c6 => first | omega | (simp; omega))
        intro gN cap w7 hown7 hgr7 hat7 hlt7
        have HN : Hid (TwoAt w w7 ((q.take (k + 1)).filter (isLate n)) ((q.take (k + 1)).filter (fun x => !isLate n x)) (some ⟨gN, 0, none⟩) (m1 + 1) cap a2 m2 c2) := by
          show TwoAt _ _ _ _ _ _ _ _ _ _
          rw [HS'.out.1, HS'.out.2]
          exact HT.out.left (x := ⟨xi, xt, xc, xd⟩) hown7 hgr7 (by rw [show (wr.alloc (.cells #[.int .i64 xi, .string xt, .int .i64 xc, .int .i64 xd] 164)).heap.size = wr.heap.size + 1 from by simp]; exact hat7)
        clear hown7 hgr7 hat7 hlt7
        go_wp2
        go_roundw
        case rel => exact ⟨_, _, _, _, _, _, k + 1, rfl, rfl, by go_num, by omega, by omega, by omega, HN⟩
        case measure => simp [intOf]; omega
      · have HS := HK.out (decide_eq_false hd)
        have HS' : Hid _ := HS
        clear HS HY HK
        have hd' : n ≤ xd := by omega
        go_wp2_with (at_builtin; refine wpList_append_lies _ rfl (.tmp 37) (.tmp 45) 154 rfl w.heap.size 164 ti (.agg #[.int .i64 0, .string ⟨#[]⟩, .int .i64 0, .int .i64 0]) 4 40 Try.underlying154 HI.out.1 HI.out.2.1 HI.out.2.2.1 HI.out.2.2.2 rfl (by decide) (.slice a2 m2 c2) m2 (waitsCells ((q.take k).filter (fun x => !isLate n x))) rfl (HT.out.o2.alloc _) ⟨wr.heap.size, 0, none⟩ 1 1 [.int .i64 xi, .string xt, .int .i64 xc, .int .i64 xd] rfl rfl ?c1 ?c2 ?c3 ?c4 ?c5 ?c6 _ rfl ?_)
        try (case c1 => exact cells_new _ _ rfl [.int .i64 xi, .string xt, .int .i64 xc, .int .i64 xd] _)
        case c2 => first | (intro u hu; simp only [List.mem_cons, List.not_mem_nil, or_false] at hu; rcases hu with rfl | rfl | rfl | rfl <;> rfl) | exact ⟨rfl, rfl, rfl, rfl⟩
        try (case c3 => decide)
        try (case c4 => unfold maxLen; omega)
        try (case c5 => omega)
        try (case c6 => first | omega | (simp; omega))
        intro gN cap w7 hown7 hgr7 hat7 hlt7
        have HN : Hid (TwoAt w w7 ((q.take (k + 1)).filter (isLate n)) ((q.take (k + 1)).filter (fun x => !isLate n x)) a1 m1 c1 (some ⟨gN, 0, none⟩) (m2 + 1) cap) := by
          show TwoAt _ _ _ _ _ _ _ _ _ _
          rw [HS'.out.1, HS'.out.2]
          exact HT.out.right (x := ⟨xi, xt, xc, xd⟩) hown7 hgr7 (by rw [show (wr.alloc (.cells #[.int .i64 xi, .string xt, .int .i64 xc, .int .i64 xd] 164)).heap.size = wr.heap.size + 1 from by simp]; exact hat7)
        clear hown7 hgr7 hat7 hlt7
        go_wp2
        go_roundw
        case rel => exact ⟨_, _, _, _, _, _, k + 1, rfl, rfl, by go_num, by omega, by omega, by omega, HN⟩
        case measure => simp [intOf]; omega
    · have hkn : k = N := by omega
      subst hkn
      have HF : Hid (TwoAt w wr (q.filter (isLate n)) (q.filter (fun x => !isLate n x)) a1 m1 c1 a2 m2 c2) := by
        have := HT.out
        have eq0 : q.take k = q := List.take_of_length_le (by omega)
        rw [eq0] at this
        exact this
      clear HT
      go_wp2
      go_ret
      rw [HV.out.1, HV.out.2]
      exact HF.out.fin H.out.1 H.out.2.1 H.out.2.2

theorem front_take {n : Nat} {q : List WaitV} {k : Nat} (hk : k < q.length) (h : k < n) : (q.take (k + 1)).take n = (q.take k).take n ++ [q[k]] ∧ (q.take (k + 1)).drop n = (q.take k).drop n := by
  rw [List.take_take, List.take_take, Nat.min_eq_right (by omega), Nat.min_eq_right (by omega), List.take_succ_eq_append_getElem hk]
  refine ⟨rfl, ?_⟩
  rw [List.drop_of_length_le (by rw [List.length_append, List.length_take]; simp; omega), List.drop_of_length_le (by rw [List.length_take]; omega)]
theorem front_keep {n : Nat} {q : List WaitV} {k : Nat} (hk : k < q.length) (h : n ≤ k) : (q.take (k + 1)).take n = (q.take k).take n ∧ (q.take (k + 1)).drop n = (q.take k).drop n ++ [q[k]] := by
  rw [List.take_take, List.take_take, Nat.min_eq_left (by omega), Nat.min_eq_left (by omega), List.take_succ_eq_append_getElem hk]
  refine ⟨rfl, ?_⟩
  rw [List.drop_append_of_le_length (by rw [List.length_take]; omega)]

set_option maxRecDepth 100000 in
set_option maxHeartbeats 4000000 in
theorem takeFront_any (gA i : Nat) (b : Option Nat) (a : AccV) (n : Nat) (w : World) (hA : ∃ arr, w.heap[gA]? = some (.cells arr 156)) (h : AccAt w gA i b a) (hn : b ≠ some gA) (hq : a.q.length ≤ 8) :
    Calls Try.prog 118 #[.pointer (some ⟨gA, i * 2, none⟩), .int .i64 (n : Int)] w (TakePost gA i b ⟨a.q.drop n, a.cr⟩ (a.q.take n) w) := by
  obtain ⟨ti, hi, hz0, hz1, hz2⟩ := info_parts info_wait
  have HI : Hid (_ ∧ _ ∧ _ ∧ _) := ⟨hi, hz0, hz1, hz2⟩
  clear hi hz0 hz1 hz2
  obtain ⟨q, cr⟩ := a
  have H : Hid (_ ∧ _ ∧ _) := ⟨hA, h, hn⟩
  have hg : gA < w.heap.size := by obtain ⟨arr, hA⟩ := hA; exact (heap_cells hA).2.2
  have fz : ∀ x, w.frozen? ⟨gA, x, none⟩ = false := by obtain ⟨arr, hA⟩ := hA; exact (heap_cells hA).2.1
  obtain ⟨ad, c, c0, _, ho, _⟩ := h
  have HO : Hid _ := ho
  clear ho hA hn
  simp only at c0 hq HO
  obtain ⟨N, hN⟩ : ∃ n, q.length = n := ⟨_, rfl⟩
  rw [hN] at c0 hq HO
  go_enter Try.func118, Try.ntmps118
  go_wp2
  go_loopw [5, 6, 7] (fun v5 v6 v7 wr => ∃ (a1 a2 : Option Addr) (m1 c1 m2 c2 k : Nat), v5 = .slice a1 m1 c1 ∧ v6 = .slice a2 m2 c2 ∧ v7 = .int .i64 k ∧ k ≤ N ∧ m1 ≤ k ∧ m2 ≤ k ∧ Hid (TwoAt w wr ((q.take k).take n) ((q.take k).drop n) a1 m1 c1 a2 m2 c2)) (fun _ _ v7 _ => N - (intOf v7).toNat)
  case atStart =>
    have e1 : (q.take 0).take n = [] := by rw [List.take_zero, List.take_nil]
    have e2 : (q.take 0).drop n = [] := by rw [List.take_zero, List.drop_nil]
    have HS0 : Hid (TwoAt w w ((q.take 0).take n) ((q.take 0).drop n) none 0 0 none 0 0) := by
      show TwoAt _ _ _ _ _ _ _ _ _ _
      rw [e1, e2]
      exact ⟨rfl, rfl, World.ownsRow_nil _ _ _ _, World.ownsRow_nil _ _ _ _, (fun x hx => by cases hx), Below.refl _ _⟩
    exact ⟨none, none, 0, 0, 0, 0, 0, rfl, rfl, rfl, Nat.zero_le _, Nat.le_refl _, Nat.le_refl _, HS0⟩
  case round =>
    obtain ⟨a1, a2, m1, c1, m2, c2, k, rfl, rfl, rfl, hk, hk1, hk2, HT⟩ := hrel
    have e0 := (HT.out.bel.cell (p := ⟨gA, i * 2, none⟩) hg).trans c0
    have hgr : gA < wr.heap.size := Nat.lt_of_lt_of_le hg HT.out.bel.size
    have hzw : w.heap.size ≤ wr.heap.size := HT.out.bel.size
    have fzr : ∀ x, wr.frozen? ⟨gA, x, none⟩ = false := fun x => (HT.out.bel.frozen (p := ⟨gA, x, none⟩) hg).trans (fz x)
    by_cases hlt : k < N
    · have hkl : k < q.length := by omega
      obtain ⟨gQ, rfl, hgQ, d0, d1, d2, d3⟩ := wait_cell HO.out (List.getElem?_eq_getElem hkl) hlt
      have hgQr : gQ < wr.heap.size := Nat.lt_of_lt_of_le hgQ hzw
      replace d0 := (HT.out.bel.cell (p := ⟨gQ, k * 4, none⟩) hgQ).trans d0
      replace d1 := (HT.out.bel.cell (p := ⟨gQ, k * 4 + 1, none⟩) hgQ).trans d1
      replace d2 := (HT.out.bel.cell (p := ⟨gQ, k * 4 + 2, none⟩) hgQ).trans d2
      replace d3 := (HT.out.bel.cell (p := ⟨gQ, k * 4 + 3, none⟩) hgQ).trans d3
      have HY : Hid (k < n → _) := front_take hkl
      have HK : Hid (n ≤ k → _) := front_keep hkl
      generalize q[k] = x at *
      obtain ⟨xi, xt, xc, xd⟩ := x
      simp only at d0 d1 d2 d3
      have k1 : (k : Int) < (N : Int) := by omega
      have k0 : (0 : Int) ≤ (k : Int) := by omega
      by_cases hd : k < n
      · have HS := HY.out hd
        have HS' : Hid _ := HS
        clear HS HY HK
        have hd' : (k : Int) < (n : Int) := by omega
        go_wp2_with (at_builtin; refine wpList_append_lies _ rfl (.tmp 20) (.tmp 28) 154 rfl w.heap.size 164 ti (.agg #[.int .i64 0, .string ⟨#[]⟩, .int .i64 0, .int .i64 0]) 4 40 Try.underlying154 HI.out.1 HI.out.2.1 HI.out.2.2.1 HI.out.2.2.2 rfl (by decide) (.slice a1 m1 c1) m1 (waitsCells ((q.take k).take n)) rfl (HT.out.o1.alloc _) ⟨wr.heap.size, 0, none⟩ 1 1 [.int .i64 xi, .string xt, .int .i64 xc, .int .i64 xd] rfl rfl ?c1 ?c2 ?c3 ?c4 ?c5 ?c6 _ rfl ?_)
        try (case c1 => exact cells_new _ _ rfl [.int .i64 xi, .string xt, .int .i64 xc, .int .i64 xd] _)
        case c2 => first | (intro u hu; simp only [List.mem_cons, List.not_mem_nil, or_false] at hu; rcases hu with rfl | rfl | rfl | rfl <;> rfl) | exact ⟨rfl, rfl, rfl, rfl⟩
        try (case c3 => decide)
        try (case c4 => unfold maxLen; omega)
        try (case c5 => omega)
        try (case c6 => first | omega | (simp; omega))
        intro gN cap w7 hown7 hgr7 hat7 hlt7
        have HN : Hid (TwoAt w w7 ((q.take (k + 1)).take n) ((q.take (k + 1)).drop n) (some ⟨gN, 0, none⟩) (m1 + 1) cap a2 m2 c2) := by
          show TwoAt _ _ _ _ _ _ _ _ _ _
          rw [HS'.out.1, HS'.out.2]
          exact HT.out.left (x := ⟨xi, xt, xc, xd⟩) hown7 hgr7 (by rw [show (wr.alloc (.cells #[.int .i64 xi, .string xt, .int .i64 xc, .int .i64 xd] 164)).heap.size = wr.heap.size + 1 from by simp]; exact hat7)
        clear hown7 hgr7 hat7 hlt7
        go_wp2
        go_roundw
        case rel => exact ⟨_, _, _, _, _, _, k + 1, rfl, rfl, by go_num, by omega, by omega, by omega, HN⟩
        case measure => simp [intOf]; omega
      · have HS := HK.out (by omega)
        have HS' : Hid _ := HS
        clear HS HY HK
        have hd' : (n : Int) ≤ (k : Int) := by omega
        go_wp2_with (at_builtin; refine wpList_append_lies _ rfl (.tmp 30) (.tmp 38) 154 rfl w.heap.size 164 ti (.agg #[.int .i64 0, .string ⟨#[]⟩, .int .i64 0, .int .i64 0]) 4 40 Try.underlying154 HI.out.1 HI.out.2.1 HI.out.2.2.1 HI.out.2.2.2 rfl (by decide) (.slice a2 m2 c2) m2 (waitsCells ((q.take k).drop n)) rfl (HT.out.o2.alloc _) ⟨wr.heap.size, 0, none⟩ 1 1 [.int .i64 xi, .string xt, .int .i64 xc, .int .i64 xd] rfl rfl ?c1 ?c2 ?c3 ?c4 ?c5 ?c6 _ rfl ?_)
        try (case c1 => exact cells_new _ _ rfl [.int .i64 xi, .string xt, .int .i64 xc, .int .i64 xd] _)
        case c2 => first | (intro u hu; simp only [List.mem_cons, List.not_mem_nil, or_false] at hu; rcases hu with rfl | rfl | rfl | rfl <;> rfl) | exact ⟨rfl, rfl, rfl, rfl⟩
        try (case c3 => decide)
        try (case c4 => unfold maxLen; omega)
        try (case c5 => omega)
        try (case c6 => first | omega | (simp; omega))
        intro gN cap w7 hown7 hgr7 hat7 hlt7
        have HN : Hid (TwoAt w w7 ((q.take (k + 1)).take n) ((q.take (k + 1)).drop n) a1 m1 c1 (some ⟨gN, 0, none⟩) (m2 + 1) cap) := by
          show TwoAt _ _ _ _ _ _ _ _ _ _
          rw [HS'.out.1, HS'.out.2]
          exact HT.out.right (x := ⟨xi, xt, xc, xd⟩) hown7 hgr7 (by rw [show (wr.alloc (.cells #[.int .i64 xi, .string xt, .int .i64 xc, .int .i64 xd] 164)).heap.size = wr.heap.size + 1 from by simp]; exact hat7)
        clear hown7 hgr7 hat7 hlt7
        go_wp2
        go_roundw
        case rel => exact ⟨_, _, _, _, _, _, k + 1, rfl, rfl, by go_num, by omega, by omega, by omega, HN⟩
        case measure => simp [intOf]; omega
    · have hkn : k = N := by omega
      subst hkn
      have HF : Hid (TwoAt w wr (q.take n) (q.drop n) a1 m1 c1 a2 m2 c2) := by
        have := HT.out
        have eq0 : q.take k = q := List.take_of_length_le (by omega)
        rw [eq0] at this
        exact this
      clear HT
      go_wp2
      go_ret
      exact HF.out.fin H.out.1 H.out.2.1 H.out.2.2

end Go.Proofs.Ytccckonckddadaa
namespace Go.Proofs.Ytccckonckddadaa
open Go.RowKit
set_option linter.unusedVariables false

/-! ### visit -/
theorem costs_append : ∀ (a b : List WaitV), costs (a ++ b) = costs a + costs b
  | [], b => by show costs b = 0 + costs b; omega
  | x :: a, b => by show x.c + costs (a ++ b) = x.c + costs a + costs b; rw [costs_append a b]; omega
theorem costs_take {q : List WaitV} {k : Nat} (hk : k < q.length) : costs (q.take (k + 1)) = costs (q.take k) + q[k].c := by
  rw [List.take_succ_eq_append_getElem hk, costs_append]
  show _ + (q[k].c + 0) = _
  omega
theorem takeN_le : ∀ (q : List WaitV) (cr room : Int), takeN q cr room ≤ q.length
  | [], _, _ => Nat.le_refl _
  | x :: q, cr, room => by
    rw [takeN]
    split
    · have := takeN_le q (cr - x.c) (room - x.c)
      rw [List.length_cons]; omega
    · exact Nat.zero_le _
theorem takeN_step {q : List WaitV} {k : Nat} {cr room : Int} (hk : k < q.length) (h1 : q[k].c ≤ cr) (h2 : q[k].c ≤ room) : takeN (q.drop k) cr room = takeN (q.drop (k + 1)) (cr - q[k].c) (room - q[k].c) + 1 := by
  rw [List.drop_eq_getElem_cons hk, takeN, if_pos ⟨h1, h2⟩]
theorem takeN_stop {q : List WaitV} {k : Nat} {cr room : Int} (hk : k < q.length) (h : ¬ (q[k].c ≤ cr ∧ q[k].c ≤ room)) : takeN (q.drop k) cr room = 0 := by
  rw [List.drop_eq_getElem_cons hk, takeN, if_neg h]
theorem costs_nonneg : ∀ (q : List WaitV), (∀ x ∈ q, 0 ≤ x.c) → 0 ≤ costs q
  | [], _ => Int.le_refl _
  | x :: q, h => by
    have := costs_nonneg q (fun y hy => h y (by simp [hy]))
    have h1 := h x (by simp)
    show 0 ≤ x.c + costs q
    omega

/-- Where a round of visit stands. -/
structure VisAt (w wr : World) (gA i : Nat) (b : Option Nat) (q : List WaitV) (G room cr ro : Int) (k : Nat) : Prop where
  acc : AccPost w wr gA i b b ⟨q, cr⟩
  hcr : cr = G - costs (q.take k)
  hro : ro = room - costs (q.take k)
  left : takeN q G room = k + takeN (q.drop k) cr ro

theorem VisAt.kept {w wr W : World} {gA i : Nat} {b : Option Nat} {q : List WaitV} {G room cr ro : Int} {k : Nat} (h : VisAt w wr gA i b q G room cr ro k) (hb : Below wr.heap.size wr W) : VisAt w W gA i b q G room cr ro k := by
  obtain ⟨arr, r1, _⟩ := h.acc.side
  exact ⟨h.acc.trans (AccPost.below ⟨arr, r1⟩ h.acc.acc h.acc.ne hb), h.hcr, h.hro, h.left⟩
theorem VisAt.step {w wr : World} {gA i : Nat} {b : Option Nat} {q : List WaitV} {G room cr ro xc : Int} {k : Nat} (h : VisAt w wr gA i b q G room cr ro k) (h1 : costs (q.take (k + 1)) = costs (q.take k) + xc) (h2 : takeN (q.drop k) cr ro = takeN (q.drop (k + 1)) (cr - xc) (ro - xc) + 1) :
    VisAt w (wr.setCell ⟨gA, i * 2 + 1, none⟩ (.int .i64 (cr - xc))) gA i b q G room (cr - xc) (ro - xc) (k + 1) := by
  obtain ⟨arr, r1, _⟩ := h.acc.side
  have e1 := h.hcr
  have e2 := h.hro
  refine ⟨h.acc.trans (AccPost.credit ⟨arr, r1⟩ h.acc.acc h.acc.ne _), by omega, by omega, ?_⟩
  rw [h.left, h2]; omega

/-- The end of a visit. -/
theorem VisAt.fin {w wr W2 W3 : World} {gA i : Nat} {b b2 : Option Nat} {q : List WaitV} {G room cr ro quantum cr0 : Int} {k : Nat} (h : VisAt w wr gA i b q G room cr ro k) (h0 : takeN (q.drop k) cr ro = 0)
    (hV : visitA ⟨q, cr0⟩ quantum room = ⟨q.drop (takeN q G room), if q.drop (takeN q G room) = [] then 0 else G - costs (q.take (takeN q G room))⟩ ∧ visitL ⟨q, cr0⟩ quantum room = q.take (takeN q G room))
    {ad : Option Addr} {m c : Nat} (hl : (q.take k).length = m) (hP : AccPost wr W2 gA i b b2 ⟨q.drop k, cr⟩) (ho : W2.ownsRow wr.heap.size 164 4 (.slice ad m c) m (waitsCells (q.take k)))
    (hg : gA < w.heap.size) (h3 : (q.drop k ≠ [] ∧ W3 = W2) ∨ (q.drop k = [] ∧ W3 = W2.setCell ⟨gA, i * 2 + 1, none⟩ (.int .i64 0))) :
    TakePost gA i b (visitA ⟨q, cr0⟩ quantum room) (visitL ⟨q, cr0⟩ quantum room) w (.returned (.slice ad m c)) W3 := by
  have hk : takeN q G room = k := by rw [h.left, h0]; rfl
  have hcr := h.hcr
  rw [hV.1, hV.2, hk]
  have hP1 := h.acc.trans hP
  have hz : w.heap.size ≤ wr.heap.size := h.acc.kept.size
  rcases h3 with ⟨hx, rfl⟩ | ⟨hx, rfl⟩
  · rw [if_neg hx, ← hcr]
    exact ⟨ad, m, c, b2, rfl, hl, hP1, own_base ho hz⟩
  · rw [if_pos hx]
    obtain ⟨arr, r1, _⟩ := hP.side
    refine ⟨ad, m, c, b2, rfl, hl, hP1.trans (AccPost.credit ⟨arr, r1⟩ hP.acc hP.ne 0), own_base (own_same ho (fun y hy => Below.heap_setCell _ _ _ _ ?_)) hz⟩
    have := (ho.lt y hy).1
    show y ≠ gA
    omega

set_option maxRecDepth 100000 in
set_option maxHeartbeats 8000000 in
theorem visit_acc (gA i : Nat) (b : Option Nat) (a : AccV) (quantum room : Int) (w : World) (hA : ∃ arr, w.heap[gA]? = some (.cells arr 156)) (h : AccAt w gA i b a) (hn : b ≠ some gA) (hq : a.q.length ≤ 8)
    (hc : ∀ x ∈ a.q, 0 ≤ x.c ∧ x.c ≤ 8) (hcr : 0 ≤ a.cr ∧ a.cr ≤ 100000) (hqt : 0 ≤ quantum ∧ quantum ≤ 8) (hro : 0 ≤ room ∧ room ≤ 64) :
    Calls Try.prog 108 #[.pointer (some ⟨gA, i * 2, none⟩), .int .i64 quantum, .int .i64 room] w (TakePost gA i b (visitA a quantum room) (visitL a quantum room) w) := by
  obtain ⟨q, cr0⟩ := a
  have HH : Hid (_ ∧ _ ∧ _) := ⟨hA, h, hn⟩
  have hg : gA < w.heap.size := by obtain ⟨arr, hA⟩ := hA; exact (heap_cells hA).2.2
  have fz : ∀ x, w.frozen? ⟨gA, x, none⟩ = false := by obtain ⟨arr, hA⟩ := hA; exact (heap_cells hA).2.1
  obtain ⟨ad, c, c0, c1, _, _⟩ := h
  clear hA hn
  simp only at c0 c1 hq hc hcr
  have HC : Hid _ := hc
  clear hc
  obtain ⟨hcr0, hcr1⟩ := hcr
  obtain ⟨hqt0, hqt1⟩ := hqt
  obtain ⟨hro0, hro1⟩ := hro
  obtain ⟨N, hN⟩ : ∃ n, q.length = n := ⟨_, rfl⟩
  rw [hN] at c0 hq
  have HN : Hid _ := hN
  -- the credit that is given
  obtain ⟨G, hG⟩ : ∃ G, given ⟨q, cr0⟩ quantum = G := ⟨_, rfl⟩
  have HV : Hid (visitA ⟨q, cr0⟩ quantum room = ⟨q.drop (takeN q G room), if q.drop (takeN q G room) = [] then 0 else G - costs (q.take (takeN q G room))⟩ ∧ visitL ⟨q, cr0⟩ quantum room = q.take (takeN q G room)) := by
    unfold visitA visitL
    rw [hG]
    exact ⟨rfl, rfl⟩
  have hG1 : 0 ≤ G ∧ G ≤ 100008 := by
    rw [← hG]; unfold given; simp only; split <;> omega
  go_enter Try.func108, Try.ntmps108
  rcases Nat.eq_zero_or_pos N with h0 | h0
  · have hq0 : q = [] := List.eq_nil_of_length_eq_zero (by omega)
    have hG2 : G = cr0 := by rw [← hG]; unfold given; rw [if_pos hq0]
    have HW : Hid (VisAt w w gA i b q G room G room 0) := by
      refine ⟨?_, by show G = G - 0; omega, by show room = room - 0; omega, by simp⟩
      rw [hG2]
      exact AccPost.below HH.out.1 HH.out.2.1 HH.out.2.2 (Below.refl _ _)
    have HQ0 : Hid _ := hq0
    clear hG2 hq0 hG
    subst h0
    go_wp2
    go_loopw [2, 7] (fun v2 v7 wr => v2 = .int .i64 room ∧ v7 = .int .i64 0 ∧ Hid (VisAt w wr gA i b q G room G room 0)) (fun _ v7 _ => 0)
    case atStart => exact ⟨rfl, rfl, HW⟩
    case round =>
      obtain ⟨rfl, rfl, HL⟩ := hrel
      clear HW c0 c1 fz
      obtain ⟨arr, r1, _⟩ := HL.out.acc.side
      obtain ⟨ad', c', c0, c1, ho, hb⟩ := HL.out.acc.acc
      have hgr := (heap_cells r1).2.2
      have fz := (heap_cells r1).2.1
      have HO : Hid _ := ho
      clear r1 ho hb
      simp only at c0 c1 HO
      rw [HN.out] at c0 HO
      go_wp2
      go_quiet (fail)
      have HLd : Hid (VisAt w (wr.drewN nq) gA i b q G room G room 0) := HL.out.kept (below_drewN (Below.refl _ _) nq)
      generalize wr.drewN nq = W at *
      clear c0 c1 fz HO HL
      have HE : Hid (takeN (q.drop 0) G room = 0) := by show _ = _; rw [HQ0.out]; rfl
      obtain ⟨arr2, r2, _⟩ := HLd.out.acc.side
      go_wp2_with fail
      refine (takeFront_any gA i b ⟨q, G⟩ 0 W ⟨arr2, r2⟩ HLd.out.acc.acc HLd.out.acc.ne (by show q.length ≤ 8; rw [HN.out]; exact hq)).mono ?_
      rintro e W2 ⟨ad2, m2, c2, b2, rfl, hl2, hP2, ho2⟩
      have HP2 : Hid (_ ∧ _ ∧ _) := ⟨hl2, hP2, ho2⟩
      obtain ⟨arr3, r3, _⟩ := hP2.side
      obtain ⟨ad3, c3, e0, e1, _, _⟩ := hP2.acc
      have hg2 := (heap_cells r3).2.2
      have fz2 := (heap_cells r3).2.1
      clear hl2 hP2 ho2 r3 r2
      simp only at e0 e1
      by_cases hx : q.drop 0 = []
      · have hl0 : (q.drop 0).length = 0 := by rw [hx]; rfl
        rw [hl0] at e0
        have HXX : Hid _ := hx
        clear hx hl0
        go_wp2
        go_ret
        exact HLd.out.fin HE.out HV.out HP2.out.1 HP2.out.2.1 HP2.out.2.2 hg (.inr ⟨HXX.out, rfl⟩)
      · have hl0 : ((((q.drop 0).length : Nat) : Int) == 0) = false := by
          rw [beq_eq_false_iff_ne]
          intro e
          exact hx (List.eq_nil_of_length_eq_zero (by omega))
        have hl1 : (0 : Int) < (((q.drop 0).length : Nat) : Int) := by
          rw [beq_eq_false_iff_ne] at hl0; omega
        have HXX : Hid _ := hx
        clear hx
        generalize (q.drop 0).length = LL at *
        go_wp2
        go_ret
        exact HLd.out.fin HE.out HV.out HP2.out.1 HP2.out.2.1 HP2.out.2.2 hg (.inl ⟨HXX.out, rfl⟩)
  · have hG2 : G = cr0 + quantum := by
      rw [← hG]; unfold given; rw [if_neg]
      intro e
      have : q = [] := e
      rw [this] at hN
      simp at hN
      omega
    have hw1 : IntKind.i64.wrap (cr0 + quantum) = cr0 + quantum := wrap_i64_id (by omega) (by omega)
    have h0I : (0 : Int) < (N : Int) := by omega
    have HW : Hid (VisAt w (w.setCell ⟨gA, i * 2 + 1, none⟩ (.int .i64 (cr0 + quantum))) gA i b q G room G room 0) := by
      refine ⟨?_, by show G = G - 0; omega, by show room = room - 0; omega, by simp⟩
      rw [hG2]
      exact AccPost.credit HH.out.1 HH.out.2.1 HH.out.2.2 _
    clear hG2 hG
    go_wp2
    go_loopw [2, 7] (fun v2 v7 wr => ∃ (k : Nat) (cr ro : Int), v2 = .int .i64 ro ∧ v7 = .int .i64 k ∧ k ≤ N ∧ 0 ≤ cr ∧ cr ≤ 100008 ∧ 0 ≤ ro ∧ ro ≤ 64 ∧ Hid (VisAt w wr gA i b q G room cr ro k)) (fun _ v7 _ => N - (intOf v7).toNat)
    case atStart => exact ⟨0, G, room, rfl, rfl, Nat.zero_le _, hG1.1, hG1.2, hro0, hro1, HW⟩
    case round =>
      obtain ⟨k, cr, ro, rfl, rfl, hk, hcrA, hcrB, hroA, hroB, HL⟩ := hrel
      clear HW c0 c1 fz
      obtain ⟨arr, r1, _⟩ := HL.out.acc.side
      obtain ⟨ad', c', c0, c1, ho, hb⟩ := HL.out.acc.acc
      have hgr := (heap_cells r1).2.2
      have fz := (heap_cells r1).2.1
      have HO : Hid _ := ho
      have HB : Hid _ := hb
      clear r1 ho hb
      simp only at c0 c1 HO
      rw [HN.out] at c0 HO
      by_cases hlt : k < N
      · have hkl : k < q.length := by rw [HN.out]; exact hlt
        obtain ⟨gQ, rfl, hgQ, _, _, d2, _⟩ := wait_cell HO.out (List.getElem?_eq_getElem hkl) hlt
        have hxc := HC.out q[k] (List.getElem_mem hkl)
        have HT1 : Hid _ := costs_take hkl
        have HT2 : Hid (q[k].c ≤ cr → q[k].c ≤ ro → _) := takeN_step (cr := cr) (room := ro) hkl
        have HT3 : Hid (¬ (q[k].c ≤ cr ∧ q[k].c ≤ ro) → _) := takeN_stop (cr := cr) (room := ro) hkl
        have HO2 : Hid (w.heap.size ≤ w.heap.size → ∀ W : World, W.heap[gQ]? = wr.heap[gQ]? → W.cell? ⟨gQ, k * 4 + 2, none⟩ = some (.int .i64 q[k].c)) := fun _ W hW => (World.cell?_of_block (a := ⟨gQ, k * 4 + 2, none⟩) hW).trans d2
        generalize q[k].c = xc at *
        obtain ⟨hx0, hx8⟩ := hxc
        have k1 : (k : Int) < (N : Int) := by omega
        have k0 : (0 : Int) ≤ (k : Int) := by omega
        have kd : decide ((k : Int) < (N : Int)) = true := decide_eq_true k1
        by_cases hy : xc ≤ cr
        · have hd1 : decide (xc ≤ cr) = true := decide_eq_true hy
          by_cases hy2 : xc ≤ ro
          · have hd2 : decide (xc ≤ ro) = true := decide_eq_true hy2
            have hw2 : IntKind.i64.wrap (cr - xc) = cr - xc := wrap_i64_id (by omega) (by omega)
            have hw3 : IntKind.i64.wrap (ro - xc) = ro - xc := wrap_i64_id (by omega) (by omega)
            have HS : Hid _ := HT2.out hy hy2
            clear HT2 HT3
            go_wp2
            go_quiet (fail)
            have HBq : Hid (Below wr.heap.size wr (wr.drewN nq)) := below_drewN (Below.refl _ _) nq
            have HLd : Hid (VisAt w (wr.drewN nq) gA i b q G room cr ro k) := HL.out.kept HBq.out
            replace d2 : (wr.drewN nq).cell? ⟨gQ, k * 4 + 2, none⟩ = some (.int .i64 xc) := HO2.out (Nat.le_refl _) _ (HBq.out.block gQ hgQ)
            replace hgQ : gQ < (wr.drewN nq).heap.size := Nat.lt_of_lt_of_le hgQ HBq.out.size
            replace c0 := (HBq.out.cell (p := ⟨gA, i * 2, none⟩) hgr).trans c0
            replace c1 := (HBq.out.cell (p := ⟨gA, i * 2 + 1, none⟩) hgr).trans c1
            replace fz : ∀ x, (wr.drewN nq).frozen? ⟨gA, x, none⟩ = false := fun x => (HBq.out.frozen (p := ⟨gA, x, none⟩) hgr).trans (fz x)
            replace hgr : gA < (wr.drewN nq).heap.size := Nat.lt_of_lt_of_le hgr HBq.out.size
            have hgAQ : gQ ≠ gA := fun e => HL.out.acc.ne (by rw [← HB.out, ← e]; rfl)
            clear HO HL HBq HO2
            generalize wr.drewN nq = W at *
            go_wp2
            go_region
            have HLn : Hid (VisAt w (W.setCell ⟨gA, i * 2 + 1, none⟩ (.int .i64 (cr - xc))).drew gA i b q G room (cr - xc) (ro - xc) (k + 1)) := (HLd.out.step HT1.out HS.out).kept (Below.refl _ _).drew
            have e0 : (W.setCell ⟨gA, i * 2 + 1, none⟩ (.int .i64 (cr - xc))).drew.cell? ⟨gA, i * 2, none⟩ = some (.slice (some ⟨gQ, 0, none⟩) N c') := by
              have hne5 : (⟨gA, i * 2 + 1, none⟩ : Addr) ≠ ⟨gA, i * 2, none⟩ := by simp
              show (W.setCell ⟨gA, i * 2 + 1, none⟩ (.int .i64 (cr - xc))).cell? ⟨gA, i * 2, none⟩ = _
              first | exact (World.cell?_setCell_other hne5).trans c0 | exact (World.cell?_setCell_other W _ _ _ hne5).trans c0 | exact (World.cell?_setCell_other _ _ _ _ hne5).trans c0
            have e2 : (W.setCell ⟨gA, i * 2 + 1, none⟩ (.int .i64 (cr - xc))).drew.cell? ⟨gQ, k * 4 + 2, none⟩ = some (.int .i64 xc) := (World.cell?_of_block (a := ⟨gQ, k * 4 + 2, none⟩) (Below.heap_setCell W ⟨gA, i * 2 + 1, none⟩ _ gQ hgAQ)).trans d2
            have z1 : (W.setCell ⟨gA, i * 2 + 1, none⟩ (.int .i64 (cr - xc))).drew.heap.size = W.heap.size := by show (W.setCell _ _).heap.size = _; simp [World.setCell]
            have z2 : gA < (W.setCell ⟨gA, i * 2 + 1, none⟩ (.int .i64 (cr - xc))).drew.heap.size := by rw [z1]; exact hgr
            have z3 : gQ < (W.setCell ⟨gA, i * 2 + 1, none⟩ (.int .i64 (cr - xc))).drew.heap.size := by rw [z1]; exact hgQ
            clear z1 c0 c1 d2 fz hgr hgQ HLd
            generalize (W.setCell ⟨gA, i * 2 + 1, none⟩ (.int .i64 (cr - xc))).drew = W5 at *
            go_wp2
            go_roundw
            case rel => exact ⟨k + 1, cr - xc, ro - xc, rfl, by go_num, by omega, by omega, by omega, by omega, by omega, HLn⟩
            case measure => simp [intOf]; omega
          · have hd2 : decide (xc ≤ ro) = false := decide_eq_false hy2
            have hy3 : ro < xc := by omega
            have HZ : Hid _ := HT3.out (fun hh => hy2 hh.2)
            clear HT1 HT2 HT3 HO2
            go_wp2
            go_quiet (fail)
            have HLd : Hid (VisAt w (wr.drewN nq) gA i b q G room cr ro k) := HL.out.kept (below_drewN (Below.refl _ _) nq)
            generalize wr.drewN nq = W at *
            clear c0 c1 fz HO HL
            have HE : Hid (takeN (q.drop k) cr ro = 0) := HZ.out
            obtain ⟨arr2, r2, _⟩ := HLd.out.acc.side
            go_wp2_with fail
            refine (takeFront_any gA i b ⟨q, cr⟩ k W ⟨arr2, r2⟩ HLd.out.acc.acc HLd.out.acc.ne (by show q.length ≤ 8; rw [HN.out]; exact hq)).mono ?_
            rintro e W2 ⟨ad2, m2, c2, b2, rfl, hl2, hP2, ho2⟩
            have HP2 : Hid (_ ∧ _ ∧ _) := ⟨hl2, hP2, ho2⟩
            obtain ⟨arr3, r3, _⟩ := hP2.side
            obtain ⟨ad3, c3, e0, e1, _, _⟩ := hP2.acc
            have hg2 := (heap_cells r3).2.2
            have fz2 := (heap_cells r3).2.1
            clear hl2 hP2 ho2 r3 r2
            simp only at e0 e1
            by_cases hx : q.drop k = []
            · have hl0 : (q.drop k).length = 0 := by rw [hx]; rfl
              rw [hl0] at e0
              have HXX : Hid _ := hx
              clear hx hl0
              go_wp2
              go_ret
              exact HLd.out.fin HE.out HV.out HP2.out.1 HP2.out.2.1 HP2.out.2.2 hg (.inr ⟨HXX.out, rfl⟩)
            · have hl0 : ((((q.drop k).length : Nat) : Int) == 0) = false := by
                rw [beq_eq_false_iff_ne]
                intro e
                exact hx (List.eq_nil_of_length_eq_zero (by omega))
              have hl1 : (0 : Int) < (((q.drop k).length : Nat) : Int) := by
                rw [beq_eq_false_iff_ne] at hl0; omega
              have HXX : Hid _ := hx
              clear hx
              generalize (q.drop k).length = LL at *
              go_wp2
              go_ret
              exact HLd.out.fin HE.out HV.out HP2.out.1 HP2.out.2.1 HP2.out.2.2 hg (.inl ⟨HXX.out, rfl⟩)
        · have hd1 : decide (xc ≤ cr) = false := decide_eq_false hy
          have hy3 : cr < xc := by omega
          have HZ : Hid _ := HT3.out (fun hh => hy hh.1)
          clear HT1 HT2 HT3 HO2
          go_wp2
          go_quiet (fail)
          have HLd : Hid (VisAt w (wr.drewN nq) gA i b q G room cr ro k) := HL.out.kept (below_drewN (Below.refl _ _) nq)
          generalize wr.drewN nq = W at *
          clear c0 c1 fz HO HL
          have HE : Hid (takeN (q.drop k) cr ro = 0) := HZ.out
          obtain ⟨arr2, r2, _⟩ := HLd.out.acc.side
          go_wp2_with fail
          refine (takeFront_any gA i b ⟨q, cr⟩ k W ⟨arr2, r2⟩ HLd.out.acc.acc HLd.out.acc.ne (by show q.length ≤ 8; rw [HN.out]; exact hq)).mono ?_
          rintro e W2 ⟨ad2, m2, c2, b2, rfl, hl2, hP2, ho2⟩
          have HP2 : Hid (_ ∧ _ ∧ _) := ⟨hl2, hP2, ho2⟩
          obtain ⟨arr3, r3, _⟩ := hP2.side
          obtain ⟨ad3, c3, e0, e1, _, _⟩ := hP2.acc
          have hg2 := (heap_cells r3).2.2
          have fz2 := (heap_cells r3).2.1
          clear hl2 hP2 ho2 r3 r2
          simp only at e0 e1
          by_cases hx : q.drop k = []
          · have hl0 : (q.drop k).length = 0 := by rw [hx]; rfl
            rw [hl0] at e0
            have HXX : Hid _ := hx
            clear hx hl0
            go_wp2
            go_ret
            exact HLd.out.fin HE.out HV.out HP2.out.1 HP2.out.2.1 HP2.out.2.2 hg (.inr ⟨HXX.out, rfl⟩)
          · have hl0 : ((((q.drop k).length : Nat) : Int) == 0) = false := by
              rw [beq_eq_false_iff_ne]
              intro e
              exact hx (List.eq_nil_of_length_eq_zero (by omega))
            have hl1 : (0 : Int) < (((q.drop k).length : Nat) : Int) := by
              rw [beq_eq_false_iff_ne] at hl0; omega
            have HXX : Hid _ := hx
            clear hx
            generalize (q.drop k).length = LL at *
            go_wp2
            go_ret
            exact HLd.out.fin HE.out HV.out HP2.out.1 HP2.out.2.1 HP2.out.2.2 hg (.inl ⟨HXX.out, rfl⟩)
      · have hkn : k = N := by omega
        have kd : decide ((k : Int) < (N : Int)) = false := decide_eq_false (by omega)
        have HZ : Hid (takeN (q.drop k) cr ro = 0) := by
          show _ = _
          rw [List.drop_of_length_le (by rw [HN.out]; omega)]; rfl
        clear hkn
        go_wp2
        go_quiet (fail)
        have HLd : Hid (VisAt w (wr.drewN nq) gA i b q G room cr ro k) := HL.out.kept (below_drewN (Below.refl _ _) nq)
        generalize wr.drewN nq = W at *
        clear c0 c1 fz HO HL
        have HE : Hid (takeN (q.drop k) cr ro = 0) := HZ.out
        obtain ⟨arr2, r2, _⟩ := HLd.out.acc.side
        go_wp2_with fail
        refine (takeFront_any gA i b ⟨q, cr⟩ k W ⟨arr2, r2⟩ HLd.out.acc.acc HLd.out.acc.ne (by show q.length ≤ 8; rw [HN.out]; exact hq)).mono ?_
        rintro e W2 ⟨ad2, m2, c2, b2, rfl, hl2, hP2, ho2⟩
        have HP2 : Hid (_ ∧ _ ∧ _) := ⟨hl2, hP2, ho2⟩
        obtain ⟨arr3, r3, _⟩ := hP2.side
        obtain ⟨ad3, c3, e0, e1, _, _⟩ := hP2.acc
        have hg2 := (heap_cells r3).2.2
        have fz2 := (heap_cells r3).2.1
        clear hl2 hP2 ho2 r3 r2
        simp only at e0 e1
        by_cases hx : q.drop k = []
        · have hl0 : (q.drop k).length = 0 := by rw [hx]; rfl
          rw [hl0] at e0
          have HXX : Hid _ := hx
          clear hx hl0
          go_wp2
          go_ret
          exact HLd.out.fin HE.out HV.out HP2.out.1 HP2.out.2.1 HP2.out.2.2 hg (.inr ⟨HXX.out, rfl⟩)
        · have hl0 : ((((q.drop k).length : Nat) : Int) == 0) = false := by
            rw [beq_eq_false_iff_ne]
            intro e
            exact hx (List.eq_nil_of_length_eq_zero (by omega))
          have hl1 : (0 : Int) < (((q.drop k).length : Nat) : Int) := by
            rw [beq_eq_false_iff_ne] at hl0; omega
          have HXX : Hid _ := hx
          clear hx
          generalize (q.drop k).length = LL at *
          go_wp2
          go_ret
          exact HLd.out.fin HE.out HV.out HP2.out.1 HP2.out.2.1 HP2.out.2.2 hg (.inl ⟨HXX.out, rfl⟩)

end Go.Proofs.Ytccckonckddadaa
