import Derived.Test.YtccckonckddadabGreatJ35
import Derived.Test.YtccckonckddadabGreatJ34
import Derived.Test.YtccckonckddadabGreatJ31
namespace Go.Proofs.YtccckonckddadabGreat
set_option linter.unusedVariables false

/-! ### Reply, Submit, New -/
theorem once_mem {s : CluV} (hf : CluFit s) {x y : TxV} (hx : x ∈ s.txs) (hy : y ∈ s.txs) (h : x.i = y.i) : x = y := by
  obtain ⟨i, hi⟩ := List.getElem?_of_mem hx
  obtain ⟨j, hj⟩ := List.getElem?_of_mem hy
  have := hf.once i j x y hi hj h
  subst this
  rw [hi] at hj
  exact Option.some.inj hj

theorem reply_found {s : CluV} (hf : CluFit s) {t : TxV} (ht : t ∈ s.txs) : replyV s t.i = (t.s, t.e, 0) ∧ 0 ≤ findV s.txs t.i := by
  have h0 : 0 ≤ findV s.txs t.i := by
    by_cases h : findV s.txs t.i < 0
    · exact absurd rfl (find_none t.i s.txs 0 h t ht)
    · omega
  obtain ⟨i, u, h1, h2, h3⟩ := find_some t.i s.txs 0 h0
  have hu : u = t := once_mem hf (List.mem_of_getElem? h2) ht h3
  subst hu
  refine ⟨?_, h0⟩
  unfold replyV
  rw [if_neg (by omega)]
  have e : (findV s.txs u.i).toNat = i := by unfold findV; rw [h1]; omega
  rw [e, h2]
theorem reply_none {s : CluV} {id : Int} (h : ∀ t ∈ s.txs, t.i ≠ id) : replyV s id = (0, 0, 10) ∧ findV s.txs id < 0 := by
  have h0 : findV s.txs id < 0 := by
    by_cases h0 : findV s.txs id < 0
    · exact h0
    · obtain ⟨i, u, h1, h2, h3⟩ := find_some id s.txs 0 (by unfold findV at h0; omega)
      exact absurd h3 (h u (List.mem_of_getElem? h2))
  refine ⟨?_, h0⟩
  unfold replyV
  rw [if_pos h0]

theorem awaits_iff {p : SeqV} {s : CluV} (h : Sim p s) (hf : CluFit s) (id : Int) : p.accs.any (awaits id) = true ↔ ∃ t ∈ s.txs, t.s = 0 ∧ t.i = id := by
  rw [List.any_eq_true]
  constructor
  · rintro ⟨a, ha, hw⟩
    obtain ⟨i, hi⟩ := List.getElem?_of_mem ha
    have hil := (List.getElem?_eq_some_iff.1 hi).1
    rw [h.acc i hil] at hi
    cases hi
    unfold awaits at hw
    rw [List.any_eq_true] at hw
    obtain ⟨x, hx, hid⟩ := hw
    have hx' : x ∈ qOf i s.txs := hx
    unfold qOf at hx'
    obtain ⟨t, ht, rfl⟩ := List.mem_map.1 hx'
    obtain ⟨h1, h2⟩ := List.mem_filter.1 ht
    exact ⟨t, h1, (waits_iff.1 h2).2, of_decide_eq_true hid⟩
  · rintro ⟨t, ht, hs, hid⟩
    have hb := hf.tx t ht
    have hm := h.many
    obtain ⟨i, hi⟩ : ∃ i : Nat, t.c = (i : Int) := ⟨t.c.toNat, by omega⟩
    have hil : i < p.accs.length := by omega
    refine ⟨_, List.mem_of_getElem? (h.acc i hil), ?_⟩
    unfold awaits
    rw [List.any_eq_true]
    refine ⟨waitOf t, ?_, decide_eq_true hid⟩
    show waitOf t ∈ qOf i s.txs
    unfold qOf
    exact List.mem_map.2 ⟨t, List.mem_filter.2 ⟨ht, waits_iff.2 ⟨hi, hs⟩⟩, rfl⟩

theorem reply_sim {p : SeqV} {s : CluV} (h : Sim p s) (hf : CluFit s) (id : Int) : pReplyV p id = replyV s id := by
  unfold pReplyV
  cases ho : outV p id with
  | some x =>
    unfold outV at ho
    have hid : x.i = id := by have := List.find?_some ho; exact of_decide_eq_true this
    obtain ⟨t, ht, hs, rfl⟩ := (h.outs x).1 (List.mem_of_find?_eq_some ho)
    have hid' : t.i = id := hid
    rw [← hid', (reply_found hf ht).1]
  | none =>
    have hno : ∀ x ∈ p.outs, x.i ≠ id := by
      unfold outV at ho
      rw [List.find?_eq_none] at ho
      intro x hx he
      exact ho x hx (decide_eq_true he)
    simp only
    by_cases ha : p.accs.any (awaits id) = true
    · obtain ⟨t, ht, hs, hid⟩ := (awaits_iff h hf id).1 ha
      rw [if_pos ha, ← hid, (reply_found hf ht).1, hs]
      have := h.e0 t ht hs
      rw [this]
    · rw [if_neg ha, (reply_none (fun t ht he => ?_)).1]
      by_cases hs : t.s = 0
      · exact ha ((awaits_iff h hf id).2 ⟨t, ht, hs, he⟩)
      · exact hno _ ((h.outs ⟨t.i, t.s, t.e⟩).2 ⟨t, ht, hs, rfl⟩) he

theorem reply_code {s : CluV} (hf : CluFit s) (id : Int) : (replyV s id).2.2 = 0 ↔ 0 ≤ findV s.txs id := by
  by_cases h : findV s.txs id < 0
  · rw [(reply_none (find_none id s.txs 0 h)).1]
    constructor
    · intro h1; cases h1
    · intro h1; omega
  · obtain ⟨i, u, h1, h2, h3⟩ := find_some id s.txs 0 (by unfold findV at h; omega)
    have := reply_found hf (List.mem_of_getElem? h2)
    rw [h3] at this
    rw [this.1]
    exact ⟨fun _ => this.2, fun _ => rfl⟩

theorem submit_sim {p : SeqV} {s : CluV} (h : Sim p s) (hf : CluFit s) (client id : Int) (t : ByteArray) (d : Int) : (pSubmitV p client id t d).2 = (submitV s client id t d).2 ∧ Sim (pSubmitV p client id t d).1 (submitV s client id t d).1 := by
  have hm := h.many
  unfold pSubmitV submitV
  by_cases h1 : ¬ (0 ≤ client ∧ client ≤ s.conf.clients - 1)
  · rw [if_pos (by omega), if_pos h1]; exact ⟨rfl, h⟩
  rw [if_neg (by omega), if_neg h1]
  by_cases h2 : ¬ (0 ≤ id ∧ id ≤ 999999)
  · rw [if_pos h2, if_pos h2]; exact ⟨rfl, h⟩
  rw [if_neg h2, if_neg h2]
  by_cases h3 : Dk.parseOk t.data.toList = false
  · rw [if_pos h3, if_pos h3]; exact ⟨rfl, h⟩
  rw [if_neg h3, if_neg h3, reply_sim h hf]
  by_cases h4 : 0 ≤ findV s.txs id
  · rw [if_pos ((reply_code hf id).2 h4), if_pos h4]; exact ⟨rfl, h⟩
  rw [if_neg (fun hh => h4 ((reply_code hf id).1 hh)), if_neg h4, h.epochs]
  by_cases h5 : d < (s.epochs.length : Int)
  · rw [if_pos h5, if_pos h5]; exact ⟨rfl, h⟩
  have hcl : client.toNat < p.accs.length := by omega
  have hcc : ((client.toNat : Nat) : Int) = client := by omega
  have ha := h.accV hcl
  have hql : ((accV p client.toNat).q.length : Int) = ((queueV s.txs client).length : Int) := by
    rw [ha]
    show ((qOf client.toNat s.txs).length : Int) = _
    rw [← queue_len_of client.toNat s.txs 0, hcc]; rfl
  rw [if_neg h5, if_neg h5, hql, h.queue]
  by_cases h6 : s.conf.queue ≤ ((queueV s.txs client).length : Int)
  · rw [if_pos h6, if_pos h6]; exact ⟨rfl, h⟩
  rw [if_neg h6, if_neg h6]
  refine ⟨rfl, ?_⟩
  rw [ha]
  refine ⟨h.queue, h.quantum, h.room, h.first, h.epochs, h.log, h.cells, ?_, ?_, ?_, ?_, ?_⟩
  · show ((p.accs.set _ _).length : Int) = _
    rw [List.length_set]; exact hm
  · intro i hi
    have hi' : i < p.accs.length := by
      have : i < (p.accs.set client.toNat ⟨qOf client.toNat s.txs ++ [⟨id, t, costV t, d⟩], s.credit.getD client.toNat 0⟩).length := hi
      rwa [List.length_set] at this
    show (p.accs.set client.toNat ⟨qOf client.toNat s.txs ++ [⟨id, t, costV t, d⟩], s.credit.getD client.toNat 0⟩)[i]? = some ⟨qOf i (s.txs ++ [⟨client, id, t, d, 0, 0⟩]), s.credit.getD i 0⟩
    rw [qOf_append]
    by_cases hic : client.toNat = i
    · subst hic
      rw [List.getElem?_set_self hi', qOf_yes (waits_iff.2 ⟨hcc.symm, rfl⟩)]
      rfl
    · rw [List.getElem?_set_ne hic, h.acc i hi', qOf_no]
      · rw [show qOf i [] = [] from rfl, List.append_nil]
      · rw [← Bool.not_eq_true, waits_iff]
        intro hh
        have h9 : client = (i : Int) := hh.1
        omega
  · intro x
    rw [show (putA p client.toNat ⟨qOf client.toNat s.txs ++ [⟨id, t, costV t, d⟩], s.credit.getD client.toNat 0⟩).outs = p.outs from rfl, h.outs x]
    constructor
    · rintro ⟨u, hu, hs, rfl⟩
      exact ⟨u, List.mem_append_left _ hu, hs, rfl⟩
    · rintro ⟨u, hu, hs, rfl⟩
      rcases List.mem_append.1 hu with hu | hu
      · exact ⟨u, hu, hs, rfl⟩
      · have : u = ⟨client, id, t, d, 0, 0⟩ := by simpa using hu
        subst this
        exact absurd rfl hs
  · have := h.few
    unfold waiting at this ⊢
    show p.outs.length + (s.txs ++ [(⟨client, id, t, d, 0, 0⟩ : TxV)]).countP wait = (s.txs ++ [(⟨client, id, t, d, 0, 0⟩ : TxV)]).length
    rw [List.countP_append, List.length_append, List.countP_cons]
    simp only [wait, decide_true, if_true, List.countP_nil, List.length_cons, List.length_nil] at this ⊢
    omega
  · intro u hu hs
    rcases List.mem_append.1 hu with hu | hu
    · exact h.e0 u hu hs
    · have : u = ⟨client, id, t, d, 0, 0⟩ := by simpa using hu
      subst this
      rfl

theorem new_sim {c : ConfV} (h : confOk c = true) : Sim (pNewV c) (newV c) := by
  unfold confOk at h
  simp only [Bool.and_eq_true, decide_eq_true_eq] at h
  refine ⟨rfl, rfl, rfl, rfl, rfl, ⟨rfl, rfl⟩, rfl, ?_, ?_, ?_, rfl, ?_⟩
  · show ((List.replicate c.clients.toNat (⟨[], 0⟩ : AccV)).length : Int) = c.clients
    rw [List.length_replicate]; omega
  · intro i hi
    have hi' : i < c.clients.toNat := by
      have : i < (List.replicate c.clients.toNat (⟨[], 0⟩ : AccV)).length := hi
      rwa [List.length_replicate] at this
    show (List.replicate c.clients.toNat (⟨[], 0⟩ : AccV))[i]? = some ⟨[], ([0, 0, 0, 0, 0, 0, 0, 0] : List Int).getD i 0⟩
    rw [List.getElem?_replicate, if_pos hi']
    have : ([0, 0, 0, 0, 0, 0, 0, 0] : List Int).getD i 0 = 0 := by
      have hall : ∀ j : Fin 8, ([0, 0, 0, 0, 0, 0, 0, 0] : List Int).getD j.1 0 = 0 := by decide
      exact hall ⟨i, by omega⟩
    rw [this]
  · intro x
    constructor
    · intro hx; cases hx
    · rintro ⟨u, hu, _⟩; cases hu
  · intro u hu; cases hu

end Go.Proofs.YtccckonckddadabGreat
namespace Go.Proofs.YtccckonckddadabGreat
open Go.RowKit
set_option linter.unusedVariables false

/-! ### Count -/
def countV (s : CluV) (r : Int) : Int × Int := if ¬ (0 ≤ r ∧ r ≤ s.conf.reps - 1) then (0, 11) else ((s.reps.getD r.toNat (0, 0)).1, 0)

theorem clu_rep {w : World} {g : Nat} {F : Nat → Prop} {s : CluV} (h : CluAt w g F s) {r : Nat} (hr : r < 4) : w.cell? ⟨g, 24 + r * 2, none⟩ = some (.int .i64 (s.reps.getD r (0, 0)).1) ∧ w.cell? ⟨g, 24 + r * 2 + 1, none⟩ = some (.int .i64 (s.reps.getD r (0, 0)).2) := by
  obtain ⟨aT, aE, cT, cE, eas, m1, _⟩ := h.mem
  have hl : r < s.reps.length := by rw [h.fit.reps]; exact hr
  have hg := List.getElem?_eq_getElem hl
  obtain ⟨q1, q2⟩ := clu_reps (vT := .slice aT s.txs.length cT) (vE := .slice aE s.epochs.length cE) h.fit.credit h.fit.cells hg
  rw [(heap_cells m1).1, (heap_cells m1).1, List.getElem?_toArray, List.getElem?_toArray, q1, q2, List.getD_eq_getElem?_getD, hg]
  exact ⟨rfl, rfl⟩

theorem conf_reps {c : ConfV} (h : confOk c = true) : 1 ≤ c.reps ∧ c.reps ≤ 4 := by
  unfold confOk at h
  simp only [Bool.and_eq_true, decide_eq_true_eq] at h
  omega

set_option maxHeartbeats 1000000 in
theorem refcount_any (g : Nat) (F : Nat → Prop) (s : CluV) (r : Int) (w : World) (h : CluAt w g F s) :
    Calls Tryz.prog 42 #[.pointer (some ⟨g, 0, none⟩), .int .i64 r] w fun e w' => e = .returned (.tuple #[.int .i64 (countV s r).1, .int .i64 (countV s r).2]) ∧ Below w.heap.size w w' := by
  have hg := h.block
  obtain ⟨hr1, hr4⟩ := conf_reps h.fit.conf
  have c4 : w.cell? ⟨g, 4, none⟩ = some (.int .i64 s.conf.reps) := by
    obtain ⟨aT, aE, cT, cE, eas, m1, _⟩ := h.mem
    rw [(heap_cells m1).1]; rfl
  have H : Hid _ := h
  clear h
  obtain ⟨nr, hnr⟩ : ∃ x, s.conf.reps = x := ⟨_, rfl⟩
  rw [hnr] at hr1 hr4 c4
  have HN : Hid _ := hnr
  clear hnr
  by_cases h1 : 0 ≤ r ∧ r ≤ nr - 1
  · obtain ⟨k, rfl⟩ := Int.eq_ofNat_of_zero_le h1.1
    have HR : Hid (countV s (k : Int) = ((s.reps.getD k (0, 0)).1, 0)) := by
      show _ = _
      unfold countV
      rw [HN.out, if_neg (by omega), Int.toNat_natCast]
    have k4 : (k : Int) < 4 := by omega
    have k0 : (0 : Int) ≤ (k : Int) := by omega
    have cr := (clu_rep H.out (r := k) (by omega)).1
    generalize (s.reps.getD k (0, 0)).1 = x at *
    go_enter Tryz.func42, Tryz.ntmps42
    go_wp2_with fail
    refine (off_no (n := (k : Int)) (lo := 0) (hi := nr - 1) _ h1).mono ?_
    rintro e w1 ⟨rfl, hw⟩
    obtain rfl := hw.symm
    go_wp2
    go_ret2
    exact ⟨by rw [HR.out]; rfl, Below.refl _ _⟩
  · have HR : Hid (countV s r = (0, 11)) := by
      show _ = _
      unfold countV
      rw [HN.out, if_pos h1]
    go_enter Tryz.func42, Tryz.ntmps42
    go_wp2_with fail
    refine (off_yes (n := r) (lo := 0) (hi := nr - 1) _ h1).mono ?_
    rintro e w1 ⟨rfl, hw⟩
    obtain rfl := hw.symm
    go_wp2
    go_ret2
    exact ⟨by rw [HR.out]; rfl, Below.refl _ _⟩

/-! ### Sync -/
def repV (s : CluV) (k : Nat) (x : Int × Int) : CluV := { s with reps := s.reps.set k x }
def syncV (s : CluV) (r : Int) : CluV × Int := if ¬ (0 ≤ r ∧ r ≤ s.conf.reps - 1) then (s, 11) else (repV s r.toNat ((s.reps.getD r.toNat (0, 0)).1, (s.reps.getD r.toNat (0, 0)).1), 0)

theorem fit_rep {s : CluV} (h : CluFit s) (k : Nat) (x : Int × Int) : CluFit (repV s k x) :=
  ⟨h.conf, h.credit, h.cells, by show (s.reps.set k x).length = 4; rw [List.length_set]; exact h.reps, h.many, h.first0, h.first1, h.few, h.tx, h.once, h.ep, h.c16, h.cr⟩

theorem reps_safe : ∀ (l : List (Int × Int)) (k : Nat) (y : Int), k < l.length → (repCells l).set (k * 2 + 1) (.int .i64 y) = repCells (l.set k ((l.getD k (0, 0)).1, y))
  | [], k, y, h => by simp at h
  | z :: l, 0, y, h => rfl
  | z :: l, k + 1, y, h => by
    have ih := reps_safe l k y (by simpa using h)
    have e : repCells (z :: l) = .int .i64 z.1 :: .int .i64 z.2 :: repCells l := rfl
    rw [e, show (k + 1) * 2 + 1 = (k * 2 + 1) + 1 + 1 from by omega, List.set_cons_succ, List.set_cons_succ, ih]
    rfl
theorem reps_count : ∀ (l : List (Int × Int)) (k : Nat) (y : Int), k < l.length → (repCells l).set (k * 2) (.int .i64 y) = repCells (l.set k (y, (l.getD k (0, 0)).2))
  | [], k, y, h => by simp at h
  | z :: l, 0, y, h => rfl
  | z :: l, k + 1, y, h => by
    have ih := reps_count l k y (by simpa using h)
    have e : repCells (z :: l) = .int .i64 z.1 :: .int .i64 z.2 :: repCells l := rfl
    rw [e, show (k + 1) * 2 = k * 2 + 1 + 1 from by omega, List.set_cons_succ, List.set_cons_succ, ih]
    rfl

theorem clu_safe {w : World} {g : Nat} {F : Nat → Prop} {s : CluV} (h : CluAt w g F s) {k : Nat} (hk : k < 4) (y : Int) :
    CluAt (w.setCell ⟨g, 24 + k * 2 + 1, none⟩ (.int .i64 y)) g F (repV s k ((s.reps.getD k (0, 0)).1, y)) ∧ Kept F w (w.setCell ⟨g, 24 + k * 2 + 1, none⟩ (.int .i64 y)) :=
  clu_put h (fit_rep h.fit _ _) rfl rfl (fun vT vE => by
    rw [Nat.add_assoc, clu_set_reps h.fit.credit h.fit.cells, reps_safe _ _ _ (by rw [h.fit.reps]; exact hk)]
    rfl)
theorem clu_count {w : World} {g : Nat} {F : Nat → Prop} {s : CluV} (h : CluAt w g F s) {k : Nat} (hk : k < 4) (y : Int) :
    CluAt (w.setCell ⟨g, 24 + k * 2, none⟩ (.int .i64 y)) g F (repV s k (y, (s.reps.getD k (0, 0)).2)) ∧ Kept F w (w.setCell ⟨g, 24 + k * 2, none⟩ (.int .i64 y)) :=
  clu_put h (fit_rep h.fit _ _) rfl rfl (fun vT vE => by
    rw [clu_set_reps h.fit.credit h.fit.cells, reps_count _ _ _ (by rw [h.fit.reps]; exact hk)]
    rfl)

set_option maxHeartbeats 1000000 in
theorem refsync_any (g : Nat) (F : Nat → Prop) (s : CluV) (r : Int) (w : World) (h : CluAt w g F s) :
    Calls Tryz.prog 32 #[.pointer (some ⟨g, 0, none⟩), .int .i64 r] w fun e w' => e = .returned (.int .i64 (syncV s r).2) ∧ CluPost g F (syncV s r).1 w w' := by
  have hg := h.block
  obtain ⟨hr1, hr4⟩ := conf_reps h.fit.conf
  have c4 : w.cell? ⟨g, 4, none⟩ = some (.int .i64 s.conf.reps) := by
    obtain ⟨aT, aE, cT, cE, eas, m1, _⟩ := h.mem
    rw [(heap_cells m1).1]; rfl
  have fz := (clu_reads h).2.2.2
  have H : Hid _ := h
  clear h
  obtain ⟨nr, hnr⟩ : ∃ x, s.conf.reps = x := ⟨_, rfl⟩
  rw [hnr] at hr1 hr4 c4
  have HN : Hid _ := hnr
  clear hnr
  by_cases h1 : 0 ≤ r ∧ r ≤ nr - 1
  · obtain ⟨k, rfl⟩ := Int.eq_ofNat_of_zero_le h1.1
    have HR : Hid (syncV s (k : Int) = (repV s k ((s.reps.getD k (0, 0)).1, (s.reps.getD k (0, 0)).1), 0)) := by
      show _ = _
      unfold syncV
      rw [HN.out, if_neg (by omega), Int.toNat_natCast]
    have k4 : (k : Int) < 4 := by omega
    have k0 : (0 : Int) ≤ (k : Int) := by omega
    obtain ⟨cr, cs⟩ := clu_rep H.out (r := k) (by omega)
    have HP : Hid (_ ∧ _) := clu_safe H.out (by omega : k < 4) (s.reps.getD k (0, 0)).1
    generalize (s.reps.getD k (0, 0)).1 = x at *
    generalize (s.reps.getD k (0, 0)).2 = y at *
    go_enter Tryz.func32, Tryz.ntmps32
    go_wp2_with fail
    refine (off_no (n := (k : Int)) (lo := 0) (hi := nr - 1) _ h1).mono ?_
    rintro e w1 ⟨rfl, hw⟩
    obtain rfl := hw.symm
    go_wp2
    go_region
    go_wp2
    go_ret
    refine ⟨by rw [HR.out]; rfl, ?_⟩
    rw [HR.out]
    exact ⟨F, HP.out.1.below (Below.refl _ _).drew, HP.out.2.drew, fun _ hk => .inl hk⟩
  · have HR : Hid (syncV s r = (s, 11)) := by
      show _ = _
      unfold syncV
      rw [HN.out, if_pos h1]
    go_enter Tryz.func32, Tryz.ntmps32
    go_wp2_with fail
    refine (off_yes (n := r) (lo := 0) (hi := nr - 1) _ h1).mono ?_
    rintro e w1 ⟨rfl, hw⟩
    obtain rfl := hw.symm
    go_wp2
    go_ret
    exact ⟨by rw [HR.out]; rfl, by rw [HR.out]; exact CluPost.same H.out (Below.refl _ _)⟩

end Go.Proofs.YtccckonckddadabGreat
namespace Go.Proofs.YtccckonckddadabGreat
open Go.RowKit
set_option linter.unusedVariables false

/-! ### Send, Disk -/
def sendV (s : CluV) (r n : Int) : CluV × Int :=
  if ¬ (0 ≤ r ∧ r ≤ s.conf.reps - 1) then (s, 11)
  else if ¬ (0 ≤ n ∧ n ≤ (s.epochs.length : Int) - 1) then (s, 10)
  else if n < (s.reps.getD r.toNat (0, 0)).1 then (s, 12)
  else if (s.reps.getD r.toNat (0, 0)).1 < n then (s, 13)
  else (repV s r.toNat (n + 1, (s.reps.getD r.toNat (0, 0)).2), 0)

set_option maxHeartbeats 2000000 in
theorem refsend_any (g : Nat) (F : Nat → Prop) (s : CluV) (r n : Int) (w : World) (h : CluAt w g F s) :
    Calls Tryz.prog 30 #[.pointer (some ⟨g, 0, none⟩), .int .i64 r, .int .i64 n] w fun e w' => e = .returned (.int .i64 (sendV s r n).2) ∧ CluPost g F (sendV s r n).1 w w' := by
  have hg := h.block
  have hmany := h.fit.many
  obtain ⟨hr1, hr4⟩ := conf_reps h.fit.conf
  obtain ⟨aE, cE, c4, c15⟩ : ∃ aE cE, w.cell? ⟨g, 4, none⟩ = some (.int .i64 s.conf.reps) ∧ w.cell? ⟨g, 15, none⟩ = some (.slice aE s.epochs.length cE) := by
    obtain ⟨aT, aE, cT, cE, eas, m1, _⟩ := h.mem
    refine ⟨aE, cE, by rw [(heap_cells m1).1]; rfl, ?_⟩
    rw [(heap_cells m1).1, List.getElem?_toArray]
    exact clu_epochs h.fit.credit
  have fz := (clu_reads h).2.2.2
  have H : Hid _ := h
  clear h
  obtain ⟨nr, hnr⟩ : ∃ x, s.conf.reps = x := ⟨_, rfl⟩
  rw [hnr] at hr1 hr4 c4
  have HN : Hid _ := hnr
  obtain ⟨ne, hne⟩ : ∃ x, s.epochs.length = x := ⟨_, rfl⟩
  rw [hne] at c15 hmany
  have HNe : Hid _ := hne
  clear hnr hne
  by_cases h1 : 0 ≤ r ∧ r ≤ nr - 1
  · obtain ⟨k, rfl⟩ := Int.eq_ofNat_of_zero_le h1.1
    by_cases h2 : 0 ≤ n ∧ n ≤ (ne : Int) - 1
    · have HR : Hid (sendV s (k : Int) n = if n < (s.reps.getD k (0, 0)).1 then (s, 12) else if (s.reps.getD k (0, 0)).1 < n then (s, 13) else (repV s k (n + 1, (s.reps.getD k (0, 0)).2), 0)) := by
        show _ = _
        unfold sendV
        rw [HN.out, HNe.out, if_neg (by omega), if_neg (by omega), Int.toNat_natCast]
      have k4 : (k : Int) < 4 := by omega
      have k0 : (0 : Int) ≤ (k : Int) := by omega
      obtain ⟨cr, cs⟩ := clu_rep H.out (r := k) (by omega)
      have HP : Hid (_ ∧ _) := clu_count H.out (by omega : k < 4) (n + 1)
      generalize (s.reps.getD k (0, 0)).1 = x at *
      generalize (s.reps.getD k (0, 0)).2 = y at *
      have hww : IntKind.i64.wrap (n + 1) = n + 1 := wrap_i64_id (by omega) (by omega)
      go_enter Tryz.func30, Tryz.ntmps30
      go_wp2_with fail
      refine (off_no (n := (k : Int)) (lo := 0) (hi := nr - 1) _ h1).mono ?_
      rintro e w1 ⟨rfl, hw⟩
      obtain rfl := hw.symm
      go_wp2_with fail
      refine (off_no (n := n) (lo := 0) (hi := (ne : Int) - 1) _ h2).mono ?_
      rintro e w1 ⟨rfl, hw⟩
      obtain rfl := hw.symm
      by_cases h3 : n < x
      · go_wp2
        go_ret
        rw [if_pos h3] at HR
        exact ⟨by rw [HR.out]; rfl, by rw [HR.out]; exact CluPost.same H.out (Below.refl _ _)⟩
      · by_cases h4 : x < n
        · go_wp2
          go_ret
          rw [if_neg (by omega), if_pos h4] at HR
          exact ⟨by rw [HR.out]; rfl, by rw [HR.out]; exact CluPost.same H.out (Below.refl _ _)⟩
        · rw [if_neg (by omega), if_neg (by omega)] at HR
          go_wp2
          go_ret
          refine ⟨by rw [HR.out]; rfl, ?_⟩
          rw [HR.out]
          exact ⟨F, HP.out.1, HP.out.2, fun _ hk => .inl hk⟩
    · have HR : Hid (sendV s (k : Int) n = (s, 10)) := by
        show _ = _
        unfold sendV
        rw [HN.out, HNe.out, if_neg (by omega), if_pos h2]
      go_enter Tryz.func30, Tryz.ntmps30
      go_wp2_with fail
      refine (off_no (n := (k : Int)) (lo := 0) (hi := nr - 1) _ h1).mono ?_
      rintro e w1 ⟨rfl, hw⟩
      obtain rfl := hw.symm
      go_wp2_with fail
      refine (off_yes (n := n) (lo := 0) (hi := (ne : Int) - 1) _ h2).mono ?_
      rintro e w1 ⟨rfl, hw⟩
      obtain rfl := hw.symm
      go_wp2
      go_ret
      exact ⟨by rw [HR.out]; rfl, by rw [HR.out]; exact CluPost.same H.out (Below.refl _ _)⟩
  · have HR : Hid (sendV s r n = (s, 11)) := by
      show _ = _
      unfold sendV
      rw [HN.out, if_pos h1]
    go_enter Tryz.func30, Tryz.ntmps30
    go_wp2_with fail
    refine (off_yes (n := r) (lo := 0) (hi := nr - 1) _ h1).mono ?_
    rintro e w1 ⟨rfl, hw⟩
    obtain rfl := hw.symm
    go_wp2
    go_ret
    exact ⟨by rw [HR.out]; rfl, by rw [HR.out]; exact CluPost.same H.out (Below.refl _ _)⟩

/-- What is true of the replicas. -/
def RepFit (s : CluV) : Prop := ∀ x ∈ s.reps, 0 ≤ x.2 ∧ x.2 ≤ x.1 ∧ x.1 ≤ (s.epochs.length : Int)

end Go.Proofs.YtccckonckddadabGreat
namespace Go.Proofs.YtccckonckddadabGreat
open Go.RowKit
set_option linter.unusedVariables false

/-! ### Disk -/
def diskV (s : CluV) (r : Int) : List UInt8 × Int := if ¬ (0 ≤ r ∧ r ≤ s.conf.reps - 1) then ([], 11) else (logV s (s.reps.getD r.toNat (0, 0)).1.toNat, 0)

theorem rep_fit {s : CluV} (h : RepFit s) (k : Nat) : 0 ≤ (s.reps.getD k (0, 0)).2 ∧ (s.reps.getD k (0, 0)).2 ≤ (s.reps.getD k (0, 0)).1 ∧ (s.reps.getD k (0, 0)).1 ≤ (s.epochs.length : Int) := by
  rw [List.getD_eq_getElem?_getD]
  cases hk : s.reps[k]? with
  | none => exact ⟨Int.le_refl _, Int.le_refl _, by show (0 : Int) ≤ _; omega⟩
  | some x => exact h x (List.mem_of_getElem? hk)

set_option maxHeartbeats 1000000 in
theorem refdisk_any (g : Nat) (F : Nat → Prop) (s : CluV) (r : Int) (w : World) (h : CluAt w g F s) (hp : RepFit s) :
    Calls Tryz.prog 40 #[.pointer (some ⟨g, 0, none⟩), .int .i64 r] w fun e w' => ∃ b : ByteArray, e = .returned (.tuple #[.string b, .int .i64 (diskV s r).2]) ∧ b.data.toList = (diskV s r).1 ∧ Below w.heap.size w w' := by
  have hg := h.block
  obtain ⟨hr1, hr4⟩ := conf_reps h.fit.conf
  have c4 : w.cell? ⟨g, 4, none⟩ = some (.int .i64 s.conf.reps) := by
    obtain ⟨aT, aE, cT, cE, eas, m1, _⟩ := h.mem
    rw [(heap_cells m1).1]; rfl
  have H : Hid _ := h
  clear h
  obtain ⟨nr, hnr⟩ : ∃ x, s.conf.reps = x := ⟨_, rfl⟩
  rw [hnr] at hr1 hr4 c4
  have HN : Hid _ := hnr
  clear hnr
  by_cases h1 : 0 ≤ r ∧ r ≤ nr - 1
  · obtain ⟨k, rfl⟩ := Int.eq_ofNat_of_zero_le h1.1
    have HR : Hid (diskV s (k : Int) = (logV s (s.reps.getD k (0, 0)).1.toNat, 0)) := by
      show _ = _
      unfold diskV
      rw [HN.out, if_neg (by omega), Int.toNat_natCast]
    have k4 : (k : Int) < 4 := by omega
    have k0 : (0 : Int) ≤ (k : Int) := by omega
    have cr := (clu_rep H.out (r := k) (by omega)).1
    obtain ⟨p0, p1, p2⟩ := rep_fit hp k
    obtain ⟨n, hn⟩ := Int.eq_ofNat_of_zero_le (Int.le_trans p0 p1)
    rw [hn, Int.toNat_natCast] at HR
    rw [hn] at cr p2
    have HL : Hid (n ≤ s.epochs.length) := by show _ ≤ _; omega
    clear p0 p1 p2 hn
    go_enter Tryz.func40, Tryz.ntmps40
    go_wp2_with fail
    refine (off_no (n := (k : Int)) (lo := 0) (hi := nr - 1) _ h1).mono ?_
    rintro e w1 ⟨rfl, hw⟩
    obtain rfl := hw.symm
    go_wp2_with fail
    refine (refbytes_any g F s n _ H.out HL.out).mono ?_
    rintro e w1 ⟨b, rfl, hb, hB⟩
    have HB : Hid (_ ∧ _) := ⟨hb, hB⟩
    clear hb hB cr c4
    go_wp2
    go_ret2
    exact ⟨b, by rw [HR.out]; rfl, by rw [HR.out]; exact HB.out.1, HB.out.2⟩
  · have HR : Hid (diskV s r = ([], 11)) := by
      show _ = _
      unfold diskV
      rw [HN.out, if_pos h1]
    go_enter Tryz.func40, Tryz.ntmps40
    go_wp2_with fail
    refine (off_yes (n := r) (lo := 0) (hi := nr - 1) _ h1).mono ?_
    rintro e w1 ⟨rfl, hw⟩
    obtain rfl := hw.symm
    go_wp2
    go_ret2
    exact ⟨⟨#[]⟩, by rw [HR.out]; rfl, by rw [HR.out], Below.refl _ _⟩

end Go.Proofs.YtccckonckddadabGreat
namespace Go.Proofs.YtccckonckddadabGreat
open Go.RowKit
set_option linter.unusedVariables false

/-! ### Crash -/
def crashGo (s : CluV) (safe : Nat) (keep : Int) : Nat → Nat → Nat
  | 0, n => n
  | f + 1, n => if keep < ((logV s (n + 1)).length : Int) - (logV s safe).length then n else crashGo s safe keep f (n + 1)
def crashN (s : CluV) (x : Int × Int) (keep : Int) : Nat := crashGo s x.2.toNat keep (x.1.toNat - x.2.toNat) x.2.toNat
def crashV (s : CluV) (r keep : Int) : CluV × Int := if ¬ (0 ≤ r ∧ r ≤ s.conf.reps - 1) then (s, 11) else (repV s r.toNat (crashN s (s.reps.getD r.toNat (0, 0)) keep, crashN s (s.reps.getD r.toNat (0, 0)) keep), 0)

theorem logV_le (s : CluV) (hf : CluFit s) : ∀ n, n ≤ s.epochs.length → (logV s n).length ≤ 4232 * n
  | 0, _ => by simp [logV, Dk.logFrom]
  | n + 1, h => by
    have ih := logV_le s hf n (by omega)
    have hg := List.getElem?_eq_getElem (show n < s.epochs.length by omega)
    rw [log_snoc hg, List.length_append]
    have hep := hf.ep _ (List.mem_of_getElem? hg)
    have HF : Dk.frameOk (n : Int) (recs s.epochs[n]) = true := by
      have := hf.many
      unfold Dk.frameOk
      rw [decide_eq_true ⟨by omega, by omega⟩, decide_eq_true (by rw [recs, List.length_map]; exact hep.1), hep.2]; rfl
    have h2 := epoch_small HF
    rw [Int.toNat_natCast] at h2
    omega

theorem logV_mono (s : CluV) (y : Nat) : ∀ d, y + d ≤ s.epochs.length → (logV s y).length ≤ (logV s (y + d)).length
  | 0, _ => Nat.le_refl _
  | d + 1, h => by
    have ih := logV_mono s y d (by omega)
    have hg := List.getElem?_eq_getElem (show y + d < s.epochs.length by omega)
    rw [← Nat.add_assoc, log_snoc hg, List.length_append]
    omega

theorem crash_put {w : World} {g : Nat} {F : Nat → Prop} {s : CluV} (h : CluAt w g F s) {k : Nat} (hk : k < 4) (n : Nat) :
    CluAt ((w.setCell ⟨g, 24 + k * 2, none⟩ (.int .i64 n)).setCell ⟨g, 24 + k * 2 + 1, none⟩ (.int .i64 n)) g F (repV s k (n, n)) ∧ Kept F w ((w.setCell ⟨g, 24 + k * 2, none⟩ (.int .i64 n)).setCell ⟨g, 24 + k * 2 + 1, none⟩ (.int .i64 n)) := by
  obtain ⟨a1, a2⟩ := clu_count h hk (n : Int)
  obtain ⟨b1, b2⟩ := clu_safe a1 hk (n : Int)
  refine ⟨?_, a2.trans b2 (fun _ _ hh => hh)⟩
  have e : repV (repV s k ((n : Int), (s.reps.getD k (0, 0)).2)) k (((repV s k ((n : Int), (s.reps.getD k (0, 0)).2)).reps.getD k (0, 0)).1, (n : Int)) = repV s k ((n : Int), (n : Int)) := by
    have hl : k < s.reps.length := by rw [h.fit.reps]; exact hk
    unfold repV
    simp only [List.getD_eq_getElem?_getD, List.getElem?_set_self hl, Option.getD_some, List.set_set]
  rw [e] at b1
  exact b1

set_option maxRecDepth 100000 in
set_option maxHeartbeats 2000000 in
theorem refcrash_any (g : Nat) (F : Nat → Prop) (s : CluV) (r keep : Int) (w : World) (h : CluAt w g F s) (hp : RepFit s) :
    Calls Tryz.prog 34 #[.pointer (some ⟨g, 0, none⟩), .int .i64 r, .int .i64 keep] w fun e w' => e = .returned (.int .i64 (crashV s r keep).2) ∧ CluPost g F (crashV s r keep).1 w w' := by
  have hg := h.block
  obtain ⟨hr1, hr4⟩ := conf_reps h.fit.conf
  have c4 : w.cell? ⟨g, 4, none⟩ = some (.int .i64 s.conf.reps) := by
    obtain ⟨aT, aE, cT, cE, eas, m1, _⟩ := h.mem
    rw [(heap_cells m1).1]; rfl
  have fz := (clu_reads h).2.2.2
  have H : Hid _ := h
  clear h
  obtain ⟨nr, hnr⟩ : ∃ x, s.conf.reps = x := ⟨_, rfl⟩
  rw [hnr] at hr1 hr4 c4
  have HN : Hid _ := hnr
  clear hnr
  by_cases h1 : 0 ≤ r ∧ r ≤ nr - 1
  · obtain ⟨k, rfl⟩ := Int.eq_ofNat_of_zero_le h1.1
    have HR : Hid (crashV s (k : Int) keep = (repV s k (crashN s (s.reps.getD k (0, 0)) keep, crashN s (s.reps.getD k (0, 0)) keep), 0)) := by
      show _ = _
      unfold crashV
      rw [HN.out, if_neg (by omega), Int.toNat_natCast]
    have k4 : (k : Int) < 4 := by omega
    have k0 : (0 : Int) ≤ (k : Int) := by omega
    obtain ⟨cr, cs⟩ := clu_rep H.out (r := k) (by omega)
    obtain ⟨p0, p1, p2⟩ := rep_fit hp k
    obtain ⟨x, hx⟩ := Int.eq_ofNat_of_zero_le (Int.le_trans p0 p1)
    obtain ⟨y, hy⟩ := Int.eq_ofNat_of_zero_le p0
    rw [hx] at cr p1 p2
    rw [hy] at cs p0 p1
    go_enter Tryz.func34, Tryz.ntmps34
    go_wp2_with fail
    refine (off_no (n := (k : Int)) (lo := 0) (hi := nr - 1) _ h1).mono ?_
    rintro e w1 ⟨rfl, hw⟩
    obtain rfl := hw.symm
    have HC0 : Hid (CluAt (w.alloc (.cells #[.int .i64 x, .int .i64 y] 112)) g F s) := H.out.below ((Below.refl _ _).alloc (Nat.le_refl _) _)
    have HD : Hid (crashN s (s.reps.getD k (0, 0)) keep = crashGo s y keep (x - y) y) := by
      show _ = _
      unfold crashN
      rw [hx, hy, Int.toNat_natCast, Int.toNat_natCast]
    have hyx : y ≤ x := by omega
    have HK4 : Hid (k < 4) := by show _ < _; omega
    have hxe : x ≤ s.epochs.length := by omega
    have hmany := H.out.fit.many
    have HLe : Hid (∀ n, n ≤ s.epochs.length → (logV s n).length ≤ 4232 * n) := logV_le s H.out.fit
    clear p0 p1 p2 hx hy hp
    go_wp2_with fail
    refine (refbytes_any g F s y _ HC0.out (by omega)).mono ?_
    rintro e w2 ⟨bs, rfl, hbs, hB2⟩
    have HB0 : Hid (Below w.heap.size w w2) := ((Below.refl _ _).alloc (Nat.le_refl _) _).trans (hB2.mono (by simp))
    have HX0 : Hid (w2.heap[w.heap.size]? = some (.cells #[.int .i64 x, .int .i64 y] 112)) := (hB2.block _ (by simp)).trans (heap_at rfl)
    have HBs : Hid _ := hbs
    have hsl : bs.size ≤ 846400 := by
      have h2 := congrArg List.length HBs.out
      rw [len_list] at h2
      have := HLe.out y (by omega)
      omega
    clear hbs hB2 cr cs c4 fz
    go_wp2
    go_loopw [8] (fun v8 wr => ∃ n : Nat, v8 = .int .i64 n ∧ y ≤ n ∧ n ≤ x ∧ Hid (Below w.heap.size w wr) ∧ Hid (wr.heap[w.heap.size]? = some (.cells #[.int .i64 x, .int .i64 y] 112)) ∧ Hid (crashGo s y keep (x - y) y = crashGo s y keep (x - n) n)) (fun v8 _ => x - (intOf v8).toNat)
    case atStart => exact ⟨y, rfl, Nat.le_refl _, hyx, HB0, HX0, rfl⟩
    case round =>
      clear HB0 HX0
      obtain ⟨n, rfl, hyn, hnx, HB, HX, HL⟩ := hrel
      obtain ⟨b0, bf, bz⟩ := heap_cells HX.out
      have d0 : wr.cell? ⟨w.heap.size, 0, none⟩ = some (.int .i64 x) := by rw [b0]; rfl
      by_cases hlt : n < x
      · have k1 : (n : Int) < (x : Int) := by omega
        have hw1 : IntKind.i64.wrap ((n : Int) + 1) = (n : Int) + 1 := wrap_i64_id (by omega) (by omega)
        have HBt : Hid (Calls Tryz.prog 71 #[.pointer (some ⟨g, 0, none⟩), .int .i64 ((n : Int) + 1)] wr fun e w' => ∃ b : ByteArray, e = .returned (.string b) ∧ b.data.toList = logV s (n + 1) ∧ Below wr.heap.size wr w') := by
          have := refbytes_any g F s (n + 1) wr (H.out.below HB.out) (by omega)
          rw [Int.natCast_add] at this
          exact this
        go_wp2_with fail
        refine (HBt.out).mono ?_
        rintro e w3 ⟨b, rfl, hb, hB3⟩
        have HBb : Hid _ := hb
        have hbl : b.size ≤ 846400 := by
          have h2 := congrArg List.length HBb.out
          rw [len_list] at h2
          have := HLe.out (n + 1) (by omega)
          omega
        have HB3 : Hid (Below w.heap.size w w3) := HB.out.trans (hB3.mono HB.out.size)
        have HX3 : Hid (w3.heap[w.heap.size]? = some (.cells #[.int .i64 x, .int .i64 y] 112)) := (hB3.block _ bz).trans HX.out
        have hmo : bs.size ≤ b.size := by
          have hm := logV_mono s y (n + 1 - y) (by omega)
          rw [show y + (n + 1 - y) = n + 1 by omega, ← HBb.out, ← HBs.out, len_list, len_list] at hm
          exact hm
        have hww : IntKind.i64.wrap ((b.size : Int) - (bs.size : Int)) = (b.size : Int) - (bs.size : Int) := wrap_i64_id (by omega) (by omega)
        have HSt : Hid (crashGo s y keep (x - n) n = if keep < (b.size : Int) - (bs.size : Int) then n else crashGo s y keep (x - (n + 1)) (n + 1)) := by
          show _ = _
          rw [show x - n = (x - (n + 1)) + 1 by omega, crashGo, ← HBb.out, ← HBs.out, len_list, len_list]
        have HC3 : Hid (CluAt w3 g F s) := H.out.below HB3.out
        clear hb hB3 d0 b0 bf bz
        by_cases hbr : keep < (b.size : Int) - (bs.size : Int)
        · have HE : Hid (crashN s (s.reps.getD k (0, 0)) keep = n) := by
            show _ = _
            rw [HD.out, HL.out, HSt.out, if_pos hbr]
          have HP : Hid _ := crash_put HC3.out HK4.out n
          have fz3 := (clu_reads HC3.out).2.2.2
          have hg3 := HC3.out.block
          obtain ⟨u1, u2⟩ := clu_rep HC3.out (r := k) HK4.out
          generalize (s.reps.getD k (0, 0)).1 = q1 at u1
          generalize (s.reps.getD k (0, 0)).2 = q2 at u2
          go_wp2
          go_ret
          refine ⟨by rw [HR.out]; rfl, ?_⟩
          rw [HR.out, HE.out]
          exact ⟨F, HP.out.1, (Kept.of HB3.out).trans HP.out.2 (fun _ _ hh => hh), fun _ hk => .inl hk⟩
        · have HN1 : Hid (crashGo s y keep (x - y) y = crashGo s y keep (x - (n + 1)) (n + 1)) := by
            show _ = _
            rw [HL.out, HSt.out, if_neg hbr]
          go_wp2
          go_roundw
          case rel => exact ⟨n + 1, by go_num, by omega, by omega, HB3, HX3, HN1⟩
          case measure => simp [intOf]; omega
      · have hnx' : n = x := by omega
        subst hnx'
        have hii : decide ((n : Int) < (n : Int)) = false := decide_eq_false (by omega)
        have HE : Hid (crashN s (s.reps.getD k (0, 0)) keep = n) := by
          show _ = _
          rw [HD.out, HL.out, Nat.sub_self]
          rfl
        have HC3 : Hid (CluAt wr g F s) := H.out.below HB.out
        have HP : Hid _ := crash_put HC3.out HK4.out n
        have fz3 := (clu_reads HC3.out).2.2.2
        have hg3 := HC3.out.block
        obtain ⟨u1, u2⟩ := clu_rep HC3.out (r := k) HK4.out
        generalize (s.reps.getD k (0, 0)).1 = q1 at u1
        generalize (s.reps.getD k (0, 0)).2 = q2 at u2
        go_wp2
        go_ret
        refine ⟨by rw [HR.out]; rfl, ?_⟩
        rw [HR.out, HE.out]
        exact ⟨F, HP.out.1, (Kept.of HB.out).trans HP.out.2 (fun _ _ hh => hh), fun _ hk => .inl hk⟩
  · have HR : Hid (crashV s r keep = (s, 11)) := by
      show _ = _
      unfold crashV
      rw [HN.out, if_pos h1]
    go_enter Tryz.func34, Tryz.ntmps34
    go_wp2_with fail
    refine (off_yes (n := r) (lo := 0) (hi := nr - 1) _ h1).mono ?_
    rintro e w1 ⟨rfl, hw⟩
    obtain rfl := hw.symm
    go_wp2
    go_ret
    exact ⟨by rw [HR.out]; rfl, by rw [HR.out]; exact CluPost.same H.out (Below.refl _ _)⟩

end Go.Proofs.YtccckonckddadabGreat
