import Derived.Test.YtccckonckddadabGreatJ29
import Derived.Test.YtccckonckddadabGreatJ17
namespace Go.Proofs.YtccckonckddadabGreat
open Go.RowKit
set_option linter.unusedVariables false

/-! ### visit -/
def roundV (s : CluV) (client q : Nat) (t : TxV) : CluV :=
  endsV (cellsV (credV s client (s.credit.getD client 0 - costV t.t)) (Dk.doV t.t.data.toList s.cells).1) q (if (Dk.doV t.t.data.toList s.cells).2 then 1 else 2)
def visitGo (client : Nat) : Nat → CluV → Int → List RecV → CluV × List RecV × Int
  | 0, s, room, l => (s, l, room)
  | k + 1, s, room, l =>
    if frontV s client room < 0 then (s, l, room) else
    match s.txs[(frontV s client room).toNat]? with
    | none => (s, l, room)
    | some t => visitGo client k (roundV s client (frontV s client room).toNat t) (room - costV t.t) (l ++ [⟨client, t.i, false, t.t⟩])
def visitV (s : CluV) (client : Nat) (room : Int) : CluV × List RecV × Int :=
  let x := visitGo client 65 (credV s client (s.credit.getD client 0 + s.conf.quantum)) room []
  if queueV x.1.txs client = [] then (credV x.1 client 0, x.2) else x

theorem front_some {s : CluV} {client : Nat} {room : Int} (h : 0 ≤ frontV s client room) : ∃ (q : Nat) (t : TxV), frontV s client room = (q : Int) ∧ s.txs[q]? = some t ∧ (costV t.t : Int) ≤ s.credit.getD client 0 ∧ (costV t.t : Int) ≤ room := by
  unfold frontV at h ⊢
  cases hq : queueV s.txs client with
  | nil => rw [hq] at h; simp at h
  | cons q qs =>
    rw [hq] at h
    simp only at h ⊢
    cases ht : s.txs[q]? with
    | none => rw [ht] at h; simp at h
    | some t =>
      rw [ht] at h
      simp only at h ⊢
      by_cases hc : s.credit.getD client 0 < (costV t.t : Int) ∨ room < (costV t.t : Int)
      · rw [if_pos hc] at h; omega
      · rw [if_neg hc]
        exact ⟨q, t, rfl, ht, by omega, by omega⟩

theorem visit_stop {client k : Nat} {s : CluV} {room : Int} {l : List RecV} (h : frontV s client room < 0) : visitGo client k s room l = (s, l, room) := by
  cases k with
  | zero => rfl
  | succ k => rw [visitGo, if_pos h]
theorem visit_go {client k q : Nat} {s : CluV} {room : Int} {l : List RecV} {t : TxV} (h : frontV s client room = (q : Int)) (ht : s.txs[q]? = some t) : visitGo client (k + 1) s room l = visitGo client k (roundV s client q t) (room - costV t.t) (l ++ [⟨client, t.i, false, t.t⟩]) := by
  rw [visitGo, if_neg (by omega), h, Int.toNat_natCast, ht]

theorem runV_len (ks : List Bool) : ∀ (os : List Dk.Op) (cs cs' : List Int), cs.length = 8 → Dk.runV ks os cs = some cs' → cs'.length = 8
  | [], cs, cs', h, hr => by
    rw [Dk.runV] at hr
    cases hr
    exact h
  | o :: os, cs, cs', h, hr => by
    obtain ⟨y0, y1, y2, y3, y4, y5, y6, y7, rfl⟩ := list8' cs h
    obtain ⟨z0, z1, z2, z3, z4, z5, z6, z7, sd, hstep⟩ := Dk.stepV_8 ks o y0 y1 y2 y3 y4 y5 y6 y7
    rw [Dk.runV, hstep] at hr
    split at hr
    · exact runV_len ks os _ _ rfl hr
    · cases hr
theorem doV_len (l : List UInt8) {cs : List Int} (h : cs.length = 8) : (Dk.doV l cs).1.length = 8 := by
  unfold Dk.doV
  cases hr : Dk.runV (Dk.keysOf l) (Dk.opsOf l) cs with
  | none => exact h
  | some cs' => exact runV_len _ _ _ _ h hr

/-- Where a round of visit stands. -/
structure VisitAt (w wr : World) (g : Nat) (F : Nat → Prop) (s0 : CluV) (room0 : Int) (client f : Nat) (s : CluV) (room : Int) (l : List RecV) (a : Option Addr) (m c : Nat) : Prop where
  clu : CluAt wr g F s
  kept : Kept F w wr
  len : l.length = m
  small : ∀ r ∈ l, r.t.size ≤ maxLen
  own : wr.ownsRow w.heap.size 55 4 (.slice a m c) m (recsCells l)
  left : visitGo client 65 s0 room0 [] = visitGo client f s room l
  fuel : room < f

def VisitPost (g : Nat) (F : Nat → Prop) (x : CluV × List RecV × Int) (w : World) (e : Ending) (w' : World) : Prop :=
  ∃ (a : Option Addr) (m c : Nat), e = .returned (.tuple #[.slice a m c, .int .i64 x.2.2]) ∧ CluAt w' g F x.1 ∧ Kept F w w' ∧ x.2.1.length = m ∧ (∀ r ∈ x.2.1, r.t.size ≤ maxLen) ∧ w'.ownsRow w.heap.size 55 4 (.slice a m c) m (recsCells x.2.1)

theorem Kept.drew {F : Nat → Prop} {a w : World} (h : Kept F a w) : Kept F a w.drew := ⟨h.os, h.tape, h.output, h.size, h.block⟩
theorem Kept.then {F : Nat → Prop} {a b c : World} (h : Kept F a b) (hb : Below b.heap.size b c) : Kept F a c := h.trans (G := fun _ => False) (Kept.of hb) (fun _ _ hh => hh.elim)

set_option maxRecDepth 100000 in
set_option maxHeartbeats 8000000 in
theorem visit_any (g : Nat) (F : Nat → Prop) (s : CluV) (client : Nat) (room : Int) (w : World) (h : CluAt w g F s) (hc : client < 8) (hr0 : 0 ≤ room) (hr1 : room ≤ 64) (hcr : s.credit.getD client 0 ≤ 8 * (s.epochs.length : Int)) :
    Calls Tryz.prog 65 #[.pointer (some ⟨g, 0, none⟩), .int .i64 client, .int .i64 room] w (VisitPost g F (visitV s client room) w) := by
  obtain ⟨ti, hi, hz0, hz1, hz2⟩ := info_parts info_rec
  have HI : Hid (_ ∧ _ ∧ _ ∧ _) := ⟨hi, hz0, hz1, hz2⟩
  clear hi hz0 hz1 hz2
  have hg := h.block
  have HFw : Hid _ := h.own
  have H : Hid _ := h
  have hcl : client < s.credit.length := by rw [h.fit.credit]; exact hc
  have hget := List.getElem?_eq_getElem hcl
  have hgd : s.credit.getD client 0 = s.credit[client] := by rw [List.getD_eq_getElem?_getD, hget]; rfl
  have hqt : 1 ≤ s.conf.quantum ∧ s.conf.quantum ≤ 8 := by
    have hcf := h.fit.conf
    unfold confOk at hcf
    simp only [Bool.and_eq_true, decide_eq_true_eq] at hcf
    exact hcf.1.1.2
  have hc0 := (h.fit.cr _ (List.getElem_mem hcl)).1
  obtain ⟨aT, aE, cT, cE, eas, m1, _⟩ := h.mem
  have ccr : w.cell? ⟨g, 6 + client, none⟩ = some (.int .i64 s.credit[client]) := by
    rw [(heap_cells m1).1, List.getElem?_toArray]
    exact clu_credit h.fit.credit hget
  have c2 : w.cell? ⟨g, 2, none⟩ = some (.int .i64 s.conf.quantum) := by rw [(heap_cells m1).1]; rfl
  have fz : ∀ x, w.frozen? ⟨g, x, none⟩ = false := (heap_cells m1).2.1
  have hmany := h.fit.many
  rw [hgd] at hcr
  have HV : Hid (visitV s client room = if queueV (visitGo client 65 (credV s client (s.credit[client] + s.conf.quantum)) room []).1.txs client = [] then (credV (visitGo client 65 (credV s client (s.credit[client] + s.conf.quantum)) room []).1 client 0, (visitGo client 65 (credV s client (s.credit[client] + s.conf.quantum)) room []).2) else visitGo client 65 (credV s client (s.credit[client] + s.conf.quantum)) room []) := by
    show _ = _
    unfold visitV
    rw [hgd]
  have HC1 : Hid _ := clu_cred h hc (x := s.credit[client] + s.conf.quantum) ⟨by omega, by omega⟩
  clear h m1 hget hgd
  obtain ⟨hq1, hq8⟩ := hqt
  generalize s.credit[client] = cr at *
  generalize s.conf.quantum = qt at *
  have hw1 : IntKind.i64.wrap (cr + qt) = cr + qt := wrap_i64_id (by omega) (by omega)
  have hcI : (client : Int) < 8 := by omega
  have hcI0 : (0 : Int) ≤ (client : Int) := by omega
  go_enter Tryz.func65, Tryz.ntmps65
  go_wp2
  go_region
  have HCW : Hid (CluAt (w.setCell ⟨g, 6 + client, none⟩ (.int .i64 (cr + qt))).drew g F (credV s client (cr + qt))) := HC1.out.1.below (Below.refl _ _).drew
  have HKW : Hid (Kept F w (w.setCell ⟨g, 6 + client, none⟩ (.int .i64 (cr + qt))).drew) := HC1.out.2.drew
  generalize (w.setCell ⟨g, 6 + client, none⟩ (.int .i64 (cr + qt))).drew = W1 at *
  clear ccr c2 fz HC1
  obtain ⟨s1, hs1⟩ : ∃ x, credV s client (cr + qt) = x := ⟨_, rfl⟩
  rw [hs1] at HCW HV
  clear hs1
  go_wp2_with fail
  refine (front_any g F s1 client room _ HCW.out hc).mono ?_
  rintro e W2 ⟨rfl, hB2⟩
  have H0 : Hid (VisitAt w W2 g F s1 room client 65 s1 room [] none 0 0) := ⟨HCW.out.below hB2, HKW.out.then hB2, rfl, by simp, World.ownsRow_nil _ _ _ _, rfl, by omega⟩
  obtain ⟨fi, hfi⟩ : ∃ x, frontV s1 client room = x := ⟨_, rfl⟩
  rewrite [hfi]
  have HFi : Hid _ := hfi
  clear hB2 HCW HKW hfi
  go_wp2
  go_loopw [2, 8, 9] (fun v2 v8 v9 wr => ∃ (f m c : Nat) (a : Option Addr) (s' : CluV) (l : List RecV) (ro fi : Int), v2 = .int .i64 ro ∧ v8 = .slice a m c ∧ v9 = .int .i64 fi ∧ 0 ≤ ro ∧ (m : Int) + ro ≤ 64 ∧ Hid (frontV s' client ro = fi) ∧ Hid (VisitAt w wr g F s1 room client f s' ro l a m c)) (fun v2 _ _ _ => (intOf v2).toNat)
  case atStart => exact ⟨65, 0, 0, none, s1, [], room, fi, rfl, rfl, rfl, hr0, by omega, HFi, H0⟩
  case round =>
    clear H0 HFi
    obtain ⟨f, m, c, a, s', l, ro, fi', rfl, rfl, rfl, hro, hmro, HFr, HL⟩ := hrel
    by_cases hlt : 0 ≤ fi'
    · obtain ⟨q, t, hfq, htx, hco1, hco2⟩ := front_some (by rw [HFr.out]; exact hlt)
      rw [HFr.out] at hfq
      subst hfq
      have hxl : q < s'.txs.length := (List.getElem?_eq_some_iff.1 htx).1
      have hpt := (HL.out.clu.fit.tx _ (List.mem_of_getElem? htx)).1
      have hcost := cost_le hpt
      obtain ⟨aT, aE, cT, cE, eas, m1, m2, m3, _⟩ := HL.out.clu.mem
      obtain ⟨gT, rfl, hgT, t0, t1, t2, t3, t4, t5, _⟩ := own_tx m2 htx hxl
      have c5 : wr.cell? ⟨g, 5, none⟩ = some (.slice (some ⟨gT, 0, none⟩) s'.txs.length cT) := by rw [(heap_cells m1).1]; rfl
      have hgr := HL.out.clu.block
      have HTx : Hid _ := htx
      have hts : t.t.size ≤ 60 := by
        have h2 := parse_len hpt
        rw [len_list] at h2
        exact h2
      have HPt : Hid _ := hpt
      have x1 : (q : Int) < (s'.txs.length : Int) := by omega
      have hfew := HL.out.clu.fit.few
      have HCo : Hid (_ ∧ _ ∧ _) := ⟨hco1, hco2, hcost⟩
      clear m1 m2 m3 htx hpt hco1 hcost
      obtain ⟨tc, tid, tt, td, ts, te⟩ := t
      simp only at t0 t1 t2 t3 t4 t5 hts hco2
      have HX : Hid ((wr.alloc (.cells #[.int .i64 tc, .int .i64 tid, .string tt, .int .i64 td, .int .i64 ts, .int .i64 te] 140)).heap[wr.heap.size]? = some (.cells #[.int .i64 tc, .int .i64 tid, .string tt, .int .i64 td, .int .i64 ts, .int .i64 te] 140) ∧ Below wr.heap.size wr (wr.alloc (.cells #[.int .i64 tc, .int .i64 tid, .string tt, .int .i64 td, .int .i64 ts, .int .i64 te] 140))) :=
        ⟨heap_at rfl, (Below.refl _ _).alloc (Nat.le_refl _) _⟩
      have htM : tt.size ≤ maxLen := by unfold maxLen; omega
      go_wp2_with fail
      refine (cost_any tt _ htM HPt.out).mono ?_
      rintro e W3 ⟨rfl, hB3⟩
      have hBw : Below wr.heap.size wr W3 := HX.out.2.trans (hB3.mono (by simp))
      have hb3 : W3.heap[wr.heap.size]? = some (.cells #[.int .i64 tc, .int .i64 tid, .string tt, .int .i64 td, .int .i64 ts, .int .i64 te] 140) := (hB3.block _ (by simp)).trans HX.out.1
      have HB3 : Hid (W3.heap[wr.heap.size]? = some (.cells #[.int .i64 tc, .int .i64 tid, .string tt, .int .i64 td, .int .i64 ts, .int .i64 te] 140)) := hb3
      have HC3 : Hid (CluAt W3 g F s') := HL.out.clu.below hBw
      have HK3 : Hid (Kept F w W3) := HL.out.kept.then hBw
      have HO3 : Hid (W3.ownsRow w.heap.size 55 4 (.slice a m c) m (recsCells l)) := own_below HL.out.own hBw
      have hzb : wr.heap.size < W3.heap.size := (heap_cells hb3).2.2
      have hzw : w.heap.size ≤ wr.heap.size := HL.out.kept.size
      have HnF : Hid (¬ F wr.heap.size) := fun hf => by have := HFw.out _ hf; omega
      have HRow : Hid (∀ y, (Value.slice a m c).ownBlock = some y → w.heap.size ≤ y ∧ y < wr.heap.size) := HL.out.own.lt
      clear hBw hb3 hB3 HX t0 t1 t2 t3 t4 t5 c5
      generalize wr.heap.size = gb at *
      have hco1 : (costV tt : Int) ≤ s'.credit.getD client 0 := HCo.out.1
      have hcoa : 1 ≤ costV tt := HCo.out.2.2.1
      have hcob : costV tt ≤ 8 := HCo.out.2.2.2
      clear HCo
      generalize hco : costV tt = co at *
      have HCoE : Hid _ := hco
      clear hco
      have hcl' : client < s'.credit.length := by rw [HC3.out.fit.credit]; exact hc
      have hget := List.getElem?_eq_getElem hcl'
      have hgd : s'.credit.getD client 0 = s'.credit[client] := by rw [List.getD_eq_getElem?_getD, hget]; rfl
      rw [hgd] at hco1
      have hcb := HC3.out.fit.cr _ (List.getElem_mem hcl')
      obtain ⟨aT, aE, cT', cE, eas, m1, _⟩ := HC3.out.mem
      have ccr : W3.cell? ⟨g, 6 + client, none⟩ = some (.int .i64 s'.credit[client]) := by
        rw [(heap_cells m1).1, List.getElem?_toArray]
        exact clu_credit HC3.out.fit.credit hget
      have fz : ∀ x, W3.frozen? ⟨g, x, none⟩ = false := (heap_cells m1).2.1
      have hg3 : g < W3.heap.size := HC3.out.block
      have hmany' := HC3.out.fit.many
      have HGd : Hid _ := hgd
      have HC4 : Hid _ := clu_cred HC3.out hc (x := s'.credit[client] - (co : Int)) ⟨by omega, by omega⟩
      clear m1 hget hgd
      generalize s'.credit[client] = cr' at *
      have hw4 : IntKind.i64.wrap (cr' - (co : Int)) = cr' - (co : Int) := wrap_i64_id (by omega) (by omega)
      obtain ⟨b0, bf, bz⟩ := heap_cells HB3.out
      have hgb : g ≠ gb := fun e => HnF.out (by rw [← e]; exact HC3.out.gF)
      go_wp2
      go_region
      have HW4 : Hid (CluAt (W3.setCell ⟨g, 6 + client, none⟩ (.int .i64 (cr' - (co : Int)))).drew g F (credV s' client (cr' - (co : Int)))) := HC4.out.1.below (Below.refl _ _).drew
      have HK4 : Hid (Kept F w (W3.setCell ⟨g, 6 + client, none⟩ (.int .i64 (cr' - (co : Int)))).drew) := (HK3.out.trans HC4.out.2 (fun _ _ hf => hf)).drew
      have HB4 : Hid ((W3.setCell ⟨g, 6 + client, none⟩ (.int .i64 (cr' - (co : Int)))).drew.heap[gb]? = some (.cells #[.int .i64 tc, .int .i64 tid, .string tt, .int .i64 td, .int .i64 ts, .int .i64 te] 140)) := (Below.heap_setCell _ _ _ _ (by exact fun e => hgb e.symm)).trans HB3.out
      have HO4 : Hid ((W3.setCell ⟨g, 6 + client, none⟩ (.int .i64 (cr' - (co : Int)))).drew.ownsRow w.heap.size 55 4 (.slice a m c) m (recsCells l)) := own_kept HO3.out HC4.out.2.drew HFw.out
      generalize (W3.setCell ⟨g, 6 + client, none⟩ (.int .i64 (cr' - (co : Int)))).drew = W4 at *
      clear b0 bf bz ccr fz HC4
      obtain ⟨b0, bf, bz⟩ := heap_cells HB4.out
      have b1 : W4.cell? ⟨gb, 1, none⟩ = some (.int .i64 tid) := by rw [b0]; rfl
      have b2 : W4.cell? ⟨gb, 2, none⟩ = some (.string tt) := by rw [b0]; rfl
      have hzW4 : w.heap.size ≤ W4.heap.size := HK4.out.size
      clear b0
      go_wp2_with (at_builtin; refine wpList_append_lies _ rfl (.tmp 64) (.tmp 71) 38 rfl w.heap.size 55 ti (.agg #[.int .i64 0, .int .i64 0, .bool false, .string ⟨#[]⟩]) 4 40 Tryz.underlying38 HI.out.1 HI.out.2.1 HI.out.2.2.1 HI.out.2.2.2 rfl (by decide) (.slice a m c) m (recsCells l) rfl (HO4.out.alloc _) ⟨W4.heap.size, 0, none⟩ 1 1 [.int .i64 (client : Int), .int .i64 tid, .bool false, .string tt] rfl rfl ?c1 ?c2 ?c3 ?c4 ?c5 ?c6 _ rfl ?_)
      try (case c1 => exact cells_new _ _ rfl [.int .i64 (client : Int), .int .i64 tid, .bool false, .string tt] _)
      try (case c2 => intro u hu; simp at hu; rcases hu with rfl | rfl | rfl | rfl <;> rfl)
      try (case c3 => decide)
      try (case c4 => unfold maxLen; omega)
      try (case c5 => omega)
      try (case c6 => first | omega | (simp; omega))
      intro gN cap W5 hown7 hgr7 hat7 hlt7
      have hzx : (W4.alloc (.cells #[.int .i64 (client : Int), .int .i64 tid, .bool false, .string tt] 55)).heap.size = W4.heap.size + 1 := by simp
      have hsame7 : ∀ y, y < W4.heap.size → (Value.slice a m c).ownBlock ≠ some y → W5.heap[y]? = W4.heap[y]? := fun y hy hne => (hgr7.block y (by rw [hzx]; omega) (fun hh => hne hh.symm)).trans (heap_old hy)
      have HC5 : Hid (CluAt W5 g F (credV s' client (cr' - (co : Int)))) := HW4.out.same (by have := hgr7.size; rw [hzx] at this; omega) (fun y hy => hsame7 y (HW4.out.own y hy) (fun hh => by have := (HRow.out y hh).1; have := HFw.out y hy; omega))
      have HK5 : Hid (Kept F w W5) := (HK4.out.then ((Below.refl _ _).alloc (Nat.le_refl _) _)).grown hgr7 (fun y hy => .inr (HRow.out y hy).1)
      have HB5 : Hid (W5.heap[gb]? = some (.cells #[.int .i64 tc, .int .i64 tid, .string tt, .int .i64 td, .int .i64 ts, .int .i64 te] 140)) := (hsame7 gb bz (fun hh => by have := (HRow.out gb hh).2; omega)).trans HB4.out
      have HO5 : Hid (W5.ownsRow w.heap.size 55 4 (.slice (some ⟨gN, 0, none⟩) (m + 1) cap) (m + 1) (recsCells (l ++ [⟨client, tid, false, tt⟩]))) := by
        show World.ownsRow _ _ _ _ _ _ _
        rw [recsCells_snoc]; exact hown7
      clear hown7 hgr7 hat7 hlt7 hsame7 hzx b1 b2 bf bz
      obtain ⟨z0, z1, z2, z3, z4, z5, z6, z7, hzs⟩ := list8' s'.cells HL.out.clu.fit.cells
      have h16 : Dk.All16 [z0, z1, z2, z3, z4, z5, z6, z7] := by rw [← hzs]; exact HL.out.clu.fit.c16
      obtain ⟨aT, aE, cT'', cE, eas, m1, _⟩ := HC5.out.mem
      have hcell : ∀ k x, [z0, z1, z2, z3, z4, z5, z6, z7][k]? = some x → W5.cell? ⟨g, 16 + k, none⟩ = some (.int .i64 x) := fun k x hk => by
        rw [(heap_cells m1).1, List.getElem?_toArray]
        exact clu_cells HC5.out.fit.credit HC5.out.fit.cells (by show s'.cells[k]? = some x; rw [hzs]; exact hk)
      have e0 : W5.cell? ⟨g, 16, none⟩ = some (.int .i64 z0) := hcell 0 z0 rfl
      have e1 : W5.cell? ⟨g, 17, none⟩ = some (.int .i64 z1) := hcell 1 z1 rfl
      have e2 : W5.cell? ⟨g, 18, none⟩ = some (.int .i64 z2) := hcell 2 z2 rfl
      have e3 : W5.cell? ⟨g, 19, none⟩ = some (.int .i64 z3) := hcell 3 z3 rfl
      have e4 : W5.cell? ⟨g, 20, none⟩ = some (.int .i64 z4) := hcell 4 z4 rfl
      have e5 : W5.cell? ⟨g, 21, none⟩ = some (.int .i64 z5) := hcell 5 z5 rfl
      have e6 : W5.cell? ⟨g, 22, none⟩ = some (.int .i64 z6) := hcell 6 z6 rfl
      have e7 : W5.cell? ⟨g, 23, none⟩ = some (.int .i64 z7) := hcell 7 z7 rfl
      have b2 : W5.cell? ⟨gb, 2, none⟩ = some (.string tt) := by rw [(heap_cells HB5.out).1]; rfl
      have hg5 : g < W5.heap.size := HC5.out.block
      have hgb5 : gb < W5.heap.size := (heap_cells HB5.out).2.2
      have HZ : Hid (_ ∧ _) := ⟨hzs, h16⟩
      clear m1 hcell hzs h16
      obtain ⟨y0, y1, y2, y3, y4, y5, y6, y7, dn, hdo, hy16⟩ : ∃ y0 y1 y2 y3 y4 y5 y6 y7 dn, ([y0, y1, y2, y3, y4, y5, y6, y7], dn) = Dk.doV tt.data.toList [z0, z1, z2, z3, z4, z5, z6, z7] ∧ (([y0, y1, y2, y3, y4, y5, y6, y7], dn) = Dk.doV tt.data.toList [z0, z1, z2, z3, z4, z5, z6, z7] → True) := by
        obtain ⟨o0, o1, o2, o3, o4, o5, o6, o7, ho⟩ := list8' (Dk.doV tt.data.toList [z0, z1, z2, z3, z4, z5, z6, z7]).1 (doV_len _ rfl)
        exact ⟨o0, o1, o2, o3, o4, o5, o6, o7, (Dk.doV tt.data.toList [z0, z1, z2, z3, z4, z5, z6, z7]).2, by rw [← ho], fun _ => trivial⟩
      have HCd : Hid (∀ W, Calls Tryz.prog 50 #[.string tt, .agg #[.int .i64 z0, .int .i64 z1, .int .i64 z2, .int .i64 z3, .int .i64 z4, .int .i64 z5, .int .i64 z6, .int .i64 z7]] W fun e w' => (e = .returned (.tuple #[.agg #[.int .i64 y0, .int .i64 y1, .int .i64 y2, .int .i64 y3, .int .i64 y4, .int .i64 y5, .int .i64 y6, .int .i64 y7], .bool dn]) ∧ Dk.All16 [y0, y1, y2, y3, y4, y5, y6, y7]) ∧ Below W.heap.size W w' ∧ (∀ b x, b < W.heap.size → w'.cell? ⟨b, x, none⟩ = W.cell? ⟨b, x, none⟩) ∧ (∀ b x, b < W.heap.size → w'.frozen? ⟨b, x, none⟩ = W.frozen? ⟨b, x, none⟩) ∧ W.heap.size ≤ w'.heap.size) := fun W =>
        (rdo_any tt z0 z1 z2 z3 z4 z5 z6 z7 W htM HPt.out HZ.out.2).mono (by
          rintro e w' ⟨p0, p1, p2, p3, p4, p5, p6, p7, pd, rfl, hp, h16, hb⟩
          rw [← hdo] at hp
          simp only [Prod.mk.injEq, List.cons.injEq, and_true] at hp
          obtain ⟨⟨rfl, rfl, rfl, rfl, rfl, rfl, rfl, rfl⟩, rfl⟩ := hp
          exact ⟨⟨rfl, h16⟩, hb, (bcell hb).1, (bcell hb).2, hb.size⟩)
      have HDo : Hid _ := hdo
      clear hdo hy16
      go_wp2
      go_region_held3 (fun W => Below W5.heap.size W5 W ∧ (∀ b x, b < W5.heap.size → W.cell? ⟨b, x, none⟩ = W5.cell? ⟨b, x, none⟩))
        (first | (with_reducible exact doS_0) | (with_reducible exact doS_1) | (with_reducible exact doS_2 ‹_›) | (with_reducible exact doS_3 ‹_›) | (with_reducible exact doS_4 ‹_›) | (with_reducible exact doS_5 ‹_›))
        (first | (go_at_call 50; refine (HCd.out _).mono ?_; rintro e w9 ⟨⟨rfl, hy16⟩, hB9, hc9, hf9, hz9⟩))
      all_goals
        first
        | (have hX : Below W5.heap.size W5 (w9.alloc (.cells #[.int .i64 y0, .int .i64 y1, .int .i64 y2, .int .i64 y3, .int .i64 y4, .int .i64 y5, .int .i64 y6, .int .i64 y7] 109)) ∧ (w9.alloc (.cells #[.int .i64 y0, .int .i64 y1, .int .i64 y2, .int .i64 y3, .int .i64 y4, .int .i64 y5, .int .i64 y6, .int .i64 y7] 109)).heap[w9.heap.size]? = some (.cells #[.int .i64 y0, .int .i64 y1, .int .i64 y2, .int .i64 y3, .int .i64 y4, .int .i64 y5, .int .i64 y6, .int .i64 y7] 109) := ⟨(doS_4 hB9).1, heap_alloc_new w9 _⟩
           clear hB9 hc9 hf9 hz9
           generalize w9.heap.size = gc at *
           generalize w9.alloc (.cells #[.int .i64 y0, .int .i64 y1, .int .i64 y2, .int .i64 y3, .int .i64 y4, .int .i64 y5, .int .i64 y6, .int .i64 y7] 109) = W6 at *)
        | (have hX : Below W5.heap.size W5 ((((((((w9.setCell ⟨W5.heap.size, 0, none⟩ (.int .i64 y0)).setCell ⟨W5.heap.size, 1, none⟩ (.int .i64 y1)).setCell ⟨W5.heap.size, 2, none⟩ (.int .i64 y2)).setCell ⟨W5.heap.size, 3, none⟩ (.int .i64 y3)).setCell ⟨W5.heap.size, 4, none⟩ (.int .i64 y4)).setCell ⟨W5.heap.size, 5, none⟩ (.int .i64 y5)).setCell ⟨W5.heap.size, 6, none⟩ (.int .i64 y6)).setCell ⟨W5.heap.size, 7, none⟩ (.int .i64 y7)) ∧ ((((((((w9.setCell ⟨W5.heap.size, 0, none⟩ (.int .i64 y0)).setCell ⟨W5.heap.size, 1, none⟩ (.int .i64 y1)).setCell ⟨W5.heap.size, 2, none⟩ (.int .i64 y2)).setCell ⟨W5.heap.size, 3, none⟩ (.int .i64 y3)).setCell ⟨W5.heap.size, 4, none⟩ (.int .i64 y4)).setCell ⟨W5.heap.size, 5, none⟩ (.int .i64 y5)).setCell ⟨W5.heap.size, 6, none⟩ (.int .i64 y6)).setCell ⟨W5.heap.size, 7, none⟩ (.int .i64 y7)).heap[W5.heap.size]? = some (.cells #[.int .i64 y0, .int .i64 y1, .int .i64 y2, .int .i64 y3, .int .i64 y4, .int .i64 y5, .int .i64 y6, .int .i64 y7] 109) := ⟨(doS_5 hB9).1, set8 ((hB9.block W5.heap.size (by show _ < (W5.alloc _).heap.size; simp)).trans (heap_alloc_new W5 _)) (.int .i64 y0) (.int .i64 y1) (.int .i64 y2) (.int .i64 y3) (.int .i64 y4) (.int .i64 y5) (.int .i64 y6) (.int .i64 y7)⟩
           clear hB9 hc9 hf9 hz9
           generalize hgc : W5.heap.size = gc at *
           generalize (((((((((w9.setCell ⟨gc, 0, none⟩ (.int .i64 y0)).setCell ⟨gc, 1, none⟩ (.int .i64 y1)).setCell ⟨gc, 2, none⟩ (.int .i64 y2)).setCell ⟨gc, 3, none⟩ (.int .i64 y3)).setCell ⟨gc, 4, none⟩ (.int .i64 y4)).setCell ⟨gc, 5, none⟩ (.int .i64 y5)).setCell ⟨gc, 6, none⟩ (.int .i64 y6)).setCell ⟨gc, 7, none⟩ (.int .i64 y7))) = W6 at *
           obtain ⟨hX1, hX2⟩ := hX
           rw [← hgc] at hX1 hg5 hgb5
           have hX := And.intro hX1 hX2
           clear hgc hX1 hX2)
        have HC6 : Hid (CluAt W6 g F (credV s' client (cr' - (co : Int)))) := HC5.out.below hX.1
        have HK6 : Hid (Kept F w W6) := HK5.out.then hX.1
        have HO6 : Hid (W6.ownsRow w.heap.size 55 4 (.slice (some ⟨gN, 0, none⟩) (m + 1) cap) (m + 1) (recsCells (l ++ [⟨client, tid, false, tt⟩]))) := own_below HO5.out hX.1
        have hg6 : g < W6.heap.size := HC6.out.block
        have f6 : ∀ x, W6.frozen? ⟨g, x, none⟩ = false := by
          obtain ⟨_, _, _, _, _, m1, _⟩ := HC6.out.mem
          exact (heap_cells m1).2.1
        have p0 := (hX.1.cell (p := ⟨g, 16, none⟩) hg5).trans e0
        have p1 := (hX.1.cell (p := ⟨g, 17, none⟩) hg5).trans e1
        have p2 := (hX.1.cell (p := ⟨g, 18, none⟩) hg5).trans e2
        have p3 := (hX.1.cell (p := ⟨g, 19, none⟩) hg5).trans e3
        have p4 := (hX.1.cell (p := ⟨g, 20, none⟩) hg5).trans e4
        have p5 := (hX.1.cell (p := ⟨g, 21, none⟩) hg5).trans e5
        have p6 := (hX.1.cell (p := ⟨g, 22, none⟩) hg5).trans e6
        have p7 := (hX.1.cell (p := ⟨g, 23, none⟩) hg5).trans e7
        obtain ⟨cg, fg, zg⟩ := heap_cells hX.2
        have HC7 : Hid _ := clu_cellsput HC6.out y0 y1 y2 y3 y4 y5 y6 y7 hy16
        have HTx7 : Hid ((cellsV (credV s' client (cr' - (co : Int))) [y0, y1, y2, y3, y4, y5, y6, y7]).txs[q]? = some ⟨tc, tid, tt, td, ts, te⟩) := HTx.out
        have HRd : Hid (roundV s' client q ⟨tc, tid, tt, td, ts, te⟩ = endsV (cellsV (credV s' client (cr' - (co : Int))) [y0, y1, y2, y3, y4, y5, y6, y7]) q (if dn then 1 else 2)) := by
          show _ = _
          unfold roundV
          show endsV (cellsV (credV s' client (s'.credit.getD client 0 - (costV tt : Nat))) (Dk.doV tt.data.toList s'.cells).1) q (if (Dk.doV tt.data.toList s'.cells).2 then 1 else 2) = _
          rw [HZ.out.1, ← HDo.out, HGd.out, HCoE.out]
        clear hX
        cases dn
        all_goals
          go_wp2_with fail
          have HC8 : Hid (CluAt ((((((((W6.setCell ⟨g, 16, none⟩ (.int .i64 y0)).setCell ⟨g, 17, none⟩ (.int .i64 y1)).setCell ⟨g, 18, none⟩ (.int .i64 y2)).setCell ⟨g, 19, none⟩ (.int .i64 y3)).setCell ⟨g, 20, none⟩ (.int .i64 y4)).setCell ⟨g, 21, none⟩ (.int .i64 y5)).setCell ⟨g, 22, none⟩ (.int .i64 y6)).setCell ⟨g, 23, none⟩ (.int .i64 y7)) g F (cellsV (credV s' client (cr' - (co : Int))) [y0, y1, y2, y3, y4, y5, y6, y7]) ∧ Kept F w ((((((((W6.setCell ⟨g, 16, none⟩ (.int .i64 y0)).setCell ⟨g, 17, none⟩ (.int .i64 y1)).setCell ⟨g, 18, none⟩ (.int .i64 y2)).setCell ⟨g, 19, none⟩ (.int .i64 y3)).setCell ⟨g, 20, none⟩ (.int .i64 y4)).setCell ⟨g, 21, none⟩ (.int .i64 y5)).setCell ⟨g, 22, none⟩ (.int .i64 y6)).setCell ⟨g, 23, none⟩ (.int .i64 y7))) := ⟨HC7.out.1, HK6.out.trans HC7.out.2 (fun _ _ hf => hf)⟩
          have HO7 : Hid (((((((((W6.setCell ⟨g, 16, none⟩ (.int .i64 y0)).setCell ⟨g, 17, none⟩ (.int .i64 y1)).setCell ⟨g, 18, none⟩ (.int .i64 y2)).setCell ⟨g, 19, none⟩ (.int .i64 y3)).setCell ⟨g, 20, none⟩ (.int .i64 y4)).setCell ⟨g, 21, none⟩ (.int .i64 y5)).setCell ⟨g, 22, none⟩ (.int .i64 y6)).setCell ⟨g, 23, none⟩ (.int .i64 y7)).ownsRow w.heap.size 55 4 (.slice (some ⟨gN, 0, none⟩) (m + 1) cap) (m + 1) (recsCells (l ++ [⟨client, tid, false, tt⟩]))) := own_kept HO6.out HC7.out.2 HFw.out
          clear HC7 p0 p1 p2 p3 p4 p5 p6 p7 cg fg f6
          generalize ((((((((W6.setCell ⟨g, 16, none⟩ (.int .i64 y0)).setCell ⟨g, 17, none⟩ (.int .i64 y1)).setCell ⟨g, 18, none⟩ (.int .i64 y2)).setCell ⟨g, 19, none⟩ (.int .i64 y3)).setCell ⟨g, 20, none⟩ (.int .i64 y4)).setCell ⟨g, 21, none⟩ (.int .i64 y5)).setCell ⟨g, 22, none⟩ (.int .i64 y6)).setCell ⟨g, 23, none⟩ (.int .i64 y7)) = W7 at *
          refine (ends_any g F (cellsV (credV s' client (cr' - (co : Int))) [y0, y1, y2, y3, y4, y5, y6, y7]) q ⟨tc, tid, tt, td, ts, te⟩ _ W7 HC8.out.1 HTx7.out).mono ?_
          rintro e W8 ⟨rfl, hC9, hK9⟩
          have HC9 : Hid _ := hC9
          have HK9 : Hid (Kept F w W8) := HC8.out.2.trans hK9 (fun _ _ hf => hf)
          have HO9 : Hid (W8.ownsRow w.heap.size 55 4 (.slice (some ⟨gN, 0, none⟩) (m + 1) cap) (m + 1) (recsCells (l ++ [⟨client, tid, false, tt⟩]))) := own_kept HO7.out hK9 HFw.out
          clear hC9 hK9
          go_wp2_with fail
          have HC9' : Hid (CluAt W8 g F (roundV s' client q ⟨tc, tid, tt, td, ts, te⟩)) := by
            show CluAt _ _ _ _
            rw [HRd.out]; exact HC9.out
          refine (front_any g F (roundV s' client q ⟨tc, tid, tt, td, ts, te⟩) client (ro - (co : Int)) _ HC9'.out hc).mono ?_
          rintro e W9 ⟨rfl, hB10⟩
          obtain ⟨f', rfl⟩ : ∃ j, f = j + 1 := ⟨f - 1, by have := HL.out.fuel; omega⟩
          have HVn : Hid (VisitAt w W9 g F s1 room client f' (roundV s' client q ⟨tc, tid, tt, td, ts, te⟩) (ro - (co : Int)) (l ++ [⟨client, tid, false, tt⟩]) (some ⟨gN, 0, none⟩) (m + 1) cap) := by
            rw [HRd.out]
            refine ⟨HC9.out.below hB10, HK9.out.then hB10, by rw [List.length_append, HL.out.len]; rfl, ?_, own_below HO9.out hB10, ?_, by have := HL.out.fuel; omega⟩
            · intro r hr
              rcases List.mem_append.1 hr with hr | hr
              · exact HL.out.small r hr
              · have : r = ⟨client, tid, false, tt⟩ := by simpa using hr
                subst this
                exact htM
            · have h9 := visit_go (k := f') (l := l) HFr.out HTx.out
              rw [HRd.out] at h9
              rw [HL.out.left, h9]
              show visitGo client f' _ (ro - (costV tt : Nat)) _ = _
              rw [HCoE.out]
          obtain ⟨fn, hfn⟩ : ∃ x, frontV (roundV s' client q ⟨tc, tid, tt, td, ts, te⟩) client (ro - (co : Int)) = x := ⟨_, rfl⟩
          have HFn : Hid _ := hfn
          rewrite [hfn]
          clear hfn hB10
          go_wp2
          go_roundw
          case rel => exact ⟨f', m + 1, cap, some ⟨gN, 0, none⟩, _, _, ro - (co : Int), fn, rfl, rfl, rfl, by omega, by omega, HFn, HVn⟩
          case measure => simp [intOf]; omega
    · have hst : frontV s' client ro < 0 := by rw [HFr.out]; omega
      have HEx : Hid (visitGo client 65 s1 room [] = (s', l, ro)) := by
        show _ = _
        rw [HL.out.left]
        exact visit_stop hst
      have hlt' : fi' < 0 := by omega
      clear hst
      go_wp2_with fail
      refine (queue_any g F s' client _ HL.out.clu).mono ?_
      rintro e W3 ⟨aQ, cQ, rfl, hQ⟩
      have HB3 : Hid _ := hQ.bel
      have HC3 : Hid (CluAt W3 g F s') := HL.out.clu.below hQ.bel
      have HK3 : Hid (Kept F w W3) := HL.out.kept.then hQ.bel
      have HO3 : Hid (W3.ownsRow w.heap.size 55 4 (.slice a m c) m (recsCells l)) := own_below HL.out.own hQ.bel
      clear hQ
      cases hq : queueV s'.txs client with
      | nil =>
        have HVx : Hid (visitV s client room = (credV s' client 0, l, ro)) := by
          show _ = _
          rw [HV.out, HEx.out]
          simp only [hq]
          rfl
        have hmany' := HC3.out.fit.many
        have HC4 : Hid _ := clu_cred HC3.out hc (x := 0) ⟨Int.le_refl _, by omega⟩
        have hg3 := HC3.out.block
        obtain ⟨aT, aE, cT, cE, eas, m1, _⟩ := HC3.out.mem
        have hcl' : client < s'.credit.length := by rw [HC3.out.fit.credit]; exact hc
        have ccr : W3.cell? ⟨g, 6 + client, none⟩ = some (.int .i64 s'.credit[client]) := by
          rw [(heap_cells m1).1, List.getElem?_toArray]
          exact clu_credit HC3.out.fit.credit (List.getElem?_eq_getElem hcl')
        have fz : ∀ x, W3.frozen? ⟨g, x, none⟩ = false := (heap_cells m1).2.1
        clear m1 hq
        generalize s'.credit[client] = cr' at *
        go_wp2
        go_ret2
        refine ⟨a, m, c, by rw [HVx.out]; rfl, by rw [HVx.out]; exact HC4.out.1, HK3.out.trans HC4.out.2 (fun _ _ hf => hf), by rw [HVx.out]; exact HL.out.len, by rw [HVx.out]; exact HL.out.small, ?_⟩
        rw [HVx.out]
        exact own_kept HO3.out HC4.out.2 HFw.out
      | cons x qs =>
        have HVx : Hid (visitV s client room = (s', l, ro)) := by
          show _ = _
          rw [HV.out, HEx.out]
          simp only [hq]
          rfl
        have hql : (((x :: qs).length : Int) == 0) = false := by rw [beq_eq_false_iff_ne, List.length_cons]; omega
        have hqI : (0 : Int) < ((x :: qs).length : Int) := by rw [List.length_cons]; omega
        clear hq
        generalize (x :: qs).length = ql at *
        go_wp2
        go_ret2
        exact ⟨a, m, c, by rw [HVx.out]; rfl, by rw [HVx.out]; exact HC3.out, HK3.out, by rw [HVx.out]; exact HL.out.len, by rw [HVx.out]; exact HL.out.small, by rw [HVx.out]; exact HO3.out⟩

end Go.Proofs.YtccckonckddadabGreat
