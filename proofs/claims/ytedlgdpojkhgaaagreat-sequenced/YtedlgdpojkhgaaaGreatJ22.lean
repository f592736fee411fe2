import Derived.Test.YtedlgdpojkhgaaaGreatJ21
namespace Go.Proofs.YtedlgdpojkhgaaaGreat
open Go.RowKit
set_option linter.unusedVariables false

/-! ### Cost, front -/
def costV (t : ByteArray) : Nat := (Dk.splitAll 59 (Dk.cutAt 124 t.data.toList).2.1).length

theorem cost_any (t : ByteArray) (w : World) (ht : t.size ≤ maxLen) (hok : Dk.parseOk t.data.toList = true) :
    Calls Tryz.prog 93 #[.string t] w fun e w' => e = .returned (.int .i64 (costV t : Int)) ∧ Below w.heap.size w w' := by
  have HK : Hid _ := hok
  clear hok
  go_enter Tryz.func93, Tryz.ntmps93
  go_wp2_with fail
  refine (parts_any t _ ht).mono ?_
  rintro e w1 ⟨mk, a, n, c, ps, rfl, hy, _, hB⟩
  have HN : Hid (n = costV t) := by
    show _ = _
    obtain ⟨_, h2, h3, _⟩ := hy HK.out
    unfold costV
    rw [← h3, h2]
    unfold lists
    rw [List.length_map]
  have HB : Hid _ := hB
  clear hy hB
  go_wp2
  go_ret
  exact ⟨by rw [← HN.out]; rfl, HB.out⟩

theorem split_pos (l : List UInt8) : 1 ≤ (Dk.splitAll 59 l).length := by
  rw [Dk.splitAll_cut 59 l]
  simp
theorem cost_le {t : ByteArray} (hok : Dk.parseOk t.data.toList = true) : 1 ≤ costV t ∧ costV t ≤ 8 := by
  refine ⟨split_pos _, ?_⟩
  unfold Dk.parseOk at hok
  rw [Bool.and_eq_true] at hok
  have h := hok.2
  unfold Dk.opsOk at h
  rw [Bool.and_eq_true, decide_eq_true_eq] at h
  exact h.1

def frontV (s : CluV) (client : Nat) (room : Int) : Int :=
  match queueV s.txs client with
  | [] => -1
  | q :: _ => match s.txs[q]? with
    | none => -1
    | some t => if s.credit.getD client 0 < (costV t.t : Int) ∨ room < (costV t.t : Int) then (-1 : Int) else (q : Int)

set_option maxRecDepth 100000 in
set_option maxHeartbeats 4000000 in
theorem front_any (g : Nat) (F : Nat → Prop) (s : CluV) (client : Nat) (room : Int) (w : World) (h : CluAt w g F s) (hc : client < 8) :
    Calls Tryz.prog 92 #[.pointer (some ⟨g, 0, none⟩), .int .i64 client, .int .i64 room] w fun e w' => e = .returned (.int .i64 (frontV s client room)) ∧ Below w.heap.size w w' := by
  have hg := h.block
  have hfew := h.fit.few
  have H : Hid _ := h
  clear h
  go_enter Tryz.func92, Tryz.ntmps92
  go_wp2_with fail
  refine (queue_any g F s client _ H.out).mono ?_
  rintro e w1 ⟨aQ, cQ, rfl, hQ⟩
  have HV : Hid (frontV s client room = match queueV s.txs client with | [] => -1 | q :: _ => match s.txs[q]? with | none => -1 | some t => if s.credit.getD client 0 < (costV t.t : Int) ∨ room < (costV t.t : Int) then (-1 : Int) else (q : Int)) := rfl
  have HQM : Hid ((queueV s.txs client).length ≤ 1000000) := Nat.le_trans (queue_len client s.txs 0) hfew
  have HLt : Hid (∀ x ∈ queueV s.txs client, x < s.txs.length) := fun x hx => by have := queue_lt client s.txs 0 x hx; omega
  generalize queueV s.txs client = q at *
  have hqM := HQM.out
  have HQ : Hid _ := hQ
  clear hQ
  cases q with
  | nil =>
    have HF : Hid (frontV s client room = -1) := HV.out
    clear HV HLt
    go_wp2
    go_ret
    exact ⟨by rw [HF.out]; rfl, HQ.out.bel⟩
  | cons x qs =>
    have hxl : x < s.txs.length := HLt.out x (by simp)
    have htx := List.getElem?_eq_getElem hxl
    obtain ⟨gQ, rfl, hgQ, d0⟩ := nat_cell (k := 0) (x := x) HQ.out.own rfl (by simp)
    have hB := HQ.out.bel
    obtain ⟨aT, aE, cT, cE, eas, m1, m2, m3, _⟩ := (H.out.below hB).mem
    obtain ⟨gT, rfl, hgT, _, _, t2, _⟩ := own_tx m2 htx hxl
    have c5 : w1.cell? ⟨g, 5, none⟩ = some (.slice (some ⟨gT, 0, none⟩) s.txs.length cT) := by rw [(heap_cells m1).1]; rfl
    have hcl : client < s.credit.length := by rw [H.out.fit.credit]; exact hc
    have hcr := List.getElem?_eq_getElem hcl
    have ccr : w1.cell? ⟨g, 6 + client, none⟩ = some (.int .i64 s.credit[client]) := by
      rw [(heap_cells m1).1, List.getElem?_toArray]
      exact clu_credit H.out.fit.credit hcr
    have hpt := (H.out.fit.tx _ (List.mem_of_getElem? htx)).1
    have hsz : s.txs[x].t.size ≤ maxLen := by
      have h2 := parse_len hpt
      rw [len_list] at h2
      unfold maxLen; omega
    have HV2 : Hid (frontV s client room = if s.credit[client] < (costV s.txs[x].t : Int) ∨ room < (costV s.txs[x].t : Int) then (-1 : Int) else (x : Int)) := by
      show _ = _
      rw [HV.out]
      simp only [htx]
      rw [List.getD_eq_getElem?_getD, hcr]; rfl
    have hg1 : g < w1.heap.size := Nat.lt_of_lt_of_le hg hB.size
    have HB : Hid _ := hB
    have HPt : Hid (_ ∧ _) := ⟨hpt, hsz⟩
    have HQ2 : Hid (Dk.parseOk s.txs[x].t.data.toList = true → True) := fun _ => trivial
    clear m1 m2 m3 htx hcr hpt hsz HV HLt hB HQ2
    generalize s.credit[client] = cr at *
    generalize s.txs[x].t = t at *
    have x1 : (x : Int) < (s.txs.length : Int) := by omega
    have x0 : (0 : Int) ≤ (x : Int) := by omega
    have hcI : (client : Int) < 8 := by omega
    have hcI0 : (0 : Int) ≤ (client : Int) := by omega
    have hql : 0 < (x :: qs).length := by simp
    generalize (x :: qs).length = ql at *
    have hqb : ((ql : Int) == 0) = false := by rw [beq_eq_false_iff_ne]; omega
    have hqI : (0 : Int) < (ql : Int) := by omega
    go_wp2
    go_region_held3 (fun W => Below w1.heap.size w1 W ∧ (∀ b x, b < w1.heap.size → W.cell? ⟨b, x, none⟩ = w1.cell? ⟨b, x, none⟩))
      (first | (with_reducible exact doS_0) | (with_reducible exact doS_2 ‹_›))
      (first | (go_at_call 93; refine (cost_any t _ HPt.out.2 HPt.out.1).mono ?_; rintro e w9 ⟨rfl, hB9⟩))
    have hB10 := (doS_2 hB9).1
    have f0 := (hB10.cell (p := ⟨gQ, 0, none⟩) hgQ).trans d0
    have fcr := (hB10.cell (p := ⟨g, 6 + client, none⟩) hg1).trans ccr
    have hg9 : g < w9.heap.size := Nat.lt_of_lt_of_le hg1 hB10.size
    have hgQ9 : gQ < w9.heap.size := Nat.lt_of_lt_of_le hgQ hB10.size
    have HB9 : Hid (Below w.heap.size w w9) := HB.out.trans (hB10.mono HB.out.size)
    clear hB9 hB10 c5 t2
    generalize costV t = co at *
    by_cases h1 : cr < (co : Int)
    · have HF : Hid (frontV s client room = -1) := by
        show _ = _
        rw [HV2.out, if_pos (.inl h1)]
      clear HV2
      go_wp2
      go_ret
      exact ⟨by rw [HF.out]; rfl, HB9.out⟩
    · have h1' : (co : Int) ≤ cr := by omega
      by_cases h2 : room < (co : Int)
      · have HF : Hid (frontV s client room = -1) := by
          show _ = _
          rw [HV2.out, if_pos (.inr h2)]
        clear HV2
        go_wp2
        go_ret
        exact ⟨by rw [HF.out]; rfl, HB9.out⟩
      · have h2' : (co : Int) ≤ room := by omega
        have HF : Hid (frontV s client room = (x : Int)) := by
          show _ = _
          rw [HV2.out, if_neg (by omega)]
        clear HV2
        go_wp2
        go_ret
        exact ⟨by rw [HF.out]; rfl, HB9.out⟩

end Go.Proofs.YtedlgdpojkhgaaaGreat
namespace Go.Proofs.YtedlgdpojkhgaaaGreat
open Go.RowKit
set_option linter.unusedVariables false

/-! ### A cluster's own block is written -/
theorem clu_block {w w' : World} {g : Nat} {F : Nat → Prop} {s s' : CluV} (h : CluAt w g F s) (hfit : CluFit s') (ht : s'.txs = s.txs) (he : s'.epochs = s.epochs) (hsz : w.heap.size ≤ w'.heap.size) (hother : ∀ k, k ≠ g → k < w.heap.size → w'.heap[k]? = w.heap[k]?)
    (hblk : ∀ vT vE, w.heap[g]? = some (.cells (cluCells s vT vE).toArray 111) → w'.heap[g]? = some (.cells (cluCells s' vT vE).toArray 111)) : CluAt w' g F s' := by
  obtain ⟨aT, aE, cT, cE, eas, h1, h2, h3, h4, h5, h6, h7⟩ := h.mem
  refine ⟨hfit, h.gF, fun k hk => Nat.lt_of_lt_of_le (h.own k hk) hsz, aT, aE, cT, cE, eas, ?_, ?_, ?_, ?_, ?_, ?_, ?_⟩
  · rw [ht, he]; exact hblk _ _ h1
  · rw [ht]; exact own_same h2 (fun k hk => hother k (h3 k hk).2 (h.own k (h3 k hk).1))
  · rw [ht]; exact h3
  · rw [he]; exact own_same h4 (fun k hk => hother k (h5 k hk).2.1 (h.own k (h5 k hk).1))
  · rw [ht, he]; exact h5
  · rw [he]; exact h6
  · rw [ht, he]
    intro i a rs ha hr
    obtain ⟨r1, r2⟩ := h7 i a rs ha hr
    exact ⟨r1.same hsz (fun ad had => hother _ (r2 ad had).2.1 (h.own _ (r2 ad had).1)), r2⟩

theorem clu_put {w : World} {g : Nat} {F : Nat → Prop} {s s' : CluV} (h : CluAt w g F s) (hfit : CluFit s') (ht : s'.txs = s.txs) (he : s'.epochs = s.epochs) {j : Nat} {v : Value} (hs : ∀ vT vE, (cluCells s vT vE).set j v = cluCells s' vT vE) :
    CluAt (w.setCell ⟨g, j, none⟩ v) g F s' ∧ Kept F w (w.setCell ⟨g, j, none⟩ v) := by
  refine ⟨clu_block h hfit ht he (by simp [World.setCell]) (fun k hk _ => Below.heap_setCell _ _ _ _ (by exact hk)) (fun vT vE hb => ?_), (Kept.refl F w).set (.inl h.gF) _⟩
  rw [heap_set hb, List.setIfInBounds_toArray, hs]

/-! ### A client's credit -/
def credV (s : CluV) (c : Nat) (x : Int) : CluV := { s with credit := s.credit.set c x }
theorem fit_cred {s : CluV} (h : CluFit s) {c : Nat} {x : Int} (hx : 0 ≤ x ∧ x ≤ 8 * ((s.epochs.length : Int) + 1)) : CluFit (credV s c x) := by
  refine ⟨h.conf, ?_, h.cells, h.reps, h.many, h.first0, h.first1, h.few, h.tx, h.once, h.ep, h.c16, ?_⟩
  · show (s.credit.set c x).length = 8
    rw [List.length_set]; exact h.credit
  · intro y hy
    rcases List.mem_or_eq_of_mem_set hy with hy | rfl
    · exact h.cr y hy
    · exact hx
theorem clu_cred {w : World} {g : Nat} {F : Nat → Prop} {s : CluV} (h : CluAt w g F s) {c : Nat} (hc : c < 8) {x : Int} (hx : 0 ≤ x ∧ x ≤ 8 * ((s.epochs.length : Int) + 1)) :
    CluAt (w.setCell ⟨g, 6 + c, none⟩ (.int .i64 x)) g F (credV s c x) ∧ Kept F w (w.setCell ⟨g, 6 + c, none⟩ (.int .i64 x)) :=
  clu_put h (fit_cred h.fit hx) rfl rfl (fun vT vE => clu_set_credit h.fit.credit hc x)

/-! ### The sequencer's cells -/
def cellsV (s : CluV) (l : List Int) : CluV := { s with cells := l }
theorem fit_cells {s : CluV} (h : CluFit s) {l : List Int} (hl : l.length = 8) (h16 : Dk.All16 l) : CluFit (cellsV s l) :=
  ⟨h.conf, h.credit, hl, h.reps, h.many, h.first0, h.first1, h.few, h.tx, h.once, h.ep, h16, h.cr⟩

theorem list8' {α : Type} (l : List α) (h : l.length = 8) : ∃ a0 a1 a2 a3 a4 a5 a6 a7, l = [a0, a1, a2, a3, a4, a5, a6, a7] := by
  match l, h with
  | [a0, a1, a2, a3, a4, a5, a6, a7], _ => exact ⟨a0, a1, a2, a3, a4, a5, a6, a7, rfl⟩

theorem clu_cellsput {w : World} {g : Nat} {F : Nat → Prop} {s : CluV} (h : CluAt w g F s) (y0 y1 y2 y3 y4 y5 y6 y7 : Int) (h16 : Dk.All16 [y0, y1, y2, y3, y4, y5, y6, y7]) :
    CluAt ((((((((w.setCell ⟨g, 16, none⟩ (.int .i64 y0)).setCell ⟨g, 17, none⟩ (.int .i64 y1)).setCell ⟨g, 18, none⟩ (.int .i64 y2)).setCell ⟨g, 19, none⟩ (.int .i64 y3)).setCell ⟨g, 20, none⟩ (.int .i64 y4)).setCell ⟨g, 21, none⟩ (.int .i64 y5)).setCell ⟨g, 22, none⟩ (.int .i64 y6)).setCell ⟨g, 23, none⟩ (.int .i64 y7)) g F (cellsV s [y0, y1, y2, y3, y4, y5, y6, y7]) ∧
    Kept F w ((((((((w.setCell ⟨g, 16, none⟩ (.int .i64 y0)).setCell ⟨g, 17, none⟩ (.int .i64 y1)).setCell ⟨g, 18, none⟩ (.int .i64 y2)).setCell ⟨g, 19, none⟩ (.int .i64 y3)).setCell ⟨g, 20, none⟩ (.int .i64 y4)).setCell ⟨g, 21, none⟩ (.int .i64 y5)).setCell ⟨g, 22, none⟩ (.int .i64 y6)).setCell ⟨g, 23, none⟩ (.int .i64 y7)) := by
  refine ⟨clu_block h (fit_cells h.fit rfl h16) rfl rfl (by simp [World.setCell]) (fun k hk _ => ?_) (fun vT vE hb => ?_), ?_⟩
  · iterate 8 rw [Below.heap_setCell _ _ _ _ (by exact hk)]
  · rw [heap_set (heap_set (heap_set (heap_set (heap_set (heap_set (heap_set (heap_set hb _) _) _) _) _) _) _) _]
    obtain ⟨k0, k1, k2, k3, k4, k5, k6, k7, hk⟩ := list8' s.credit h.fit.credit
    obtain ⟨x0, x1, x2, x3, x4, x5, x6, x7, hx⟩ := list8' s.cells h.fit.cells
    have e1 : cluCells s vT vE = confCells s.conf ++ (vT :: (intCells [k0, k1, k2, k3, k4, k5, k6, k7] ++ (.int .i64 s.first :: vE :: (intCells [x0, x1, x2, x3, x4, x5, x6, x7] ++ repCells s.reps)))) := by unfold cluCells; rw [hk, hx]
    have e2 : cluCells (cellsV s [y0, y1, y2, y3, y4, y5, y6, y7]) vT vE = confCells s.conf ++ (vT :: (intCells [k0, k1, k2, k3, k4, k5, k6, k7] ++ (.int .i64 s.first :: vE :: (intCells [y0, y1, y2, y3, y4, y5, y6, y7] ++ repCells s.reps)))) := by unfold cluCells cellsV; rw [hk]
    rw [e1, e2]
    simp only [List.setIfInBounds_toArray]
    rfl
  · iterate 8 refine Kept.set ?_ (.inl h.gF) _
    exact Kept.refl F w

end Go.Proofs.YtedlgdpojkhgaaaGreat
