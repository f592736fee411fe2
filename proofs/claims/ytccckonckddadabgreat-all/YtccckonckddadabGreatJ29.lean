import Derived.Test.YtccckonckddadabGreatJ28
namespace Go.Proofs.YtccckonckddadabGreat
open Go.RowKit
set_option linter.unusedVariables false

/-! ### A cluster's own block is written -/
theorem clu_block {w w' : World} {g : Nat} {F : Nat → Prop} {s s' : CluV} (h : CluAt w g F s) (hfit : CluFit s') (ht : s'.txs = s.txs) (he : s'.epochs = s.epochs) (hsz : w.heap.size ≤ w'.heap.size) (hother : ∀ k, k ≠ g → k < w.heap.size → w'.heap[k]? = w.heap[k]?)
    (hblk : ∀ vT vE, w.heap[g]? = some (.cells (cluCells s vT vE).toArray 115) → w'.heap[g]? = some (.cells (cluCells s' vT vE).toArray 115)) : CluAt w' g F s' := by
  obtain ⟨aT, aE, cT, cE, eas, h1, h2, h3, h4, h5, h6, h7⟩ := h.mem
  refine ⟨hfit, h.gF, fun k hk => Nat.lt_of_lt_of_le (h.own k hk) hsz, aT, aE, cT, cE, eas, ?_, ?_, ?_, ?_, ?_, ?_, ?_⟩
  · rw [ht, he]; exact hblk _ _ h1
  · rw [ht]; exact own_same h2 (fun k hk => hother k (h3 k hk).2 (h.own k (h3 k hk).1))
  · rw [ht]; exact h3
  · rw [he]; exact own_same h4 (fun k hk => hother k (h5 k hk).2.1 (h.own k (h5 k hk).1))
  · rw [ht, he]; exact h5
  · rw [he]; exact h6
  · rw [ht, he]
    intro i a rs ha hr
    obtain ⟨r1, r2⟩ := h7 i a rs ha hr
    exact ⟨r1.same hsz (fun ad had => hother _ (r2 ad had).2.1 (h.own _ (r2 ad had).1)), r2⟩

theorem clu_put {w : World} {g : Nat} {F : Nat → Prop} {s s' : CluV} (h : CluAt w g F s) (hfit : CluFit s') (ht : s'.txs = s.txs) (he : s'.epochs = s.epochs) {j : Nat} {v : Value} (hs : ∀ vT vE, (cluCells s vT vE).set j v = cluCells s' vT vE) :
    CluAt (w.setCell ⟨g, j, none⟩ v) g F s' ∧ Kept F w (w.setCell ⟨g, j, none⟩ v) := by
  refine ⟨clu_block h hfit ht he (by simp [World.setCell]) (fun k hk _ => Below.heap_setCell _ _ _ _ (by exact hk)) (fun vT vE hb => ?_), (Kept.refl F w).set (.inl h.gF) _⟩
  rw [heap_set hb, List.setIfInBounds_toArray, hs]

/-! ### A client's credit -/
def credV (s : CluV) (c : Nat) (x : Int) : CluV := { s with credit := s.credit.set c x }
theorem fit_cred {s : CluV} (h : CluFit s) {c : Nat} {x : Int} (hx : 0 ≤ x ∧ x ≤ 8 * ((s.epochs.length : Int) + 1)) : CluFit (credV s c x) := by
  refine ⟨h.conf, ?_, h.cells, h.reps, h.many, h.first0, h.first1, h.few, h.tx, h.once, h.ep, h.c16, ?_⟩
  · show (s.credit.set c x).length = 8
    rw [List.length_set]; exact h.credit
  · intro y hy
    rcases List.mem_or_eq_of_mem_set hy with hy | rfl
    · exact h.cr y hy
    · exact hx
theorem clu_cred {w : World} {g : Nat} {F : Nat → Prop} {s : CluV} (h : CluAt w g F s) {c : Nat} (hc : c < 8) {x : Int} (hx : 0 ≤ x ∧ x ≤ 8 * ((s.epochs.length : Int) + 1)) :
    CluAt (w.setCell ⟨g, 6 + c, none⟩ (.int .i64 x)) g F (credV s c x) ∧ Kept F w (w.setCell ⟨g, 6 + c, none⟩ (.int .i64 x)) :=
  clu_put h (fit_cred h.fit hx) rfl rfl (fun vT vE => clu_set_credit h.fit.credit hc x)

/-! ### The sequencer's cells -/
def cellsV (s : CluV) (l : List Int) : CluV := { s with cells := l }
theorem fit_cells {s : CluV} (h : CluFit s) {l : List Int} (hl : l.length = 8) (h16 : Dk.All16 l) : CluFit (cellsV s l) :=
  ⟨h.conf, h.credit, hl, h.reps, h.many, h.first0, h.first1, h.few, h.tx, h.once, h.ep, h16, h.cr⟩

theorem list8' {α : Type} (l : List α) (h : l.length = 8) : ∃ a0 a1 a2 a3 a4 a5 a6 a7, l = [a0, a1, a2, a3, a4, a5, a6, a7] := by
  match l, h with
  | [a0, a1, a2, a3, a4, a5, a6, a7], _ => exact ⟨a0, a1, a2, a3, a4, a5, a6, a7, rfl⟩

theorem clu_cellsput {w : World} {g : Nat} {F : Nat → Prop} {s : CluV} (h : CluAt w g F s) (y0 y1 y2 y3 y4 y5 y6 y7 : Int) (h16 : Dk.All16 [y0, y1, y2, y3, y4, y5, y6, y7]) :
    CluAt ((((((((w.setCell ⟨g, 16, none⟩ (.int .i64 y0)).setCell ⟨g, 17, none⟩ (.int .i64 y1)).setCell ⟨g, 18, none⟩ (.int .i64 y2)).setCell ⟨g, 19, none⟩ (.int .i64 y3)).setCell ⟨g, 20, none⟩ (.int .i64 y4)).setCell ⟨g, 21, none⟩ (.int .i64 y5)).setCell ⟨g, 22, none⟩ (.int .i64 y6)).setCell ⟨g, 23, none⟩ (.int .i64 y7)) g F (cellsV s [y0, y1, y2, y3, y4, y5, y6, y7]) ∧
    Kept F w ((((((((w.setCell ⟨g, 16, none⟩ (.int .i64 y0)).setCell ⟨g, 17, none⟩ (.int .i64 y1)).setCell ⟨g, 18, none⟩ (.int .i64 y2)).setCell ⟨g, 19, none⟩ (.int .i64 y3)).setCell ⟨g, 20, none⟩ (.int .i64 y4)).setCell ⟨g, 21, none⟩ (.int .i64 y5)).setCell ⟨g, 22, none⟩ (.int .i64 y6)).setCell ⟨g, 23, none⟩ (.int .i64 y7)) := by
  refine ⟨clu_block h (fit_cells h.fit rfl h16) rfl rfl (by simp [World.setCell]) (fun k hk _ => ?_) (fun vT vE hb => ?_), ?_⟩
  · iterate 8 rw [Below.heap_setCell _ _ _ _ (by exact hk)]
  · rw [heap_set (heap_set (heap_set (heap_set (heap_set (heap_set (heap_set (heap_set hb _) _) _) _) _) _) _) _]
    obtain ⟨k0, k1, k2, k3, k4, k5, k6, k7, hk⟩ := list8' s.credit h.fit.credit
    obtain ⟨x0, x1, x2, x3, x4, x5, x6, x7, hx⟩ := list8' s.cells h.fit.cells
    have e1 : cluCells s vT vE = confCells s.conf ++ (vT :: (intCells [k0, k1, k2, k3, k4, k5, k6, k7] ++ (.int .i64 s.first :: vE :: (intCells [x0, x1, x2, x3, x4, x5, x6, x7] ++ repCells s.reps)))) := by unfold cluCells; rw [hk, hx]
    have e2 : cluCells (cellsV s [y0, y1, y2, y3, y4, y5, y6, y7]) vT vE = confCells s.conf ++ (vT :: (intCells [k0, k1, k2, k3, k4, k5, k6, k7] ++ (.int .i64 s.first :: vE :: (intCells [y0, y1, y2, y3, y4, y5, y6, y7] ++ repCells s.reps)))) := by unfold cluCells cellsV; rw [hk]
    rw [e1, e2]
    simp only [List.setIfInBounds_toArray]
    rfl
  · iterate 8 refine Kept.set ?_ (.inl h.gF) _
    exact Kept.refl F w

end Go.Proofs.YtccckonckddadabGreat
