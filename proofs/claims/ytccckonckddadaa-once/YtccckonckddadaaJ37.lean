import Derived.Test.YtccckonckddadaaJ36
import Derived.Test.YtccckonckddadaaJ21
import Derived.Deep.QuietTactic
import Derived.BigQuiet
namespace Go.Proofs.Ytccckonckddadaa
open Go.RowKit
set_option linter.unusedVariables false

set_option maxRecDepth 100000 in
set_option maxHeartbeats 8000000 in
theorem does_fill (B M : Nat) (A : Nat → Prop) (gB g : Nat) (p : SeqV) (s : CluV) (b : BookV) (cl qu qt ro re xw xa xb xc : Int) (w : World) (h : KAt B A w gB g p b) (hI : Inv M p s b) (hM : 40 ≤ M) (hcv : s.conf = ⟨cl, qu, qt, ro, re⟩) (hx1 : In64 xw) (hx2 : In64 xa) (hx3 : In64 xb) (hx4 : In64 xc) (hk : 4 ≤ pickV xw 10 ∧ pickV xw 10 < 6) :
    Calls Try.prog 48 #[.pointer (some ⟨gB, 0, none⟩), .pointer (some ⟨g, 0, none⟩), .agg #[.int .i64 cl, .int .i64 qu, .int .i64 qt, .int .i64 ro, .int .i64 re], .agg #[.int .i64 xw, .int .i64 xa, .int .i64 xb, .int .i64 xc]] w (ActPost B M A gB g s.conf w) := by
  obtain ⟨F, hS, hF⟩ := h.seq
  have hcf := hI.both.fit.conf
  have hep := hI.bep
  have hmany := hI.both.fit.many
  rw [hcv] at hcf
  unfold confOk at hcf
  simp only [Bool.and_eq_true, decide_eq_true_eq] at hcf
  have hcl := hcf.1.1.1.1
  have hre := hcf.2
  have H : Hid _ := h
  have HI : Hid _ := hI
  have HSF : Hid (SeqAt w g F p ∧ ∀ k, F k → B ≤ k ∧ k ≠ gB ∧ ¬ A k) := ⟨hS, hF⟩
  have HCv : Hid _ := hcv
  have hB0 := h.base
  have HAv : Hid (∀ k, A k → k < w.heap.size) := h.lt
  have hgBz := h.book.reads.2.2.2.2.2
  have hbd := pick_bd (c := xw) (n := 10) (by omega)
  have HPw : Hid (∀ W, Calls Try.prog 22 #[.int .i64 xw, .int .i64 10] W fun e w' => e = .returned (.int .i64 (pickV xw 10)) ∧ w' = W) := fun W => pick_is xw 10 W hx1.1 hx1.2 (by omega) (by omega)
  clear h hI hS hF hcf hcv hx1 hx2 hx3 hx4
  generalize pickV xw 10 = kk at *
  obtain ⟨hka, hkb⟩ := hk
  obtain ⟨W1, hW1⟩ : ∃ W1, W1 = (w.alloc (.cells #[.int .i64 cl, .int .i64 qu, .int .i64 qt, .int .i64 ro, .int .i64 re] 55)).alloc (.cells #[.int .i64 xw, .int .i64 xa, .int .i64 xb, .int .i64 xc] 85) := ⟨_, rfl⟩
  have HBw : Hid (Below w.heap.size w W1) := by rw [hW1]; exact ((Below.refl _ _).alloc (Nat.le_refl _) _).alloc (by simp) _
  have HBx : Hid (W1.heap[w.heap.size]? = some (.cells #[.int .i64 cl, .int .i64 qu, .int .i64 qt, .int .i64 ro, .int .i64 re] 55) ∧ W1.heap[w.heap.size + 1]? = some (.cells #[.int .i64 xw, .int .i64 xa, .int .i64 xb, .int .i64 xc] 85)) := by rw [hW1]; exact ⟨(heap_old (by simp)).trans (heap_at rfl), heap_at (by simp)⟩
  have HK1 : Hid (KAt B A W1 gB g p b) := H.out.below HBw.out
  have HS1 : Hid (SeqAt W1 g F p) := HSF.out.1.below HBw.out
  -- what is read of the boxes, and that they stay
  have HRd : Hid (∀ W : World, W.heap[w.heap.size]? = W1.heap[w.heap.size]? → W.heap[w.heap.size + 1]? = W1.heap[w.heap.size + 1]? → (W.cell? ⟨w.heap.size, 0, none⟩ = some (.int .i64 cl) ∧ W.cell? ⟨w.heap.size, 4, none⟩ = some (.int .i64 re)) ∧ W.cell? ⟨w.heap.size + 1, 0, none⟩ = some (.int .i64 xw) ∧ W.cell? ⟨w.heap.size + 1, 1, none⟩ = some (.int .i64 xa) ∧ W.cell? ⟨w.heap.size + 1, 2, none⟩ = some (.int .i64 xb) ∧ W.cell? ⟨w.heap.size + 1, 3, none⟩ = some (.int .i64 xc)) := fun W e1 e2 => by
    obtain ⟨c0, _, _⟩ := heap_cells (e1.trans HBx.out.1)
    obtain ⟨d0, _, _⟩ := heap_cells (e2.trans HBx.out.2)
    exact ⟨⟨by rw [c0]; rfl, by rw [c0]; rfl⟩, by rw [d0]; rfl, by rw [d0]; rfl, by rw [d0]; rfl, by rw [d0]; rfl⟩
  have hz0 : w.heap.size < W1.heap.size := (heap_cells HBx.out.1).2.2
  have hz1 : w.heap.size + 1 < W1.heap.size := (heap_cells HBx.out.2).2.2
  obtain ⟨⟨c0, c4⟩, a0, a1, a2, a3⟩ := HRd.out W1 rfl rfl
  obtain ⟨br, be, bn, bR, bf, bz⟩ := HK1.out.book.reads
  go_enter Try.func48, Try.ntmps48
  go_wp2_with fail
  rewrite [← hW1]
  refine (HPw.out W1).mono ?_
  rintro e w0 ⟨rfl, hw0⟩
  obtain rfl := hw0.symm
  clear hW1 br
  have hout : p.outs.length + 64 ≤ 1000000 := by
    have h1 := HI.out.outs.1
    have h2 := HI.out.both.sim.epochs
    omega
  have hrd := fill_ready HI.out.both.sim HI.out.both.fit HI.out.both.rest
  have HFi : Hid (Calls Try.prog 37 #[.pointer (some ⟨g, 0, none⟩)] W1 (FillRPost g F (pFillV p) W1)) := pfill_any g F p W1 HS1.out hrd.1 hrd.2.1 (fun _ => hrd.2.2) hout
  have HIf : Hid _ := inv_fill HI.out
  have hfa := fill_ans HI.out
  obtain ⟨mm, hmm⟩ : ∃ x, (fillV s).2.1 = x := ⟨_, rfl⟩
  obtain ⟨er, her⟩ : ∃ x, (fillV s).2.2 = x := ⟨_, rfl⟩
  have HV : Hid ((pFillV p).2.1 = mm ∧ (pFillV p).2.2 = er) := by
    have := (fill_sim HI.out.both.sim HI.out.both.fit HI.out.both.rest).1
    exact ⟨by rw [this, hmm], by rw [this, her]⟩
  rw [hmm, her] at hfa HIf
  have hn0 := HI.out.brec
  have hol := HI.out.outs.1
  have hse := HI.out.both.sim.epochs
  obtain ⟨ee, hee⟩ : ∃ x, b.ep = x := ⟨_, rfl⟩
  obtain ⟨nn, hnn⟩ : ∃ x, b.nr = x := ⟨_, rfl⟩
  rw [hee] at be hep
  rw [hnn] at bn hn0
  have he0 : 0 ≤ ee := by omega
  have he1 : ee ≤ 200 := by omega
  have hq0 : 0 ≤ nn := by omega
  have hq1 : nn ≤ 1000000 := by omega
  have HEe : Hid (b.ep = ee ∧ b.nr = nn) := ⟨hee, hnn⟩
  clear hee hnn hep hn0 hol hse hrd hmm her c0 c4 a0 a1 a2 a3 hout
  go_wp2_with fail
  refine HFi.out.mono ?_
  rintro e w2 ⟨rfl, hP⟩
  rewrite [HV.out.1, HV.out.2]
  obtain ⟨hK2, hB2⟩ := HK1.out.call HSF.out.2 hP
  have HK2 : Hid (_ ∧ _) := ⟨hK2, hB2⟩
  obtain ⟨_, e2, n2, R2, f2, z2⟩ := hK2.book.reads
  rw [HEe.out.1] at e2
  rw [HEe.out.2] at n2
  clear hP hK2 hB2 be bn bR bf HFi
  have hm0 : 0 ≤ mm := hfa.1
  have hm1 : mm ≤ 64 := hfa.2.1
  have hw1 : IntKind.i64.wrap (ee + 1) = ee + 1 := wrap_i64_id (by omega) (by omega)
  have hw2 : IntKind.i64.wrap (nn + mm) = nn + mm := wrap_i64_id (by omega) (by omega)
  rcases hfa.2.2 with h9 | h9
  · subst h9
    have HW3 : Hid _ := HK2.out.1.wrote (HK2.out.1.book.ep (ee + 1))
    have HW4 : Hid _ := HW3.out.1.wrote (HW3.out.1.book.nrec (nn + mm))
    have HW5 : Hid _ := HW4.out.1.wrote HW4.out.1.book.right
    have q1 : (w2.setCell ⟨gB, 40, none⟩ (.int .i64 (ee + 1))).cell? ⟨gB, 41, none⟩ = some (.int .i64 nn) := by
      have := HW3.out.1.book.reads.2.2.1
      rw [show ({ b with ep := ee + 1 } : BookV).nr = nn from HEe.out.2] at this
      exact this
    have q2 := HW4.out.1.book.reads.2.2.2.1
    have q3 := HW3.out.1.book.reads.2.2.2.2
    have q4 := HW4.out.1.book.reads.2.2.2.2
    obtain ⟨q3a, q3b⟩ := q3
    obtain ⟨q4a, q4b⟩ := q4
    go_wp2
    go_end0
    refine ⟨rfl, ⟨_, _, _, HW5.out.1, ?_, (fill_shape HI.out.both.fit HI.out.both.rest).2.1⟩, ?_⟩
    · have := HIf.out
      unfold bookFill at this
      rw [if_pos rfl, HEe.out.1, HEe.out.2] at this
      exact this
    · exact ((((Bel.of HBw.out hB0 HAv.out).trans HK2.out.2).trans HW3.out.2).trans HW4.out.2).trans HW5.out.2
  · subst h9
    have HW5 : Hid _ := HK2.out.1.wrote HK2.out.1.book.right
    go_wp2
    go_end0
    refine ⟨rfl, ⟨_, _, _, HW5.out.1, ?_, (fill_shape HI.out.both.fit HI.out.both.rest).2.1⟩, ?_⟩
    · exact HIf.out
    · exact ((Bel.of HBw.out hB0 HAv.out).trans HK2.out.2).trans HW5.out.2

end Go.Proofs.Ytccckonckddadaa
namespace Go.Proofs.Ytccckonckddadaa
open Go.RowKit
set_option linter.unusedVariables false

set_option maxRecDepth 100000 in
set_option maxHeartbeats 8000000 in
theorem book_send (B M : Nat) (A : Nat → Prop) (gB g : Nat) (p : SeqV) (s : CluV) (b : BookV) (cl qu qt ro re xw xa xb xc : Int) (w : World) (h : KAt B A w gB g p b) (hI : Inv M p s b) (hM : 40 ≤ M) (hcv : s.conf = ⟨cl, qu, qt, ro, re⟩) (hx1 : In64 xw) (hx2 : In64 xa) (hx3 : In64 xb) (hx4 : In64 xc) (hk : 6 ≤ pickV xw 10 ∧ pickV xw 10 < 8) :
    Calls Try.prog 48 #[.pointer (some ⟨gB, 0, none⟩), .pointer (some ⟨g, 0, none⟩), .agg #[.int .i64 cl, .int .i64 qu, .int .i64 qt, .int .i64 ro, .int .i64 re], .agg #[.int .i64 xw, .int .i64 xa, .int .i64 xb, .int .i64 xc]] w (ActPost B M A gB g s.conf w) := by
  obtain ⟨F, hS, hF⟩ := h.seq
  have hcf := hI.both.fit.conf
  have hep := hI.bep
  have hmany := hI.both.fit.many
  rw [hcv] at hcf
  unfold confOk at hcf
  simp only [Bool.and_eq_true, decide_eq_true_eq] at hcf
  have hcl := hcf.1.1.1.1
  have hre := hcf.2
  have H : Hid _ := h
  have HI : Hid _ := hI
  have HSF : Hid (SeqAt w g F p ∧ ∀ k, F k → B ≤ k ∧ k ≠ gB ∧ ¬ A k) := ⟨hS, hF⟩
  have HCv : Hid _ := hcv
  have hB0 := h.base
  have HAv : Hid (∀ k, A k → k < w.heap.size) := h.lt
  have hgBz := h.book.reads.2.2.2.2.2
  have hbd := pick_bd (c := xw) (n := 10) (by omega)
  have HPw : Hid (∀ W, Calls Try.prog 22 #[.int .i64 xw, .int .i64 10] W fun e w' => e = .returned (.int .i64 (pickV xw 10)) ∧ w' = W) := fun W => pick_is xw 10 W hx1.1 hx1.2 (by omega) (by omega)
  clear h hI hS hF hcf hcv
  generalize pickV xw 10 = kk at *
  obtain ⟨hka, hkb⟩ := hk
  obtain ⟨W1, hW1⟩ : ∃ W1, W1 = (w.alloc (.cells #[.int .i64 cl, .int .i64 qu, .int .i64 qt, .int .i64 ro, .int .i64 re] 55)).alloc (.cells #[.int .i64 xw, .int .i64 xa, .int .i64 xb, .int .i64 xc] 85) := ⟨_, rfl⟩
  have HBw : Hid (Below w.heap.size w W1) := by rw [hW1]; exact ((Below.refl _ _).alloc (Nat.le_refl _) _).alloc (by simp) _
  have HBx : Hid (W1.heap[w.heap.size]? = some (.cells #[.int .i64 cl, .int .i64 qu, .int .i64 qt, .int .i64 ro, .int .i64 re] 55) ∧ W1.heap[w.heap.size + 1]? = some (.cells #[.int .i64 xw, .int .i64 xa, .int .i64 xb, .int .i64 xc] 85)) := by rw [hW1]; exact ⟨(heap_old (by simp)).trans (heap_at rfl), heap_at (by simp)⟩
  have HK1 : Hid (KAt B A W1 gB g p b) := H.out.below HBw.out
  have HS1 : Hid (SeqAt W1 g F p) := HSF.out.1.below HBw.out
  -- what is read of the boxes, and that they stay
  have HRd : Hid (∀ W : World, W.heap[w.heap.size]? = W1.heap[w.heap.size]? → W.heap[w.heap.size + 1]? = W1.heap[w.heap.size + 1]? → (W.cell? ⟨w.heap.size, 0, none⟩ = some (.int .i64 cl) ∧ W.cell? ⟨w.heap.size, 4, none⟩ = some (.int .i64 re)) ∧ W.cell? ⟨w.heap.size + 1, 0, none⟩ = some (.int .i64 xw) ∧ W.cell? ⟨w.heap.size + 1, 1, none⟩ = some (.int .i64 xa) ∧ W.cell? ⟨w.heap.size + 1, 2, none⟩ = some (.int .i64 xb) ∧ W.cell? ⟨w.heap.size + 1, 3, none⟩ = some (.int .i64 xc)) := fun W e1 e2 => by
    obtain ⟨c0, _, _⟩ := heap_cells (e1.trans HBx.out.1)
    obtain ⟨d0, _, _⟩ := heap_cells (e2.trans HBx.out.2)
    exact ⟨⟨by rw [c0]; rfl, by rw [c0]; rfl⟩, by rw [d0]; rfl, by rw [d0]; rfl, by rw [d0]; rfl, by rw [d0]; rfl⟩
  have hz0 : w.heap.size < W1.heap.size := (heap_cells HBx.out.1).2.2
  have hz1 : w.heap.size + 1 < W1.heap.size := (heap_cells HBx.out.2).2.2
  obtain ⟨⟨c0, c4⟩, a0, a1, a2, a3⟩ := HRd.out W1 rfl rfl
  obtain ⟨br, be, bn, bR, bf, bz⟩ := HK1.out.book.reads
  go_enter Try.func48, Try.ntmps48
  go_wp2_with fail
  rewrite [← hW1]
  refine (HPw.out W1).mono ?_
  rintro e w0 ⟨rfl, hw0⟩
  obtain rfl := hw0.symm
  clear hW1 br
  have hyb := pick_bd (c := xa) (n := re) (by omega)
  have HP1 : Hid (∀ W, Calls Try.prog 22 #[.int .i64 xa, .int .i64 re] W fun e w' => e = .returned (.int .i64 (pickV xa re)) ∧ w' = W) := fun W => pick_is xa re W hx2.1 hx2.2 (by omega) (by omega)
  generalize pickV xa re = y1 at *
  have hrr : s.conf.reps = re := by rw [HCv.out]
  have hco : countV s y1 = ((s.reps.getD y1.toNat (0, 0)).1, 0) := by
    unfold countV
    rw [if_neg (by omega)]
  obtain ⟨mm, hmm⟩ : ∃ x, (s.reps.getD y1.toNat (0, 0)).1 = x := ⟨_, rfl⟩
  have hse : (sendV s y1 mm).2 = if mm < (s.epochs.length : Int) then 0 else 10 := by
    have hrf := rep_fit HI.out.both.rep y1.toNat
    rw [hmm] at hrf
    unfold sendV
    rw [if_neg (by omega)]
    by_cases hc : mm < (s.epochs.length : Int)
    · rw [if_neg (by omega), hmm, if_neg (by omega), if_neg (by omega), if_pos hc]
    · rw [if_pos (by omega), if_neg hc]
  rw [hmm] at hco
  have HCo : Hid (Calls Try.prog 29 #[.pointer (some ⟨g, 0, none⟩), .int .i64 y1] W1 fun e w' => e = .returned (.tuple #[.int .i64 mm, .int .i64 0]) ∧ Below W1.heap.size W1 w') := by
    have := pcount_any g F p s y1 W1 HS1.out HI.out.both
    rw [hco] at this
    exact this
  rw [← hep] at hse
  obtain ⟨ee, hee⟩ : ∃ x, b.ep = x := ⟨_, rfl⟩
  rw [hee] at be hse
  have HEe : Hid (b.ep = ee) := hee
  obtain ⟨fr, hfr⟩ : ∃ x, (sendV s y1 mm).2 = x := ⟨_, rfl⟩
  rw [hfr] at hse
  have HFr : Hid _ := hfr
  clear hee hep hmm hco hfr hrr
  go_wp2_with fail
  refine (HP1.out W1).mono ?_
  rintro e w0 ⟨rfl, hw0⟩
  obtain rfl := hw0.symm
  go_wp2_with fail
  refine HCo.out.mono ?_
  rintro e w2 ⟨rfl, hB2⟩
  have HB2 : Hid (Below W1.heap.size W1 w2) := hB2
  have HK2 : Hid (KAt B A w2 gB g p b) := HK1.out.below hB2
  obtain ⟨⟨d0, d4⟩, g0, g1, g2, g3⟩ := HRd.out w2 (hB2.block _ hz0) (hB2.block _ hz1)
  have hsz2 := hB2.size
  clear hB2 HCo c0 c4 a0 a1 a2 a3 be bn bR bf d0 g0 g2 g3
  go_wp2_with fail
  refine (HP1.out w2).mono ?_
  rintro e w0 ⟨rfl, hw0⟩
  obtain rfl := hw0.symm
  go_wp2_with fail
  refine (psend_any g F p s y1 mm w2 (HS1.out.below HB2.out) HI.out.both).mono ?_
  rintro e w3 ⟨rfl, hP⟩
  rewrite [HFr.out]
  obtain ⟨hK3, hB3⟩ := HK2.out.call HSF.out.2 hP
  have HK3 : Hid (_ ∧ _) := ⟨hK3, hB3⟩
  obtain ⟨_, e3, n3, R3, f3, z3⟩ := hK3.book.reads
  rw [HEe.out] at e3
  have HW5 : Hid _ := hK3.wrote hK3.book.right
  clear hP hK3 hB3 d4 g1
  by_cases hc : mm < ee
  · rw [if_pos hc] at hse
    subst hse
    go_wp2
    go_end0
    exact ⟨rfl, ⟨_, _, _, HW5.out.1, inv_send HI.out y1 mm, (send_parts s y1 mm).2.2⟩, (((Bel.of HBw.out hB0 HAv.out).trans (Bel.of HB2.out (by have := HBw.out.size; omega) HK1.out.lt)).trans HK3.out.2).trans HW5.out.2⟩
  · rw [if_neg hc] at hse
    subst hse
    have hdd : decide (mm < ee) = false := decide_eq_false hc
    go_wp2
    go_end0
    exact ⟨rfl, ⟨_, _, _, HW5.out.1, inv_send HI.out y1 mm, (send_parts s y1 mm).2.2⟩, (((Bel.of HBw.out hB0 HAv.out).trans (Bel.of HB2.out (by have := HBw.out.size; omega) HK1.out.lt)).trans HK3.out.2).trans HW5.out.2⟩

end Go.Proofs.Ytccckonckddadaa
namespace Go.Proofs.Ytccckonckddadaa
open Go.RowKit
set_option linter.unusedVariables false

set_option maxRecDepth 100000 in
set_option maxHeartbeats 8000000 in
theorem book_sync (B M : Nat) (A : Nat → Prop) (gB g : Nat) (p : SeqV) (s : CluV) (b : BookV) (cl qu qt ro re xw xa xb xc : Int) (w : World) (h : KAt B A w gB g p b) (hI : Inv M p s b) (hM : 40 ≤ M) (hcv : s.conf = ⟨cl, qu, qt, ro, re⟩) (hx1 : In64 xw) (hx2 : In64 xa) (hx3 : In64 xb) (hx4 : In64 xc) (hk : pickV xw 10 = 8) :
    Calls Try.prog 48 #[.pointer (some ⟨gB, 0, none⟩), .pointer (some ⟨g, 0, none⟩), .agg #[.int .i64 cl, .int .i64 qu, .int .i64 qt, .int .i64 ro, .int .i64 re], .agg #[.int .i64 xw, .int .i64 xa, .int .i64 xb, .int .i64 xc]] w (ActPost B M A gB g s.conf w) := by
  obtain ⟨F, hS, hF⟩ := h.seq
  have hcf := hI.both.fit.conf
  have hep := hI.bep
  have hmany := hI.both.fit.many
  rw [hcv] at hcf
  unfold confOk at hcf
  simp only [Bool.and_eq_true, decide_eq_true_eq] at hcf
  have hcl := hcf.1.1.1.1
  have hre := hcf.2
  have H : Hid _ := h
  have HI : Hid _ := hI
  have HSF : Hid (SeqAt w g F p ∧ ∀ k, F k → B ≤ k ∧ k ≠ gB ∧ ¬ A k) := ⟨hS, hF⟩
  have HCv : Hid _ := hcv
  have hB0 := h.base
  have HAv : Hid (∀ k, A k → k < w.heap.size) := h.lt
  have hgBz := h.book.reads.2.2.2.2.2
  have hbd := pick_bd (c := xw) (n := 10) (by omega)
  have HPw : Hid (∀ W, Calls Try.prog 22 #[.int .i64 xw, .int .i64 10] W fun e w' => e = .returned (.int .i64 (pickV xw 10)) ∧ w' = W) := fun W => pick_is xw 10 W hx1.1 hx1.2 (by omega) (by omega)
  clear h hI hS hF hcf hcv
  generalize pickV xw 10 = kk at *
  obtain ⟨W1, hW1⟩ : ∃ W1, W1 = (w.alloc (.cells #[.int .i64 cl, .int .i64 qu, .int .i64 qt, .int .i64 ro, .int .i64 re] 55)).alloc (.cells #[.int .i64 xw, .int .i64 xa, .int .i64 xb, .int .i64 xc] 85) := ⟨_, rfl⟩
  have HBw : Hid (Below w.heap.size w W1) := by rw [hW1]; exact ((Below.refl _ _).alloc (Nat.le_refl _) _).alloc (by simp) _
  have HBx : Hid (W1.heap[w.heap.size]? = some (.cells #[.int .i64 cl, .int .i64 qu, .int .i64 qt, .int .i64 ro, .int .i64 re] 55) ∧ W1.heap[w.heap.size + 1]? = some (.cells #[.int .i64 xw, .int .i64 xa, .int .i64 xb, .int .i64 xc] 85)) := by rw [hW1]; exact ⟨(heap_old (by simp)).trans (heap_at rfl), heap_at (by simp)⟩
  have HK1 : Hid (KAt B A W1 gB g p b) := H.out.below HBw.out
  have HS1 : Hid (SeqAt W1 g F p) := HSF.out.1.below HBw.out
  -- what is read of the boxes, and that they stay
  have HRd : Hid (∀ W : World, W.heap[w.heap.size]? = W1.heap[w.heap.size]? → W.heap[w.heap.size + 1]? = W1.heap[w.heap.size + 1]? → (W.cell? ⟨w.heap.size, 0, none⟩ = some (.int .i64 cl) ∧ W.cell? ⟨w.heap.size, 4, none⟩ = some (.int .i64 re)) ∧ W.cell? ⟨w.heap.size + 1, 0, none⟩ = some (.int .i64 xw) ∧ W.cell? ⟨w.heap.size + 1, 1, none⟩ = some (.int .i64 xa) ∧ W.cell? ⟨w.heap.size + 1, 2, none⟩ = some (.int .i64 xb) ∧ W.cell? ⟨w.heap.size + 1, 3, none⟩ = some (.int .i64 xc)) := fun W e1 e2 => by
    obtain ⟨c0, _, _⟩ := heap_cells (e1.trans HBx.out.1)
    obtain ⟨d0, _, _⟩ := heap_cells (e2.trans HBx.out.2)
    exact ⟨⟨by rw [c0]; rfl, by rw [c0]; rfl⟩, by rw [d0]; rfl, by rw [d0]; rfl, by rw [d0]; rfl, by rw [d0]; rfl⟩
  have hz0 : w.heap.size < W1.heap.size := (heap_cells HBx.out.1).2.2
  have hz1 : w.heap.size + 1 < W1.heap.size := (heap_cells HBx.out.2).2.2
  obtain ⟨⟨c0, c4⟩, a0, a1, a2, a3⟩ := HRd.out W1 rfl rfl
  obtain ⟨br, be, bn, bR, bf, bz⟩ := HK1.out.book.reads
  go_enter Try.func48, Try.ntmps48
  go_wp2_with fail
  rewrite [← hW1]
  refine (HPw.out W1).mono ?_
  rintro e w0 ⟨rfl, hw0⟩
  obtain rfl := hw0.symm
  clear hW1 br
  have hyb := pick_bd (c := xa) (n := re) (by omega)
  have HP1 : Hid (∀ W, Calls Try.prog 22 #[.int .i64 xa, .int .i64 re] W fun e w' => e = .returned (.int .i64 (pickV xa re)) ∧ w' = W) := fun W => pick_is xa re W hx2.1 hx2.2 (by omega) (by omega)
  generalize pickV xa re = y1 at *
  have hrr : s.conf.reps = re := by rw [HCv.out]
  have hse : (syncV s y1).2 = 0 := by
    unfold syncV
    rw [if_neg (by omega)]
  have HSe : Hid _ := hse
  clear hep hse hrr
  go_wp2_with fail
  refine (HP1.out W1).mono ?_
  rintro e w0 ⟨rfl, hw0⟩
  obtain rfl := hw0.symm
  go_wp2_with fail
  refine (psync_any g F p s y1 W1 HS1.out HI.out.both).mono ?_
  rintro e w3 ⟨rfl, hP⟩
  rewrite [HSe.out]
  obtain ⟨hK3, hB3⟩ := HK1.out.call HSF.out.2 hP
  have HK3 : Hid (_ ∧ _) := ⟨hK3, hB3⟩
  obtain ⟨_, e3, n3, R3, f3, z3⟩ := hK3.book.reads
  have HW5 : Hid _ := hK3.wrote hK3.book.right
  clear hP hK3 hB3 c0 c4 a0 a1 a2 a3 be bn bR bf
  go_wp2
  go_end0
  exact ⟨rfl, ⟨_, _, _, HW5.out.1, inv_sync HI.out y1, (sync_parts s y1).2.2⟩, ((Bel.of HBw.out hB0 HAv.out).trans HK3.out.2).trans HW5.out.2⟩

end Go.Proofs.Ytccckonckddadaa
namespace Go.Proofs.Ytccckonckddadaa
open Go.RowKit
set_option linter.unusedVariables false

set_option maxRecDepth 100000 in
set_option maxHeartbeats 8000000 in
theorem book_crash (B M : Nat) (A : Nat → Prop) (gB g : Nat) (p : SeqV) (s : CluV) (b : BookV) (cl qu qt ro re xw xa xb xc : Int) (w : World) (h : KAt B A w gB g p b) (hI : Inv M p s b) (hM : 40 ≤ M) (hcv : s.conf = ⟨cl, qu, qt, ro, re⟩) (hx1 : In64 xw) (hx2 : In64 xa) (hx3 : In64 xb) (hx4 : In64 xc) (hk : 9 ≤ pickV xw 10) :
    Calls Try.prog 48 #[.pointer (some ⟨gB, 0, none⟩), .pointer (some ⟨g, 0, none⟩), .agg #[.int .i64 cl, .int .i64 qu, .int .i64 qt, .int .i64 ro, .int .i64 re], .agg #[.int .i64 xw, .int .i64 xa, .int .i64 xb, .int .i64 xc]] w (ActPost B M A gB g s.conf w) := by
  obtain ⟨F, hS, hF⟩ := h.seq
  have hcf := hI.both.fit.conf
  have hep := hI.bep
  have hmany := hI.both.fit.many
  rw [hcv] at hcf
  unfold confOk at hcf
  simp only [Bool.and_eq_true, decide_eq_true_eq] at hcf
  have hcl := hcf.1.1.1.1
  have hre := hcf.2
  have H : Hid _ := h
  have HI : Hid _ := hI
  have HSF : Hid (SeqAt w g F p ∧ ∀ k, F k → B ≤ k ∧ k ≠ gB ∧ ¬ A k) := ⟨hS, hF⟩
  have HCv : Hid _ := hcv
  have hB0 := h.base
  have HAv : Hid (∀ k, A k → k < w.heap.size) := h.lt
  have hgBz := h.book.reads.2.2.2.2.2
  have hbd := pick_bd (c := xw) (n := 10) (by omega)
  have HPw : Hid (∀ W, Calls Try.prog 22 #[.int .i64 xw, .int .i64 10] W fun e w' => e = .returned (.int .i64 (pickV xw 10)) ∧ w' = W) := fun W => pick_is xw 10 W hx1.1 hx1.2 (by omega) (by omega)
  clear h hI hS hF hcf hcv
  generalize pickV xw 10 = kk at *
  obtain ⟨W1, hW1⟩ : ∃ W1, W1 = (w.alloc (.cells #[.int .i64 cl, .int .i64 qu, .int .i64 qt, .int .i64 ro, .int .i64 re] 55)).alloc (.cells #[.int .i64 xw, .int .i64 xa, .int .i64 xb, .int .i64 xc] 85) := ⟨_, rfl⟩
  have HBw : Hid (Below w.heap.size w W1) := by rw [hW1]; exact ((Below.refl _ _).alloc (Nat.le_refl _) _).alloc (by simp) _
  have HBx : Hid (W1.heap[w.heap.size]? = some (.cells #[.int .i64 cl, .int .i64 qu, .int .i64 qt, .int .i64 ro, .int .i64 re] 55) ∧ W1.heap[w.heap.size + 1]? = some (.cells #[.int .i64 xw, .int .i64 xa, .int .i64 xb, .int .i64 xc] 85)) := by rw [hW1]; exact ⟨(heap_old (by simp)).trans (heap_at rfl), heap_at (by simp)⟩
  have HK1 : Hid (KAt B A W1 gB g p b) := H.out.below HBw.out
  have HS1 : Hid (SeqAt W1 g F p) := HSF.out.1.below HBw.out
  -- what is read of the boxes, and that they stay
  have HRd : Hid (∀ W : World, W.heap[w.heap.size]? = W1.heap[w.heap.size]? → W.heap[w.heap.size + 1]? = W1.heap[w.heap.size + 1]? → (W.cell? ⟨w.heap.size, 0, none⟩ = some (.int .i64 cl) ∧ W.cell? ⟨w.heap.size, 4, none⟩ = some (.int .i64 re)) ∧ W.cell? ⟨w.heap.size + 1, 0, none⟩ = some (.int .i64 xw) ∧ W.cell? ⟨w.heap.size + 1, 1, none⟩ = some (.int .i64 xa) ∧ W.cell? ⟨w.heap.size + 1, 2, none⟩ = some (.int .i64 xb) ∧ W.cell? ⟨w.heap.size + 1, 3, none⟩ = some (.int .i64 xc)) := fun W e1 e2 => by
    obtain ⟨c0, _, _⟩ := heap_cells (e1.trans HBx.out.1)
    obtain ⟨d0, _, _⟩ := heap_cells (e2.trans HBx.out.2)
    exact ⟨⟨by rw [c0]; rfl, by rw [c0]; rfl⟩, by rw [d0]; rfl, by rw [d0]; rfl, by rw [d0]; rfl, by rw [d0]; rfl⟩
  have hz0 : w.heap.size < W1.heap.size := (heap_cells HBx.out.1).2.2
  have hz1 : w.heap.size + 1 < W1.heap.size := (heap_cells HBx.out.2).2.2
  obtain ⟨⟨c0, c4⟩, a0, a1, a2, a3⟩ := HRd.out W1 rfl rfl
  obtain ⟨br, be, bn, bR, bf, bz⟩ := HK1.out.book.reads
  go_enter Try.func48, Try.ntmps48
  go_wp2_with fail
  rewrite [← hW1]
  refine (HPw.out W1).mono ?_
  rintro e w0 ⟨rfl, hw0⟩
  obtain rfl := hw0.symm
  clear hW1 br
  have hyb := pick_bd (c := xa) (n := re) (by omega)
  have HP1 : Hid (∀ W, Calls Try.prog 22 #[.int .i64 xa, .int .i64 re] W fun e w' => e = .returned (.int .i64 (pickV xa re)) ∧ w' = W) := fun W => pick_is xa re W hx2.1 hx2.2 (by omega) (by omega)
  generalize pickV xa re = y1 at *
  have hrr : s.conf.reps = re := by rw [HCv.out]
  have hse : (crashV s y1 xb).2 = 0 := by
    unfold crashV
    rw [if_neg (by omega)]
  have HSe : Hid _ := hse
  clear hep hse hrr
  have hk8 : (kk == 8) = false := by rw [beq_eq_false_iff_ne]; omega
  have HBd : Hid (Below W1.heap.size W1 W1.drew) := (Below.refl _ _).drew
  have HCr : Hid (Calls Try.prog 33 #[.pointer (some ⟨g, 0, none⟩), .int .i64 y1, .int .i64 xb] W1.drew fun e w' => e = .returned (.int .i64 0) ∧ (KAt B A w' gB g (withR p (repsOf (crashV s y1 xb).1)) b ∧ Bel B A W1.drew w') ∧ w'.cell? ⟨w.heap.size, 4, none⟩ = some (.int .i64 re) ∧ w'.cell? ⟨w.heap.size + 1, 1, none⟩ = some (.int .i64 xa) ∧ w'.cell? ⟨w.heap.size + 1, 2, none⟩ = some (.int .i64 xb)) :=
    (pcrash_any g F p s y1 xb W1.drew (HS1.out.below HBd.out) HI.out.both).mono (by
      rintro e w' ⟨rfl, hP⟩
      have hk := (HK1.out.below HBd.out).call HSF.out.2 hP
      obtain ⟨F', p1, p2, p3⟩ := hP
      have n0 : ¬ F w.heap.size := fun hh => by have := HSF.out.1.own _ hh; omega
      have n1 : ¬ F (w.heap.size + 1) := fun hh => by have := HSF.out.1.own _ hh; omega
      obtain ⟨⟨_, q4⟩, _, q1, q2, _⟩ := HRd.out w' (p2.block _ hz0 n0) (p2.block _ hz1 n1)
      exact ⟨by rw [HSe.out], hk, q4, q1, q2⟩)
  have HC0 : Hid (W1.drew.cell? ⟨w.heap.size, 4, none⟩ = some (.int .i64 re) ∧ W1.drew.cell? ⟨w.heap.size + 1, 1, none⟩ = some (.int .i64 xa) ∧ W1.drew.cell? ⟨w.heap.size + 1, 2, none⟩ = some (.int .i64 xb)) := ⟨c4, a1, a2⟩
  clear c0 c4 a0 a1 a2 a3 be bn bR bf
  go_wp2
  go_region_held3 (fun W => W.cell? ⟨w.heap.size, 4, none⟩ = some (.int .i64 re) ∧ W.cell? ⟨w.heap.size + 1, 1, none⟩ = some (.int .i64 xa) ∧ W.cell? ⟨w.heap.size + 1, 2, none⟩ = some (.int .i64 xb))
    (first | (with_reducible exact HC0.out) | (with_reducible exact hSx))
    (first | (go_at_call 22; with_reducible refine (HP1.out _).mono ?_; rintro e w9 ⟨rfl, rfl⟩) | (go_at_call 33; with_reducible refine HCr.out.mono ?_; rintro e w7 ⟨rfl, hKx, hSx⟩))
  have HK3 : Hid _ := hKx
  obtain ⟨_, e3, n3, R3, f3, z3⟩ := hKx.1.book.reads
  have HW5 : Hid _ := hKx.1.wrote hKx.1.book.right
  clear hKx hSx HCr
  go_wp2
  go_end0
  exact ⟨rfl, ⟨_, _, _, HW5.out.1, inv_crash HI.out y1 xb, (crash_parts s y1 xb).2.2⟩, (((Bel.of HBw.out hB0 HAv.out).trans (Bel.of HBd.out (by have := HBw.out.size; omega) HK1.out.lt)).trans HK3.out.2).trans HW5.out.2⟩

end Go.Proofs.Ytccckonckddadaa
namespace Go.Proofs.Ytccckonckddadaa
open Go.RowKit
set_option linter.unusedVariables false

/-- One act, of whatever kind. -/
theorem book_does (B M : Nat) (A : Nat → Prop) (gB g : Nat) (p : SeqV) (s : CluV) (b : BookV) (cl qu qt ro re xw xa xb xc : Int) (w : World) (h : KAt B A w gB g p b) (hI : Inv M p s b) (hM : 40 ≤ M) (hcv : s.conf = ⟨cl, qu, qt, ro, re⟩) (hx1 : In64 xw) (hx2 : In64 xa) (hx3 : In64 xb) (hx4 : In64 xc) :
    Calls Try.prog 48 #[.pointer (some ⟨gB, 0, none⟩), .pointer (some ⟨g, 0, none⟩), .agg #[.int .i64 cl, .int .i64 qu, .int .i64 qt, .int .i64 ro, .int .i64 re], .agg #[.int .i64 xw, .int .i64 xa, .int .i64 xb, .int .i64 xc]] w (ActPost B M A gB g s.conf w) := by
  have hb := pick_bd (c := xw) (n := 10) (by omega)
  by_cases h1 : pickV xw 10 < 4
  · exact does_sub B M A gB g p s b cl qu qt ro re xw xa xb xc w h hI hM hcv hx1 hx2 hx3 hx4 h1
  by_cases h2 : pickV xw 10 < 6
  · exact does_fill B M A gB g p s b cl qu qt ro re xw xa xb xc w h hI hM hcv hx1 hx2 hx3 hx4 ⟨by omega, h2⟩
  by_cases h3 : pickV xw 10 < 8
  · exact book_send B M A gB g p s b cl qu qt ro re xw xa xb xc w h hI hM hcv hx1 hx2 hx3 hx4 ⟨by omega, h3⟩
  by_cases h4 : pickV xw 10 = 8
  · exact book_sync B M A gB g p s b cl qu qt ro re xw xa xb xc w h hI hM hcv hx1 hx2 hx3 hx4 h4
  · exact book_crash B M A gB g p s b cl qu qt ro re xw xa xb xc w h hI hM hcv hx1 hx2 hx3 hx4 (by omega)

/-! ### opened -/
def c1V : ConfV := ⟨1, 1, 1, 8, 1⟩
def t1V : ByteArray := ⟨#[97, 124, 97, 61, 51]⟩
def s1V : CluV := (submitV (newV c1V) 0 7 t1V 0).1
def s2V : CluV := (fillV s1V).1
def s3V : CluV := (sendV s2V 0 0).1
theorem open1 : confOk c1V = true := by decide
theorem open2 : (submitV (newV c1V) 0 7 t1V 0).2 = 0 := by kernel_rfl
theorem open3 : (fillV s1V).2 = (1, 0) := by kernel_rfl
theorem open4 : (sendV s2V 0 0).2 = 0 := by kernel_rfl
theorem open5 : getV s3V 0 ⟨#[97]⟩ = (3, 0) := by kernel_rfl
theorem open6 : replyV s3V 7 = (1, 0, 0) := by kernel_rfl

end Go.Proofs.Ytccckonckddadaa
namespace Go.Proofs.Ytccckonckddadaa
open Go.RowKit
set_option linter.unusedVariables false

theorem seq_step {B g : Nat} {F : Nat → Prop} {p' : SeqV} {w w' : World} (hP : SeqPost g F p' w w') (hF : ∀ k, F k → B ≤ k) (hB : B ≤ w.heap.size) : ∃ F', SeqAt w' g F' p' ∧ (∀ k, F' k → B ≤ k) ∧ Below B w w' := by
  obtain ⟨F', p1, p2, p3⟩ := hP
  refine ⟨F', p1, fun k hk => ?_, p2.below hB hF⟩
  rcases p3 k hk with e | e
  · exact hF k e
  · omega

theorem fields_reply : (Try.prog.fieldsOf 63).toList = [{ name := "State", type := 61, offset := 0, embedded := false, tag := "", pkgPath := "", byteOffset := 0 }, { name := "Epoch", type := 3, offset := 1, embedded := false, tag := "", pkgPath := "", byteOffset := 8 }] := by
  rw [Program.fieldsOf, Try.underlying63]
theorem struct_reply : Try.prog.underlying 63 = some (.struct (Try.prog.fieldsOf 63)) := by
  rw [Program.fieldsOf, Try.underlying63]
theorem guard_reply : Try.prog.eqGuardType Try.prog.depth 63 = false := by kernel_rfl
theorem equal_reply (c i : Int) (W : World) :
    (Op.equalIn 10000 63 (.agg #[.int .u8 c, .int .i64 i]) (.agg #[.int .u8 c, .int .i64 i])).run Try.prog W = .ok true W := by
  rw [run_equalIn_struct W 9999 _ _ _ struct_reply (by kernel_rfl), fields_reply]
  simp [Op.eqFields, go_sem]

def OpenPost (c : ConfV) (w : World) (e : Ending) (w' : World) : Prop :=
  ∃ (g : Nat) (F : Nat → Prop), e = .returned (.pointer (some ⟨g, 0, none⟩)) ∧ SeqAt w' g F (pNewV (confV c)) ∧ (∀ k, F k → w.heap.size ≤ k) ∧ Below w.heap.size w w'

set_option maxRecDepth 100000 in
set_option maxHeartbeats 8000000 in
theorem opened_any (c : ConfV) (w : World) (h1 : In64 c.clients) (h2 : In64 c.queue) (h3 : In64 c.quantum) (h4 : In64 c.room) (h5 : In64 c.reps) :
    Calls Try.prog 47 #[.agg #[.int .i64 c.clients, .int .i64 c.queue, .int .i64 c.quantum, .int .i64 c.room, .int .i64 c.reps]] w (OpenPost c w) := by
  have HCf : Hid (∀ W, Calls Try.prog 27 #[.agg #[.int .i64 c.clients, .int .i64 c.queue, .int .i64 c.quantum, .int .i64 c.room, .int .i64 c.reps]] W fun e w' => e = .returned (.agg #[.int .i64 (confV c).clients, .int .i64 (confV c).queue, .int .i64 (confV c).quantum, .int .i64 (confV c).room, .int .i64 (confV c).reps]) ∧ Below W.heap.size W w') := fun W => conf_any c W h1 h2 h3 h4 h5
  have HPost : Hid (∀ e w', OpenPost c w e w' ↔ ∃ (g : Nat) (F : Nat → Prop), e = .returned (.pointer (some ⟨g, 0, none⟩)) ∧ SeqAt w' g F (pNewV (confV c)) ∧ (∀ k, F k → w.heap.size ≤ k) ∧ Below w.heap.size w w') := fun _ _ => Iff.rfl
  have HOk : Hid _ := confV_ok c
  clear h1 h2 h3 h4 h5
  obtain ⟨x1, x2, x3, x4, x5⟩ := c
  simp only at HCf
  generalize hcv : confV ⟨x1, x2, x3, x4, x5⟩ = cv at *
  generalize OpenPost ⟨x1, x2, x3, x4, x5⟩ w = PP at *
  clear hcv
  obtain ⟨y1, y2, y3, y4, y5⟩ := cv
  simp only at HCf
  have heq := equal_reply
  have hgd := guard_reply
  obtain ⟨W1, hW1⟩ : ∃ W1, W1 = w.alloc (.cells #[.int .i64 x1, .int .i64 x2, .int .i64 x3, .int .i64 x4, .int .i64 x5] 55) := ⟨_, rfl⟩
  have HBw : Hid (Below w.heap.size w W1) := by rw [hW1]; exact (Below.refl _ _).alloc (Nat.le_refl _) _
  have HBx : Hid (W1.heap[w.heap.size]? = some (.cells #[.int .i64 x1, .int .i64 x2, .int .i64 x3, .int .i64 x4, .int .i64 x5] 55)) := by rw [hW1]; exact heap_at rfl
  have hz1 : W1.heap.size = w.heap.size + 1 := by rw [hW1]; simp
  go_enter Try.func47, Try.ntmps47
  go_wp2_with fail
  rewrite [← hW1]
  clear hW1
  refine (pnew_any c1V W1).mono ?_
  rintro e w1 (⟨_, g, F, rfl, hS1, hF1, hB1⟩ | ⟨hno, _⟩)
  rotate_left
  · rw [open1] at hno; cases hno
  have HA1 : Hid (SeqAt w1 g F (pNewV c1V) ∧ (∀ k, F k → W1.heap.size ≤ k) ∧ Below W1.heap.size W1 w1) := ⟨hS1, hF1, hB1⟩
  clear hS1 hF1 hB1
  go_wp2_with fail
  refine (psubmit_any g F (pNewV c1V) 0 7 t1V 0 w1 HA1.out.1 (by decide)).mono ?_
  rintro e w2 ⟨rfl, hP⟩
  have HB0 : Hid _ := both_new open1
  have HB1 : Hid (Both (pSubmitV (pNewV c1V) 0 7 t1V 0).1 s1V) := both_submit HB0.out 0 7 t1V 0
  have HV1 : Hid ((pSubmitV (pNewV c1V) 0 7 t1V 0).2 = 0) := ((submit_sim HB0.out.sim HB0.out.fit 0 7 t1V 0).1).trans open2
  rewrite [HV1.out]
  obtain ⟨F2, hS2, hF2, hB2⟩ := seq_step hP HA1.out.2.1 HA1.out.2.2.size
  have HA2 : Hid (SeqAt w2 g F2 (pSubmitV (pNewV c1V) 0 7 t1V 0).1 ∧ (∀ k, F2 k → W1.heap.size ≤ k) ∧ Below W1.heap.size W1 w2) := ⟨hS2, hF2, HA1.out.2.2.trans hB2⟩
  clear hP hS2 hF2 hB2
  have HO2 : Hid (OutsOk (pSubmitV (pNewV c1V) 0 7 t1V 0).1) := submit_outsOk ⟨Nat.zero_le _, fun y hy => by cases hy⟩
  generalize (pSubmitV (pNewV c1V) 0 7 t1V 0).1 = p1 at *
  have hrd := fill_ready HB1.out.sim HB1.out.fit HB1.out.rest
  have hout : p1.outs.length + 64 ≤ 1000000 := by
    have a1 := HO2.out.1
    have a2 := HB1.out.sim.epochs
    have a3 := HB1.out.fit.many
    omega
  have HFi : Hid (Calls Try.prog 37 #[.pointer (some ⟨g, 0, none⟩)] w2 (FillRPost g F2 (pFillV p1) w2)) := pfill_any g F2 p1 w2 HA2.out.1 hrd.1 hrd.2.1 (fun _ => hrd.2.2) hout
  clear hrd hout
  go_wp2_with fail
  refine HFi.out.mono ?_
  rintro e w3 ⟨rfl, hP⟩
  have HV2 : Hid ((pFillV p1).2 = (1, 0)) := ((fill_sim HB1.out.sim HB1.out.fit HB1.out.rest).1).trans open3
  rewrite [HV2.out]
  have HB2 : Hid (Both (pFillV p1).1 s2V) := both_fill HB1.out
  obtain ⟨F3, hS3, hF3, hB3⟩ := seq_step hP HA2.out.2.1 HA2.out.2.2.size
  have HA3 : Hid (SeqAt w3 g F3 (pFillV p1).1 ∧ (∀ k, F3 k → W1.heap.size ≤ k) ∧ Below W1.heap.size W1 w3) := ⟨hS3, hF3, HA2.out.2.2.trans hB3⟩
  clear hP hS3 hF3 hB3 HFi
  generalize (pFillV p1).1 = p2 at *
  go_wp2_with fail
  refine (psend_any g F3 p2 s2V 0 0 w3 HA3.out.1 HB2.out).mono ?_
  rintro e w4 ⟨rfl, hP⟩
  rewrite [open4]
  have HB3 : Hid (Both (withR p2 (repsOf s3V)) s3V) := both_send HB2.out 0 0
  obtain ⟨F4, hS4, hF4, hB4⟩ := seq_step hP HA3.out.2.1 HA3.out.2.2.size
  have HA4 : Hid (SeqAt w4 g F4 (withR p2 (repsOf s3V)) ∧ (∀ k, F4 k → W1.heap.size ≤ k) ∧ Below W1.heap.size W1 w4) := ⟨hS4, hF4, HA3.out.2.2.trans hB4⟩
  clear hP hS4 hF4 hB4
  generalize withR p2 (repsOf s3V) = p3 at *
  go_wp2_with fail
  refine (pget_any g F4 p3 s3V 0 ⟨#[97]⟩ w4 HA4.out.1 HB3.out (by decide)).mono ?_
  rintro e w5 ⟨rfl, hb5⟩
  rewrite [open5]
  have HA5 : Hid (SeqAt w5 g F4 p3 ∧ Below W1.heap.size W1 w5) := ⟨HA4.out.1.below hb5, HA4.out.2.2.trans (hb5.mono HA4.out.2.2.size)⟩
  clear hb5
  go_wp2_with fail
  refine (preply_any g F4 p3 7 w5 HA5.out.1).mono ?_
  rintro e w6 ⟨rfl, hb6⟩
  have HV6 : Hid (pReplyV p3 7 = (1, 0, 0)) := (reply_sim HB3.out.sim HB3.out.fit 7).trans open6
  rewrite [HV6.out]
  have HB6 : Hid (Below W1.heap.size W1 w6) := HA5.out.2.trans (hb6.mono HA5.out.2.size)
  have hg6 : W1.heap.size ≤ w6.heap.size := HB6.out.size
  obtain ⟨cx, fx, zx⟩ := heap_cells (((HB6.out.block w.heap.size (by omega))).trans HBx.out)
  have x0 : w6.cell? ⟨w.heap.size, 0, none⟩ = some (.int .i64 x1) := by rw [cx]; rfl
  have x1' : w6.cell? ⟨w.heap.size, 1, none⟩ = some (.int .i64 x2) := by rw [cx]; rfl
  have x2' : w6.cell? ⟨w.heap.size, 2, none⟩ = some (.int .i64 x3) := by rw [cx]; rfl
  have x3' : w6.cell? ⟨w.heap.size, 3, none⟩ = some (.int .i64 x4) := by rw [cx]; rfl
  have x4' : w6.cell? ⟨w.heap.size, 4, none⟩ = some (.int .i64 x5) := by rw [cx]; rfl
  clear hb6 cx fx
  simp only
  go_wp2_with fail
  refine (HCf.out _).mono ?_
  rintro e w7 ⟨rfl, hb7⟩
  have HB7 : Hid (Below W1.heap.size W1 w7) := (HB6.out.alloc hg6 _).trans (hb7.mono (by simp; omega))
  clear hb7 x0 x1' x2' x3' x4'
  go_wp2_with fail
  have hnew := pnew_any ⟨y1, y2, y3, y4, y5⟩ w7
  refine hnew.mono ?_
  rintro e w8 (⟨_, gN, FN, rfl, hS8, hF8, hB8⟩ | ⟨hno, _⟩)
  rotate_left
  · rw [HOk.out] at hno; cases hno
  have HA8 : Hid (SeqAt w8 gN FN (pNewV ⟨y1, y2, y3, y4, y5⟩) ∧ (∀ k, FN k → w7.heap.size ≤ k) ∧ Below w7.heap.size w7 w8) := ⟨hS8, hF8, hB8⟩
  clear hS8 hF8 hB8 hnew
  go_wp2
  refine (HPost.out _ _).2 ⟨gN, FN, rfl, HA8.out.1, fun k hk => ?_, ?_⟩
  · have a1 := HA8.out.2.1 k hk
    have a2 := HB7.out.size
    omega
  · have a2 := HB7.out.size
    exact (HBw.out.trans (HB7.out.mono (by omega))).trans (HA8.out.2.2.mono (by omega))

end Go.Proofs.Ytccckonckddadaa
namespace Go.Proofs.Ytccckonckddadaa
open Go.RowKit
set_option linter.unusedVariables false

theorem RawRow.below {w W : World} {B : Nat} {a : Option Addr} {m : Nat} (h : RawRow w a m) (hB : B = w.heap.size) (hb : Below B w W) : RawRow W a m := by
  subst hB
  exact h.kept hb

def book0 : BookV := ⟨List.replicate 40 false, 0, 0⟩
theorem inv_new {c : ConfV} (h : confOk c = true) : Inv 40 (pNewV c) (newV c) book0 := by
  refine ⟨both_new h, ⟨Nat.zero_le _, fun y hy => by cases hy⟩, fun y hy => (by cases hy), rfl, rfl, fun t ht => (by cases ht), fun id hid => ?_⟩
  have h1 : (List.replicate 40 false).getD id false = false := by
    rw [List.getD_eq_getElem?_getD, List.getElem?_replicate, if_pos hid]; rfl
  show (List.replicate 40 false).getD id false = true ↔ 0 ≤ findV [] id
  rw [h1]
  constructor
  · intro hh; cases hh
  · intro hh
    exact absurd hh (by show ¬ (0 : Int) ≤ -1; decide)

def PlayPost (c : ConfV) (w : World) (e : Ending) (w' : World) : Prop :=
  ∃ (g gB : Nat) (p : SeqV) (s : CluV) (b : BookV), e = .returned (.tuple #[.pointer (some ⟨g, 0, none⟩), .pointer (some ⟨gB, 0, none⟩)]) ∧ KAt w.heap.size (fun _ => False) w' gB g p b ∧ Inv 40 p s b ∧ s.conf = confV c ∧ Below w.heap.size w w'

set_option maxRecDepth 100000 in
set_option maxHeartbeats 8000000 in
theorem played_any (c : ConfV) (a : Option Addr) (m cp : Nat) (w : World) (hr : RawRow w a m) (h1 : In64 c.clients) (h2 : In64 c.queue) (h3 : In64 c.quantum) (h4 : In64 c.room) (h5 : In64 c.reps) (hm : m ≤ 9000000000000000) :
    Calls Try.prog 24 #[.agg #[.int .i64 c.clients, .int .i64 c.queue, .int .i64 c.quantum, .int .i64 c.room, .int .i64 c.reps], .slice a m cp] w (PlayPost c w) := by
  have HCf : Hid (∀ W, Calls Try.prog 27 #[.agg #[.int .i64 c.clients, .int .i64 c.queue, .int .i64 c.quantum, .int .i64 c.room, .int .i64 c.reps]] W fun e w' => e = .returned (.agg #[.int .i64 (confV c).clients, .int .i64 (confV c).queue, .int .i64 (confV c).quantum, .int .i64 (confV c).room, .int .i64 (confV c).reps]) ∧ Below W.heap.size W w') := fun W => conf_any c W h1 h2 h3 h4 h5
  have HOp : Hid (∀ W, Calls Try.prog 47 #[.agg #[.int .i64 c.clients, .int .i64 c.queue, .int .i64 c.quantum, .int .i64 c.room, .int .i64 c.reps]] W (OpenPost c W)) := fun W => opened_any c W h1 h2 h3 h4 h5
  have HPost : Hid (∀ e w', PlayPost c w e w' ↔ ∃ (g gB : Nat) (p : SeqV) (s : CluV) (b : BookV), e = .returned (.tuple #[.pointer (some ⟨g, 0, none⟩), .pointer (some ⟨gB, 0, none⟩)]) ∧ KAt w.heap.size (fun _ => False) w' gB g p b ∧ Inv 40 p s b ∧ s.conf = confV c ∧ Below w.heap.size w w') := fun _ _ => Iff.rfl
  have HIn : Hid _ := inv_new (confV_ok c)
  have HR : Hid _ := hr
  clear h1 h2 h3 h4 h5 hr
  obtain ⟨x1, x2, x3, x4, x5⟩ := c
  simp only at HCf HOp
  have HOO : Hid (∀ W e w', OpenPost ⟨x1, x2, x3, x4, x5⟩ W e w' → ∃ (g : Nat) (F : Nat → Prop), e = .returned (.pointer (some ⟨g, 0, none⟩)) ∧ SeqAt w' g F (pNewV (confV ⟨x1, x2, x3, x4, x5⟩)) ∧ (∀ k, F k → W.heap.size ≤ k) ∧ Below W.heap.size W w') := fun _ _ _ h => h
  generalize OpenPost ⟨x1, x2, x3, x4, x5⟩ = OP at *
  generalize hcv : confV ⟨x1, x2, x3, x4, x5⟩ = cv at *
  generalize PlayPost ⟨x1, x2, x3, x4, x5⟩ w = PP at *
  clear hcv
  obtain ⟨y1, y2, y3, y4, y5⟩ := cv
  simp only at HCf
  obtain ⟨B, hB⟩ : ∃ B, B = w.heap.size := ⟨_, rfl⟩
  rw [← hB] at HPost
  go_enter Try.func24, Try.ntmps24
  go_wp2_with fail
  refine (HOp.out _).mono ?_
  rintro e w3 hO
  obtain ⟨g, F, rfl, hS, hF, hB3⟩ := HOO.out _ _ _ hO
  obtain ⟨g0, g1, hb0⟩ := below_two hB3
  have hz3 : w.heap.size + 2 ≤ w3.heap.size := by
    have := hB3.size
    simp at this
    omega
  have HA3 : Hid (SeqAt w3 g F (pNewV ⟨y1, y2, y3, y4, y5⟩) ∧ (∀ k, F k → w.heap.size + 2 ≤ k) ∧ Below w.heap.size w w3 ∧ BookAt w3 (w.heap.size + 1) book0) := ⟨hS, fun k hk => by have := hF k hk; simp at this; omega, hb0, g1, rfl⟩
  obtain ⟨cx, fx, zx⟩ := heap_cells g0
  have x0' : w3.cell? ⟨w.heap.size, 0, none⟩ = some (.int .i64 x1) := by rw [cx]; rfl
  have x1' : w3.cell? ⟨w.heap.size, 1, none⟩ = some (.int .i64 x2) := by rw [cx]; rfl
  have x2' : w3.cell? ⟨w.heap.size, 2, none⟩ = some (.int .i64 x3) := by rw [cx]; rfl
  have x3' : w3.cell? ⟨w.heap.size, 3, none⟩ = some (.int .i64 x4) := by rw [cx]; rfl
  have x4' : w3.cell? ⟨w.heap.size, 4, none⟩ = some (.int .i64 x5) := by rw [cx]; rfl
  clear hO hS hF hB3 g0 g1 hb0 cx fx
  go_wp2_with fail
  refine (HCf.out _).mono ?_
  rintro e w4 ⟨rfl, hb4⟩
  obtain ⟨W5, hW5⟩ : ∃ W5, W5 = w4.alloc (.cells #[.int .i64 y1, .int .i64 y2, .int .i64 y3, .int .i64 y4, .int .i64 y5] 55) := ⟨_, rfl⟩
  have HB5 : Hid (Below w3.heap.size w3 W5) := by rw [hW5]; exact hb4.alloc hb4.size _
  have HG5 : Hid (W5.heap[w4.heap.size]? = some (.cells #[.int .i64 y1, .int .i64 y2, .int .i64 y3, .int .i64 y4, .int .i64 y5] 55)) := by rw [hW5]; exact heap_at rfl
  have hz4 : w3.heap.size ≤ w4.heap.size := hb4.size
  clear hb4 x0' x1' x2' x3' x4'
  obtain ⟨gC, hgC⟩ : ∃ x, w4.heap.size = x := ⟨_, rfl⟩
  rw [hgC] at HG5 hz4
  have HK5 : Hid (KAt B (fun k => k = gC) W5 (B + 1) g (pNewV ⟨y1, y2, y3, y4, y5⟩) book0 ∧ Below B w W5) := by
    rw [hB]
    have hz5 := (heap_cells HG5.out).2.2
    refine ⟨⟨⟨F, HA3.out.1.below HB5.out, fun k hk => ?_⟩, HA3.out.2.2.2.same (HB5.out.block _ (by omega)), by omega, fun k hk => ?_⟩, HA3.out.2.2.1.trans (HB5.out.mono (by omega))⟩
    · have h1 := HA3.out.2.1 k hk
      have h2 := HA3.out.1.own k hk
      exact ⟨by omega, by omega, fun e => by omega⟩
    · subst hk
      exact ⟨hz5, by omega⟩
  go_wp2
  rewrite [← hW5]
  try rewrite [hgC]
  rewrite [← hB]
  have HBq : Hid (B = w.heap.size) := hB
  clear hB hW5 hgC HA3 HB5
  go_loopw [9] (fun v9 wr => ∃ (k : Nat) (p : SeqV) (s : CluV) (b : BookV), v9 = .int .i64 k ∧ k ≤ m ∧ Hid (KAt B (fun k => k = gC) wr (B + 1) g p b ∧ Inv 40 p s b ∧ s.conf = ⟨y1, y2, y3, y4, y5⟩ ∧ Below B w wr ∧ wr.heap[gC]? = some (.cells #[.int .i64 y1, .int .i64 y2, .int .i64 y3, .int .i64 y4, .int .i64 y5] 55))) (fun v9 _ => m - (intOf v9).toNat)
  case atStart => exact ⟨0, _, newV ⟨y1, y2, y3, y4, y5⟩, book0, rfl, Nat.zero_le _, HK5.out.1, HIn.out, rfl, HK5.out.2, HG5.out⟩
  case round =>
    obtain ⟨k, p, s, b, rfl, hk, HL⟩ := hrel
    clear HK5 HG5 HIn
    by_cases hlt : k < m
    · obtain ⟨gS, off, rfl, hgS, hcell⟩ : ∃ g off, a = some ⟨g, off, none⟩ ∧ g < w.heap.size ∧ ∀ k, k < m → ∃ x0 x1 x2 x3 : Int, (w.cell? ⟨g, off + k * 4, none⟩ = some (.int .i64 x0) ∧ w.cell? ⟨g, off + k * 4 + 1, none⟩ = some (.int .i64 x1) ∧ w.cell? ⟨g, off + k * 4 + 2, none⟩ = some (.int .i64 x2) ∧ w.cell? ⟨g, off + k * 4 + 3, none⟩ = some (.int .i64 x3)) ∧ In64 x0 ∧ In64 x1 ∧ In64 x2 ∧ In64 x3 := by
        rcases HR.out.cells with h0 | h0
        · omega
        · exact h0
      obtain ⟨z0, z1, z2, z3, ⟨d0, d1, d2, d3⟩, hi⟩ := hcell k hlt
      have HZ : Hid _ := hi
      have hgB : gS < B := by rw [HBq.out]; exact hgS
      have hgr : gS < wr.heap.size := by have := HL.out.1.base; omega
      have HS1 : Hid (∀ W : World, Below B w W → W.heap[gC]? = some (.cells #[.int .i64 y1, .int .i64 y2, .int .i64 y3, .int .i64 y4, .int .i64 y5] 55) → W.cell? ⟨gC, 0, none⟩ = some (.int .i64 y1) ∧ W.cell? ⟨gC, 1, none⟩ = some (.int .i64 y2) ∧ W.cell? ⟨gC, 2, none⟩ = some (.int .i64 y3) ∧ W.cell? ⟨gC, 3, none⟩ = some (.int .i64 y4) ∧ W.cell? ⟨gC, 4, none⟩ = some (.int .i64 y5) ∧ W.cell? ⟨gS, off + k * 4, none⟩ = some (.int .i64 z0) ∧ W.cell? ⟨gS, off + k * 4 + 1, none⟩ = some (.int .i64 z1) ∧ W.cell? ⟨gS, off + k * 4 + 2, none⟩ = some (.int .i64 z2) ∧ W.cell? ⟨gS, off + k * 4 + 3, none⟩ = some (.int .i64 z3)) := fun W hW hC => by
        obtain ⟨ck, _, _⟩ := heap_cells hC
        exact ⟨by rw [ck]; rfl, by rw [ck]; rfl, by rw [ck]; rfl, by rw [ck]; rfl, by rw [ck]; rfl, (hW.cell (p := ⟨gS, off + k * 4, none⟩) hgB).trans d0, (hW.cell (p := ⟨gS, off + k * 4 + 1, none⟩) hgB).trans d1, (hW.cell (p := ⟨gS, off + k * 4 + 2, none⟩) hgB).trans d2, (hW.cell (p := ⟨gS, off + k * 4 + 3, none⟩) hgB).trans d3⟩
      clear hcell hi d0 d1 d2 d3
      have zk := (heap_cells HL.out.2.2.2.2).2.2
      have k1 : (k : Int) < (m : Int) := by omega
      have k0 : (0 : Int) ≤ (k : Int) := by omega
      have HD : Hid (KAt B (fun k => k = gC) wr.drew (B + 1) g p b) := HL.out.1.below (Below.refl _ _).drew
      have hbd := book_does B 40 (fun k => k = gC) (B + 1) g p s b y1 y2 y3 y4 y5 z0 z1 z2 z3 wr.drew HD.out HL.out.2.1 (Nat.le_refl _) HL.out.2.2.1 HZ.out.1 HZ.out.2.1 HZ.out.2.2.1 HZ.out.2.2.2
      rw [HL.out.2.2.1] at hbd
      have HS0 : Hid (∀ W : World, W = wr.drew → W.cell? ⟨gC, 0, none⟩ = some (.int .i64 y1) ∧ W.cell? ⟨gC, 1, none⟩ = some (.int .i64 y2) ∧ W.cell? ⟨gC, 2, none⟩ = some (.int .i64 y3) ∧ W.cell? ⟨gC, 3, none⟩ = some (.int .i64 y4) ∧ W.cell? ⟨gC, 4, none⟩ = some (.int .i64 y5) ∧ W.cell? ⟨gS, off + k * 4, none⟩ = some (.int .i64 z0) ∧ W.cell? ⟨gS, off + k * 4 + 1, none⟩ = some (.int .i64 z1) ∧ W.cell? ⟨gS, off + k * 4 + 2, none⟩ = some (.int .i64 z2) ∧ W.cell? ⟨gS, off + k * 4 + 3, none⟩ = some (.int .i64 z3)) := fun W hW => HS1.out W (by rw [hW]; exact HL.out.2.2.2.1.drew) (by rw [hW]; exact HL.out.2.2.2.2)
      have HDo : Hid (Calls Try.prog 48 #[.pointer (some ⟨B + 1, 0, none⟩), .pointer (some ⟨g, 0, none⟩), .agg #[.int .i64 y1, .int .i64 y2, .int .i64 y3, .int .i64 y4, .int .i64 y5], .agg #[.int .i64 z0, .int .i64 z1, .int .i64 z2, .int .i64 z3]] wr.drew fun e W => e = .returned (.tuple #[]) ∧ ((∃ p' s' b', KAt B (fun k => k = gC) W (B + 1) g p' b' ∧ Inv 40 p' s' b' ∧ s'.conf = ⟨y1, y2, y3, y4, y5⟩) ∧ Bel B (fun k => k = gC) wr.drew W) ∧ W.cell? ⟨gC, 0, none⟩ = some (.int .i64 y1) ∧ W.cell? ⟨gC, 1, none⟩ = some (.int .i64 y2) ∧ W.cell? ⟨gC, 2, none⟩ = some (.int .i64 y3) ∧ W.cell? ⟨gC, 3, none⟩ = some (.int .i64 y4) ∧ W.cell? ⟨gC, 4, none⟩ = some (.int .i64 y5) ∧ W.cell? ⟨gS, off + k * 4, none⟩ = some (.int .i64 z0) ∧ W.cell? ⟨gS, off + k * 4 + 1, none⟩ = some (.int .i64 z1) ∧ W.cell? ⟨gS, off + k * 4 + 2, none⟩ = some (.int .i64 z2) ∧ W.cell? ⟨gS, off + k * 4 + 3, none⟩ = some (.int .i64 z3)) := hbd.mono (by
        rintro e W ⟨rfl, h1, h2⟩
        exact ⟨rfl, ⟨h1, h2⟩, HS1.out W (HL.out.2.2.2.1.drew.trans h2.bel) ((h2.av gC rfl).trans HL.out.2.2.2.2)⟩)
      clear hbd
      go_wp2
      go_region_held3 (fun W => W.cell? ⟨gC, 0, none⟩ = some (.int .i64 y1) ∧ W.cell? ⟨gC, 1, none⟩ = some (.int .i64 y2) ∧ W.cell? ⟨gC, 2, none⟩ = some (.int .i64 y3) ∧ W.cell? ⟨gC, 3, none⟩ = some (.int .i64 y4) ∧ W.cell? ⟨gC, 4, none⟩ = some (.int .i64 y5) ∧ W.cell? ⟨gS, off + k * 4, none⟩ = some (.int .i64 z0) ∧ W.cell? ⟨gS, off + k * 4 + 1, none⟩ = some (.int .i64 z1) ∧ W.cell? ⟨gS, off + k * 4 + 2, none⟩ = some (.int .i64 z2) ∧ W.cell? ⟨gS, off + k * 4 + 3, none⟩ = some (.int .i64 z3))
        (first | (with_reducible exact HS0.out _ rfl) | (with_reducible exact hSx))
        (first | (go_at_call 48; with_reducible refine HDo.out.mono ?_; rintro e w9 ⟨rfl, ⟨hK9, hB9⟩, hSx⟩))
      all_goals
        obtain ⟨p', s', b', q1, q2, q3⟩ := hK9
        have HN : Hid (KAt B (fun k => k = gC) w9 (B + 1) g p' b' ∧ Inv 40 p' s' b' ∧ s'.conf = ⟨y1, y2, y3, y4, y5⟩ ∧ Below B w w9 ∧ w9.heap[gC]? = some (.cells #[.int .i64 y1, .int .i64 y2, .int .i64 y3, .int .i64 y4, .int .i64 y5] 55)) :=
          ⟨q1, q2, q3, HL.out.2.2.2.1.drew.trans hB9.bel, (hB9.av gC rfl).trans HL.out.2.2.2.2⟩
        clear q1 q2 q3 hB9 hSx
        go_wp2
        go_roundw
        case rel => exact ⟨k + 1, p', s', b', by go_num, by omega, HN⟩
        case measure => simp [intOf]; omega
    · obtain ⟨_, _, _, bR, _, bz⟩ := HL.out.1.book.reads
      have hkk : k = m := by omega
      subst hkk
      have hdk : decide ((k : Int) < (k : Int)) = false := decide_eq_false (by omega)
      go_wp2
      refine (HPost.out _ _).2 ⟨g, B + 1, p, s, b, rfl, ?_, HL.out.2.1, HL.out.2.2.1, HL.out.2.2.2.1⟩
      obtain ⟨F', f1, f2⟩ := HL.out.1.seq
      exact ⟨⟨F', f1, fun k hk => ⟨(f2 k hk).1, (f2 k hk).2.1, fun hh => hh⟩⟩, HL.out.1.book, HL.out.1.gb, fun k hk => hk.elim⟩

end Go.Proofs.Ytccckonckddadaa
namespace Go.Proofs.Ytccckonckddadaa
open Go.RowKit
set_option linter.unusedVariables false

theorem below_drewN {B : Nat} {w W : World} (h : Below B w W) (n : Nat) : Below B w (W.drewN n) := ⟨h.os, h.tape, h.output, h.size, h.block⟩

/-! ### Once -/
theorem reply_facts {M : Nat} {p : SeqV} {s : CluV} {b : BookV} (h : Inv M p s b) (id : Nat) : ((pReplyV p id).2.2 = 0 ∧ 0 ≤ findV s.txs id ∨ (pReplyV p id).2.2 = 10 ∧ ¬ 0 ≤ findV s.txs id) ∧ ((pReplyV p id).1 = 0 ∧ (pReplyV p id).2.1 = 0 ∨ (pReplyV p id).1 ≠ 0 ∧ 0 ≤ (pReplyV p id).2.1 ∧ (pReplyV p id).2.1 < b.ep) ∧ indOf s.txs id = if (pReplyV p id).1 ≠ 0 then 1 else 0 := by
  have hrs := reply_sim h.both.sim h.both.fit (id : Int)
  refine ⟨?_, ?_, ?_⟩
  · have hrc := reply_code h.both.fit (s := s) (id : Int)
    rw [hrs]
    by_cases hf : 0 ≤ findV s.txs (id : Int)
    · exact .inl ⟨hrc.2 hf, hf⟩
    · refine .inr ⟨?_, hf⟩
      have h1 : (replyV s (id : Int)).2.2 ≠ 0 := fun e => hf (hrc.1 e)
      rw [← hrs] at h1 ⊢
      unfold pReplyV at h1 ⊢
      cases ho : outV p (id : Int) with
      | some x => rw [ho] at h1; exact absurd rfl h1
      | none =>
        rw [ho] at h1
        simp only at h1 ⊢
        split at h1
        · exact absurd rfl h1
        · rename_i hn; rw [if_neg hn]
  · unfold pReplyV
    cases ho : outV p (id : Int) with
    | some x =>
      have hx : x ∈ p.outs := List.mem_of_find?_eq_some ho
      have h1 := h.oep x hx
      obtain ⟨t, _, ht, rfl⟩ := (h.both.sim.outs x).1 hx
      have h2 := h.bep
      have h3 := h.both.sim.epochs
      refine .inr ⟨ht, h1.1, ?_⟩
      show t.e < b.ep
      have h4 : t.e < (p.epochs : Int) := h1.2
      omega
    | none =>
      simp only
      split <;> exact .inl ⟨rfl, rfl⟩
  · rw [ind_reply h.both.fit id, hrs]

set_option maxRecDepth 100000 in
set_option maxHeartbeats 8000000 in
theorem once_walk (c : ConfV) (a : Option Addr) (m cp : Nat) (w : World) (hr : RawRow w a m) (h1 : In64 c.clients) (h2 : In64 c.queue) (h3 : In64 c.quantum) (h4 : In64 c.room) (h5 : In64 c.reps) (hm : m ≤ 9000000000000000) :
    Calls Try.prog 9 #[.agg #[.int .i64 c.clients, .int .i64 c.queue, .int .i64 c.quantum, .int .i64 c.room, .int .i64 c.reps], .slice a m cp] w fun e w' => e = .returned (.bool true) ∧ Below w.heap.size w w' := by
  have HPl : Hid (∀ W, RawRow W a m → Calls Try.prog 24 #[.agg #[.int .i64 c.clients, .int .i64 c.queue, .int .i64 c.quantum, .int .i64 c.room, .int .i64 c.reps], .slice a m cp] W fun e w' => ∃ (g gB : Nat) (p : SeqV) (s : CluV) (b : BookV), e = .returned (.tuple #[.pointer (some ⟨g, 0, none⟩), .pointer (some ⟨gB, 0, none⟩)]) ∧ KAt W.heap.size (fun _ => False) w' gB g p b ∧ Inv 40 p s b ∧ Below W.heap.size W w') := fun W hW => (played_any c a m cp W hW h1 h2 h3 h4 h5 hm).mono (by
    rintro e w' ⟨g, gB, p, s, b, q1, q2, q3, _, q5⟩
    exact ⟨g, gB, p, s, b, q1, q2, q3, q5⟩)
  have HR : Hid _ := hr
  clear h1 h2 h3 h4 h5 hr
  obtain ⟨x1, x2, x3, x4, x5⟩ := c
  simp only at HPl
  have HBa : Hid (∀ o, Below w.heap.size w (w.alloc o)) := fun o => (Below.refl _ _).alloc (Nat.le_refl _) _
  go_enter Try.func9, Try.ntmps9
  go_wp2_with fail
  refine (HPl.out _ (HR.out.kept (HBa.out _))).mono ?_
  rintro e w1 ⟨g, gB, p, s, b, rfl, hK, hI, hB1⟩
  have HB1 : Hid (Below w.heap.size w w1) := (HBa.out _).trans (hB1.mono (by simp))
  have HK : Hid _ := hK
  have HI : Hid _ := hI
  have hlog : p.log.length ≤ 1000000 := (fill_ready hI.both.sim hI.both.fit hI.both.rest).2.1
  have HSc : Hid (Dk.scanV p.log = (p.epochs, p.log.length)) := scan_seq hI.both.sim hI.both.fit
  have HOv : Hid (sumTo (indOf s.txs) 40 = p.outs.length) := over_sum hI.both.sim hI.both.fit hI.ids
  have HEp : Hid (b.ep = (p.epochs : Int) ∧ b.nr = (p.outs.length : Int)) := ⟨by rw [hI.bep, hI.both.sim.epochs], hI.brec⟩
  obtain ⟨F, hS, _⟩ := hK.seq
  have HS : Hid _ := hS
  obtain ⟨br, be, bn, bR, bf, bz⟩ := hK.book.reads
  have HBr : Hid _ := br
  clear hK hI hB1 hS br bR
  go_wp2
  go_loopw [7, 8] (fun v7 v8 wr => ∃ (k : Nat), v7 = .int .i64 (sumTo (indOf s.txs) k : Nat) ∧ v8 = .int .i64 k ∧ k ≤ 40 ∧ sumTo (indOf s.txs) k ≤ k ∧ Hid (Below w1.heap.size w1 wr)) (fun _ v8 _ => 40 - (intOf v8).toNat)
  case atStart => exact ⟨0, rfl, rfl, Nat.zero_le _, Nat.le_refl _, Below.refl _ _⟩
  case round =>
    obtain ⟨k, rfl, rfl, hk, hsum, HB⟩ := hrel
    by_cases hlt : k < 40
    · have k1 : (k : Int) < 40 := by omega
      have k0 : (0 : Int) ≤ (k : Int) := by omega
      go_wp2_with fail
      refine (preply_any g F p (k : Int) wr (HS.out.below HB.out)).mono ?_
      rintro e w2 ⟨rfl, hb2⟩
      have hfa := reply_facts HI.out k
      have hri := HBr.out k hlt
      have hin := HI.out.inn k hlt
      have HSn : Hid (sumTo (indOf s.txs) (k + 1) = sumTo (indOf s.txs) k + indOf s.txs k) := rfl
      obtain ⟨⟨st, ep, er⟩, hre⟩ : ∃ x, pReplyV p (k : Int) = x := ⟨_, rfl⟩
      rw [hre] at hfa
      rewrite [hre]
      simp only at hfa
      simp only
      obtain ⟨W3, hW3⟩ : ∃ W3, W3 = w2.alloc (.cells #[.int .u8 st, .int .i64 ep] 63) := ⟨_, rfl⟩
      have HB3 : Hid (Below w1.heap.size w1 W3) := by
        rw [hW3]
        exact (HB.out.trans (hb2.mono HB.out.size)).alloc (by have := HB.out.size; have := hb2.size; omega) _
      have HG3 : Hid (W3.heap[w2.heap.size]? = some (.cells #[.int .u8 st, .int .i64 ep] 63)) := by rw [hW3]; exact heap_at rfl
      have e40 := (HB3.out.cell (p := ⟨gB, 40, none⟩) bz).trans be
      have eid := (HB3.out.cell (p := ⟨gB, k, none⟩) bz).trans hri
      have zb := Nat.lt_of_lt_of_le bz HB3.out.size
      obtain ⟨cg, fg, zg⟩ := heap_cells HG3.out
      have g0 : W3.cell? ⟨w2.heap.size, 0, none⟩ = some (.int .u8 st) := by rw [cg]; rfl
      have g1 : W3.cell? ⟨w2.heap.size, 1, none⟩ = some (.int .i64 ep) := by rw [cg]; rfl
      clear hb2 hre hri cg fg
      obtain ⟨f1, f2, f3⟩ := hfa
      have hind : b.inn.getD k false = decide (er = 0) := by
        rcases f1 with ⟨q1, q2⟩ | ⟨q1, q2⟩
        · rw [q1, hin.2 q2]; rfl
        · rw [q1]
          cases hv : b.inn.getD k false
          · rfl
          · exact absurd (hin.1 hv) q2
      rw [hind] at eid
      have her : er = 0 ∨ er = 10 := by rcases f1 with ⟨q1, _⟩ | ⟨q1, _⟩; exact .inl q1; exact .inr q1
      clear hin f1 hind
      subst hW3
      have hss := HSn.out
      generalize sumTo (indOf s.txs) k = sm at *
      have wsm : IntKind.i64.wrap ((sm : Int) + 1) = (sm : Int) + 1 := wrap_i64_id (by omega) (by omega)
      rcases f2 with ⟨rfl, rfl⟩ | ⟨hst, hp0, hp1⟩
      · rw [if_neg (by simp)] at f3
        rw [f3, Nat.add_zero] at hss
        have HSs : Hid _ := hss
        clear hss f3 HSn
        rcases her with rfl | rfl
        · have heq : decide ((0 : Int) = 0) = true := rfl
          rw [heq] at eid
          go_wp2
          go_roundw
          case rel => exact ⟨k + 1, by rw [HSs.out]; rfl, by go_num, by omega, by rw [HSs.out]; omega, HB3⟩
          case measure => simp [intOf]; omega
        · have heq : decide ((10 : Int) = 0) = false := rfl
          rw [heq] at eid
          go_wp2
          go_roundw
          case rel => exact ⟨k + 1, by rw [HSs.out]; rfl, by go_num, by omega, by rw [HSs.out]; omega, HB3⟩
          case measure => simp [intOf]; omega
      · rw [if_pos hst] at f3
        rw [f3] at hss
        have HSs : Hid _ := hss
        have hsb : (st != 0) = true := by rw [bne_iff_ne]; exact hst
        have hd0 : decide (ep < 0) = false := decide_eq_false (by omega)
        have hd1 : decide (b.ep ≤ ep) = false := decide_eq_false (by omega)
        have hp1' : ¬ b.ep ≤ ep := by omega
        clear hss f3 HSn
        rcases her with rfl | rfl
        · have heq : decide ((0 : Int) = 0) = true := rfl
          rw [heq] at eid
          go_wp2
          go_quiet (fail)
          go_wp2
          go_roundw
          case rel => exact ⟨k + 1, by rw [HSs.out]; rfl, by go_num, by omega, by rw [HSs.out]; omega, below_drewN HB3.out _⟩
          case measure => simp [intOf]; omega
        · have heq : decide ((10 : Int) = 0) = false := rfl
          rw [heq] at eid
          go_wp2
          go_quiet (fail)
          go_wp2
          go_roundw
          case rel => exact ⟨k + 1, by rw [HSs.out]; rfl, by go_num, by omega, by rw [HSs.out]; omega, below_drewN HB3.out _⟩
          case measure => simp [intOf]; omega
    · have hk40 : k = 40 := by omega
      subst hk40
      rw [HOv.out]
      go_wp2_with fail
      refine (plog_any g F p wr (HS.out.below HB.out)).mono ?_
      rintro e w2 ⟨lb, rfl, hlb, hb2⟩
      have hls : lb.size = p.log.length := by rw [← hlb, len_list]
      have HB2 : Hid (Below w1.heap.size w1 w2) := HB.out.trans (hb2.mono HB.out.size)
      have HLb : Hid _ := hlb
      clear hb2 hlb
      go_wp2_with fail
      refine (pscan_any lb w2 (by unfold maxLen; omega)).mono ?_
      rintro e w3 ⟨rfl, hb3⟩
      have HB3 : Hid (Below w1.heap.size w1 w3) := HB2.out.trans (hb3.mono HB2.out.size)
      rewrite [HLb.out, HSc.out]
      have e40 := (HB3.out.cell (p := ⟨gB, 40, none⟩) bz).trans be
      have e41 := (HB3.out.cell (p := ⟨gB, 41, none⟩) bz).trans bn
      rw [HEp.out.1] at e40
      rw [HEp.out.2] at e41
      have zb := Nat.lt_of_lt_of_le bz HB3.out.size
      clear hb3
      have hls' : (lb.size : Int) = (p.log.length : Int) := by rw [hls]
      have heq : ((p.log.length : Int) == (lb.size : Int)) = true := by rw [hls']; simp
      go_wp2
      go_ret
      exact ⟨rfl, HB1.out.trans (HB3.out.mono HB1.out.size)⟩

end Go.Proofs.Ytccckonckddadaa
