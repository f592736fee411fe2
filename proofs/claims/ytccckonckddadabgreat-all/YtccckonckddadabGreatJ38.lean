import Derived.Test.YtccckonckddadabGreatJ37
import Derived.Deep.AppendLies
namespace Go.Proofs.YtccckonckddadabGreat
open Go.RowKit
set_option linter.unusedVariables false

theorem cells_drew3 {W : World} (b : Nat) (hb : b = W.heap.size) (cs : List Value) (t : TypeId) : ∀ j u, cs[j]? = some u → ((W.alloc (.cells cs.toArray t)).drew).cell? ((⟨b, 0, none⟩ : Addr).add j) = some u := cells_new W b hb cs t

/-- Cells of the cluster's own block are written. -/
theorem seq_set {w W : World} {g : Nat} {F : Nat → Prop} {p p' : SeqV} (h : SeqAt w g F p) (hfit : SeqFit p') (h1 : p'.accs = p.accs) (h2 : p'.outs = p.outs) (h3 : p'.eps = p.eps ∧ p'.reps = p.reps ∧ p'.epochs = p.epochs ∧ p'.log = p.log) (hs : W.heap.size = w.heap.size) (hk : ∀ k, k ≠ g → W.heap[k]? = w.heap[k]?)
    (hb : ∀ vA lb vS, w.heap[g]? = some (.cells (seqCells p vA lb vS).toArray 106) → W.heap[g]? = some (.cells (seqCells p' vA lb vS).toArray 106)) : SeqAt W g F p' := by
  obtain ⟨gA, qb, aS, cS, lb, m⟩ := h.mem
  have hB := hb _ lb _ m.blk
  have hA : ∀ x, W.cell? ⟨gA, x, none⟩ = w.cell? ⟨gA, x, none⟩ := fun x => World.cell?_of_block (a := ⟨gA, x, none⟩) (hk gA m.aF.2)
  refine ⟨hfit, h.gF, fun k hk => by rw [hs]; exact h.own k hk, gA, qb, aS, cS, lb, ?_, ?_, ?_, ?_, m.aF, ?_, m.qone, ?_, ?_⟩
  · rw [h1, h2]; exact hB
  · rw [h2]; exact m.log.move h3.1 h3.2.1 h3.2.2.1 h3.2.2.2 (fun _ hk => hk) (fun k _ hg _ _ _ => hk k hg) (fun _ _ _ hh => hh) (fun _ _ hh => hh)
  · obtain ⟨arr, hr⟩ := m.row
    exact ⟨arr, (hk gA m.aF.2).trans hr⟩
  · intro i a ha
    rw [h1] at ha
    exact (m.acc i a ha).same (hA _) (hA _) (fun k hk' => hk k (m.qF i k hk').2.1)
  · rw [h2]; exact m.qF
  · rw [h2]; exact own_same m.outs (fun k hk' => hk k (m.sF k hk').2.1)
  · rw [h2]; exact m.sF
theorem seq_first {w : World} {g : Nat} {F : Nat → Prop} {p : SeqV} (h : SeqAt w g F p) {f : Nat} (hf : f < p.accs.length) : SeqAt (w.setCell ⟨g, 4, none⟩ (.int .i64 (f : Int))) g F { p with first := f } ∧ Kept F w (w.setCell ⟨g, 4, none⟩ (.int .i64 (f : Int))) := by
  refine ⟨seq_set h ⟨h.fit.n0, h.fit.n8, h.fit.qu, h.fit.qt, h.fit.ro, hf, h.fit.many, h.fit.cells, h.fit.long, h.fit.outs, h.fit.acc⟩ rfl rfl ⟨rfl, rfl, rfl, rfl⟩ (by simp [World.setCell]) (fun k hk => Below.heap_setCell _ _ _ _ (by exact hk)) (fun vA lb vS hb => ?_), Kept.set (Kept.refl _ _) (.inl h.gF) _⟩
  rw [heap_set hb]
  rfl

theorem visitL_mem {a : AccV} {qt room : Int} : ∀ x ∈ visitL a qt room, x ∈ a.q := fun x hx => List.mem_of_mem_take hx
theorem visitL_len {a : AccV} (h : AccFit a) (qt room : Int) : (visitL a qt room).length ≤ 8 := by
  show (a.q.take _).length ≤ 8
  rw [List.length_take]
  have := h.1
  omega

set_option maxRecDepth 100000 in
set_option maxHeartbeats 8000000 in
theorem svisit_any (g : Nat) (F : Nat → Prop) (p : SeqV) (w : World) (h : SeqAt w g F p) (hcr : ∀ a ∈ p.accs, a.cr ≤ 2000) :
    Calls Tryz.prog 95 #[.pointer (some ⟨g, 0, none⟩)] w (SRecPost g F ({ (pVisitFrom p.accs.length p.first p p.room []).1 with first := behindV p.accs.length p.first }, (pVisitFrom p.accs.length p.first p p.room []).2) w) := by
  obtain ⟨ti, hi, hz0, hz1, hz2⟩ := info_parts info_rec
  have HI : Hid (_ ∧ _ ∧ _ ∧ _) := ⟨hi, hz0, hz1, hz2⟩
  clear hi hz0 hz1 hz2
  have HS : Hid _ := OutAt.start h
  have h8 := h.fit.n8
  have hfi := h.fit.first
  have hqt := h.fit.qt
  have hro := h.fit.ro
  have hg := h.block
  obtain ⟨gA, qb, aS, cS, lb, mm⟩ := h.mem
  obtain ⟨_, _, c2, _, c4, _⟩ := seq_cells mm
  clear h mm
  obtain ⟨n, hn⟩ : ∃ n, p.accs.length = n := ⟨_, rfl⟩
  obtain ⟨qt, hqe⟩ : ∃ n, p.quantum = n := ⟨_, rfl⟩
  obtain ⟨fi, hfe⟩ : ∃ n, p.first = n := ⟨_, rfl⟩
  obtain ⟨ro0, hre⟩ : ∃ n, p.room = n := ⟨_, rfl⟩
  rw [hfe] at c4 hfi
  rw [hre] at c2 hro
  rw [hqe] at hqt
  rw [hn] at h8 hfi
  rw [hn, hfe, hre]
  obtain ⟨hqt0, hqt8⟩ := hqt
  obtain ⟨hro0, hro64⟩ := hro
  have HCr : Hid _ := hcr
  clear hcr
  go_enter Tryz.func95, Tryz.ntmps95
  go_wp2
  go_loopw [3, 4, 5, 6] (fun v3 v4 v5 v6 wr => ∃ (k at' m c : Nat) (ro : Int) (a : Option Addr) (p' : SeqV) (l : List RecV) (F2 : Nat → Prop), v3 = .slice a m c ∧ v4 = .int .i64 ro ∧ v5 = .int .i64 at' ∧ v6 = .int .i64 k ∧ k ≤ n ∧ m ≤ 8 * k ∧ at' < n ∧ 0 ≤ ro ∧ ro ≤ 64 ∧ Hid (OutAt w wr g F F2 p' l a m c ∧ p'.accs.length = n ∧ p'.quantum = qt ∧ p'.first = fi ∧ (∀ x ∈ p'.accs, x.cr ≤ 2000 + 8 * (k : Int)) ∧ pVisitFrom n fi p ro0 [] = pVisitFrom (n - k) at' p' ro l)) (fun _ _ _ v6 _ => n - (intOf v6).toNat)
  case atStart => exact ⟨0, fi, 0, 0, ro0, none, p, [], F, rfl, rfl, rfl, rfl, Nat.zero_le _, Nat.le_refl _, hfi, by omega, hro64, ⟨HS.out, hn, hqe, hfe, fun x hx => by have := HCr.out x hx; omega, rfl⟩⟩
  case round =>
    obtain ⟨k, at', m, c, ro, a, p', l, F2, rfl, rfl, rfl, rfl, hk, hm, hat, hroA, hroB, HL⟩ := hrel
    clear HS c2 c4 hg
    have hg := HL.out.1.seq.block
    obtain ⟨gA, qb, aS, cS, lb, mm⟩ := HL.out.1.seq.mem
    obtain ⟨_, c1, _, c3, c4, _, _, fz⟩ := seq_cells mm
    rw [HL.out.2.1] at c3
    rw [HL.out.2.2.1] at c1
    rw [HL.out.2.2.2.1] at c4
    by_cases hlt : k < n
    · have hkl : at' < p'.accs.length := by rw [HL.out.2.1]; exact hat
      obtain ⟨hfa, hga⟩ := HL.out.1.seq.fit.at hkl
      have HFa : Hid _ := hfa
      have hq8 := hfa.1
      have hcr1 := HL.out.2.2.2.2.1 _ (List.mem_of_getElem? hga)
      have hcr0 := hfa.2.1
      have HVi : Hid _ := fit_visit (room := ro) hfa (qt := qt) ⟨by omega, hqt8⟩ hroA (by omega)
      have hAcc := mm.acc at' _ hga
      have hrow := mm.row
      have hbA : qb at' ≠ some gA := fun e => (mm.qF at' gA e).2.2.1 rfl
      have HBd : Hid (Below wr.heap.size wr wr.drew) := (Below.refl _ _).drew
      have HP0 : Hid (AccPost wr wr.drew gA at' (qb at') (qb at') (accV p' at')) := AccPost.below hrow hAcc hbA HBd.out
      have HMM : Hid _ := mm
      have HLL : Hid ((visitL (accV p' at') qt ro).length ≤ 8) := visitL_len hfa qt ro
      have HTx : Hid (∀ x ∈ visitL (accV p' at') qt ro, x.t.size ≤ 60 ∧ 0 ≤ x.c ∧ x.c ≤ 8) := fun x hx => by
        have h1 := hfa.2.2.2 x (visitL_mem x hx)
        have h2 := parse_len h1.1
        rw [len_list] at h2
        exact ⟨h2, acc_costs hfa x (visitL_mem x hx)⟩
      have HQ : Hid (∀ (W9 : World) (b9 : Option Nat), AccPost wr.drew W9 gA at' (qb at') b9 (visitA (accV p' at') qt ro) → W9.cell? ⟨g, 3, none⟩ = some (.slice (some ⟨gA, 0, none⟩) n n) ∧ W9.cell? ⟨g, 1, none⟩ = some (.int .i64 qt)) := fun W9 b9 hP9 => by
        have hgs : W9.heap[g]? = wr.drew.heap[g]? := hP9.kept.block g hg (fun hh => by
          rcases hh with hh | hh
          · exact HMM.out.aF.2 hh.symm
          · exact (HMM.out.qF at' g hh).2.1 rfl)
        exact ⟨(World.cell?_of_block (a := ⟨g, 3, none⟩) hgs).trans c3, (World.cell?_of_block (a := ⟨g, 1, none⟩) hgs).trans c1⟩
      clear mm hfa hga hAcc hrow c4 fz
      have k1 : (k : Int) < (n : Int) := by omega
      have at1 : (at' : Int) < (n : Int) := by omega
      have at0 : (0 : Int) ≤ (at' : Int) := by omega
      go_wp2
      go_region_held3 (fun W => W.cell? ⟨g, 3, none⟩ = some (.slice (some ⟨gA, 0, none⟩) n n) ∧ W.cell? ⟨g, 1, none⟩ = some (.int .i64 qt))
        (first | (exact ⟨c3, c1⟩) | (exact HQ.out _ _ ‹_›))
        (first | (go_at_call 116; refine (visit_acc gA at' (qb at') (accV p' at') qt ro wr.drew (by obtain ⟨arr, r1, _⟩ := HP0.out.side; exact ⟨arr, r1⟩) HP0.out.acc hbA hq8 (acc_costs HFa.out) ⟨hcr0, by omega⟩ ⟨by omega, hqt8⟩ ⟨hroA, hroB⟩).mono ?_; rintro e w9 ⟨aL, mL, cL, b9, rfl, hl9, hP9, ho9⟩))
      obtain ⟨F3, hIn⟩ := HL.out.1.asked hkl HVi.out.1 HMM.out (HP0.out.trans hP9) hl9 ho9
      have HIn : Hid (InAt w w9 g F F3 (putA p' at' (visitA (accV p' at') qt ro)) l a m c (visitL (accV p' at') qt ro) aL mL cL) := hIn
      have HLL' : Hid (mL ≤ 8) := by rw [← hl9]; exact HLL.out
      have hmL := HLL'.out
      have HSt : Hid (pVisitFrom (n - k) at' p' ro l = pVisitFrom (n - (k + 1)) (behindV n at') (putA p' at' (visitA (accV p' at') qt ro)) (ro - costs (visitL (accV p' at') qt ro)) (l ++ (visitL (accV p' at') qt ro).map (textRec at'))) := by
        show _ = _
        rw [show n - k = (n - (k + 1)) + 1 from by omega, pVisit_step, HL.out.2.1, HL.out.2.2.1]
      have HRo : Hid (∀ j, 0 ≤ costs ((visitL (accV p' at') qt ro).take j) ∧ costs ((visitL (accV p' at') qt ro).take j) ≤ costs (visitL (accV p' at') qt ro)) := fun j => by
        have hc1 := costs_nonneg ((visitL (accV p' at') qt ro).take j) (fun x hx => (HTx.out x (List.mem_of_mem_take hx)).2.1)
        have hc2 := costs_nonneg ((visitL (accV p' at') qt ro).drop j) (fun x hx => (HTx.out x (List.mem_of_mem_drop hx)).2.1)
        have e : costs (visitL (accV p' at') qt ro) = costs ((visitL (accV p' at') qt ro).take j) + costs ((visitL (accV p' at') qt ro).drop j) := by rw [← costs_append, List.take_append_drop]
        omega
      have hcoA : 0 ≤ costs (visitL (accV p' at') qt ro) := HVi.out.2.2.1
      have hcoB : costs (visitL (accV p' at') qt ro) ≤ ro := HVi.out.2.2.2
      have HX : Hid (p'.accs.length = n ∧ p'.quantum = qt ∧ p'.first = fi ∧ (∀ x ∈ p'.accs, x.cr ≤ 2000 + 8 * (k : Int)) ∧ pVisitFrom n fi p ro0 [] = pVisitFrom (n - k) at' p' ro l) := HL.out.2
      have HP2 : Hid ((putA p' at' (visitA (accV p' at') qt ro)).accs.length = n ∧ (putA p' at' (visitA (accV p' at') qt ro)).quantum = qt ∧ (putA p' at' (visitA (accV p' at') qt ro)).first = fi ∧ ∀ x ∈ (putA p' at' (visitA (accV p' at') qt ro)).accs, x.cr ≤ 2000 + 8 * ((k + 1 : Nat) : Int)) := by
        refine ⟨?_, HX.out.2.1, HX.out.2.2.1, fun x hx => ?_⟩
        · show (p'.accs.set at' _).length = n
          rw [List.length_set]; exact HX.out.1
        · rcases List.mem_or_eq_of_mem_set hx with hx | rfl
          · have := HX.out.2.2.2.1 x hx; omega
          · have := HVi.out.2.1; omega
      clear hIn hP9 ho9 hl9 HMM HQ HP0 HBd c3 c1 hbA HLL HL HVi HFa
      generalize visitL (accV p' at') qt ro = L at *
      generalize putA p' at' (visitA (accV p' at') qt ro) = p2 at *
      go_wp2
      go_loopw [3, 4, 8] (fun v3 v4 v8 wx => ∃ (j m' c' : Nat) (a' : Option Addr), v3 = .slice a' m' c' ∧ v4 = .int .i64 (ro - costs (L.take j)) ∧ v8 = .int .i64 j ∧ j ≤ mL ∧ m' ≤ m + j ∧ Hid (InAt w wx g F F3 p2 (l ++ (L.take j).map (textRec at')) a' m' c' L aL mL cL)) (fun _ _ v8 _ => mL - (intOf v8).toNat)
      case atStart => exact ⟨0, m, c, a, rfl, by show _ = Value.int .i64 (ro - 0); rw [Int.sub_zero], rfl, Nat.zero_le _, Nat.le_refl _, by show InAt _ _ _ _ _ _ _ _ _ _ _ _ _ _; rw [List.take_zero, List.map_nil, List.append_nil]; exact HIn.out⟩
      case round =>
        obtain ⟨j, m', c', a', rfl, rfl, rfl, hj, hm', HJ⟩ := hrel
        clear HIn
        by_cases hjl : j < mL
        · have hjL : j < L.length := by rw [HJ.out.llen]; exact hjl
          obtain ⟨gQ, rfl, hgQ, d0, d1, d2, _⟩ := wait_cell HJ.out.late (List.getElem?_eq_getElem hjL) hjl
          obtain ⟨R, hR⟩ : ∃ R, l ++ (L.take j).map (textRec at') = R := ⟨_, rfl⟩
          have HT : Hid (l ++ (L.take (j + 1)).map (textRec at') = R ++ [textRec at' L[j]]) := by
            show _ = _
            rw [List.take_succ_eq_append_getElem hjL, List.map_append, ← List.append_assoc, hR]; rfl
          rw [hR] at HJ
          clear hR
          have HR : Hid (textRec at' L[j] = ⟨(at' : Int), L[j].i, false, L[j].t⟩) := rfl
          have HCt : Hid (costs (L.take (j + 1)) = costs (L.take j) + L[j].c) := costs_take hjL
          have hr1 := HRo.out j
          have hr2 := HRo.out (j + 1)
          have hx := HTx.out _ (List.getElem_mem hjL)
          rw [HCt.out] at hr2
          generalize L[j] = x at *
          obtain ⟨xi, xt, xc, xd⟩ := x
          simp only at d0 d1 d2 hr2 hx HR HCt
          generalize costs (L.take j) = co at *
          have j1 : (j : Int) < (mL : Int) := by omega
          have j0 : (0 : Int) ≤ (j : Int) := by omega
          have hzr : w.heap.size ≤ wr.heap.size := HJ.out.kept.size
          have hw1 : IntKind.i64.wrap (ro - co - xc) = ro - co - xc := wrap_i64_id (by omega) (by omega)
          have HK2 : Hid (∀ o : Obj, (wr.alloc o).drew.cell? ⟨gQ, j * 4, none⟩ = some (.int .i64 xi) ∧ (wr.alloc o).drew.cell? ⟨gQ, j * 4 + 1, none⟩ = some (.string xt)) := fun o => ⟨(((Below.refl wr.heap.size wr).alloc (Nat.le_refl _) o).cell (p := ⟨gQ, j * 4, none⟩) hgQ).trans d0, (((Below.refl wr.heap.size wr).alloc (Nat.le_refl _) o).cell (p := ⟨gQ, j * 4 + 1, none⟩) hgQ).trans d1⟩
          have HK3 : Hid (∀ (o : Obj) (W7 : World), (wr.alloc o).drew.grownBy W7 (Value.slice a' m' c').ownBlock → W7.cell? ⟨gQ, j * 4, none⟩ = some (.int .i64 xi) ∧ W7.cell? ⟨gQ, j * 4 + 1, none⟩ = some (.string xt)) := fun o W7 hgr => by
            have hb : W7.heap[gQ]? = (wr.alloc o).drew.heap[gQ]? := hgr.block gQ (by show gQ < (wr.alloc o).heap.size; simp; omega) (fun hh => HJ.out.apart gQ hh.symm rfl)
            exact ⟨(World.cell?_of_block (a := ⟨gQ, j * 4, none⟩) hb).trans (HK2.out o).1, (World.cell?_of_block (a := ⟨gQ, j * 4 + 1, none⟩) hb).trans (HK2.out o).2⟩
          go_wp2
          go_region_held3 (fun W => W.cell? ⟨gQ, j * 4, none⟩ = some (.int .i64 xi) ∧ W.cell? ⟨gQ, j * 4 + 1, none⟩ = some (.string xt))
            (first | (exact ⟨d0, d1⟩) | (exact HK2.out _) | (exact HK3.out _ _ ‹_›))
            (first | (refine step_append_lies _ rfl (.tmp 51) (.tmp 64) 38 rfl w.heap.size 55 ti (.agg #[.int .i64 0, .int .i64 0, .bool false, .string ⟨#[]⟩]) 4 40 Tryz.underlying38 HI.out.1 HI.out.2.1 HI.out.2.2.1 HI.out.2.2.2 rfl (by decide) (.slice a' m' c') m' (recsCells R) rfl (HJ.out.own.alloc _) ⟨wr.heap.size, 0, none⟩ 1 1 [.int .i64 (at' : Int), .int .i64 xi, .bool false, .string xt] rfl rfl (cells_drew3 (W := wr) wr.heap.size rfl [.int .i64 (at' : Int), .int .i64 xi, .bool false, .string xt] _) (by intro u hu; simp only [List.mem_cons, List.not_mem_nil, or_false] at hu; rcases hu with rfl | rfl | rfl | rfl <;> rfl) (by decide) (by unfold maxLen; omega) (by omega) (by show _ ≤ (wr.alloc _).heap.size; simp; omega) _ rfl ?_; intro gN cap w7 hown7 hgr7 hat7 hlt7))
          go_goals
          all_goals
            have HN : Hid (InAt w w7 g F F3 p2 (l ++ (L.take (j + 1)).map (textRec at')) (some ⟨gN, 0, none⟩) (m' + 1) cap L (some ⟨gQ, 0, none⟩) mL cL) := by
              show InAt _ _ _ _ _ _ _ _ _ _ _ _ _ _
              rw [HT.out, HR.out]
              exact HJ.out.app _ (by have := hx.1; show xt.size ≤ _; unfold maxLen; omega) (((Below.refl _ _).alloc (Nat.le_refl _) _).drew) hown7 hgr7 hat7
            clear hown7 hgr7 hat7 hlt7
            go_wp2
            go_roundw
            case rel => exact ⟨j + 1, m' + 1, cap, _, rfl, by rw [HCt.out, ← Int.sub_sub], by go_num, by omega, by omega, HN⟩
            case measure => simp [intOf]; omega
        · have hje : j = mL := by omega
          subst hje
          have hLt : L.take j = L := List.take_of_length_le (by rw [HJ.out.llen]; omega)
          have HN : Hid (OutAt w wr g F F3 p2 (l ++ L.map (textRec at')) a' m' c') := by
            have := HJ.out.out
            rw [hLt] at this
            exact this
          rw [hLt]
          clear HJ hLt
          generalize costs L = co at *
          go_wp2_with fail
          refine (behind_any g F3 p2 at' wr HN.out.seq (by rw [HP2.out.1]; exact hat)).mono ?_
          rintro e w8 ⟨rfl, hw8⟩
          obtain rfl := hw8.symm
          rewrite [HP2.out.1]
          have hbl : behindV n at' < n := by unfold behindV; split <;> omega
          generalize behindV n at' = bh at *
          go_wp2
          go_roundw
          case rel => exact ⟨k + 1, bh, m', c', ro - co, a', p2, _, F3, rfl, rfl, rfl, by go_num, by omega, by omega, hbl, by omega, by omega, ⟨HN.out, HP2.out.1, HP2.out.2.1, HP2.out.2.2.1, HP2.out.2.2.2, HX.out.2.2.2.2.trans HSt.out⟩⟩
          case measure => simp [intOf]; omega
    · have hkn : k = n := by omega
      subst hkn
      have HE : Hid (pVisitFrom k fi p ro0 [] = (p', l)) := by
        show _ = _
        rw [HL.out.2.2.2.2.2, Nat.sub_self]; rfl
      have HO : Hid _ := HL.out.1
      have HX : Hid _ := HL.out.2
      clear HL mm
      go_wp2_with fail
      refine (behind_any g F2 p' fi wr HO.out.seq (by rw [HX.out.1]; exact hfi)).mono ?_
      rintro e w8 ⟨rfl, hw8⟩
      obtain rfl := hw8.symm
      rewrite [HX.out.1]
      have hbl : behindV k fi < k := by unfold behindV; split <;> omega
      have HF : Hid _ := seq_first HO.out.seq (f := behindV k fi) (by rw [HX.out.1]; exact hbl)
      have HBe : Hid (∀ q : SeqV, ({ q with first := behindV k fi } : SeqV) = { q with first := behindV k fi }) := fun _ => rfl
      generalize behindV k fi = bh at *
      go_wp2
      go_ret
      refine ⟨a, m, c, F2, rfl, ?_⟩
      rw [HE.out]
      refine ⟨HF.out.1, ?_, HO.out.new, HO.out.len, HO.out.small, ?_, HO.out.free⟩
      · exact HO.out.kept.trans HF.out.2 (fun x hx hf => by rcases HO.out.new x hf with h4 | h4; exact h4; omega)
      · exact own_same HO.out.own (fun y hy => HF.out.2.block y (HO.out.own.lt y hy).2 (HO.out.free y hy))

end Go.Proofs.YtccckonckddadabGreat
