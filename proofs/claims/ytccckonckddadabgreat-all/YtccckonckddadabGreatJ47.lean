import Derived.Test.YtccckonckddadabGreatJ46
import Derived.Test.YtccckonckddadabGreatJ42
import Derived.Deep.RegionLaw
import Derived.Laws.MakeOwn
namespace Go.Proofs.YtccckonckddadabGreat
open Go.RowKit
set_option linter.unusedVariables false

theorem info_acc : (Tryz.prog.info? 175).map (fun i => (i.zero, i.size, i.bytes)) = some (some (.agg #[.slice none 0 0, .int .i64 0]), 2, 32) := by kernel_rfl

theorem make_accs (n : Nat) (h8 : n ≤ 8) (w : World) : ∃ arr : Array Value, (Instr.makeSlice 97 (.int .i64 (n : Int)) (.int .i64 (n : Int))).run Tryz.prog w = .ok (.slice (some ⟨w.heap.size, 0, none⟩) n n) (w.alloc (.cells arr 175)) ∧ ∀ i, i < n → arr[i * 2]? = some (.slice none 0 0) ∧ arr[i * 2 + 1]? = some (.int .i64 0) := by
  obtain ⟨ti, hi, hz0, hz1, hz2⟩ := info_parts info_acc
  have hr := run_make (P := Tryz.prog) w 97 175 ti _ Tryz.underlying97 hi hz0 .i64 .i64 (n : Int) (n : Int) (by omega) (Int.le_refl _) (by rw [hz2]; omega) (by omega)
  rw [Int.toNat_natCast, hz1] at hr
  refine ⟨_, hr, fun i hin => ?_⟩
  unfold madeCells
  refine ⟨?_, ?_⟩
  · rw [Array.getElem?_map, Array.getElem?_range, if_pos (by omega)]
    show some ((Value.cells (.agg #[.slice none 0 0, .int .i64 0]))[i * 2 % 2]!) = _
    rw [show i * 2 % 2 = 0 from by omega]; rfl
  · rw [Array.getElem?_map, Array.getElem?_range, if_pos (by omega)]
    show some ((Value.cells (.agg #[.slice none 0 0, .int .i64 0]))[(i * 2 + 1) % 2]!) = _
    rw [show (i * 2 + 1) % 2 = 1 from by omega]; rfl

def SNewPost (n : Nat) (x2 x3 x4 : Int) (w : World) (e : Ending) (w' : World) : Prop :=
  ∃ (gA : Nat) (arr : Array Value), e = .returned (.tuple #[.agg #[.int .i64 x2, .int .i64 x3, .int .i64 x4, .slice (some ⟨gA, 0, none⟩) n n, .int .i64 0, .slice none 0 0, .int .i16 0, .int .i16 0, .int .i16 0, .int .i16 0, .int .i16 0, .int .i16 0, .int .i16 0, .int .i16 0, .slice none 0 0], .bool true]) ∧ w'.heap[gA]? = some (.cells arr 175) ∧ (∀ i, i < n → arr[i * 2]? = some (.slice none 0 0) ∧ arr[i * 2 + 1]? = some (.int .i64 0)) ∧ w.heap.size ≤ gA ∧ Below w.heap.size w w'

set_option maxRecDepth 100000 in
set_option maxHeartbeats 4000000 in
theorem snew_yes (n : Nat) (x2 x3 x4 x5 : Int) (w : World) (h8 : n ≤ 8) (h : seqOk ⟨n, x2, x3, x4, x5⟩ = true) : Calls Tryz.prog 45 #[.agg #[.int .i64 (n : Int), .int .i64 x2, .int .i64 x3, .int .i64 x4, .int .i64 x5]] w (SNewPost n x2 x3 x4 w) := by
  have H : Hid _ := h
  clear h
  go_enter Tryz.func45, Tryz.ntmps45
  go_wp2_with fail
  refine (isconf_any (n : Int) x2 x3 x4 x5 _).mono ?_
  rintro e w1 ⟨rfl, hb1⟩
  rewrite [H.out]
  obtain ⟨g0, g1, hb0⟩ := below_two hb1
  obtain ⟨c0, f0, z0⟩ := heap_cells g0
  obtain ⟨c1, f1, z1⟩ := heap_cells g1
  have HB : Hid _ := hb0
  clear hb0 hb1 g0
  obtain ⟨arr, hmk, harr⟩ := make_accs n h8 w1.drew
  have HArr : Hid _ := harr
  clear harr
  have HG1 : Hid _ := g1
  clear g1
  go_wp2
  go_region
  have HW : Hid _ := chain15a (t2 := 175) (arr := arr) HG1.out HB.out (by omega) HB.out.size (.int .i64 x2) (.int .i64 x3) (.int .i64 x4) (.slice (some ⟨w1.heap.size, 0, none⟩) n n) (.int .i64 0) (.slice none 0 0) (.int .i16 0) (.int .i16 0) (.int .i16 0) (.int .i16 0) (.int .i16 0) (.int .i16 0) (.int .i16 0) (.int .i16 0) (.slice none 0 0)
  clear c0 c1 f0 f1 z1 z0 hmk HG1
  generalize (((((((((((((((((w1.setCell ⟨w.heap.size + 1, 0, none⟩ (.int .i64 x2)).setCell ⟨w.heap.size + 1, 1, none⟩ (.int .i64 x3)).setCell ⟨w.heap.size + 1, 2, none⟩ (.int .i64 x4)).setCell ⟨w.heap.size + 1, 3, none⟩ (.slice (some ⟨w1.heap.size, 0, none⟩) n n)).setCell ⟨w.heap.size + 1, 4, none⟩ (.int .i64 0)).setCell ⟨w.heap.size + 1, 5, none⟩ (.slice none 0 0)).setCell ⟨w.heap.size + 1, 6, none⟩ (.int .i16 0)).setCell ⟨w.heap.size + 1, 7, none⟩ (.int .i16 0)).setCell ⟨w.heap.size + 1, 8, none⟩ (.int .i16 0)).setCell ⟨w.heap.size + 1, 9, none⟩ (.int .i16 0)).setCell ⟨w.heap.size + 1, 10, none⟩ (.int .i16 0)).setCell ⟨w.heap.size + 1, 11, none⟩ (.int .i16 0)).setCell ⟨w.heap.size + 1, 12, none⟩ (.int .i16 0)).setCell ⟨w.heap.size + 1, 13, none⟩ (.int .i16 0)).setCell ⟨w.heap.size + 1, 14, none⟩ (.slice none 0 0))).alloc (.cells arr 175)).drew = W2 at HW ⊢
  have hgA : w.heap.size ≤ w1.heap.size := HB.out.size
  generalize w1.heap.size = gA at *
  obtain ⟨c2, f2, z2⟩ := heap_cells HW.out.1
  go_wp2
  refine bodyPost_ret (v := .tuple #[.agg #[.int .i64 x2, .int .i64 x3, .int .i64 x4, .slice (some ⟨gA, 0, none⟩) n n, .int .i64 0, .slice none 0 0, .int .i16 0, .int .i16 0, .int .i16 0, .int .i16 0, .int .i16 0, .int .i16 0, .int .i16 0, .int .i16 0, .slice none 0 0], .bool true]) (by simp [results, Tryz.results45, go_sem, c2]) rfl ?_
  exact ⟨gA, arr, rfl, HW.out.2.1, HArr.out, hgA, HW.out.2.2⟩

end Go.Proofs.YtccckonckddadabGreat
namespace Go.Proofs.YtccckonckddadabGreat
open Go.RowKit
set_option linter.unusedVariables false

theorem conf_seq (c : ConfV) : confOk c = (seqOk c && decide (1 ≤ c.reps ∧ c.reps ≤ 4)) := rfl

def rep0 : RepV := ⟨⟨#[]⟩, 0, 0, [0, 0, 0, 0, 0, 0, 0, 0]⟩
theorem info_rep : (Tryz.prog.info? 147).map (fun i => (i.zero, i.size, i.bytes)) = some (some (.agg #[.string ⟨#[]⟩, .int .i64 0, .int .i64 0, .int .i16 0, .int .i16 0, .int .i16 0, .int .i16 0, .int .i16 0, .int .i16 0, .int .i16 0, .int .i16 0]), 11, 48) := by kernel_rfl
theorem preps_rep_len : ∀ n : Nat, (prepsCells (List.replicate n rep0)).length = n * 11
  | 0 => rfl
  | n + 1 => by
    show (prepCells rep0 ++ prepsCells (List.replicate n rep0)).length = _
    rw [List.length_append, preps_rep_len n]
    show 11 + n * 11 = _
    omega
theorem preps_rep_at : ∀ (n j : Nat), j < n * 11 → (prepsCells (List.replicate n rep0))[j]? = (prepCells rep0)[j % 11]?
  | 0, j, h => by omega
  | n + 1, j, h => by
    show (prepCells rep0 ++ prepsCells (List.replicate n rep0))[j]? = _
    by_cases hj : j < 11
    · rw [List.getElem?_append_left (by show j < 11; exact hj), Nat.mod_eq_of_lt hj]
    · rw [List.getElem?_append_right (by show 11 ≤ j; omega), preps_rep_at n _ (by show j - 11 < _; omega)]
      show (prepCells rep0)[(j - 11) % 11]? = _
      rw [show (j - 11) % 11 = j % 11 from by omega]
theorem make_reps (n : Nat) (h1 : 1 ≤ n) (h4 : n ≤ 4) (w : World) : (Instr.makeSlice 104 (.int .i64 (n : Int)) (.int .i64 (n : Int))).run Tryz.prog w = .ok (.slice (some ⟨w.heap.size, 0, none⟩) n n) (w.alloc (.cells (prepsCells (List.replicate n rep0)).toArray 147)) := by
  obtain ⟨ti, hi, hz0, hz1, hz2⟩ := info_parts info_rep
  have hr := run_make (P := Tryz.prog) w 104 147 ti _ Tryz.underlying104 hi hz0 .i64 .i64 (n : Int) (n : Int) (by omega) (Int.le_refl _) (by rw [hz2]; omega) (by omega)
  rw [Int.toNat_natCast, hz1] at hr
  rw [hr]
  have e : madeCells (Value.cells (.agg #[.string ⟨#[]⟩, .int .i64 0, .int .i64 0, .int .i16 0, .int .i16 0, .int .i16 0, .int .i16 0, .int .i16 0, .int .i16 0, .int .i16 0, .int .i16 0])) (n * 11) = (prepsCells (List.replicate n rep0)).toArray := by
    apply Array.ext'
    apply List.ext_getElem?
    intro j
    unfold madeCells
    rw [Array.getElem?_toList, Array.getElem?_map, Array.getElem?_range]
    by_cases hj : j < n * 11
    · rw [if_pos hj, List.toList_toArray, preps_rep_at n j hj]
      show some ((Value.cells (.agg #[.string ⟨#[]⟩, .int .i64 0, .int .i64 0, .int .i16 0, .int .i16 0, .int .i16 0, .int .i16 0, .int .i16 0, .int .i16 0, .int .i16 0, .int .i16 0]))[j % 11]!) = _
      have h : j % 11 = 0 ∨ j % 11 = 1 ∨ j % 11 = 2 ∨ j % 11 = 3 ∨ j % 11 = 4 ∨ j % 11 = 5 ∨ j % 11 = 6 ∨ j % 11 = 7 ∨ j % 11 = 8 ∨ j % 11 = 9 ∨ j % 11 = 10 := by omega
      rcases h with h | h | h | h | h | h | h | h | h | h | h <;> rw [h] <;> rfl
    · rw [if_neg hj, List.toList_toArray, List.getElem?_eq_none (by rw [preps_rep_len]; omega)]; rfl
  rw [e]

theorem seq_new {w : World} {g gA gR : Nat} {c : ConfV} {n nr : Nat} {arr : Array Value} (hc : confOk c = true) (hn : c.clients = (n : Int)) (hnr : c.reps = (nr : Int)) (hg : w.heap[g]? = some (.cells #[.int .i64 c.queue, .int .i64 c.quantum, .int .i64 c.room, .slice (some ⟨gA, 0, none⟩) n n, .int .i64 0, .slice none 0 0, .int .i16 0, .int .i16 0, .int .i16 0, .int .i16 0, .int .i16 0, .int .i16 0, .int .i16 0, .int .i16 0, .slice none 0 0, .slice (some ⟨gR, 0, none⟩) nr nr] 106))
    (hA : w.heap[gA]? = some (.cells arr 175)) (harr : ∀ i, i < n → arr[i * 2]? = some (.slice none 0 0) ∧ arr[i * 2 + 1]? = some (.int .i64 0)) (hR : w.heap[gR]? = some (.cells (prepsCells (List.replicate nr rep0)).toArray 147)) (hne : gA ≠ g) (hneR : gR ≠ g) (hRA : gR ≠ gA) : SeqAt w g (fun k => k = g ∨ k = gA ∨ k = gR) (pNewV c) := by
  have hcf := hc
  unfold confOk at hcf
  simp only [Bool.and_eq_true, decide_eq_true_eq] at hcf
  have hnn : c.clients.toNat = n := by omega
  have hnr' : c.reps.toNat = nr := by omega
  have hlen : (pNewV c).accs.length = n := by show (List.replicate _ _).length = n; rw [List.length_replicate]; exact hnn
  have hrep : (pNewV c).reps = List.replicate nr rep0 := by show List.replicate c.reps.toNat rep0 = _; rw [hnr']
  have hacc : ∀ (i : Nat) (a : AccV), (pNewV c).accs[i]? = some a → a = ⟨[], 0⟩ ∧ i < n := fun i a h => by
    have hi := (List.getElem?_eq_some_iff.1 h).1
    rw [hlen] at hi
    have h2 : (List.replicate c.clients.toNat (⟨[], 0⟩ : AccV))[i]? = some a := h
    rw [List.getElem?_replicate, if_pos (by omega)] at h2
    exact ⟨(Option.some.inj h2).symm, hi⟩
  refine ⟨⟨by rw [hlen]; omega, by rw [hlen]; omega, by show 1 ≤ c.queue ∧ c.queue ≤ 8; omega, by show 1 ≤ c.quantum ∧ c.quantum ≤ 8; omega, by show 8 ≤ c.room ∧ c.room ≤ 64; omega, by rw [hlen]; show 0 < n; omega, Nat.zero_le _, rfl, Nat.zero_le _, Nat.zero_le _, fun a ha => ?_⟩, .inl rfl, ?_, gA, fun _ => none, none, 0, ⟨none, 0, gR⟩, ?_, ⟨rfl, rfl, (fun b hb => by cases hb), World.ownsRow_nil _ _ _ _, (fun k hk => by cases hk), ?_, ⟨.inr (.inr rfl), hneR, hRA, (fun e => by cases e), (fun i e => by cases e)⟩, ?_⟩, ⟨arr, hA⟩, ?_, ⟨.inr (.inl rfl), hne⟩, ?_, ?_, World.ownsRow_nil _ _ _ _, ?_⟩
  · obtain ⟨i, hi⟩ := List.getElem?_of_mem ha
    obtain ⟨rfl, _⟩ := hacc i a hi
    exact ⟨Nat.zero_le _, Int.le_refl _, by show (0 : Int) ≤ 100000; omega, fun x hx => by cases hx⟩
  · intro k hk
    rcases hk with rfl | rfl | rfl
    · exact (heap_cells hg).2.2
    · exact (heap_cells hA).2.2
    · exact (heap_cells hR).2.2
  · rw [hg, hlen]
    unfold seqCells
    rw [hrep, List.length_replicate]
    rfl
  · rw [hrep]; exact hR
  · rw [hrep, List.length_replicate]
    refine ⟨by omega, fun x hx => ?_⟩
    rw [List.eq_of_mem_replicate hx]
    exact ⟨rfl, Nat.zero_le _, Nat.zero_le _, Nat.zero_le _⟩
  · intro i a ha
    obtain ⟨rfl, hin⟩ := hacc i a ha
    refine ⟨none, 0, ?_, ?_, World.ownsRow_nil _ _ _ _, rfl⟩
    · rw [(heap_cells hA).1]; exact (harr i hin).1
    · rw [(heap_cells hA).1]; exact (harr i hin).2
  · intro i k hk; cases hk
  · intro i j k hk; cases hk
  · intro k hk; cases hk

def PNewPost (c : ConfV) (w : World) (e : Ending) (w' : World) : Prop :=
  (confOk c = true ∧ ∃ (g : Nat) (F : Nat → Prop), e = .returned (.tuple #[.pointer (some ⟨g, 0, none⟩), .int .i64 0]) ∧ SeqAt w' g F (pNewV c) ∧ (∀ k, F k → w.heap.size ≤ k) ∧ Below w.heap.size w w') ∨
  (confOk c = false ∧ e = .returned (.tuple #[.pointer none, .int .i64 3]) ∧ Below w.heap.size w w')

set_option maxRecDepth 100000 in
set_option maxHeartbeats 4000000 in
theorem pnew_any (c : ConfV) (w : World) : Calls Tryz.prog 16 #[.agg #[.int .i64 c.clients, .int .i64 c.queue, .int .i64 c.quantum, .int .i64 c.room, .int .i64 c.reps]] w (PNewPost c w) := by
  obtain ⟨x1, x2, x3, x4, x5⟩ := c
  have HBa : Hid (∀ o, Below w.heap.size w (w.alloc o)) := fun o => (Below.refl _ _).alloc (Nat.le_refl _) _
  by_cases h5 : 1 ≤ x5 ∧ x5 ≤ 4
  rotate_left
  · have HC : Hid (confOk ⟨x1, x2, x3, x4, x5⟩ = false) := by show _ = _; rw [conf_seq, decide_eq_false h5]; simp
    have hno : x5 < 1 ∨ (1 ≤ x5 ∧ 4 < x5) := by omega
    rcases hno with h0 | ⟨h0, h0'⟩
    all_goals
      clear h5
      go_enter Tryz.func16, Tryz.ntmps16
      go_wp2
      go_ret2
      exact .inr ⟨HC.out, rfl, HBa.out _⟩
  have HD : Hid (decide (1 ≤ x5 ∧ x5 ≤ 4) = true) := decide_eq_true h5
  obtain ⟨h5a, h5b⟩ := h5
  cases hs : seqOk ⟨x1, x2, x3, x4, x5⟩
  · have HC : Hid (confOk ⟨x1, x2, x3, x4, x5⟩ = false) := by show _ = _; rw [conf_seq, hs]; rfl
    have HS : Hid _ := hs
    clear hs
    go_enter Tryz.func16, Tryz.ntmps16
    go_wp2_with fail
    refine (snew_no x1 x2 x3 x4 x5 _ HS.out).mono ?_
    rintro e w1 ⟨rfl, hb1⟩
    have HB1 : Hid (Below w.heap.size w w1) := below_of_new hb1
    clear hb1
    go_wp2
    go_ret2
    exact .inr ⟨HC.out, rfl, HB1.out.alloc HB1.out.size _⟩
  · have HC : Hid (confOk ⟨x1, x2, x3, x4, x5⟩ = true) := by show _ = _; rw [conf_seq, hs, HD.out]; rfl
    have HS : Hid _ := hs
    have h1 : 1 ≤ x1 ∧ x1 ≤ 8 := by
      unfold seqOk at hs
      simp only [Bool.and_eq_true, decide_eq_true_eq] at hs
      exact hs.1.1.1
    obtain ⟨n, hn⟩ : ∃ n : Nat, x1 = (n : Int) := ⟨x1.toNat, by omega⟩
    obtain ⟨nr, hnr⟩ : ∃ n : Nat, x5 = (n : Int) := ⟨x5.toNat, by omega⟩
    subst hn
    subst hnr
    clear hs
    go_enter Tryz.func16, Tryz.ntmps16
    go_wp2_with fail
    refine (snew_yes n x2 x3 x4 (nr : Int) _ (by omega) HS.out).mono ?_
    rintro e w1 ⟨gA, arr, rfl, hA, harr, hgA, hb1⟩
    obtain ⟨g0, hb0⟩ := below_one hb1
    obtain ⟨c0, f0, z0⟩ := heap_cells g0
    have HB1 : Hid (Below w.heap.size w w1) := hb0
    have HA : Hid (_ ∧ _ ∧ w.heap.size ≤ gA) := ⟨hA, harr, by simp at hgA; omega⟩
    have hmk := make_reps nr (by omega) (by omega)
    have hz1 : w.heap.size ≤ w1.heap.size := hb0.size
    clear hb1 hb0 hA harr hgA g0
    go_wp2
    go_region
    go_wp2
    go_ret2
    have hzA := (heap_cells HA.out.1).2.2
    refine .inl ⟨HC.out, w1.heap.size + 2, fun k => k = w1.heap.size + 2 ∨ k = gA ∨ k = w1.heap.size + 1, ?_, seq_new (n := n) (nr := nr) HC.out rfl rfl (heap_at ?_) (arr := arr) ?_ HA.out.2.1 ?_ ?_ ?_ ?_, ?_, ?_⟩
    · first | rfl | (simp; done)
    · simp
    · refine Eq.trans ?_ HA.out.1
      refine (heap_old (by simp; omega)).trans ?_
      refine (heap_old (by simp; omega)).trans ?_
      exact heap_old hzA
    · refine (heap_old (by simp)).trans ?_
      exact heap_at (by simp)
    · omega
    · omega
    · omega
    · intro k hk
      have := HA.out.2.2
      rcases hk with rfl | rfl | rfl <;> omega
    · refine Below.drew ?_
      refine Below.alloc ?_ (by simp; omega) _
      refine Below.alloc ?_ (by simp; omega) _
      exact HB1.out.alloc hz1 _

/-! ### The calls -/
theorem psubmit_any (g : Nat) (F : Nat → Prop) (p : SeqV) (client id : Int) (t : ByteArray) (d : Int) (w : World) (h : SeqAt w g F p) (ht : t.size ≤ maxLen) :
    Calls Tryz.prog 25 #[.pointer (some ⟨g, 0, none⟩), .int .i64 client, .int .i64 id, .string t, .int .i64 d] w (SubPost g F (pSubmitV p client id t d) w) := by
  have hg := h.block
  have H : Hid _ := h
  clear h
  go_enter Tryz.func25, Tryz.ntmps25
  go_wp2_with fail
  refine (ssubmit_any g F p client id t d w H.out ht).mono ?_
  rintro e w1 ⟨rfl, hP⟩
  have HP : Hid _ := hP
  clear hP
  go_wp2
  go_ret
  exact ⟨rfl, HP.out⟩
theorem pfill_any (g : Nat) (F : Nat → Prop) (p : SeqV) (w : World) (h : SeqAt w g F p) (hcr : ∀ a ∈ p.accs, a.cr ≤ 2000) (hlog : p.log.length ≤ 1000000) (hall : p.epochs < 200 → (rsOf p).length ≤ 64 ∧ (recs (rsOf p)).all Dk.recOk = true) (ho : p.outs.length + 64 ≤ 1000000) :
    Calls Tryz.prog 27 #[.pointer (some ⟨g, 0, none⟩)] w (FillRPost g F (pFillV p) w) := by
  have hg := h.block
  have HH : Hid (_ ∧ _ ∧ _ ∧ _ ∧ _) := ⟨h, hcr, hlog, hall, ho⟩
  clear h hcr hlog hall ho
  go_enter Tryz.func27, Tryz.ntmps27
  go_wp2_with fail
  refine (sfill_any g F p w HH.out.1 HH.out.2.1 HH.out.2.2.1 HH.out.2.2.2.1 HH.out.2.2.2.2).mono ?_
  rintro e w1 ⟨rfl, hP⟩
  have HP : Hid _ := hP
  clear hP
  go_wp2
  go_ret2
  exact ⟨rfl, HP.out⟩
theorem plog_any (g : Nat) (F : Nat → Prop) (p : SeqV) (w : World) (h : SeqAt w g F p) :
    Calls Tryz.prog 35 #[.pointer (some ⟨g, 0, none⟩)] w fun e w' => ∃ b : ByteArray, e = .returned (.string b) ∧ b.data.toList = p.log ∧ Below w.heap.size w w' := by
  have hg := h.block
  have H : Hid _ := h
  clear h
  go_enter Tryz.func35, Tryz.ntmps35
  go_wp2_with fail
  refine (slog_any g F p w H.out).mono ?_
  rintro e w1 ⟨b, rfl, hb, hw⟩
  have HB : Hid (_ ∧ _) := ⟨hb, hw⟩
  clear hb hw
  go_wp2
  go_ret
  exact ⟨b, rfl, HB.out.1, HB.out.2⟩
theorem preply_any (g : Nat) (F : Nat → Prop) (p : SeqV) (id : Int) (w : World) (h : SeqAt w g F p) :
    Calls Tryz.prog 37 #[.pointer (some ⟨g, 0, none⟩), .int .i64 id] w (ReplyPost (pReplyV p id) w) := by
  have hg := h.block
  have H : Hid _ := h
  clear h
  go_enter Tryz.func37, Tryz.ntmps37
  go_wp2_with fail
  refine (sreply_any g F p id _ (H.out.below ((Below.refl _ _).alloc (Nat.le_refl _) _))).mono ?_
  rintro e w1 ⟨rfl, hb⟩
  obtain ⟨g1, hb1⟩ := below_one hb
  obtain ⟨c1, f1, z1⟩ := heap_cells g1
  have HB : Hid _ := hb1
  clear hb hb1 g1
  obtain ⟨⟨r1, r2, r3⟩, hr⟩ : ∃ x, pReplyV p id = x := ⟨_, rfl⟩
  rewrite [hr]
  have HR : Hid _ := hr
  clear hr
  simp only
  go_wp2
  refine bodyPost_ret (v := .tuple #[.agg #[.int .u8 r1, .int .i64 r2], .int .i64 r3]) (by simp [results, Tryz.results37, go_sem, c1]) rfl ?_
  refine ⟨by rw [HR.out], ?_⟩
  iterate 2 refine Below.setCell ?_ (by exact Nat.le_refl _) _
  exact HB.out

end Go.Proofs.YtccckonckddadabGreat
