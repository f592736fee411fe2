import Derived.Test.YtccckonckddadabGreatJ36
import Derived.Test.YtccckonckddadabGreatJ35
import Derived.BigQuiet
import Derived.Deep.RegionHeld3
namespace Go.Proofs.YtccckonckddadabGreat
set_option linter.unusedVariables false

/-! ### What is true of the replicas stays true -/
theorem rep_put {s : CluV} (h : RepFit s) (k : Nat) {x : Int × Int} (hx : 0 ≤ x.2 ∧ x.2 ≤ x.1 ∧ x.1 ≤ (s.epochs.length : Int)) : RepFit (repV s k x) := by
  intro y hy
  rcases List.mem_or_eq_of_mem_set hy with hy | rfl
  · exact h y hy
  · exact hx

theorem newV_rep (c : ConfV) : RepFit (newV c) := by
  intro x hx
  have h0 : x ∈ [((0 : Int), (0 : Int)), (0, 0), (0, 0), (0, 0)] := hx
  have h1 : x = (0, 0) := by simpa using h0
  subst h1
  exact ⟨Int.le_refl _, Int.le_refl _, Int.le_refl _⟩

theorem submitV_rep {s : CluV} (h : RepFit s) (client id : Int) (t : ByteArray) (d : Int) : RepFit (submitV s client id t d).1 := by
  unfold submitV
  iterate 6 (split; exact h)
  exact h

theorem sendV_rep {s : CluV} (h : RepFit s) (r n : Int) : RepFit (sendV s r n).1 := by
  unfold sendV
  iterate 4 (split; exact h)
  obtain ⟨p0, p1, p2⟩ := rep_fit h r.toNat
  refine rep_put h _ ⟨p0, ?_, ?_⟩
  · show (s.reps.getD r.toNat (0, 0)).2 ≤ n + 1
    omega
  · show n + 1 ≤ _
    omega

theorem syncV_rep {s : CluV} (h : RepFit s) (r : Int) : RepFit (syncV s r).1 := by
  unfold syncV
  split
  · exact h
  obtain ⟨p0, p1, p2⟩ := rep_fit h r.toNat
  exact rep_put h _ ⟨Int.le_trans p0 p1, Int.le_refl _, p2⟩

theorem crashGo_le (s : CluV) (safe : Nat) (keep : Int) : ∀ f n, n ≤ crashGo s safe keep f n ∧ crashGo s safe keep f n ≤ n + f
  | 0, n => ⟨Nat.le_refl _, Nat.le_refl _⟩
  | f + 1, n => by
    have ih := crashGo_le s safe keep f (n + 1)
    rw [crashGo]
    split
    · omega
    · omega

theorem crashV_rep {s : CluV} (h : RepFit s) (r keep : Int) : RepFit (crashV s r keep).1 := by
  unfold crashV
  split
  · exact h
  obtain ⟨p0, p1, p2⟩ := rep_fit h r.toNat
  have := crashGo_le s (s.reps.getD r.toNat (0, 0)).2.toNat keep ((s.reps.getD r.toNat (0, 0)).1.toNat - (s.reps.getD r.toNat (0, 0)).2.toNat) (s.reps.getD r.toNat (0, 0)).2.toNat
  refine rep_put h _ ⟨by show (0 : Int) ≤ ((crashN _ _ _ : Nat) : Int); omega, Int.le_refl _, ?_⟩
  show ((crashGo s (s.reps.getD r.toNat (0, 0)).2.toNat keep ((s.reps.getD r.toNat (0, 0)).1.toNat - (s.reps.getD r.toNat (0, 0)).2.toNat) (s.reps.getD r.toNat (0, 0)).2.toNat : Nat) : Int) ≤ _
  omega

theorem fillV_rep {s : CluV} (hf : CluFit s) (hr : Rest s) (h : RepFit s) : RepFit (fillV s).1 := by
  unfold fillV
  split
  · exact h
  · obtain ⟨e1, e2, e3, _⟩ := conf_edges hf.conf
    obtain ⟨y1, y2, y3⟩ := lateFrom_mild s.conf.clients.toNat 0 s [] hf (by omega)
    obtain ⟨z1, z2⟩ := visitFrom_mild s.conf.clients.toNat 0 (lateFrom s.conf.clients.toNat 0 s []).1 s.conf.room (lateFrom s.conf.clients.toNat 0 s []).2 y2 (by rw [y1.conf]; omega) e3 (fun j _ _ => by rw [y3, y1.epochs]; exact hr.credit _)
    have hM := y1.trans z1
    intro x hx
    have hx' : x ∈ (visitFrom s.conf.clients.toNat 0 (lateFrom s.conf.clients.toNat 0 s []).1 s.conf.room (lateFrom s.conf.clients.toNat 0 s []).2).1.reps := hx
    rw [hM.reps] at hx'
    obtain ⟨p0, p1, p2⟩ := h x hx'
    refine ⟨p0, p1, ?_⟩
    simp only
    rw [List.length_append, hM.epochs]
    omega

theorem send_rest {s : CluV} (h : Rest s) (r n : Int) : Rest (sendV s r n).1 := by
  unfold sendV
  iterate 4 (split; exact h)
  exact ⟨h.queue, h.credit⟩
theorem sync_rest {s : CluV} (h : Rest s) (r : Int) : Rest (syncV s r).1 := by
  unfold syncV
  split
  · exact h
  · exact ⟨h.queue, h.credit⟩
theorem crash_rest {s : CluV} (h : Rest s) (r keep : Int) : Rest (crashV s r keep).1 := by
  unfold crashV
  split
  · exact h
  · exact ⟨h.queue, h.credit⟩

end Go.Proofs.YtccckonckddadabGreat
namespace Go.Proofs.YtccckonckddadabGreat
open Go.RowKit
set_option linter.unusedVariables false

theorem late_take {n : Int} {q : List WaitV} {k : Nat} (hk : k < q.length) (h : isLate n q[k] = true) : (q.take (k + 1)).filter (isLate n) = (q.take k).filter (isLate n) ++ [q[k]] ∧ (q.take (k + 1)).filter (fun x => !isLate n x) = (q.take k).filter (fun x => !isLate n x) := by
  rw [List.take_succ_eq_append_getElem hk, List.filter_append, List.filter_append]
  refine ⟨?_, ?_⟩
  · rw [List.filter_cons_of_pos h]; rfl
  · rw [List.filter_cons_of_neg (by rw [h]; simp)]; simp
theorem late_keep {n : Int} {q : List WaitV} {k : Nat} (hk : k < q.length) (h : isLate n q[k] = false) : (q.take (k + 1)).filter (isLate n) = (q.take k).filter (isLate n) ∧ (q.take (k + 1)).filter (fun x => !isLate n x) = (q.take k).filter (fun x => !isLate n x) ++ [q[k]] := by
  rw [List.take_succ_eq_append_getElem hk, List.filter_append, List.filter_append]
  refine ⟨?_, ?_⟩
  · rw [List.filter_cons_of_neg (by rw [h]; simp)]; simp
  · rw [List.filter_cons_of_pos (by rw [h]; rfl)]; rfl

set_option maxRecDepth 100000 in
set_option maxHeartbeats 4000000 in
theorem takeLate_any (gA i : Nat) (b : Option Nat) (a : AccV) (n : Int) (w : World) (hA : ∃ arr, w.heap[gA]? = some (.cells arr 175)) (h : AccAt w gA i b a) (hn : b ≠ some gA) (hq : a.q.length ≤ 8) :
    Calls Tryz.prog 115 #[.pointer (some ⟨gA, i * 2, none⟩), .int .i64 n] w (TakePost gA i b (lateA a n) (lateL a n) w) := by
  obtain ⟨ti, hi, hz0, hz1, hz2⟩ := info_parts info_wait
  have HI : Hid (_ ∧ _ ∧ _ ∧ _) := ⟨hi, hz0, hz1, hz2⟩
  clear hi hz0 hz1 hz2
  obtain ⟨q, cr⟩ := a
  have H : Hid (_ ∧ _ ∧ _) := ⟨hA, h, hn⟩
  have hg : gA < w.heap.size := by obtain ⟨arr, hA⟩ := hA; exact (heap_cells hA).2.2
  have fz : ∀ x, w.frozen? ⟨gA, x, none⟩ = false := by obtain ⟨arr, hA⟩ := hA; exact (heap_cells hA).2.1
  obtain ⟨ad, c, c0, _, ho, _⟩ := h
  have HO : Hid _ := ho
  clear ho hA hn
  simp only at c0 hq HO
  have HV : Hid (lateA ⟨q, cr⟩ n = ⟨q.filter (fun x => !isLate n x), cr⟩ ∧ lateL ⟨q, cr⟩ n = q.filter (isLate n)) := ⟨rfl, rfl⟩
  obtain ⟨N, hN⟩ : ∃ n, q.length = n := ⟨_, rfl⟩
  rw [hN] at c0 hq HO
  go_enter Tryz.func115, Tryz.ntmps115
  go_wp2
  go_loopw [5, 6, 7] (fun v5 v6 v7 wr => ∃ (a1 a2 : Option Addr) (m1 c1 m2 c2 k : Nat), v5 = .slice a1 m1 c1 ∧ v6 = .slice a2 m2 c2 ∧ v7 = .int .i64 k ∧ k ≤ N ∧ m1 ≤ k ∧ m2 ≤ k ∧ Hid (TwoAt w wr ((q.take k).filter (isLate n)) ((q.take k).filter (fun x => !isLate n x)) a1 m1 c1 a2 m2 c2)) (fun _ _ v7 _ => N - (intOf v7).toNat)
  case atStart => exact ⟨none, none, 0, 0, 0, 0, 0, rfl, rfl, rfl, Nat.zero_le _, Nat.le_refl _, Nat.le_refl _, ⟨rfl, rfl, World.ownsRow_nil _ _ _ _, World.ownsRow_nil _ _ _ _, (fun x hx => by cases hx), Below.refl _ _⟩⟩
  case round =>
    obtain ⟨a1, a2, m1, c1, m2, c2, k, rfl, rfl, rfl, hk, hk1, hk2, HT⟩ := hrel
    have e0 := (HT.out.bel.cell (p := ⟨gA, i * 2, none⟩) hg).trans c0
    have hgr : gA < wr.heap.size := Nat.lt_of_lt_of_le hg HT.out.bel.size
    have hzw : w.heap.size ≤ wr.heap.size := HT.out.bel.size
    have fzr : ∀ x, wr.frozen? ⟨gA, x, none⟩ = false := fun x => (HT.out.bel.frozen (p := ⟨gA, x, none⟩) hg).trans (fz x)
    by_cases hlt : k < N
    · have hkl : k < q.length := by omega
      obtain ⟨gQ, rfl, hgQ, d0, d1, d2, d3⟩ := wait_cell HO.out (List.getElem?_eq_getElem hkl) hlt
      have hgQr : gQ < wr.heap.size := Nat.lt_of_lt_of_le hgQ hzw
      replace d0 := (HT.out.bel.cell (p := ⟨gQ, k * 4, none⟩) hgQ).trans d0
      replace d1 := (HT.out.bel.cell (p := ⟨gQ, k * 4 + 1, none⟩) hgQ).trans d1
      replace d2 := (HT.out.bel.cell (p := ⟨gQ, k * 4 + 2, none⟩) hgQ).trans d2
      replace d3 := (HT.out.bel.cell (p := ⟨gQ, k * 4 + 3, none⟩) hgQ).trans d3
      have HY : Hid (isLate n q[k] = true → _) := late_take hkl
      have HK : Hid (isLate n q[k] = false → _) := late_keep hkl
      generalize q[k] = x at *
      obtain ⟨xi, xt, xc, xd⟩ := x
      simp only at d0 d1 d2 d3
      have k1 : (k : Int) < (N : Int) := by omega
      have k0 : (0 : Int) ≤ (k : Int) := by omega
      by_cases hd : xd < n
      · have HS := HY.out (decide_eq_true hd)
        have HS' : Hid _ := HS
        clear HS HY HK
        go_wp2_with (at_builtin; refine wpList_append_lies _ rfl (.tmp 27) (.tmp 35) 173 rfl w.heap.size 178 ti (.agg #[.int .i64 0, .string ⟨#[]⟩, .int .i64 0, .int .i64 0]) 4 40 Tryz.underlying173 HI.out.1 HI.out.2.1 HI.out.2.2.1 HI.out.2.2.2 rfl (by decide) (.slice a1 m1 c1) m1 (waitsCells ((q.take k).filter (isLate n))) rfl (HT.out.o1.alloc _) ⟨wr.heap.size, 0, none⟩ 1 1 [.int .i64 xi, .string xt, .int .i64 xc, .int .i64 xd] rfl rfl ?c1 ?c2 ?c3 ?c4 ?c5 ?c6 _ rfl ?_)
        try (case c1 => exact cells_new _ _ rfl [.int .i64 xi, .string xt, .int .i64 xc, .int .i64 xd] _)
        case c2 => first | (intro u hu; simp only [List.mem_cons, List.not_mem_nil, or_false] at hu; rcases hu with rfl | rfl | rfl | rfl <;> rfl) | exact ⟨rfl, rfl, rfl, rfl⟩
        try (case c3 => decide)
        try (case c4 => unfold maxLen; omega)
        try (case c5 => omega)
        try (case c6 => first | omega | (simp; omega))
        intro gN cap w7 hown7 hgr7 hat7 hlt7
        have HN : Hid (TwoAt w w7 ((q.take (k + 1)).filter (isLate n)) ((q.take (k + 1)).filter (fun x => !isLate n x)) (some ⟨gN, 0, none⟩) (m1 + 1) cap a2 m2 c2) := by
          show TwoAt _ _ _ _ _ _ _ _ _ _
          rw [HS'.out.1, HS'.out.2]
          exact HT.out.left (x := ⟨xi, xt, xc, xd⟩) hown7 hgr7 (by rw [show (wr.alloc (.cells #[.int .i64 xi, .string xt, .int .i64 xc, .int .i64 xd] 178)).heap.size = wr.heap.size + 1 from by simp]; exact hat7)
        clear hown7 hgr7 hat7 hlt7
        go_wp2
        go_roundw
        case rel => exact ⟨_, _, _, _, _, _, k + 1, rfl, rfl, by go_num, by omega, by omega, by omega, HN⟩
        case measure => simp [intOf]; omega
      · have HS := HK.out (decide_eq_false hd)
        have HS' : Hid _ := HS
        clear HS HY HK
        have hd' : n ≤ xd := by omega
        go_wp2_with (at_builtin; refine wpList_append_lies _ rfl (.tmp 37) (.tmp 45) 173 rfl w.heap.size 178 ti (.agg #[.int .i64 0, .string ⟨#[]⟩, .int .i64 0, .int .i64 0]) 4 40 Tryz.underlying173 HI.out.1 HI.out.2.1 HI.out.2.2.1 HI.out.2.2.2 rfl (by decide) (.slice a2 m2 c2) m2 (waitsCells ((q.take k).filter (fun x => !isLate n x))) rfl (HT.out.o2.alloc _) ⟨wr.heap.size, 0, none⟩ 1 1 [.int .i64 xi, .string xt, .int .i64 xc, .int .i64 xd] rfl rfl ?c1 ?c2 ?c3 ?c4 ?c5 ?c6 _ rfl ?_)
        try (case c1 => exact cells_new _ _ rfl [.int .i64 xi, .string xt, .int .i64 xc, .int .i64 xd] _)
        case c2 => first | (intro u hu; simp only [List.mem_cons, List.not_mem_nil, or_false] at hu; rcases hu with rfl | rfl | rfl | rfl <;> rfl) | exact ⟨rfl, rfl, rfl, rfl⟩
        try (case c3 => decide)
        try (case c4 => unfold maxLen; omega)
        try (case c5 => omega)
        try (case c6 => first | omega | (simp; omega))
        intro gN cap w7 hown7 hgr7 hat7 hlt7
        have HN : Hid (TwoAt w w7 ((q.take (k + 1)).filter (isLate n)) ((q.take (k + 1)).filter (fun x => !isLate n x)) a1 m1 c1 (some ⟨gN, 0, none⟩) (m2 + 1) cap) := by
          show TwoAt _ _ _ _ _ _ _ _ _ _
          rw [HS'.out.1, HS'.out.2]
          exact HT.out.right (x := ⟨xi, xt, xc, xd⟩) hown7 hgr7 (by rw [show (wr.alloc (.cells #[.int .i64 xi, .string xt, .int .i64 xc, .int .i64 xd] 178)).heap.size = wr.heap.size + 1 from by simp]; exact hat7)
        clear hown7 hgr7 hat7 hlt7
        go_wp2
        go_roundw
        case rel => exact ⟨_, _, _, _, _, _, k + 1, rfl, rfl, by go_num, by omega, by omega, by omega, HN⟩
        case measure => simp [intOf]; omega
    · have hkn : k = N := by omega
      subst hkn
      have HF : Hid (TwoAt w wr (q.filter (isLate n)) (q.filter (fun x => !isLate n x)) a1 m1 c1 a2 m2 c2) := by
        have := HT.out
        have eq0 : q.take k = q := List.take_of_length_le (by omega)
        rw [eq0] at this
        exact this
      clear HT
      go_wp2
      go_ret
      rw [HV.out.1, HV.out.2]
      exact HF.out.fin H.out.1 H.out.2.1 H.out.2.2

theorem front_take {n : Nat} {q : List WaitV} {k : Nat} (hk : k < q.length) (h : k < n) : (q.take (k + 1)).take n = (q.take k).take n ++ [q[k]] ∧ (q.take (k + 1)).drop n = (q.take k).drop n := by
  rw [List.take_take, List.take_take, Nat.min_eq_right (by omega), Nat.min_eq_right (by omega), List.take_succ_eq_append_getElem hk]
  refine ⟨rfl, ?_⟩
  rw [List.drop_of_length_le (by rw [List.length_append, List.length_take]; simp; omega), List.drop_of_length_le (by rw [List.length_take]; omega)]
theorem front_keep {n : Nat} {q : List WaitV} {k : Nat} (hk : k < q.length) (h : n ≤ k) : (q.take (k + 1)).take n = (q.take k).take n ∧ (q.take (k + 1)).drop n = (q.take k).drop n ++ [q[k]] := by
  rw [List.take_take, List.take_take, Nat.min_eq_left (by omega), Nat.min_eq_left (by omega), List.take_succ_eq_append_getElem hk]
  refine ⟨rfl, ?_⟩
  rw [List.drop_append_of_le_length (by rw [List.length_take]; omega)]

set_option maxRecDepth 100000 in
set_option maxHeartbeats 4000000 in
theorem takeFront_any (gA i : Nat) (b : Option Nat) (a : AccV) (n : Nat) (w : World) (hA : ∃ arr, w.heap[gA]? = some (.cells arr 175)) (h : AccAt w gA i b a) (hn : b ≠ some gA) (hq : a.q.length ≤ 8) :
    Calls Tryz.prog 124 #[.pointer (some ⟨gA, i * 2, none⟩), .int .i64 (n : Int)] w (TakePost gA i b ⟨a.q.drop n, a.cr⟩ (a.q.take n) w) := by
  obtain ⟨ti, hi, hz0, hz1, hz2⟩ := info_parts info_wait
  have HI : Hid (_ ∧ _ ∧ _ ∧ _) := ⟨hi, hz0, hz1, hz2⟩
  clear hi hz0 hz1 hz2
  obtain ⟨q, cr⟩ := a
  have H : Hid (_ ∧ _ ∧ _) := ⟨hA, h, hn⟩
  have hg : gA < w.heap.size := by obtain ⟨arr, hA⟩ := hA; exact (heap_cells hA).2.2
  have fz : ∀ x, w.frozen? ⟨gA, x, none⟩ = false := by obtain ⟨arr, hA⟩ := hA; exact (heap_cells hA).2.1
  obtain ⟨ad, c, c0, _, ho, _⟩ := h
  have HO : Hid _ := ho
  clear ho hA hn
  simp only at c0 hq HO
  obtain ⟨N, hN⟩ : ∃ n, q.length = n := ⟨_, rfl⟩
  rw [hN] at c0 hq HO
  go_enter Tryz.func124, Tryz.ntmps124
  go_wp2
  go_loopw [5, 6, 7] (fun v5 v6 v7 wr => ∃ (a1 a2 : Option Addr) (m1 c1 m2 c2 k : Nat), v5 = .slice a1 m1 c1 ∧ v6 = .slice a2 m2 c2 ∧ v7 = .int .i64 k ∧ k ≤ N ∧ m1 ≤ k ∧ m2 ≤ k ∧ Hid (TwoAt w wr ((q.take k).take n) ((q.take k).drop n) a1 m1 c1 a2 m2 c2)) (fun _ _ v7 _ => N - (intOf v7).toNat)
  case atStart =>
    have e1 : (q.take 0).take n = [] := by rw [List.take_zero, List.take_nil]
    have e2 : (q.take 0).drop n = [] := by rw [List.take_zero, List.drop_nil]
    have HS0 : Hid (TwoAt w w ((q.take 0).take n) ((q.take 0).drop n) none 0 0 none 0 0) := by
      show TwoAt _ _ _ _ _ _ _ _ _ _
      rw [e1, e2]
      exact ⟨rfl, rfl, World.ownsRow_nil _ _ _ _, World.ownsRow_nil _ _ _ _, (fun x hx => by cases hx), Below.refl _ _⟩
    exact ⟨none, none, 0, 0, 0, 0, 0, rfl, rfl, rfl, Nat.zero_le _, Nat.le_refl _, Nat.le_refl _, HS0⟩
  case round =>
    obtain ⟨a1, a2, m1, c1, m2, c2, k, rfl, rfl, rfl, hk, hk1, hk2, HT⟩ := hrel
    have e0 := (HT.out.bel.cell (p := ⟨gA, i * 2, none⟩) hg).trans c0
    have hgr : gA < wr.heap.size := Nat.lt_of_lt_of_le hg HT.out.bel.size
    have hzw : w.heap.size ≤ wr.heap.size := HT.out.bel.size
    have fzr : ∀ x, wr.frozen? ⟨gA, x, none⟩ = false := fun x => (HT.out.bel.frozen (p := ⟨gA, x, none⟩) hg).trans (fz x)
    by_cases hlt : k < N
    · have hkl : k < q.length := by omega
      obtain ⟨gQ, rfl, hgQ, d0, d1, d2, d3⟩ := wait_cell HO.out (List.getElem?_eq_getElem hkl) hlt
      have hgQr : gQ < wr.heap.size := Nat.lt_of_lt_of_le hgQ hzw
      replace d0 := (HT.out.bel.cell (p := ⟨gQ, k * 4, none⟩) hgQ).trans d0
      replace d1 := (HT.out.bel.cell (p := ⟨gQ, k * 4 + 1, none⟩) hgQ).trans d1
      replace d2 := (HT.out.bel.cell (p := ⟨gQ, k * 4 + 2, none⟩) hgQ).trans d2
      replace d3 := (HT.out.bel.cell (p := ⟨gQ, k * 4 + 3, none⟩) hgQ).trans d3
      have HY : Hid (k < n → _) := front_take hkl
      have HK : Hid (n ≤ k → _) := front_keep hkl
      generalize q[k] = x at *
      obtain ⟨xi, xt, xc, xd⟩ := x
      simp only at d0 d1 d2 d3
      have k1 : (k : Int) < (N : Int) := by omega
      have k0 : (0 : Int) ≤ (k : Int) := by omega
      by_cases hd : k < n
      · have HS := HY.out hd
        have HS' : Hid _ := HS
        clear HS HY HK
        have hd' : (k : Int) < (n : Int) := by omega
        go_wp2_with (at_builtin; refine wpList_append_lies _ rfl (.tmp 20) (.tmp 28) 173 rfl w.heap.size 178 ti (.agg #[.int .i64 0, .string ⟨#[]⟩, .int .i64 0, .int .i64 0]) 4 40 Tryz.underlying173 HI.out.1 HI.out.2.1 HI.out.2.2.1 HI.out.2.2.2 rfl (by decide) (.slice a1 m1 c1) m1 (waitsCells ((q.take k).take n)) rfl (HT.out.o1.alloc _) ⟨wr.heap.size, 0, none⟩ 1 1 [.int .i64 xi, .string xt, .int .i64 xc, .int .i64 xd] rfl rfl ?c1 ?c2 ?c3 ?c4 ?c5 ?c6 _ rfl ?_)
        try (case c1 => exact cells_new _ _ rfl [.int .i64 xi, .string xt, .int .i64 xc, .int .i64 xd] _)
        case c2 => first | (intro u hu; simp only [List.mem_cons, List.not_mem_nil, or_false] at hu; rcases hu with rfl | rfl | rfl | rfl <;> rfl) | exact ⟨rfl, rfl, rfl, rfl⟩
        try (case c3 => decide)
        try (case c4 => unfold maxLen; omega)
        try (case c5 => omega)
        try (case c6 => first | omega | (simp; omega))
        intro gN cap w7 hown7 hgr7 hat7 hlt7
        have HN : Hid (TwoAt w w7 ((q.take (k + 1)).take n) ((q.take (k + 1)).drop n) (some ⟨gN, 0, none⟩) (m1 + 1) cap a2 m2 c2) := by
          show TwoAt _ _ _ _ _ _ _ _ _ _
          rw [HS'.out.1, HS'.out.2]
          exact HT.out.left (x := ⟨xi, xt, xc, xd⟩) hown7 hgr7 (by rw [show (wr.alloc (.cells #[.int .i64 xi, .string xt, .int .i64 xc, .int .i64 xd] 178)).heap.size = wr.heap.size + 1 from by simp]; exact hat7)
        clear hown7 hgr7 hat7 hlt7
        go_wp2
        go_roundw
        case rel => exact ⟨_, _, _, _, _, _, k + 1, rfl, rfl, by go_num, by omega, by omega, by omega, HN⟩
        case measure => simp [intOf]; omega
      · have HS := HK.out (by omega)
        have HS' : Hid _ := HS
        clear HS HY HK
        have hd' : (n : Int) ≤ (k : Int) := by omega
        go_wp2_with (at_builtin; refine wpList_append_lies _ rfl (.tmp 30) (.tmp 38) 173 rfl w.heap.size 178 ti (.agg #[.int .i64 0, .string ⟨#[]⟩, .int .i64 0, .int .i64 0]) 4 40 Tryz.underlying173 HI.out.1 HI.out.2.1 HI.out.2.2.1 HI.out.2.2.2 rfl (by decide) (.slice a2 m2 c2) m2 (waitsCells ((q.take k).drop n)) rfl (HT.out.o2.alloc _) ⟨wr.heap.size, 0, none⟩ 1 1 [.int .i64 xi, .string xt, .int .i64 xc, .int .i64 xd] rfl rfl ?c1 ?c2 ?c3 ?c4 ?c5 ?c6 _ rfl ?_)
        try (case c1 => exact cells_new _ _ rfl [.int .i64 xi, .string xt, .int .i64 xc, .int .i64 xd] _)
        case c2 => first | (intro u hu; simp only [List.mem_cons, List.not_mem_nil, or_false] at hu; rcases hu with rfl | rfl | rfl | rfl <;> rfl) | exact ⟨rfl, rfl, rfl, rfl⟩
        try (case c3 => decide)
        try (case c4 => unfold maxLen; omega)
        try (case c5 => omega)
        try (case c6 => first | omega | (simp; omega))
        intro gN cap w7 hown7 hgr7 hat7 hlt7
        have HN : Hid (TwoAt w w7 ((q.take (k + 1)).take n) ((q.take (k + 1)).drop n) a1 m1 c1 (some ⟨gN, 0, none⟩) (m2 + 1) cap) := by
          show TwoAt _ _ _ _ _ _ _ _ _ _
          rw [HS'.out.1, HS'.out.2]
          exact HT.out.right (x := ⟨xi, xt, xc, xd⟩) hown7 hgr7 (by rw [show (wr.alloc (.cells #[.int .i64 xi, .string xt, .int .i64 xc, .int .i64 xd] 178)).heap.size = wr.heap.size + 1 from by simp]; exact hat7)
        clear hown7 hgr7 hat7 hlt7
        go_wp2
        go_roundw
        case rel => exact ⟨_, _, _, _, _, _, k + 1, rfl, rfl, by go_num, by omega, by omega, by omega, HN⟩
        case measure => simp [intOf]; omega
    · have hkn : k = N := by omega
      subst hkn
      have HF : Hid (TwoAt w wr (q.take n) (q.drop n) a1 m1 c1 a2 m2 c2) := by
        have := HT.out
        have eq0 : q.take k = q := List.take_of_length_le (by omega)
        rw [eq0] at this
        exact this
      clear HT
      go_wp2
      go_ret
      exact HF.out.fin H.out.1 H.out.2.1 H.out.2.2

end Go.Proofs.YtccckonckddadabGreat
namespace Go.Proofs.YtccckonckddadabGreat
open Go.RowKit
set_option linter.unusedVariables false

/-! ### visit -/
theorem costs_append : ∀ (a b : List WaitV), costs (a ++ b) = costs a + costs b
  | [], b => by show costs b = 0 + costs b; omega
  | x :: a, b => by show x.c + costs (a ++ b) = x.c + costs a + costs b; rw [costs_append a b]; omega
theorem costs_take {q : List WaitV} {k : Nat} (hk : k < q.length) : costs (q.take (k + 1)) = costs (q.take k) + q[k].c := by
  rw [List.take_succ_eq_append_getElem hk, costs_append]
  show _ + (q[k].c + 0) = _
  omega
theorem takeN_le : ∀ (q : List WaitV) (cr room : Int), takeN q cr room ≤ q.length
  | [], _, _ => Nat.le_refl _
  | x :: q, cr, room => by
    rw [takeN]
    split
    · have := takeN_le q (cr - x.c) (room - x.c)
      rw [List.length_cons]; omega
    · exact Nat.zero_le _
theorem takeN_step {q : List WaitV} {k : Nat} {cr room : Int} (hk : k < q.length) (h1 : q[k].c ≤ cr) (h2 : q[k].c ≤ room) : takeN (q.drop k) cr room = takeN (q.drop (k + 1)) (cr - q[k].c) (room - q[k].c) + 1 := by
  rw [List.drop_eq_getElem_cons hk, takeN, if_pos ⟨h1, h2⟩]
theorem takeN_stop {q : List WaitV} {k : Nat} {cr room : Int} (hk : k < q.length) (h : ¬ (q[k].c ≤ cr ∧ q[k].c ≤ room)) : takeN (q.drop k) cr room = 0 := by
  rw [List.drop_eq_getElem_cons hk, takeN, if_neg h]
theorem costs_nonneg : ∀ (q : List WaitV), (∀ x ∈ q, 0 ≤ x.c) → 0 ≤ costs q
  | [], _ => Int.le_refl _
  | x :: q, h => by
    have := costs_nonneg q (fun y hy => h y (by simp [hy]))
    have h1 := h x (by simp)
    show 0 ≤ x.c + costs q
    omega

/-- Where a round of visit stands. -/
structure VisAt (w wr : World) (gA i : Nat) (b : Option Nat) (q : List WaitV) (G room cr ro : Int) (k : Nat) : Prop where
  acc : AccPost w wr gA i b b ⟨q, cr⟩
  hcr : cr = G - costs (q.take k)
  hro : ro = room - costs (q.take k)
  left : takeN q G room = k + takeN (q.drop k) cr ro

theorem VisAt.kept {w wr W : World} {gA i : Nat} {b : Option Nat} {q : List WaitV} {G room cr ro : Int} {k : Nat} (h : VisAt w wr gA i b q G room cr ro k) (hb : Below wr.heap.size wr W) : VisAt w W gA i b q G room cr ro k := by
  obtain ⟨arr, r1, _⟩ := h.acc.side
  exact ⟨h.acc.trans (AccPost.below ⟨arr, r1⟩ h.acc.acc h.acc.ne hb), h.hcr, h.hro, h.left⟩
theorem VisAt.step {w wr : World} {gA i : Nat} {b : Option Nat} {q : List WaitV} {G room cr ro xc : Int} {k : Nat} (h : VisAt w wr gA i b q G room cr ro k) (h1 : costs (q.take (k + 1)) = costs (q.take k) + xc) (h2 : takeN (q.drop k) cr ro = takeN (q.drop (k + 1)) (cr - xc) (ro - xc) + 1) :
    VisAt w (wr.setCell ⟨gA, i * 2 + 1, none⟩ (.int .i64 (cr - xc))) gA i b q G room (cr - xc) (ro - xc) (k + 1) := by
  obtain ⟨arr, r1, _⟩ := h.acc.side
  have e1 := h.hcr
  have e2 := h.hro
  refine ⟨h.acc.trans (AccPost.credit ⟨arr, r1⟩ h.acc.acc h.acc.ne _), by omega, by omega, ?_⟩
  rw [h.left, h2]; omega

/-- The end of a visit. -/
theorem VisAt.fin {w wr W2 W3 : World} {gA i : Nat} {b b2 : Option Nat} {q : List WaitV} {G room cr ro quantum cr0 : Int} {k : Nat} (h : VisAt w wr gA i b q G room cr ro k) (h0 : takeN (q.drop k) cr ro = 0)
    (hV : visitA ⟨q, cr0⟩ quantum room = ⟨q.drop (takeN q G room), if q.drop (takeN q G room) = [] then 0 else G - costs (q.take (takeN q G room))⟩ ∧ visitL ⟨q, cr0⟩ quantum room = q.take (takeN q G room))
    {ad : Option Addr} {m c : Nat} (hl : (q.take k).length = m) (hP : AccPost wr W2 gA i b b2 ⟨q.drop k, cr⟩) (ho : W2.ownsRow wr.heap.size 178 4 (.slice ad m c) m (waitsCells (q.take k)))
    (hg : gA < w.heap.size) (h3 : (q.drop k ≠ [] ∧ W3 = W2) ∨ (q.drop k = [] ∧ W3 = W2.setCell ⟨gA, i * 2 + 1, none⟩ (.int .i64 0))) :
    TakePost gA i b (visitA ⟨q, cr0⟩ quantum room) (visitL ⟨q, cr0⟩ quantum room) w (.returned (.slice ad m c)) W3 := by
  have hk : takeN q G room = k := by rw [h.left, h0]; rfl
  have hcr := h.hcr
  rw [hV.1, hV.2, hk]
  have hP1 := h.acc.trans hP
  have hz : w.heap.size ≤ wr.heap.size := h.acc.kept.size
  rcases h3 with ⟨hx, rfl⟩ | ⟨hx, rfl⟩
  · rw [if_neg hx, ← hcr]
    exact ⟨ad, m, c, b2, rfl, hl, hP1, own_base ho hz⟩
  · rw [if_pos hx]
    obtain ⟨arr, r1, _⟩ := hP.side
    refine ⟨ad, m, c, b2, rfl, hl, hP1.trans (AccPost.credit ⟨arr, r1⟩ hP.acc hP.ne 0), own_base (own_same ho (fun y hy => Below.heap_setCell _ _ _ _ ?_)) hz⟩
    have := (ho.lt y hy).1
    show y ≠ gA
    omega

set_option maxRecDepth 100000 in
set_option maxHeartbeats 8000000 in
theorem visit_acc (gA i : Nat) (b : Option Nat) (a : AccV) (quantum room : Int) (w : World) (hA : ∃ arr, w.heap[gA]? = some (.cells arr 175)) (h : AccAt w gA i b a) (hn : b ≠ some gA) (hq : a.q.length ≤ 8)
    (hc : ∀ x ∈ a.q, 0 ≤ x.c ∧ x.c ≤ 8) (hcr : 0 ≤ a.cr ∧ a.cr ≤ 100000) (hqt : 0 ≤ quantum ∧ quantum ≤ 8) (hro : 0 ≤ room ∧ room ≤ 64) :
    Calls Tryz.prog 116 #[.pointer (some ⟨gA, i * 2, none⟩), .int .i64 quantum, .int .i64 room] w (TakePost gA i b (visitA a quantum room) (visitL a quantum room) w) := by
  obtain ⟨q, cr0⟩ := a
  have HH : Hid (_ ∧ _ ∧ _) := ⟨hA, h, hn⟩
  have hg : gA < w.heap.size := by obtain ⟨arr, hA⟩ := hA; exact (heap_cells hA).2.2
  have fz : ∀ x, w.frozen? ⟨gA, x, none⟩ = false := by obtain ⟨arr, hA⟩ := hA; exact (heap_cells hA).2.1
  obtain ⟨ad, c, c0, c1, _, _⟩ := h
  clear hA hn
  simp only at c0 c1 hq hc hcr
  have HC : Hid _ := hc
  clear hc
  obtain ⟨hcr0, hcr1⟩ := hcr
  obtain ⟨hqt0, hqt1⟩ := hqt
  obtain ⟨hro0, hro1⟩ := hro
  obtain ⟨N, hN⟩ : ∃ n, q.length = n := ⟨_, rfl⟩
  rw [hN] at c0 hq
  have HN : Hid _ := hN
  -- the credit that is given
  obtain ⟨G, hG⟩ : ∃ G, given ⟨q, cr0⟩ quantum = G := ⟨_, rfl⟩
  have HV : Hid (visitA ⟨q, cr0⟩ quantum room = ⟨q.drop (takeN q G room), if q.drop (takeN q G room) = [] then 0 else G - costs (q.take (takeN q G room))⟩ ∧ visitL ⟨q, cr0⟩ quantum room = q.take (takeN q G room)) := by
    unfold visitA visitL
    rw [hG]
    exact ⟨rfl, rfl⟩
  have hG1 : 0 ≤ G ∧ G ≤ 100008 := by
    rw [← hG]; unfold given; simp only; split <;> omega
  go_enter Tryz.func116, Tryz.ntmps116
  rcases Nat.eq_zero_or_pos N with h0 | h0
  · have hq0 : q = [] := List.eq_nil_of_length_eq_zero (by omega)
    have hG2 : G = cr0 := by rw [← hG]; unfold given; rw [if_pos hq0]
    have HW : Hid (VisAt w w gA i b q G room G room 0) := by
      refine ⟨?_, by show G = G - 0; omega, by show room = room - 0; omega, by simp⟩
      rw [hG2]
      exact AccPost.below HH.out.1 HH.out.2.1 HH.out.2.2 (Below.refl _ _)
    have HQ0 : Hid _ := hq0
    clear hG2 hq0 hG
    subst h0
    go_wp2
    go_loopw [2, 7] (fun v2 v7 wr => v2 = .int .i64 room ∧ v7 = .int .i64 0 ∧ Hid (VisAt w wr gA i b q G room G room 0)) (fun _ v7 _ => 0)
    case atStart => exact ⟨rfl, rfl, HW⟩
    case round =>
      obtain ⟨rfl, rfl, HL⟩ := hrel
      clear HW c0 c1 fz
      obtain ⟨arr, r1, _⟩ := HL.out.acc.side
      obtain ⟨ad', c', c0, c1, ho, hb⟩ := HL.out.acc.acc
      have hgr := (heap_cells r1).2.2
      have fz := (heap_cells r1).2.1
      have HO : Hid _ := ho
      clear r1 ho hb
      simp only at c0 c1 HO
      rw [HN.out] at c0 HO
      go_wp2
      go_quiet (fail)
      have HLd : Hid (VisAt w (wr.drewN nq) gA i b q G room G room 0) := HL.out.kept (below_drewN (Below.refl _ _) nq)
      generalize wr.drewN nq = W at *
      clear c0 c1 fz HO HL
      have HE : Hid (takeN (q.drop 0) G room = 0) := by show _ = _; rw [HQ0.out]; rfl
      obtain ⟨arr2, r2, _⟩ := HLd.out.acc.side
      go_wp2_with fail
      refine (takeFront_any gA i b ⟨q, G⟩ 0 W ⟨arr2, r2⟩ HLd.out.acc.acc HLd.out.acc.ne (by show q.length ≤ 8; rw [HN.out]; exact hq)).mono ?_
      rintro e W2 ⟨ad2, m2, c2, b2, rfl, hl2, hP2, ho2⟩
      have HP2 : Hid (_ ∧ _ ∧ _) := ⟨hl2, hP2, ho2⟩
      obtain ⟨arr3, r3, _⟩ := hP2.side
      obtain ⟨ad3, c3, e0, e1, _, _⟩ := hP2.acc
      have hg2 := (heap_cells r3).2.2
      have fz2 := (heap_cells r3).2.1
      clear hl2 hP2 ho2 r3 r2
      simp only at e0 e1
      by_cases hx : q.drop 0 = []
      · have hl0 : (q.drop 0).length = 0 := by rw [hx]; rfl
        rw [hl0] at e0
        have HXX : Hid _ := hx
        clear hx hl0
        go_wp2
        go_ret
        exact HLd.out.fin HE.out HV.out HP2.out.1 HP2.out.2.1 HP2.out.2.2 hg (.inr ⟨HXX.out, rfl⟩)
      · have hl0 : ((((q.drop 0).length : Nat) : Int) == 0) = false := by
          rw [beq_eq_false_iff_ne]
          intro e
          exact hx (List.eq_nil_of_length_eq_zero (by omega))
        have hl1 : (0 : Int) < (((q.drop 0).length : Nat) : Int) := by
          rw [beq_eq_false_iff_ne] at hl0; omega
        have HXX : Hid _ := hx
        clear hx
        generalize (q.drop 0).length = LL at *
        go_wp2
        go_ret
        exact HLd.out.fin HE.out HV.out HP2.out.1 HP2.out.2.1 HP2.out.2.2 hg (.inl ⟨HXX.out, rfl⟩)
  · have hG2 : G = cr0 + quantum := by
      rw [← hG]; unfold given; rw [if_neg]
      intro e
      have : q = [] := e
      rw [this] at hN
      simp at hN
      omega
    have hw1 : IntKind.i64.wrap (cr0 + quantum) = cr0 + quantum := wrap_i64_id (by omega) (by omega)
    have h0I : (0 : Int) < (N : Int) := by omega
    have HW : Hid (VisAt w (w.setCell ⟨gA, i * 2 + 1, none⟩ (.int .i64 (cr0 + quantum))) gA i b q G room G room 0) := by
      refine ⟨?_, by show G = G - 0; omega, by show room = room - 0; omega, by simp⟩
      rw [hG2]
      exact AccPost.credit HH.out.1 HH.out.2.1 HH.out.2.2 _
    clear hG2 hG
    go_wp2
    go_loopw [2, 7] (fun v2 v7 wr => ∃ (k : Nat) (cr ro : Int), v2 = .int .i64 ro ∧ v7 = .int .i64 k ∧ k ≤ N ∧ 0 ≤ cr ∧ cr ≤ 100008 ∧ 0 ≤ ro ∧ ro ≤ 64 ∧ Hid (VisAt w wr gA i b q G room cr ro k)) (fun _ v7 _ => N - (intOf v7).toNat)
    case atStart => exact ⟨0, G, room, rfl, rfl, Nat.zero_le _, hG1.1, hG1.2, hro0, hro1, HW⟩
    case round =>
      obtain ⟨k, cr, ro, rfl, rfl, hk, hcrA, hcrB, hroA, hroB, HL⟩ := hrel
      clear HW c0 c1 fz
      obtain ⟨arr, r1, _⟩ := HL.out.acc.side
      obtain ⟨ad', c', c0, c1, ho, hb⟩ := HL.out.acc.acc
      have hgr := (heap_cells r1).2.2
      have fz := (heap_cells r1).2.1
      have HO : Hid _ := ho
      have HB : Hid _ := hb
      clear r1 ho hb
      simp only at c0 c1 HO
      rw [HN.out] at c0 HO
      by_cases hlt : k < N
      · have hkl : k < q.length := by rw [HN.out]; exact hlt
        obtain ⟨gQ, rfl, hgQ, _, _, d2, _⟩ := wait_cell HO.out (List.getElem?_eq_getElem hkl) hlt
        have hxc := HC.out q[k] (List.getElem_mem hkl)
        have HT1 : Hid _ := costs_take hkl
        have HT2 : Hid (q[k].c ≤ cr → q[k].c ≤ ro → _) := takeN_step (cr := cr) (room := ro) hkl
        have HT3 : Hid (¬ (q[k].c ≤ cr ∧ q[k].c ≤ ro) → _) := takeN_stop (cr := cr) (room := ro) hkl
        have HO2 : Hid (w.heap.size ≤ w.heap.size → ∀ W : World, W.heap[gQ]? = wr.heap[gQ]? → W.cell? ⟨gQ, k * 4 + 2, none⟩ = some (.int .i64 q[k].c)) := fun _ W hW => (World.cell?_of_block (a := ⟨gQ, k * 4 + 2, none⟩) hW).trans d2
        generalize q[k].c = xc at *
        obtain ⟨hx0, hx8⟩ := hxc
        have k1 : (k : Int) < (N : Int) := by omega
        have k0 : (0 : Int) ≤ (k : Int) := by omega
        have kd : decide ((k : Int) < (N : Int)) = true := decide_eq_true k1
        by_cases hy : xc ≤ cr
        · have hd1 : decide (xc ≤ cr) = true := decide_eq_true hy
          by_cases hy2 : xc ≤ ro
          · have hd2 : decide (xc ≤ ro) = true := decide_eq_true hy2
            have hw2 : IntKind.i64.wrap (cr - xc) = cr - xc := wrap_i64_id (by omega) (by omega)
            have hw3 : IntKind.i64.wrap (ro - xc) = ro - xc := wrap_i64_id (by omega) (by omega)
            have HS : Hid _ := HT2.out hy hy2
            clear HT2 HT3
            go_wp2
            go_quiet (fail)
            have HBq : Hid (Below wr.heap.size wr (wr.drewN nq)) := below_drewN (Below.refl _ _) nq
            have HLd : Hid (VisAt w (wr.drewN nq) gA i b q G room cr ro k) := HL.out.kept HBq.out
            replace d2 : (wr.drewN nq).cell? ⟨gQ, k * 4 + 2, none⟩ = some (.int .i64 xc) := HO2.out (Nat.le_refl _) _ (HBq.out.block gQ hgQ)
            replace hgQ : gQ < (wr.drewN nq).heap.size := Nat.lt_of_lt_of_le hgQ HBq.out.size
            replace c0 := (HBq.out.cell (p := ⟨gA, i * 2, none⟩) hgr).trans c0
            replace c1 := (HBq.out.cell (p := ⟨gA, i * 2 + 1, none⟩) hgr).trans c1
            replace fz : ∀ x, (wr.drewN nq).frozen? ⟨gA, x, none⟩ = false := fun x => (HBq.out.frozen (p := ⟨gA, x, none⟩) hgr).trans (fz x)
            replace hgr : gA < (wr.drewN nq).heap.size := Nat.lt_of_lt_of_le hgr HBq.out.size
            have hgAQ : gQ ≠ gA := fun e => HL.out.acc.ne (by rw [← HB.out, ← e]; rfl)
            clear HO HL HBq HO2
            generalize wr.drewN nq = W at *
            go_wp2
            go_region
            have HLn : Hid (VisAt w (W.setCell ⟨gA, i * 2 + 1, none⟩ (.int .i64 (cr - xc))).drew gA i b q G room (cr - xc) (ro - xc) (k + 1)) := (HLd.out.step HT1.out HS.out).kept (Below.refl _ _).drew
            have e0 : (W.setCell ⟨gA, i * 2 + 1, none⟩ (.int .i64 (cr - xc))).drew.cell? ⟨gA, i * 2, none⟩ = some (.slice (some ⟨gQ, 0, none⟩) N c') := by
              have hne5 : (⟨gA, i * 2 + 1, none⟩ : Addr) ≠ ⟨gA, i * 2, none⟩ := by simp
              show (W.setCell ⟨gA, i * 2 + 1, none⟩ (.int .i64 (cr - xc))).cell? ⟨gA, i * 2, none⟩ = _
              first | exact (World.cell?_setCell_other hne5).trans c0 | exact (World.cell?_setCell_other W _ _ _ hne5).trans c0 | exact (World.cell?_setCell_other _ _ _ _ hne5).trans c0
            have e2 : (W.setCell ⟨gA, i * 2 + 1, none⟩ (.int .i64 (cr - xc))).drew.cell? ⟨gQ, k * 4 + 2, none⟩ = some (.int .i64 xc) := (World.cell?_of_block (a := ⟨gQ, k * 4 + 2, none⟩) (Below.heap_setCell W ⟨gA, i * 2 + 1, none⟩ _ gQ hgAQ)).trans d2
            have z1 : (W.setCell ⟨gA, i * 2 + 1, none⟩ (.int .i64 (cr - xc))).drew.heap.size = W.heap.size := by show (W.setCell _ _).heap.size = _; simp [World.setCell]
            have z2 : gA < (W.setCell ⟨gA, i * 2 + 1, none⟩ (.int .i64 (cr - xc))).drew.heap.size := by rw [z1]; exact hgr
            have z3 : gQ < (W.setCell ⟨gA, i * 2 + 1, none⟩ (.int .i64 (cr - xc))).drew.heap.size := by rw [z1]; exact hgQ
            clear z1 c0 c1 d2 fz hgr hgQ HLd
            generalize (W.setCell ⟨gA, i * 2 + 1, none⟩ (.int .i64 (cr - xc))).drew = W5 at *
            go_wp2
            go_roundw
            case rel => exact ⟨k + 1, cr - xc, ro - xc, rfl, by go_num, by omega, by omega, by omega, by omega, by omega, HLn⟩
            case measure => simp [intOf]; omega
          · have hd2 : decide (xc ≤ ro) = false := decide_eq_false hy2
            have hy3 : ro < xc := by omega
            have HZ : Hid _ := HT3.out (fun hh => hy2 hh.2)
            clear HT1 HT2 HT3 HO2
            go_wp2
            go_quiet (fail)
            have HLd : Hid (VisAt w (wr.drewN nq) gA i b q G room cr ro k) := HL.out.kept (below_drewN (Below.refl _ _) nq)
            generalize wr.drewN nq = W at *
            clear c0 c1 fz HO HL
            have HE : Hid (takeN (q.drop k) cr ro = 0) := HZ.out
            obtain ⟨arr2, r2, _⟩ := HLd.out.acc.side
            go_wp2_with fail
            refine (takeFront_any gA i b ⟨q, cr⟩ k W ⟨arr2, r2⟩ HLd.out.acc.acc HLd.out.acc.ne (by show q.length ≤ 8; rw [HN.out]; exact hq)).mono ?_
            rintro e W2 ⟨ad2, m2, c2, b2, rfl, hl2, hP2, ho2⟩
            have HP2 : Hid (_ ∧ _ ∧ _) := ⟨hl2, hP2, ho2⟩
            obtain ⟨arr3, r3, _⟩ := hP2.side
            obtain ⟨ad3, c3, e0, e1, _, _⟩ := hP2.acc
            have hg2 := (heap_cells r3).2.2
            have fz2 := (heap_cells r3).2.1
            clear hl2 hP2 ho2 r3 r2
            simp only at e0 e1
            by_cases hx : q.drop k = []
            · have hl0 : (q.drop k).length = 0 := by rw [hx]; rfl
              rw [hl0] at e0
              have HXX : Hid _ := hx
              clear hx hl0
              go_wp2
              go_ret
              exact HLd.out.fin HE.out HV.out HP2.out.1 HP2.out.2.1 HP2.out.2.2 hg (.inr ⟨HXX.out, rfl⟩)
            · have hl0 : ((((q.drop k).length : Nat) : Int) == 0) = false := by
                rw [beq_eq_false_iff_ne]
                intro e
                exact hx (List.eq_nil_of_length_eq_zero (by omega))
              have hl1 : (0 : Int) < (((q.drop k).length : Nat) : Int) := by
                rw [beq_eq_false_iff_ne] at hl0; omega
              have HXX : Hid _ := hx
              clear hx
              generalize (q.drop k).length = LL at *
              go_wp2
              go_ret
              exact HLd.out.fin HE.out HV.out HP2.out.1 HP2.out.2.1 HP2.out.2.2 hg (.inl ⟨HXX.out, rfl⟩)
        · have hd1 : decide (xc ≤ cr) = false := decide_eq_false hy
          have hy3 : cr < xc := by omega
          have HZ : Hid _ := HT3.out (fun hh => hy hh.1)
          clear HT1 HT2 HT3 HO2
          go_wp2
          go_quiet (fail)
          have HLd : Hid (VisAt w (wr.drewN nq) gA i b q G room cr ro k) := HL.out.kept (below_drewN (Below.refl _ _) nq)
          generalize wr.drewN nq = W at *
          clear c0 c1 fz HO HL
          have HE : Hid (takeN (q.drop k) cr ro = 0) := HZ.out
          obtain ⟨arr2, r2, _⟩ := HLd.out.acc.side
          go_wp2_with fail
          refine (takeFront_any gA i b ⟨q, cr⟩ k W ⟨arr2, r2⟩ HLd.out.acc.acc HLd.out.acc.ne (by show q.length ≤ 8; rw [HN.out]; exact hq)).mono ?_
          rintro e W2 ⟨ad2, m2, c2, b2, rfl, hl2, hP2, ho2⟩
          have HP2 : Hid (_ ∧ _ ∧ _) := ⟨hl2, hP2, ho2⟩
          obtain ⟨arr3, r3, _⟩ := hP2.side
          obtain ⟨ad3, c3, e0, e1, _, _⟩ := hP2.acc
          have hg2 := (heap_cells r3).2.2
          have fz2 := (heap_cells r3).2.1
          clear hl2 hP2 ho2 r3 r2
          simp only at e0 e1
          by_cases hx : q.drop k = []
          · have hl0 : (q.drop k).length = 0 := by rw [hx]; rfl
            rw [hl0] at e0
            have HXX : Hid _ := hx
            clear hx hl0
            go_wp2
            go_ret
            exact HLd.out.fin HE.out HV.out HP2.out.1 HP2.out.2.1 HP2.out.2.2 hg (.inr ⟨HXX.out, rfl⟩)
          · have hl0 : ((((q.drop k).length : Nat) : Int) == 0) = false := by
              rw [beq_eq_false_iff_ne]
              intro e
              exact hx (List.eq_nil_of_length_eq_zero (by omega))
            have hl1 : (0 : Int) < (((q.drop k).length : Nat) : Int) := by
              rw [beq_eq_false_iff_ne] at hl0; omega
            have HXX : Hid _ := hx
            clear hx
            generalize (q.drop k).length = LL at *
            go_wp2
            go_ret
            exact HLd.out.fin HE.out HV.out HP2.out.1 HP2.out.2.1 HP2.out.2.2 hg (.inl ⟨HXX.out, rfl⟩)
      · have hkn : k = N := by omega
        have kd : decide ((k : Int) < (N : Int)) = false := decide_eq_false (by omega)
        have HZ : Hid (takeN (q.drop k) cr ro = 0) := by
          show _ = _
          rw [List.drop_of_length_le (by rw [HN.out]; omega)]; rfl
        clear hkn
        go_wp2
        go_quiet (fail)
        have HLd : Hid (VisAt w (wr.drewN nq) gA i b q G room cr ro k) := HL.out.kept (below_drewN (Below.refl _ _) nq)
        generalize wr.drewN nq = W at *
        clear c0 c1 fz HO HL
        have HE : Hid (takeN (q.drop k) cr ro = 0) := HZ.out
        obtain ⟨arr2, r2, _⟩ := HLd.out.acc.side
        go_wp2_with fail
        refine (takeFront_any gA i b ⟨q, cr⟩ k W ⟨arr2, r2⟩ HLd.out.acc.acc HLd.out.acc.ne (by show q.length ≤ 8; rw [HN.out]; exact hq)).mono ?_
        rintro e W2 ⟨ad2, m2, c2, b2, rfl, hl2, hP2, ho2⟩
        have HP2 : Hid (_ ∧ _ ∧ _) := ⟨hl2, hP2, ho2⟩
        obtain ⟨arr3, r3, _⟩ := hP2.side
        obtain ⟨ad3, c3, e0, e1, _, _⟩ := hP2.acc
        have hg2 := (heap_cells r3).2.2
        have fz2 := (heap_cells r3).2.1
        clear hl2 hP2 ho2 r3 r2
        simp only at e0 e1
        by_cases hx : q.drop k = []
        · have hl0 : (q.drop k).length = 0 := by rw [hx]; rfl
          rw [hl0] at e0
          have HXX : Hid _ := hx
          clear hx hl0
          go_wp2
          go_ret
          exact HLd.out.fin HE.out HV.out HP2.out.1 HP2.out.2.1 HP2.out.2.2 hg (.inr ⟨HXX.out, rfl⟩)
        · have hl0 : ((((q.drop k).length : Nat) : Int) == 0) = false := by
            rw [beq_eq_false_iff_ne]
            intro e
            exact hx (List.eq_nil_of_length_eq_zero (by omega))
          have hl1 : (0 : Int) < (((q.drop k).length : Nat) : Int) := by
            rw [beq_eq_false_iff_ne] at hl0; omega
          have HXX : Hid _ := hx
          clear hx
          generalize (q.drop k).length = LL at *
          go_wp2
          go_ret
          exact HLd.out.fin HE.out HV.out HP2.out.1 HP2.out.2.1 HP2.out.2.2 hg (.inl ⟨HXX.out, rfl⟩)

end Go.Proofs.YtccckonckddadabGreat
namespace Go.Proofs.YtccckonckddadabGreat
open Go.RowKit
set_option linter.unusedVariables false

/-! ### The numbers stay fit -/
def AccFit (a : AccV) : Prop := a.q.length ≤ 8 ∧ 0 ≤ a.cr ∧ a.cr ≤ 100000 ∧ ∀ x ∈ a.q, Dk.parseOk x.t.data.toList = true ∧ x.c = costV x.t ∧ 0 ≤ x.i ∧ x.i ≤ 999999
theorem fit_put {p : SeqV} (h : SeqFit p) {i : Nat} {a : AccV} (ha : AccFit a) : SeqFit (putA p i a) := by
  have hl : (putA p i a).accs.length = p.accs.length := List.length_set
  refine ⟨by rw [hl]; exact h.n0, by rw [hl]; exact h.n8, h.qu, h.qt, h.ro, by rw [hl]; exact h.first, h.many, h.cells, h.long, h.outs, fun x hx => ?_⟩
  rcases List.mem_or_eq_of_mem_set hx with hx | rfl
  · exact h.acc x hx
  · exact ha
theorem fit_late {a : AccV} (h : AccFit a) (n : Int) : AccFit (lateA a n) :=
  ⟨Nat.le_trans (List.length_filter_le _ _) h.1, h.2.1, h.2.2.1, fun x hx => h.2.2.2 x (List.mem_filter.1 hx).1⟩
theorem SeqFit.at {p : SeqV} (h : SeqFit p) {i : Nat} (hi : i < p.accs.length) : AccFit (accV p i) ∧ p.accs[i]? = some (accV p i) := by
  have e : accV p i = p.accs[i] := by unfold accV; rw [List.getD_eq_getElem?_getD, List.getElem?_eq_getElem hi]; rfl
  rw [e]
  exact ⟨h.acc _ (List.getElem_mem hi), List.getElem?_eq_getElem hi⟩
theorem take_costs : ∀ (q : List WaitV) (cr room : Int), (∀ x ∈ q, 0 ≤ x.c) → 0 ≤ cr → 0 ≤ room → 0 ≤ costs (q.take (takeN q cr room)) ∧ costs (q.take (takeN q cr room)) ≤ cr ∧ costs (q.take (takeN q cr room)) ≤ room
  | [], cr, room, _, h1, h2 => ⟨Int.le_refl _, h1, h2⟩
  | x :: q, cr, room, h, h1, h2 => by
    rw [takeN]
    have hx := h x (by simp)
    split
    · rename_i hc
      obtain ⟨i1, i2, i3⟩ := take_costs q (cr - x.c) (room - x.c) (fun y hy => h y (by simp [hy])) (by omega) (by omega)
      rw [List.take_succ_cons, costs_cons]
      omega
    · exact ⟨Int.le_refl _, h1, h2⟩
theorem acc_costs {a : AccV} (h : AccFit a) : ∀ x ∈ a.q, 0 ≤ x.c ∧ x.c ≤ 8 := fun x hx => by
  obtain ⟨h1, h2, _⟩ := h.2.2.2 x hx
  have := cost_le h1
  omega
theorem fit_visit {a : AccV} (h : AccFit a) {qt room : Int} (hq : 0 ≤ qt ∧ qt ≤ 8) (hr : 0 ≤ room) (hc : a.cr + 8 ≤ 100000) : AccFit (visitA a qt room) ∧ (visitA a qt room).cr ≤ a.cr + 8 ∧ 0 ≤ costs (visitL a qt room) ∧ costs (visitL a qt room) ≤ room := by
  have h0 := h.2.1
  have hg : 0 ≤ given a qt ∧ given a qt ≤ a.cr + 8 := by unfold given; split <;> omega
  obtain ⟨c1, c2, c3⟩ := take_costs a.q (given a qt) room (fun x hx => (acc_costs h x hx).1) hg.1 hr
  have e : 0 ≤ (visitA a qt room).cr ∧ (visitA a qt room).cr ≤ a.cr + 8 := by
    unfold visitA
    simp only
    split <;> omega
  refine ⟨⟨?_, e.1, by omega, fun x hx => h.2.2.2 x (List.mem_of_mem_drop hx)⟩, e.2, c1, c3⟩
  show (a.q.drop _).length ≤ 8
  rw [List.length_drop]
  have := h.1
  omega

/-! ### Records join a row -/
structure InAt (w wr : World) (g : Nat) (F F2 : Nat → Prop) (p : SeqV) (l : List RecV) (a : Option Addr) (m c : Nat) (L : List WaitV) (aL : Option Addr) (mL cL : Nat) : Prop where
  seq : SeqAt wr g F2 p
  kept : Kept F w wr
  new : ∀ k, F2 k → F k ∨ w.heap.size ≤ k
  len : l.length = m
  small : ∀ r ∈ l, r.t.size ≤ maxLen
  own : wr.ownsRow w.heap.size 55 4 (.slice a m c) m (recsCells l)
  free : ∀ x, (Value.slice a m c).ownBlock = some x → ¬ F2 x
  llen : L.length = mL
  late : wr.ownsRow w.heap.size 178 4 (.slice aL mL cL) mL (waitsCells L)
  apart : ∀ x, (Value.slice a m c).ownBlock = some x → (Value.slice aL mL cL).ownBlock ≠ some x

theorem InAt.kept' {w wr W : World} {g : Nat} {F F2 : Nat → Prop} {p : SeqV} {l : List RecV} {a : Option Addr} {m c : Nat} {L : List WaitV} {aL : Option Addr} {mL cL : Nat} (h : InAt w wr g F F2 p l a m c L aL mL cL) (hb : Below wr.heap.size wr W) : InAt w W g F F2 p l a m c L aL mL cL :=
  ⟨h.seq.below hb, h.kept.then hb, h.new, h.len, h.small, own_below h.own hb, h.free, h.llen, own_below h.late hb, h.apart⟩
theorem InAt.app {w wr X w7 : World} {g : Nat} {F F2 : Nat → Prop} {p : SeqV} {l : List RecV} {a : Option Addr} {m c : Nat} {L : List WaitV} {aL : Option Addr} {mL cL : Nat} (h : InAt w wr g F F2 p l a m c L aL mL cL) (r : RecV) (hr : r.t.size ≤ maxLen) {gN cap : Nat} (hX : Below wr.heap.size wr X)
    (hown : w7.ownsRow w.heap.size 55 4 (.slice (some ⟨gN, 0, none⟩) (m + 1) cap) (m + 1) (recsCells l ++ [.int .i64 r.c, .int .i64 r.i, .bool r.l, .string r.t])) (hgr : X.grownBy w7 (Value.slice a m c).ownBlock) (hat : (Value.slice a m c).ownBlock = some gN ∨ gN = X.heap.size) :
    InAt w w7 g F F2 p (l ++ [r]) (some ⟨gN, 0, none⟩) (m + 1) cap L aL mL cL := by
  have hz := hX.size
  have hsame : ∀ y, y < wr.heap.size → (Value.slice a m c).ownBlock ≠ some y → w7.heap[y]? = wr.heap[y]? := fun y hy hne => (hgr.block y (by omega) (fun hh => hne hh.symm)).trans (hX.block y hy)
  have hlt : ∀ y, F2 y → y < wr.heap.size := h.seq.own
  refine ⟨h.seq.same (by have := hgr.size; omega) (fun y hy => hsame y (hlt y hy) (fun hh => h.free y hh hy)), (h.kept.then hX).grown hgr (fun k hk => .inr (h.own.lt k hk).1), h.new, by rw [List.length_append, h.len]; rfl, ?_, ?_, ?_, h.llen, own_same h.late (fun y hy => hsame y (h.late.lt y hy).2 (fun hh => h.apart y hh hy)), ?_⟩
  · intro x hx
    rcases List.mem_append.1 hx with hx | hx
    · exact h.small x hx
    · have : x = r := by simpa using hx
      subst this
      exact hr
  · rw [recsCells_snoc]; exact hown
  · intro x hx hf
    have e : gN = x := by simpa [Value.ownBlock] using hx
    subst e
    rcases hat with h1 | h1
    · exact h.free _ h1 hf
    · have := hlt gN hf; omega
  · intro x hx hy
    have e : gN = x := by simpa [Value.ownBlock] using hx
    subst e
    rcases hat with h1 | h1
    · exact h.apart _ h1 hy
    · have := (h.late.lt gN hy).2; omega

/-- Where the two outer loops stand. -/
structure OutAt (w wr : World) (g : Nat) (F F2 : Nat → Prop) (p : SeqV) (l : List RecV) (a : Option Addr) (m c : Nat) : Prop where
  seq : SeqAt wr g F2 p
  kept : Kept F w wr
  new : ∀ k, F2 k → F k ∨ w.heap.size ≤ k
  len : l.length = m
  small : ∀ r ∈ l, r.t.size ≤ maxLen
  own : wr.ownsRow w.heap.size 55 4 (.slice a m c) m (recsCells l)
  free : ∀ x, (Value.slice a m c).ownBlock = some x → ¬ F2 x
theorem InAt.out {w wr : World} {g : Nat} {F F2 : Nat → Prop} {p : SeqV} {l : List RecV} {a : Option Addr} {m c : Nat} {L : List WaitV} {aL : Option Addr} {mL cL : Nat} (h : InAt w wr g F F2 p l a m c L aL mL cL) : OutAt w wr g F F2 p l a m c := ⟨h.seq, h.kept, h.new, h.len, h.small, h.own, h.free⟩
theorem OutAt.start {w : World} {g : Nat} {F : Nat → Prop} {p : SeqV} (h : SeqAt w g F p) : OutAt w w g F F p [] none 0 0 := ⟨h, Kept.refl _ _, fun _ hk => .inl hk, rfl, by simp, World.ownsRow_nil _ _ _ _, fun x hx => by cases hx⟩
theorem OutAt.keep {w wr W : World} {g : Nat} {F F2 : Nat → Prop} {p : SeqV} {l : List RecV} {a : Option Addr} {m c : Nat} (h : OutAt w wr g F F2 p l a m c) (hb : Below wr.heap.size wr W) : OutAt w W g F F2 p l a m c :=
  ⟨h.seq.below hb, h.kept.then hb, h.new, h.len, h.small, own_below h.own hb, h.free⟩
/-- One account was asked: its row stands beside the records. -/
theorem OutAt.asked {w wr W : World} {g : Nat} {F F2 : Nat → Prop} {p : SeqV} {l : List RecV} {a : Option Addr} {m c : Nat} (h : OutAt w wr g F F2 p l a m c) {i : Nat} (hi : i < p.accs.length) {a' : AccV} (hfit : AccFit a') {gA : Nat} {qb : Nat → Option Nat} {aS : Option Addr} {cS : Nat} {lb : TailV} (mm : SeqMem wr g F2 p gA qb aS cS lb)
    {b' : Option Nat} (hP : AccPost wr W gA i (qb i) b' a') {L : List WaitV} {aL : Option Addr} {mL cL : Nat} (hl : L.length = mL) (ho : W.ownsRow wr.heap.size 178 4 (.slice aL mL cL) mL (waitsCells L)) :
    ∃ F3, InAt w W g F F3 (putA p i a') l a m c L aL mL cL := by
  obtain ⟨F3, h1, h2, h3⟩ := seq_put h.seq.gF h.seq.own mm hi (fit_put h.seq.fit hfit) hP
  have hsame : ∀ y, (Value.slice a m c).ownBlock = some y → W.heap[y]? = wr.heap[y]? := fun y hy => h2.block y (h.own.lt y hy).2 (h.free y hy)
  refine ⟨F3, h1, ?_, ?_, h.len, h.small, own_same h.own hsame, ?_, hl, own_base ho h.kept.size, ?_⟩
  · exact h.kept.trans h2 (fun x hx hf => by rcases h.new x hf with h4 | h4; exact h4; omega)
  · intro k hk
    rcases h3 k hk with h4 | h4
    · exact h.new k h4
    · exact .inr (Nat.le_trans h.kept.size h4)
  · intro x hx hf
    rcases h3 x hf with h4 | h4
    · exact h.free x hx h4
    · have := (h.own.lt x hx).2; omega
  · intro x hx hy
    have := (h.own.lt x hx).2
    have := (ho.lt x hy).1
    omega

def SRecPost (g : Nat) (F : Nat → Prop) (x : SeqV × List RecV) (w : World) (e : Ending) (w' : World) : Prop :=
  ∃ (a : Option Addr) (m c : Nat) (F2 : Nat → Prop), e = .returned (.slice a m c) ∧ OutAt w w' g F F2 x.1 x.2 a m c

/-! ### behind -/
theorem seq_cells {w : World} {g : Nat} {F : Nat → Prop} {p : SeqV} {gA : Nat} {qb : Nat → Option Nat} {aS : Option Addr} {cS : Nat} {lb : TailV} (m : SeqMem w g F p gA qb aS cS lb) :
    w.cell? ⟨g, 0, none⟩ = some (.int .i64 p.queue) ∧ w.cell? ⟨g, 1, none⟩ = some (.int .i64 p.quantum) ∧ w.cell? ⟨g, 2, none⟩ = some (.int .i64 p.room) ∧ w.cell? ⟨g, 3, none⟩ = some (.slice (some ⟨gA, 0, none⟩) p.accs.length p.accs.length) ∧ w.cell? ⟨g, 4, none⟩ = some (.int .i64 p.first) ∧ w.cell? ⟨g, 5, none⟩ = some (.slice lb.aE p.epochs lb.cE) ∧ w.cell? ⟨g, 5, none⟩ = some (.slice lb.aE p.eps.length lb.cE) ∧ (∀ x, w.frozen? ⟨g, x, none⟩ = false) := by
  have h := heap_cells m.blk
  exact ⟨by rw [h.1]; rfl, by rw [h.1]; rfl, by rw [h.1]; rfl, by rw [h.1]; rfl, by rw [h.1]; rfl, by rw [h.1, ← m.log.eplen]; rfl, by rw [h.1]; rfl, h.2.1⟩

theorem behind_any (g : Nat) (F : Nat → Prop) (p : SeqV) (i : Nat) (w : World) (h : SeqAt w g F p) (hi : i < p.accs.length) :
    Calls Tryz.prog 117 #[.pointer (some ⟨g, 0, none⟩), .int .i64 (i : Int)] w fun e w' => e = .returned (.int .i64 ((behindV p.accs.length i : Nat) : Int)) ∧ w' = w := by
  have hg := h.block
  have h8 := h.fit.n8
  obtain ⟨gA, qb, aS, cS, lb, m⟩ := h.mem
  obtain ⟨_, _, _, c3, _⟩ := seq_cells m
  clear m h
  have HV : Hid (behindV p.accs.length i = if i + 1 < p.accs.length then i + 1 else 0) := rfl
  generalize p.accs.length = n at *
  have hw : IntKind.i64.wrap ((i : Int) + 1) = (i : Int) + 1 := wrap_i64_id (by omega) (by omega)
  go_enter Tryz.func117, Tryz.ntmps117
  by_cases hlt : i + 1 < n
  · have hI : (i : Int) + 1 < (n : Int) := by omega
    have HX : Hid (behindV n i = i + 1) := by show _ = _; rw [HV.out, if_pos hlt]
    go_wp2
    go_ret
    exact ⟨by rw [HX.out]; rfl, rfl⟩
  · have hI : (n : Int) ≤ (i : Int) + 1 := by omega
    have HX : Hid (behindV n i = 0) := by show _ = _; rw [HV.out, if_neg hlt]
    go_wp2
    go_ret
    exact ⟨by rw [HX.out]; rfl, rfl⟩

end Go.Proofs.YtccckonckddadabGreat
namespace Go.Proofs.YtccckonckddadabGreat
open Go.RowKit
set_option linter.unusedVariables false

theorem lateL_len {a : AccV} (h : AccFit a) (n : Int) : (lateL a n).length ≤ 8 := Nat.le_trans (List.length_filter_le _ _) h.1

set_option maxRecDepth 100000 in
set_option maxHeartbeats 8000000 in
theorem slate_any (g : Nat) (F : Nat → Prop) (p : SeqV) (w : World) (h : SeqAt w g F p) :
    Calls Tryz.prog 94 #[.pointer (some ⟨g, 0, none⟩)] w (SRecPost g F (pLateFrom p.accs.length 0 p []) w) := by
  obtain ⟨ti, hi, hz0, hz1, hz2⟩ := info_parts info_rec
  have HI : Hid (_ ∧ _ ∧ _ ∧ _) := ⟨hi, hz0, hz1, hz2⟩
  clear hi hz0 hz1 hz2
  have HS : Hid _ := OutAt.start h
  have h8 := h.fit.n8
  have h200 := h.fit.many
  clear h
  obtain ⟨n, hn⟩ : ∃ n, p.accs.length = n := ⟨_, rfl⟩
  obtain ⟨ne, hne⟩ : ∃ n, p.epochs = n := ⟨_, rfl⟩
  rw [hne] at h200
  rw [hn] at h8 ⊢
  go_enter Tryz.func94, Tryz.ntmps94
  go_wp2
  go_loopw [3, 4] (fun v3 v4 wr => ∃ (k m c : Nat) (a : Option Addr) (p' : SeqV) (l : List RecV) (F2 : Nat → Prop), v3 = .slice a m c ∧ v4 = .int .i64 k ∧ k ≤ n ∧ m ≤ 8 * k ∧ Hid (OutAt w wr g F F2 p' l a m c ∧ p'.accs.length = n ∧ p'.epochs = ne ∧ pLateFrom n 0 p [] = pLateFrom (n - k) k p' l)) (fun _ v4 _ => n - (intOf v4).toNat)
  case atStart => exact ⟨0, 0, 0, none, p, [], F, rfl, rfl, Nat.zero_le _, Nat.le_refl _, ⟨HS.out, hn, hne, rfl⟩⟩
  case round =>
    obtain ⟨k, m, c, a, p', l, F2, rfl, rfl, hk, hm, HL⟩ := hrel
    clear HS
    have hg := HL.out.1.seq.block
    obtain ⟨gA, qb, aS, cS, lb, mm⟩ := HL.out.1.seq.mem
    obtain ⟨_, _, _, c3, _, c5, _, _⟩ := seq_cells mm
    rw [HL.out.2.1] at c3
    rw [HL.out.2.2.1] at c5
    by_cases hlt : k < n
    · have hkl : k < p'.accs.length := by rw [HL.out.2.1]; exact hlt
      obtain ⟨hfa, hga⟩ := HL.out.1.seq.fit.at hkl
      have HFa : Hid _ := hfa
      have hq8 := hfa.1
      have hAcc := mm.acc k _ hga
      have hrow := mm.row
      have hbA : qb k ≠ some gA := fun e => (mm.qF k gA e).2.2.1 rfl
      have hgA : gA < wr.heap.size := by obtain ⟨arr, hr⟩ := hrow; exact (heap_cells hr).2.2
      have HBd : Hid (Below wr.heap.size wr wr.drew) := (Below.refl _ _).drew
      have HP0 : Hid (AccPost wr wr.drew gA k (qb k) (qb k) (accV p' k)) := AccPost.below hrow hAcc hbA HBd.out
      have HMM : Hid _ := mm
      have HLL : Hid ((lateL (accV p' k) ne).length ≤ 8) := lateL_len hfa ne
      have HQ : Hid (∀ (W9 : World) (b9 : Option Nat), AccPost wr.drew W9 gA k (qb k) b9 (lateA (accV p' k) ne) → W9.cell? ⟨g, 3, none⟩ = some (.slice (some ⟨gA, 0, none⟩) n n) ∧ W9.cell? ⟨g, 5, none⟩ = some (.slice lb.aE ne lb.cE)) := fun W9 b9 hP9 => by
        have hgs : W9.heap[g]? = wr.drew.heap[g]? := hP9.kept.block g hg (fun hh => by
          rcases hh with hh | hh
          · exact HMM.out.aF.2 hh.symm
          · exact (HMM.out.qF k g hh).2.1 rfl)
        exact ⟨(World.cell?_of_block (a := ⟨g, 3, none⟩) hgs).trans c3, (World.cell?_of_block (a := ⟨g, 5, none⟩) hgs).trans c5⟩
      clear mm hfa hga hAcc hrow
      have k1 : (k : Int) < (n : Int) := by omega
      have k0 : (0 : Int) ≤ (k : Int) := by omega
      go_wp2
      go_region_held3 (fun W => W.cell? ⟨g, 3, none⟩ = some (.slice (some ⟨gA, 0, none⟩) n n) ∧ W.cell? ⟨g, 5, none⟩ = some (.slice lb.aE ne lb.cE))
        (first | (exact ⟨c3, c5⟩) | (exact HQ.out _ _ ‹_›))
        (first | (go_at_call 115; refine (takeLate_any gA k (qb k) (accV p' k) (ne : Int) wr.drew (by obtain ⟨arr, r1, _⟩ := HP0.out.side; exact ⟨arr, r1⟩) HP0.out.acc hbA hq8).mono ?_; rintro e w9 ⟨aL, mL, cL, b9, rfl, hl9, hP9, ho9⟩))
      obtain ⟨F3, hIn⟩ := HL.out.1.asked hkl (fit_late HFa.out ne) HMM.out (HP0.out.trans hP9) hl9 ho9
      have HIn : Hid (InAt w w9 g F F3 (putA p' k (lateA (accV p' k) ne)) l a m c (lateL (accV p' k) ne) aL mL cL) := hIn
      have HLL' : Hid (mL ≤ 8) := by rw [← hl9]; exact HLL.out
      have hmL := HLL'.out
      have HSt : Hid (pLateFrom (n - k) k p' l = pLateFrom (n - (k + 1)) (k + 1) (putA p' k (lateA (accV p' k) ne)) (l ++ (lateL (accV p' k) ne).map (lateRec k))) := by
        show _ = _
        rw [show n - k = (n - (k + 1)) + 1 from by omega, pLate_step, HL.out.2.2.1]
      clear hIn hP9 ho9 hl9 HMM HQ HP0 HBd c3 c5 hbA HLL
      have HX : Hid (p'.accs.length = n ∧ p'.epochs = ne ∧ pLateFrom n 0 p [] = pLateFrom (n - k) k p' l) := HL.out.2
      clear HL
      generalize lateL (accV p' k) ne = L at *
      generalize hp2 : putA p' k (lateA (accV p' k) ne) = p2 at *
      have HP2 : Hid (p2.accs.length = n ∧ p2.epochs = ne) := by
        rw [← hp2]
        refine ⟨?_, HX.out.2.1⟩
        show (p'.accs.set k _).length = n
        rw [List.length_set]; exact HX.out.1
      clear hp2
      go_wp2
      go_loopw [3, 6] (fun v3 v6 wx => ∃ (j m' c' : Nat) (a' : Option Addr), v3 = .slice a' m' c' ∧ v6 = .int .i64 j ∧ j ≤ mL ∧ m' ≤ m + j ∧ Hid (InAt w wx g F F3 p2 (l ++ (L.take j).map (lateRec k)) a' m' c' L aL mL cL)) (fun _ v6 _ => mL - (intOf v6).toNat)
      case atStart => exact ⟨0, m, c, a, rfl, rfl, Nat.zero_le _, Nat.le_refl _, by show InAt _ _ _ _ _ _ _ _ _ _ _ _ _ _; rw [List.take_zero, List.map_nil, List.append_nil]; exact HIn.out⟩
      case round =>
        obtain ⟨j, m', c', a', rfl, rfl, hj, hm', HJ⟩ := hrel
        clear HIn
        by_cases hjl : j < mL
        · have hjL : j < L.length := by rw [HJ.out.llen]; exact hjl
          obtain ⟨gQ, rfl, hgQ, d0, _⟩ := wait_cell HJ.out.late (List.getElem?_eq_getElem hjL) hjl
          obtain ⟨R, hR⟩ : ∃ R, l ++ (L.take j).map (lateRec k) = R := ⟨_, rfl⟩
          have HT : Hid (l ++ (L.take (j + 1)).map (lateRec k) = R ++ [lateRec k L[j]]) := by
            show _ = _
            rw [List.take_succ_eq_append_getElem hjL, List.map_append, ← List.append_assoc, hR]; rfl
          rw [hR] at HJ
          clear hR
          have HR : Hid (lateRec k L[j] = ⟨(k : Int), L[j].i, true, ⟨#[]⟩⟩) := rfl
          generalize L[j].i = xi at *
          have j1 : (j : Int) < (mL : Int) := by omega
          have j0 : (0 : Int) ≤ (j : Int) := by omega
          have hzr : w.heap.size ≤ wr.heap.size := HJ.out.kept.size
          go_wp2_with (at_builtin; refine wpList_append_lies _ rfl (.tmp 34) (.tmp 42) 38 rfl w.heap.size 55 ti (.agg #[.int .i64 0, .int .i64 0, .bool false, .string ⟨#[]⟩]) 4 40 Tryz.underlying38 HI.out.1 HI.out.2.1 HI.out.2.2.1 HI.out.2.2.2 rfl (by decide) (.slice a' m' c') m' (recsCells R) rfl (HJ.out.own.alloc _) ⟨wr.heap.size, 0, none⟩ 1 1 [.int .i64 (k : Int), .int .i64 xi, .bool true, .string ⟨#[]⟩] rfl rfl ?c1 ?c2 ?c3 ?c4 ?c5 ?c6 _ rfl ?_)
          try (case c1 => exact cells_new _ _ rfl [.int .i64 (k : Int), .int .i64 xi, .bool true, .string ⟨#[]⟩] _)
          case c2 => first | (intro u hu; simp only [List.mem_cons, List.not_mem_nil, or_false] at hu; rcases hu with rfl | rfl | rfl | rfl <;> rfl) | exact ⟨rfl, rfl, rfl, rfl⟩
          try (case c3 => decide)
          try (case c4 => unfold maxLen; omega)
          try (case c5 => omega)
          try (case c6 => first | omega | (simp; omega))
          intro gN cap w7 hown7 hgr7 hat7 hlt7
          have HN : Hid (InAt w w7 g F F3 p2 (l ++ (L.take (j + 1)).map (lateRec k)) (some ⟨gN, 0, none⟩) (m' + 1) cap L (some ⟨gQ, 0, none⟩) mL cL) := by
            show InAt _ _ _ _ _ _ _ _ _ _ _ _ _ _
            rw [HT.out, HR.out]
            exact HJ.out.app _ (Nat.zero_le _) ((Below.refl _ _).alloc (Nat.le_refl _) _) hown7 hgr7 (by rw [show (wr.alloc (.cells #[.int .i64 (k : Int), .int .i64 xi, .bool true, .string ⟨#[]⟩] 55)).heap.size = wr.heap.size + 1 from by simp]; exact hat7)
          clear hown7 hgr7 hat7 hlt7
          go_wp2
          go_roundw
          case rel => exact ⟨j + 1, m' + 1, cap, _, rfl, by go_num, by omega, by omega, HN⟩
          case measure => simp [intOf]; omega
        · have hje : j = mL := by omega
          subst hje
          have HN : Hid (OutAt w wr g F F3 p2 (l ++ L.map (lateRec k)) a' m' c') := by
            have := HJ.out.out
            rw [List.take_of_length_le (by rw [HJ.out.llen]; omega)] at this
            exact this
          clear HJ
          go_wp2
          go_roundw
          case rel => exact ⟨k + 1, m', c', a', p2, _, F3, rfl, by go_num, by omega, by omega, ⟨HN.out, HP2.out.1, HP2.out.2, HX.out.2.2.trans HSt.out⟩⟩
          case measure => simp [intOf]; omega
    · have hkn : k = n := by omega
      subst hkn
      have HE : Hid (pLateFrom k 0 p [] = (p', l)) := by
        show _ = _
        rw [HL.out.2.2.2, Nat.sub_self]; rfl
      have HO : Hid _ := HL.out.1
      clear HL mm
      go_wp2
      go_ret
      refine ⟨a, m, c, F2, rfl, ?_⟩
      rw [HE.out]
      exact HO.out

end Go.Proofs.YtccckonckddadabGreat
