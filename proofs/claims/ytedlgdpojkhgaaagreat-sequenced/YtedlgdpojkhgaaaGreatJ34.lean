import Derived.Test.YtedlgdpojkhgaaaGreatJ33
import Derived.Test.YtedlgdpojkhgaaaGreatJ30
import Derived.Test.YtedlgdpojkhgaaaGreatJ32
namespace Go.Proofs.YtedlgdpojkhgaaaGreat
open Go.RowKit
set_option linter.unusedVariables false

theorem conf_seq (c : ConfV) : confOk c = (seqOk c && decide (1 ≤ c.reps ∧ c.reps ≤ 4)) := rfl

theorem seq_new {w : World} {g gA : Nat} {c : ConfV} {n : Nat} {arr : Array Value} (hc : confOk c = true) (hn : c.clients = (n : Int)) (hg : w.heap[g]? = some (.cells #[.int .i64 c.queue, .int .i64 c.quantum, .int .i64 c.room, .slice (some ⟨gA, 0, none⟩) n n, .int .i64 0, .int .i64 0, .string ⟨#[]⟩, .int .i16 0, .int .i16 0, .int .i16 0, .int .i16 0, .int .i16 0, .int .i16 0, .int .i16 0, .int .i16 0, .slice none 0 0] 102))
    (hA : w.heap[gA]? = some (.cells arr 150)) (harr : ∀ i, i < n → arr[i * 2]? = some (.slice none 0 0) ∧ arr[i * 2 + 1]? = some (.int .i64 0)) (hne : gA ≠ g) : SeqAt w g (fun k => k = g ∨ k = gA) (pNewV c) := by
  have hcf := hc
  unfold confOk at hcf
  simp only [Bool.and_eq_true, decide_eq_true_eq] at hcf
  have hnn : c.clients.toNat = n := by omega
  have hlen : (pNewV c).accs.length = n := by show (List.replicate _ _).length = n; rw [List.length_replicate]; exact hnn
  have hacc : ∀ (i : Nat) (a : AccV), (pNewV c).accs[i]? = some a → a = ⟨[], 0⟩ ∧ i < n := fun i a h => by
    have hi := (List.getElem?_eq_some_iff.1 h).1
    rw [hlen] at hi
    have h2 : (List.replicate c.clients.toNat (⟨[], 0⟩ : AccV))[i]? = some a := h
    rw [List.getElem?_replicate, if_pos (by omega)] at h2
    exact ⟨(Option.some.inj h2).symm, hi⟩
  refine ⟨⟨by rw [hlen]; omega, by rw [hlen]; omega, by show 1 ≤ c.queue ∧ c.queue ≤ 8; omega, by show 1 ≤ c.quantum ∧ c.quantum ≤ 8; omega, by show 8 ≤ c.room ∧ c.room ≤ 64; omega, by rw [hlen]; show 0 < n; omega, Nat.zero_le _, rfl, Nat.zero_le _, Nat.zero_le _, fun a ha => ?_⟩, .inl rfl, ?_, gA, fun _ => none, none, 0, ⟨#[]⟩, ?_, rfl, ⟨arr, hA⟩, ?_, ⟨.inr rfl, hne⟩, ?_, ?_, World.ownsRow_nil _ _ _ _, ?_⟩
  · obtain ⟨i, hi⟩ := List.getElem?_of_mem ha
    obtain ⟨rfl, _⟩ := hacc i a hi
    exact ⟨Nat.zero_le _, Int.le_refl _, by show (0 : Int) ≤ 100000; omega, fun x hx => by cases hx⟩
  · intro k hk
    rcases hk with rfl | rfl
    · exact (heap_cells hg).2.2
    · exact (heap_cells hA).2.2
  · rw [hg, hlen]
    rfl
  · intro i a ha
    obtain ⟨rfl, hin⟩ := hacc i a ha
    refine ⟨none, 0, ?_, ?_, World.ownsRow_nil _ _ _ _, rfl⟩
    · rw [(heap_cells hA).1]; exact (harr i hin).1
    · rw [(heap_cells hA).1]; exact (harr i hin).2
  · intro i k hk; cases hk
  · intro i j k hk; cases hk
  · intro k hk; cases hk

def PNewPost (c : ConfV) (w : World) (e : Ending) (w' : World) : Prop :=
  (confOk c = true ∧ ∃ (g : Nat) (F : Nat → Prop), e = .returned (.tuple #[.pointer (some ⟨g, 0, none⟩), .int .i64 0]) ∧ SeqAt w' g F (pNewV c) ∧ (∀ k, F k → w.heap.size ≤ k) ∧ Below w.heap.size w w') ∨
  (confOk c = false ∧ e = .returned (.tuple #[.pointer none, .int .i64 3]) ∧ Below w.heap.size w w')

set_option maxRecDepth 100000 in
set_option maxHeartbeats 4000000 in
theorem pnew_any (c : ConfV) (w : World) : Calls Tryz.prog 27 #[.agg #[.int .i64 c.clients, .int .i64 c.queue, .int .i64 c.quantum, .int .i64 c.room, .int .i64 c.reps]] w (PNewPost c w) := by
  obtain ⟨x1, x2, x3, x4, x5⟩ := c
  have HBa : Hid (∀ o, Below w.heap.size w (w.alloc o)) := fun o => (Below.refl _ _).alloc (Nat.le_refl _) _
  by_cases h5 : 1 ≤ x5 ∧ x5 ≤ 4
  rotate_left
  · have HC : Hid (confOk ⟨x1, x2, x3, x4, x5⟩ = false) := by show _ = _; rw [conf_seq, decide_eq_false h5]; simp
    have hno : x5 < 1 ∨ (1 ≤ x5 ∧ 4 < x5) := by omega
    rcases hno with h0 | ⟨h0, h0'⟩
    all_goals
      clear h5
      go_enter Tryz.func27, Tryz.ntmps27
      go_wp2
      go_ret2
      exact .inr ⟨HC.out, rfl, HBa.out _⟩
  have HD : Hid (decide (1 ≤ x5 ∧ x5 ≤ 4) = true) := decide_eq_true h5
  obtain ⟨h5a, h5b⟩ := h5
  cases hs : seqOk ⟨x1, x2, x3, x4, x5⟩
  · have HC : Hid (confOk ⟨x1, x2, x3, x4, x5⟩ = false) := by show _ = _; rw [conf_seq, hs]; rfl
    have HS : Hid _ := hs
    clear hs
    go_enter Tryz.func27, Tryz.ntmps27
    go_wp2_with fail
    refine (snew_no x1 x2 x3 x4 x5 _ HS.out).mono ?_
    rintro e w1 ⟨rfl, hb1⟩
    have HB1 : Hid (Below w.heap.size w w1) := below_of_new hb1
    clear hb1
    go_wp2
    go_ret2
    exact .inr ⟨HC.out, rfl, HB1.out.alloc HB1.out.size _⟩
  · have HC : Hid (confOk ⟨x1, x2, x3, x4, x5⟩ = true) := by show _ = _; rw [conf_seq, hs, HD.out]; rfl
    have HS : Hid _ := hs
    have h1 : 1 ≤ x1 ∧ x1 ≤ 8 := by
      unfold seqOk at hs
      simp only [Bool.and_eq_true, decide_eq_true_eq] at hs
      exact hs.1.1.1
    obtain ⟨n, hn⟩ : ∃ n : Nat, x1 = (n : Int) := ⟨x1.toNat, by omega⟩
    subst hn
    clear hs
    go_enter Tryz.func27, Tryz.ntmps27
    go_wp2_with fail
    refine (snew_yes n x2 x3 x4 x5 _ (by omega) HS.out).mono ?_
    rintro e w1 ⟨gA, arr, rfl, hA, harr, hgA, hb1⟩
    have HB1 : Hid (Below w.heap.size w w1) := below_of_new hb1
    have HA : Hid (_ ∧ _ ∧ w.heap.size ≤ gA) := ⟨hA, harr, by simp at hgA; omega⟩
    clear hb1 hA harr hgA
    go_wp2
    go_ret2
    have hzA := (heap_cells HA.out.1).2.2
    refine .inl ⟨HC.out, _, fun k => k = _ ∨ k = gA, rfl, seq_new (n := n) HC.out rfl (heap_at (by simp)) (arr := arr) ?_ HA.out.2.1 ?_, ?_, ?_⟩
    · rw [heap_old (by simp; omega), heap_old hzA]; exact HA.out.1
    · simp; omega
    · intro k hk
      have := HB1.out.size
      rcases hk with rfl | rfl
      · simp; omega
      · exact HA.out.2.2
    · exact (HB1.out.alloc HB1.out.size _).alloc (by have := HB1.out.size; simp; omega) _

/-! ### The calls -/
theorem psubmit_any (g : Nat) (F : Nat → Prop) (p : SeqV) (client id : Int) (t : ByteArray) (d : Int) (w : World) (h : SeqAt w g F p) (ht : t.size ≤ maxLen) :
    Calls Tryz.prog 36 #[.pointer (some ⟨g, 0, none⟩), .int .i64 client, .int .i64 id, .string t, .int .i64 d] w (SubPost g F (pSubmitV p client id t d) w) := by
  have hg := h.block
  have H : Hid _ := h
  clear h
  go_enter Tryz.func36, Tryz.ntmps36
  go_wp2_with fail
  refine (ssubmit_any g F p client id t d w H.out ht).mono ?_
  rintro e w1 ⟨rfl, hP⟩
  have HP : Hid _ := hP
  clear hP
  go_wp2
  go_ret
  exact ⟨rfl, HP.out⟩
theorem pfill_any (g : Nat) (F : Nat → Prop) (p : SeqV) (w : World) (h : SeqAt w g F p) (hcr : ∀ a ∈ p.accs, a.cr ≤ 2000) (hlog : p.log.length ≤ 1000000) (hall : p.epochs < 200 → (rsOf p).length ≤ 64 ∧ (recs (rsOf p)).all Dk.recOk = true) (ho : p.outs.length + 64 ≤ 1000000) :
    Calls Tryz.prog 38 #[.pointer (some ⟨g, 0, none⟩)] w (FillRPost g F (pFillV p) w) := by
  have hg := h.block
  have HH : Hid (_ ∧ _ ∧ _ ∧ _ ∧ _) := ⟨h, hcr, hlog, hall, ho⟩
  clear h hcr hlog hall ho
  go_enter Tryz.func38, Tryz.ntmps38
  go_wp2_with fail
  refine (sfill_any g F p w HH.out.1 HH.out.2.1 HH.out.2.2.1 HH.out.2.2.2.1 HH.out.2.2.2.2).mono ?_
  rintro e w1 ⟨rfl, hP⟩
  have HP : Hid _ := hP
  clear hP
  go_wp2
  go_ret2
  exact ⟨rfl, HP.out⟩
theorem plog_any (g : Nat) (F : Nat → Prop) (p : SeqV) (w : World) (h : SeqAt w g F p) :
    Calls Tryz.prog 14 #[.pointer (some ⟨g, 0, none⟩)] w fun e w' => ∃ b : ByteArray, e = .returned (.string b) ∧ b.data.toList = p.log ∧ w' = w := by
  have hg := h.block
  have H : Hid _ := h
  clear h
  go_enter Tryz.func14, Tryz.ntmps14
  go_wp2_with fail
  refine (slog_any g F p w H.out).mono ?_
  rintro e w1 ⟨b, rfl, hb, hw⟩
  obtain rfl := hw.symm
  have HB : Hid _ := hb
  clear hb
  go_wp2
  go_ret
  exact ⟨b, rfl, HB.out, rfl⟩
theorem preply_any (g : Nat) (F : Nat → Prop) (p : SeqV) (id : Int) (w : World) (h : SeqAt w g F p) :
    Calls Tryz.prog 16 #[.pointer (some ⟨g, 0, none⟩), .int .i64 id] w (ReplyPost (pReplyV p id) w) := by
  have hg := h.block
  have H : Hid _ := h
  clear h
  go_enter Tryz.func16, Tryz.ntmps16
  go_wp2_with fail
  refine (sreply_any g F p id _ (H.out.below ((Below.refl _ _).alloc (Nat.le_refl _) _))).mono ?_
  rintro e w1 ⟨rfl, hb⟩
  obtain ⟨g1, hb1⟩ := below_one hb
  obtain ⟨c1, f1, z1⟩ := heap_cells g1
  have HB : Hid _ := hb1
  clear hb hb1 g1
  obtain ⟨⟨r1, r2, r3⟩, hr⟩ : ∃ x, pReplyV p id = x := ⟨_, rfl⟩
  rewrite [hr]
  have HR : Hid _ := hr
  clear hr
  simp only
  go_wp2
  refine bodyPost_ret (v := .tuple #[.agg #[.int .u8 r1, .int .i64 r2], .int .i64 r3]) (by simp [results, Tryz.results16, go_sem, c1]) rfl ?_
  refine ⟨by rw [HR.out], ?_⟩
  iterate 2 refine Below.setCell ?_ (by exact Nat.le_refl _) _
  exact HB.out

end Go.Proofs.YtedlgdpojkhgaaaGreat
