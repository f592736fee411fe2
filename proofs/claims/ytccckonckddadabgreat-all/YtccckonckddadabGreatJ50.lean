import Derived.Test.YtccckonckddadabGreatJ49
import Derived.Test.YtccckonckddadabGreatJ48
import Derived.Test.YtccckonckddadabGreatJ43
namespace Go.Proofs.YtccckonckddadabGreat
open Go.RowKit
set_option linter.unusedVariables false

set_option maxRecDepth 100000 in
set_option maxHeartbeats 8000000 in
theorem step_fill (B N : Nat) (gW : Nat) (ps : List Pair) (lab : Nat → Nat) (oa ob oc ok : Int) (os : ByteArray) (x1 x2 x3 x4 x5 z0 z1 z2 z3 z4 z5 z6 z7 : Int) (ra : Option Addr) (rm rc : Nat) (w : World) (h : WldAt B N w gW ps lab) (hs : os.size ≤ maxLen) (hk0 : -9223372036854775808 ≤ ok) (hk1 : ok < 9223372036854775808) (hn : ps.length + 1 ≤ 10000000000000) (h0 : 0 < ps.length) :
    Calls Tryz.prog 5 #[.pointer (some ⟨gW, 0, none⟩), .agg #[.int .i64 3, .int .i64 oa, .int .i64 ob, .int .i64 oc, .int .i64 ok, .string os, .int .i64 x1, .int .i64 x2, .int .i64 x3, .int .i64 x4, .int .i64 x5, .int .i16 z0, .int .i16 z1, .int .i16 z2, .int .i16 z3, .int .i16 z4, .int .i16 z5, .int .i16 z6, .int .i16 z7, .slice ra rm rc]] w (NPost B N gW ps.length w) := by
  have HB : Hid _ := h.base
  have H : Hid _ := h
  clear h
  obtain ⟨W1, hW1⟩ : ∃ W1, W1 = w.alloc (.cells #[.int .i64 3, .int .i64 oa, .int .i64 ob, .int .i64 oc, .int .i64 ok, .string os, .int .i64 x1, .int .i64 x2, .int .i64 x3, .int .i64 x4, .int .i64 x5, .int .i16 z0, .int .i16 z1, .int .i16 z2, .int .i16 z3, .int .i16 z4, .int .i16 z5, .int .i16 z6, .int .i16 z7, .slice ra rm rc] 40) := ⟨_, rfl⟩
  have HBw : Hid (Below w.heap.size w W1) := by rw [hW1]; exact (Below.refl _ _).alloc (Nat.le_refl _) _
  have HBx : Hid (W1.heap[w.heap.size]? = some (.cells #[.int .i64 3, .int .i64 oa, .int .i64 ob, .int .i64 oc, .int .i64 ok, .string os, .int .i64 x1, .int .i64 x2, .int .i64 x3, .int .i64 x4, .int .i64 x5, .int .i16 z0, .int .i16 z1, .int .i16 z2, .int .i16 z3, .int .i16 z4, .int .i16 z5, .int .i16 z6, .int .i16 z7, .slice ra rm rc] 40)) := by rw [hW1]; exact heap_at rfl
  have HW1 : Hid (WldAt B N W1 gW ps lab) := H.out.below HBw.out
  obtain ⟨aC, cC, aR, cR, vH, m1, _⟩ := HW1.out.mem
  have hgW1 := (heap_cells m1).2.2
  have c0 : W1.cell? ⟨gW, 0, none⟩ = some (.slice aC ps.length cC) := by rw [(heap_cells m1).1]; rfl
  have hgW : gW < w.heap.size := by obtain ⟨_, _, _, _, _, q1, _⟩ := H.out.mem; exact (heap_cells q1).2.2
  have c0w : w.cell? ⟨gW, 0, none⟩ = some (.slice aC ps.length cC) := (HBw.out.cell (p := ⟨gW, 0, none⟩) hgW).symm.trans c0
  clear m1
  obtain ⟨n, hnn⟩ : ∃ n, ps.length = n := ⟨_, rfl⟩
  have HNn : Hid _ := hnn
  rw [hnn] at c0 c0w hn ⊢
  have hnb : ((n : Int) == 0) = false := by rw [beq_eq_false_iff_ne]; omega
  have hn0 : (0 : Int) < (n : Int) := by omega
  go_enter Tryz.func5, Tryz.ntmps5
  go_wp2
  rewrite [← hW1]
  clear c0w hW1
  obtain ⟨b0, bf, bz⟩ := heap_cells HBx.out
  have x4c : W1.cell? ⟨w.heap.size, 4, none⟩ = some (.int .i64 ok) := by rw [b0]; rfl
  clear b0 bf
  go_region_held3 (fun W => W.cell? ⟨gW, 0, none⟩ = some (.slice aC n cC) ∧ W.cell? ⟨w.heap.size, 4, none⟩ = some (.int .i64 ok))
    (first | (exact ⟨c0, x4c⟩))
    (first | (go_at_call 12; refine (lpick_any ok (n : Int) _ hk0 hk1 hn0 (by omega)).mono ?_; rintro e w1 ⟨r, rfl, hr0, hr1, rfl⟩))
  have HBd : Hid (Below w.heap.size w W1.drew) := HBw.out.drew
  have HWd : Hid (WldAt B N W1.drew gW ps lab) := HW1.out.below (Below.refl _ _).drew
  have HBy : Hid (W1.drew.heap[w.heap.size]? = some (.cells #[.int .i64 3, .int .i64 oa, .int .i64 ob, .int .i64 oc, .int .i64 ok, .string os, .int .i64 x1, .int .i64 x2, .int .i64 x3, .int .i64 x4, .int .i64 x5, .int .i16 z0, .int .i16 z1, .int .i16 z2, .int .i16 z3, .int .i16 z4, .int .i16 z5, .int .i16 z6, .int .i16 z7, .slice ra rm rc] 40)) := HBx.out
  generalize W1.drew = W2 at *
  clear HW1 HBx HBw c0 x4c bz
  obtain ⟨b0, bf, bz⟩ := heap_cells HBy.out
  have HRg : Hid (W2.rangeAt w.heap.size 0 [.int .i64 3, .int .i64 oa, .int .i64 ob, .int .i64 oc, .int .i64 ok, .string os, .int .i64 x1, .int .i64 x2, .int .i64 x3, .int .i64 x4, .int .i64 x5, .int .i16 z0, .int .i16 z1, .int .i16 z2, .int .i16 z3, .int .i16 z4, .int .i16 z5, .int .i16 z6, .int .i16 z7, .slice ra rm rc]) := fun j v hv => by rw [Nat.zero_add, b0, List.getElem?_toArray]; exact hv
  have y0 : W2.cell? ⟨w.heap.size, 0, none⟩ = some (.int .i64 3) := by rw [b0]; rfl
  clear b0 bf
  obtain ⟨k, hk⟩ : ∃ k : Nat, r = (k : Int) := ⟨r.toNat, by omega⟩
  subst hk
  have hkn : k < ps.length := by rw [HNn.out]; omega
  have HFin : Hid (∀ {e : Ending} {w' : World}, NPost B N gW ps.length W2 e w' → NPost B N gW n w e w') := fun hN => by
    obtain ⟨q1, ⟨ps', lab', q2, q3⟩, q4⟩ := hN
    exact ⟨q1, ⟨ps', lab', by rw [← HNn.out]; exact q2, q3⟩, (HBd.out.mono HB.out).trans q4⟩
  go_wp2_with (refine wpList_load_mid rfl 40 (.tmp 3) rfl w.heap.size 0 rfl [.int .i64 3, .int .i64 oa, .int .i64 ob, .int .i64 oc, .int .i64 ok, .string os, .int .i64 x1, .int .i64 x2, .int .i64 x3, .int .i64 x4, .int .i64 x5, .int .i16 z0, .int .i16 z1, .int .i16 z2, .int .i16 z3, .int .i16 z4, .int .i16 z5, .int .i16 z6, .int .i16 z7, .slice ra rm rc] _ HRg.out Tryz.underlying40 rfl info_opsize ?_)
  refine (does_fill' B N gW ps lab oa ob oc ok os x1 x2 x3 x4 x5 z0 z1 z2 z3 z4 z5 z6 z7 ra rm rc k W2 HWd.out hkn).mono ?_
  rintro e w3 hP
  have hN := HFin.out (WPost.more hP)
  obtain ⟨rfl, hN2⟩ := hN
  have HP : Hid _ := hN2
  clear hP hN2
  go_wp2
  go_ret
  exact ⟨rfl, HP.out⟩

end Go.Proofs.YtccckonckddadabGreat
namespace Go.Proofs.YtccckonckddadabGreat
open Go.RowKit
set_option linter.unusedVariables false

/-- The steps of a script that came in. -/
structure OpsRow (w : World) (a : Option Addr) (m : Nat) (ops : List OpV) : Prop where
  len : ops.length = m
  ok : ∀ o ∈ ops, o.s.size ≤ maxLen ∧ -9223372036854775808 ≤ o.k ∧ o.k < 9223372036854775808
  cells : m = 0 ∨ ∃ g off, a = some ⟨g, off, none⟩ ∧ g < w.heap.size ∧ ∀ (k : Nat) (o : OpV), ops[k]? = some o → w.rangeAt g (off + k * 20) o.arr.toList
theorem OpsRow.kept {w W : World} {B : Nat} {a : Option Addr} {m : Nat} {ops : List OpV} (h : OpsRow w a m ops) (hB : B = w.heap.size) (hb : Below B w W) : OpsRow W a m ops := by
  subst hB
  refine ⟨h.len, h.ok, ?_⟩
  rcases h.cells with h0 | ⟨g, off, rfl, hg, hc⟩
  · exact .inl h0
  · refine .inr ⟨g, off, rfl, Nat.lt_of_lt_of_le hg hb.size, fun k o hk j v hv => ?_⟩
    exact (hb.cell (p := ⟨g, off + k * 20 + j, none⟩) hg).trans (hc k o hk j v hv)

theorem wld_empty {w : World} {B N : Nat} (hB : B = w.heap.size) : WldAt B N (w.alloc (.cells #[.slice none 0 0, .slice none 0 0, .slice none 0 0] 32)) w.heap.size [] (fun _ => 0) := by
  refine ⟨by omega, rfl, ⟨none, 0, none, 0, .slice none 0 0, heap_at rfl, World.ownsRow_nil _ _ _ _, World.ownsRow_nil _ _ _ _, (fun k hk => by cases hk), (fun k hk => by cases hk), none, 0, [], rfl, Nat.zero_le _, World.ownsRow_nil _ _ _ _, (fun k hk => by cases hk), (fun x hx => by cases hx)⟩, (fun i x hx => by simp at hx)⟩

/-- One step, of whatever kind up to Reply. -/
theorem wstep_any (B N : Nat) (gW : Nat) (ps : List Pair) (lab : Nat → Nat) (o : OpV) (w : World) (h : WldAt B N w gW ps lab) (h5 : o.kind ≤ 5) (hs : o.s.size ≤ maxLen) (hk0 : -9223372036854775808 ≤ o.k) (hk1 : o.k < 9223372036854775808) (hn : ps.length + 1 ≤ 10000000000000) :
    Calls Tryz.prog 5 #[.pointer (some ⟨gW, 0, none⟩), .agg o.arr] w (NPost B N gW ps.length w) := by
  by_cases h1 : o.kind = 1
  · exact step_new B N gW ps lab o w h h1 hn
  obtain ⟨kind, oa, ob, oc, ok, os, ⟨x1, x2, x3, x4, x5⟩, z0, z1, z2, z3, z4, z5, z6, z7, ra, rm, rc⟩ := o
  simp only at h1 h5 hs hk0 hk1
  by_cases h0 : ps.length = 0
  · exact step_none B N gW ps lab kind oa ob oc ok os x1 x2 x3 x4 x5 z0 z1 z2 z3 z4 z5 z6 z7 ra rm rc w h hs hk0 hk1 hn h0 (by omega) h1
  have h0' : 0 < ps.length := by omega
  by_cases h2 : kind = 2
  · subst h2
    exact step_submit B N gW ps lab oa ob oc ok os x1 x2 x3 x4 x5 z0 z1 z2 z3 z4 z5 z6 z7 ra rm rc w h hs hk0 hk1 hn h0'
  by_cases h3 : kind = 3
  · subst h3
    exact step_fill B N gW ps lab oa ob oc ok os x1 x2 x3 x4 x5 z0 z1 z2 z3 z4 z5 z6 z7 ra rm rc w h hs hk0 hk1 hn h0'
  by_cases h4 : kind = 4
  · subst h4
    exact step_log B N gW ps lab oa ob oc ok os x1 x2 x3 x4 x5 z0 z1 z2 z3 z4 z5 z6 z7 ra rm rc w h hs hk0 hk1 hn h0'
  by_cases h6 : kind = 5
  · subst h6
    exact step_reply B N gW ps lab oa ob oc ok os x1 x2 x3 x4 x5 z0 z1 z2 z3 z4 z5 z6 z7 ra rm rc w h hs hk0 hk1 hn h0'
  · exact step_other B N gW ps lab kind oa ob oc ok os x1 x2 x3 x4 x5 z0 z1 z2 z3 z4 z5 z6 z7 ra rm rc w h hs hk0 hk1 hn h0' (by omega)

end Go.Proofs.YtccckonckddadabGreat
namespace Go.Proofs.YtccckonckddadabGreat
open Go.RowKit
set_option linter.unusedVariables false

set_option maxRecDepth 100000 in
set_option maxHeartbeats 4000000 in
theorem pdisk_any (g : Nat) (F : Nat → Prop) (p : SeqV) (s : CluV) (r : Int) (w : World) (h : SeqAt w g F p) (hB : Both p s) :
    Calls Tryz.prog 39 #[.pointer (some ⟨g, 0, none⟩), .int .i64 r] w fun e w' => e = .returned (.tuple #[.string (bytesOf (diskV s r).1), .int .i64 (diskV s r).2]) ∧ Below w.heap.size w w' := by
  have HV : Hid (diskV s r = if ¬ (0 ≤ r ∧ r ≤ s.conf.reps - 1) then ([], 11) else (logV s (s.reps.getD r.toNat (0, 0)).1.toNat, 0)) := rfl
  have hg := h.block
  have H : Hid _ := h
  have HB : Hid _ := hB
  have hrl := hB.rlen
  have hrc := conf_reps hB.fit.conf
  obtain ⟨gA, qb, aS, cS, lb, m⟩ := h.mem
  have c15 := seq_cell15 h.fit m
  have HM : Hid _ := m
  clear h hB m
  obtain ⟨nr, hnr⟩ : ∃ x, p.reps.length = x := ⟨_, rfl⟩
  have HNr : Hid (p.reps.length = nr) := hnr
  rw [hnr] at c15 hrl
  clear hnr
  go_enter Tryz.func39, Tryz.ntmps39
  go_wp2_with fail
  refine (phas_any g F p r w H.out).mono ?_
  rintro e w1 ⟨rfl, hw1⟩
  obtain rfl := hw1.symm
  rewrite [HNr.out]
  by_cases h0 : 0 ≤ r ∧ r < (nr : Int)
  rotate_left
  · have HX : Hid (diskV s r = ([], 11)) := by show _ = _; rw [HV.out, if_pos (by omega)]
    have hd : hasV nr r = false := decide_eq_false h0
    rewrite [hd]
    clear hd
    go_wp2
    go_ret2
    rw [HX.out]
    exact ⟨rfl, Below.refl _ _⟩
  have hd : hasV nr r = true := decide_eq_true h0
  rewrite [hd]
  clear hd
  obtain ⟨rn, rfl⟩ : ∃ k : Nat, r = k := ⟨r.toNat, by omega⟩
  obtain ⟨h0a, h0b⟩ := h0
  rw [if_neg (show ¬ ¬ (0 ≤ (rn : Int) ∧ (rn : Int) ≤ s.conf.reps - 1) by omega), Int.toNat_natCast] at HV
  have HAt : Hid _ := HB.out.rat (k := rn) (by omega)
  have HRf : Hid _ := rep_fit HB.out.rep rn
  generalize hxx : s.reps.getD rn (0, 0) = x at *
  have HOk : Hid _ := repOf_ok HB.out.fit HRf.out
  obtain ⟨hbx, hpl⟩ := seq_rep HM.out HAt.out
  have HBx : Hid _ := hbx
  have HPl : Hid _ := hpl
  clear hbx hpl
  have hsy := rdisk_any lb.gR (prepsCells (p.reps.take rn)) (prepsCells (p.reps.drop (rn + 1))) (repOf s x).disk (repOf s x).safe (repOf s x).count (repOf s x).cells w HBx.out HOk.out.1.1
  rw [HPl.out] at hsy
  go_wp2_with fail
  refine hsy.mono ?_
  rintro e w2 ⟨rfl, hw2⟩
  obtain rfl := hw2.symm
  clear hsy
  go_wp2
  go_ret2
  rw [HV.out]
  exact ⟨rfl, Below.refl _ _⟩

set_option maxRecDepth 100000 in
set_option maxHeartbeats 4000000 in
theorem pcount_any (g : Nat) (F : Nat → Prop) (p : SeqV) (s : CluV) (r : Int) (w : World) (h : SeqAt w g F p) (hB : Both p s) :
    Calls Tryz.prog 41 #[.pointer (some ⟨g, 0, none⟩), .int .i64 r] w fun e w' => e = .returned (.tuple #[.int .i64 (countV s r).1, .int .i64 (countV s r).2]) ∧ Below w.heap.size w w' := by
  have HV : Hid (countV s r = if ¬ (0 ≤ r ∧ r ≤ s.conf.reps - 1) then (0, 11) else ((s.reps.getD r.toNat (0, 0)).1, 0)) := rfl
  have hg := h.block
  have H : Hid _ := h
  have HB : Hid _ := hB
  have hrl := hB.rlen
  have hrc := conf_reps hB.fit.conf
  obtain ⟨gA, qb, aS, cS, lb, m⟩ := h.mem
  have c15 := seq_cell15 h.fit m
  have HM : Hid _ := m
  clear h hB m
  obtain ⟨nr, hnr⟩ : ∃ x, p.reps.length = x := ⟨_, rfl⟩
  have HNr : Hid (p.reps.length = nr) := hnr
  rw [hnr] at c15 hrl
  clear hnr
  go_enter Tryz.func41, Tryz.ntmps41
  go_wp2_with fail
  refine (phas_any g F p r w H.out).mono ?_
  rintro e w1 ⟨rfl, hw1⟩
  obtain rfl := hw1.symm
  rewrite [HNr.out]
  by_cases h0 : 0 ≤ r ∧ r < (nr : Int)
  rotate_left
  · have HX : Hid (countV s r = (0, 11)) := by show _ = _; rw [HV.out, if_pos (by omega)]
    have hd : hasV nr r = false := decide_eq_false h0
    rewrite [hd]
    clear hd
    go_wp2
    go_ret2
    rw [HX.out]
    exact ⟨rfl, Below.refl _ _⟩
  have hd : hasV nr r = true := decide_eq_true h0
  rewrite [hd]
  clear hd
  obtain ⟨rn, rfl⟩ : ∃ k : Nat, r = k := ⟨r.toNat, by omega⟩
  obtain ⟨h0a, h0b⟩ := h0
  rw [if_neg (show ¬ ¬ (0 ≤ (rn : Int) ∧ (rn : Int) ≤ s.conf.reps - 1) by omega), Int.toNat_natCast] at HV
  have HAt : Hid _ := HB.out.rat (k := rn) (by omega)
  have HRf : Hid _ := rep_fit HB.out.rep rn
  generalize hxx : s.reps.getD rn (0, 0) = x at *
  have HOk : Hid _ := repOf_ok HB.out.fit HRf.out
  obtain ⟨hbx, hpl⟩ := seq_rep HM.out HAt.out
  have HBx : Hid _ := hbx
  have HPl : Hid _ := hpl
  clear hbx hpl
  have hsy := rcount_any lb.gR (prepsCells (p.reps.take rn)) (prepsCells (p.reps.drop (rn + 1))) (repOf s x).disk (repOf s x).safe (repOf s x).count (repOf s x).cells w HBx.out HOk.out.1.1
  rw [HPl.out] at hsy
  have hcx : ((repOf s x).count : Int) = x.1 := by
    show ((x.1.toNat : Nat) : Int) = x.1
    have := HRf.out
    omega
  rw [hcx] at hsy
  go_wp2_with fail
  refine hsy.mono ?_
  rintro e w2 ⟨rfl, hw2⟩
  obtain rfl := hw2.symm
  clear hsy hcx
  go_wp2
  go_ret2
  rw [HV.out]
  exact ⟨rfl, Below.refl _ _⟩

theorem doneRecs_16 : ∀ (rs : List RecV) {cs : List Int}, (recs rs).all Dk.recOk = true → cs.length = 8 → Dk.All16 cs → (doneRecs cs rs).length = 8 ∧ Dk.All16 (doneRecs cs rs)
  | [], cs, _, h8, h => ⟨h8, h⟩
  | r :: rs, cs, ho, h8, h => by
    have h' : (r.told :: recs rs).all Dk.recOk = true := ho
    rw [List.all_cons, Bool.and_eq_true] at h'
    obtain ⟨h1, h2⟩ := doneRec_fit (r := r) h8 h (fun hl => recOk_text h'.1 hl)
    exact doneRecs_16 rs h'.2 h1 h2
theorem doneEps_16 : ∀ (es : List (List RecV)) {cs : List Int}, (∀ e ∈ es, (recs e).all Dk.recOk = true) → cs.length = 8 → Dk.All16 cs → Dk.All16 (doneEps cs es)
  | [], cs, _, h8, h => h
  | e :: es, cs, ho, h8, h => by
    obtain ⟨h1, h2⟩ := doneRecs_16 e (ho e (by simp)) h8 h
    exact doneEps_16 es (fun x hx => ho x (by simp [hx])) h1 h2
theorem repOf_16 {s : CluV} (hf : CluFit s) (x : Int × Int) : Dk.All16 (repOf s x).cells := by
  refine doneEps_16 _ (fun e he => (hf.ep e (List.mem_of_mem_take he)).2) rfl ?_
  intro y hy
  have : y = 0 := by
    unfold zero8 at hy
    simp only [List.mem_cons, List.not_mem_nil, or_false, or_self] at hy
    exact hy
  subst this
  exact ⟨by omega, by omega⟩

set_option maxRecDepth 100000 in
set_option maxHeartbeats 4000000 in
theorem pget_any (g : Nat) (F : Nat → Prop) (p : SeqV) (s : CluV) (r : Int) (k : ByteArray) (w : World) (h : SeqAt w g F p) (hB : Both p s) (hk : k.size ≤ maxLen) :
    Calls Tryz.prog 43 #[.pointer (some ⟨g, 0, none⟩), .int .i64 r, .string k] w (GetPost (getV s r k) w) := by
  have HV : Hid (getV s r k = if ¬ (0 ≤ r ∧ r ≤ s.conf.reps - 1) then (0, 11) else if keyOk k = false then (0, 14) else ((doneEps zero8 (s.epochs.take (s.reps.getD r.toNat (0, 0)).1.toNat)).getD ((k.data.toList.headD 0).toNat - 97) 0, 0)) := rfl
  have hg := h.block
  have H : Hid _ := h
  have HB : Hid _ := hB
  have hrl := hB.rlen
  have hrc := conf_reps hB.fit.conf
  obtain ⟨gA, qb, aS, cS, lb, m⟩ := h.mem
  have c15 := seq_cell15 h.fit m
  have HM : Hid _ := m
  clear h hB m
  obtain ⟨nr, hnr⟩ : ∃ x, p.reps.length = x := ⟨_, rfl⟩
  have HNr : Hid (p.reps.length = nr) := hnr
  rw [hnr] at c15 hrl
  clear hnr
  go_enter Tryz.func43, Tryz.ntmps43
  go_wp2_with fail
  refine (phas_any g F p r w H.out).mono ?_
  rintro e w1 ⟨rfl, hw1⟩
  obtain rfl := hw1.symm
  rewrite [HNr.out]
  by_cases h0 : 0 ≤ r ∧ r < (nr : Int)
  rotate_left
  · have HX : Hid (getV s r k = (0, 11)) := by show _ = _; rw [HV.out, if_pos (by omega)]
    have hd : hasV nr r = false := decide_eq_false h0
    rewrite [hd]
    clear hd
    go_wp2
    go_ret2
    rw [HX.out]
    exact ⟨rfl, Below.refl _ _⟩
  have hd : hasV nr r = true := decide_eq_true h0
  rewrite [hd]
  clear hd
  obtain ⟨rn, rfl⟩ : ∃ k : Nat, r = k := ⟨r.toNat, by omega⟩
  obtain ⟨h0a, h0b⟩ := h0
  rw [if_neg (show ¬ ¬ (0 ≤ (rn : Int) ∧ (rn : Int) ≤ s.conf.reps - 1) by omega), Int.toNat_natCast] at HV
  have HAt : Hid _ := HB.out.rat (k := rn) (by omega)
  have HRf : Hid _ := rep_fit HB.out.rep rn
  generalize hxx : s.reps.getD rn (0, 0) = x at *
  have HOk : Hid _ := repOf_ok HB.out.fit HRf.out
  obtain ⟨hbx, hpl⟩ := seq_rep HM.out HAt.out
  have HBx : Hid _ := hbx
  have HPl : Hid _ := hpl
  clear hbx hpl
  have HC : Hid (Calls Tryz.prog 76 #[.pointer (some ⟨lb.gR, rn * 11, none⟩), .string k] w fun e w' => e = .returned (.tuple #[.int .i64 (getV s (rn : Int) k).1, .int .i64 (getV s (rn : Int) k).2]) ∧ Below w.heap.size w w') := by
    cases hko : keyOk k
    · have := rget_no lb.gR (rn * 11) k w hk hko
      rw [HV.out, if_pos hko]
      exact this
    · obtain ⟨j, hj, rfl⟩ := key_cases hko
      have := rget_yes lb.gR (prepsCells (p.reps.take rn)) (prepsCells (p.reps.drop (rn + 1))) (repOf s x).disk (repOf s x).safe (repOf s x).count (repOf s x).cells j w HBx.out HOk.out.1.1 (repOf_16 HB.out.fit x) hj
      rw [HPl.out] at this
      rw [HV.out, if_neg (by rw [hko]; simp)]
      have e : ((⟨#[UInt8.ofNat (97 + j)]⟩ : ByteArray).data.toList.headD 0).toNat - 97 = j := by
        show (UInt8.ofNat (97 + j)).toNat - 97 = j
        rw [UInt8.toNat_ofNat']
        omega
      rw [e]
      exact this
  go_wp2_with fail
  refine HC.out.mono ?_
  rintro e w2 ⟨rfl, hb2⟩
  have HB2 : Hid _ := hb2
  clear hb2 HC
  go_wp2
  go_ret2
  exact ⟨rfl, HB2.out⟩

end Go.Proofs.YtccckonckddadabGreat
namespace Go.Proofs.YtccckonckddadabGreat
open Go.RowKit
set_option linter.unusedVariables false

set_option maxRecDepth 100000 in
set_option maxHeartbeats 4000000 in
theorem tells_disk (B N : Nat) (gW : Nat) (ps : List Pair) (lab : Nat → Nat) (a : Int) (s : ByteArray) (k : Nat) (w : World) (h : WldAt B N w gW ps lab) (hk : k < ps.length) :
    Calls Tryz.prog 14 #[.pointer (some ⟨gW, 0, none⟩), .int .i64 (k : Int), .int .i64 9, .int .i64 a, .string s] w (WPost B N gW ps.length w) := by
  have hxk := List.getElem?_eq_getElem hk
  generalize ps[k] = x at hxk
  have HB : Hid _ := h.base
  obtain ⟨gC, cC, gR, cR, l0, l1, l2, l3, hgW, hgC, hgR⟩ := h.look hxk
  have H : Hid _ := h
  have HP : Hid _ := h.pair k x hxk
  clear h hxk
  generalize hn : ps.length = n at *
  have k1 : (k : Int) < (n : Int) := by omega
  have k0 : (0 : Int) ≤ (k : Int) := by omega
  go_enter Tryz.func14, Tryz.ntmps14
  go_wp2_with fail
  refine (pdisk_any x.g x.F x.p x.s a w HP.out.seq HP.out.sim).mono ?_
  rintro e w1 ⟨rfl, hw1⟩
  obtain ⟨⟨r1, r2⟩, hr⟩ : ∃ y, diskV x.s a = y := ⟨_, rfl⟩
  have HR : Hid _ := hr
  rewrite [hr]
  clear hr
  simp only
  have HB1 : Hid (Below w.heap.size w w1) := hw1
  clear hw1 l0 l1 l2 l3
  generalize hb1 : bytesOf r1 = b1 at *
  go_wp2_with fail
  refine (refdisk_any x.gr x.Fr x.s a w1 (HP.out.clu.below HB1.out) HP.out.sim.rep).mono ?_
  rintro e w2 ⟨b2, rfl, hb2, hB2⟩
  rw [HR.out] at hb2
  rewrite [HR.out]
  have hbb : b1 = b2 := by rw [← hb1]; exact (bytesOf_eq hb2).symm
  subst hbb
  have HB2 : Hid (Below w.heap.size w w2) := HB1.out.trans (hB2.mono HB1.out.size)
  clear hb2 hB2 hb1
  have hbe : (b1.toList == b1.toList) = true := by simp
  simp only
  go_wp2_with fail
  refine (num_any r2 w2).mono ?_
  rintro e w4 ⟨rfl, hw4⟩
  obtain rfl := hw4.symm
  go_wp2
  go_ret
  exact ⟨rfl, ⟨ps, lab, hn, H.out.below HB2.out⟩, HB2.out.mono HB.out⟩

set_option maxRecDepth 100000 in
set_option maxHeartbeats 4000000 in
theorem tells_count (B N : Nat) (gW : Nat) (ps : List Pair) (lab : Nat → Nat) (a : Int) (s : ByteArray) (k : Nat) (w : World) (h : WldAt B N w gW ps lab) (hk : k < ps.length) :
    Calls Tryz.prog 14 #[.pointer (some ⟨gW, 0, none⟩), .int .i64 (k : Int), .int .i64 10, .int .i64 a, .string s] w (WPost B N gW ps.length w) := by
  have hxk := List.getElem?_eq_getElem hk
  generalize ps[k] = x at hxk
  have HB : Hid _ := h.base
  obtain ⟨gC, cC, gR, cR, l0, l1, l2, l3, hgW, hgC, hgR⟩ := h.look hxk
  have H : Hid _ := h
  have HP : Hid _ := h.pair k x hxk
  clear h hxk
  generalize hn : ps.length = n at *
  have k1 : (k : Int) < (n : Int) := by omega
  have k0 : (0 : Int) ≤ (k : Int) := by omega
  go_enter Tryz.func14, Tryz.ntmps14
  go_wp2_with fail
  refine (pcount_any x.g x.F x.p x.s a w HP.out.seq HP.out.sim).mono ?_
  rintro e w1 ⟨rfl, hw1⟩
  obtain ⟨⟨r1, r2⟩, hr⟩ : ∃ y, countV x.s a = y := ⟨_, rfl⟩
  have HR : Hid _ := hr
  rewrite [hr]
  clear hr
  simp only
  have HB1 : Hid (Below w.heap.size w w1) := hw1
  clear hw1 l0 l1 l2 l3
  go_wp2_with fail
  refine (refcount_any x.gr x.Fr x.s a w1 (HP.out.clu.below HB1.out)).mono ?_
  rintro e w2 ⟨rfl, hB2⟩
  rewrite [HR.out]
  have HB2 : Hid (Below w.heap.size w w2) := HB1.out.trans (hB2.mono HB1.out.size)
  clear hB2
  simp only
  go_wp2_with fail
  refine (num_any r2 w2).mono ?_
  rintro e w4 ⟨rfl, hw4⟩
  obtain rfl := hw4.symm
  go_wp2
  go_ret
  exact ⟨rfl, ⟨ps, lab, hn, H.out.below HB2.out⟩, HB2.out.mono HB.out⟩

set_option maxRecDepth 100000 in
set_option maxHeartbeats 4000000 in
theorem tells_get (B N : Nat) (gW : Nat) (ps : List Pair) (lab : Nat → Nat) (a : Int) (s : ByteArray) (k : Nat) (w : World) (h : WldAt B N w gW ps lab) (hk : k < ps.length) (hs : s.size ≤ maxLen) :
    Calls Tryz.prog 14 #[.pointer (some ⟨gW, 0, none⟩), .int .i64 (k : Int), .int .i64 11, .int .i64 a, .string s] w (WPost B N gW ps.length w) := by
  have hxk := List.getElem?_eq_getElem hk
  generalize ps[k] = x at hxk
  have HB : Hid _ := h.base
  obtain ⟨gC, cC, gR, cR, l0, l1, l2, l3, hgW, hgC, hgR⟩ := h.look hxk
  have H : Hid _ := h
  have HP : Hid _ := h.pair k x hxk
  clear h hxk
  generalize hn : ps.length = n at *
  have k1 : (k : Int) < (n : Int) := by omega
  have k0 : (0 : Int) ≤ (k : Int) := by omega
  go_enter Tryz.func14, Tryz.ntmps14
  go_wp2_with fail
  refine (pget_any x.g x.F x.p x.s a s w HP.out.seq HP.out.sim hs).mono ?_
  rintro e w1 ⟨rfl, hw1⟩
  obtain ⟨⟨r1, r2⟩, hr⟩ : ∃ y, getV x.s a s = y := ⟨_, rfl⟩
  have HR : Hid _ := hr
  rewrite [hr]
  clear hr
  simp only
  have HB1 : Hid (Below w.heap.size w w1) := hw1
  clear hw1 l0 l1 l2 l3
  go_wp2_with fail
  refine (refget_any x.gr x.Fr x.s a s w1 (HP.out.clu.below HB1.out) HP.out.sim.rep hs).mono ?_
  rintro e w2 ⟨rfl, hB2⟩
  rewrite [HR.out]
  have HB2 : Hid (Below w.heap.size w w2) := HB1.out.trans (hB2.mono HB1.out.size)
  clear hB2
  simp only
  go_wp2_with fail
  refine (num_any r2 w2).mono ?_
  rintro e w4 ⟨rfl, hw4⟩
  obtain rfl := hw4.symm
  go_wp2
  go_ret
  exact ⟨rfl, ⟨ps, lab, hn, H.out.below HB2.out⟩, HB2.out.mono HB.out⟩

end Go.Proofs.YtccckonckddadabGreat
namespace Go.Proofs.YtccckonckddadabGreat
open Go.RowKit
set_option linter.unusedVariables false

/-! ### dry, of the world's lists -/
theorem heldRow_at : ∀ (hs : List HeldV) (k : Nat) (x : HeldV), hs[k]? = some x → (heldRow hs)[k * 2]? = some (.slice (some ⟨x.g, 0, none⟩) x.n x.n) ∧ (heldRow hs)[k * 2 + 1]? = some (.int .i64 x.m)
  | [], k, x, h => by simp at h
  | y :: hs, 0, x, h => by
    have : y = x := by simpa using h
    subst this
    exact ⟨rfl, rfl⟩
  | y :: hs, k + 1, x, h => by
    have ih := heldRow_at hs k x (by simpa using h)
    have e : heldRow (y :: hs) = .slice (some ⟨y.g, 0, none⟩) y.n y.n :: .int .i64 y.m :: heldRow hs := rfl
    rw [e, show (k + 1) * 2 = k * 2 + 2 from by omega, show k * 2 + 2 + 1 = k * 2 + 1 + 2 from by omega]
    exact ih
theorem heldRow_cell {w : World} {B n c : Nat} {a : Option Addr} {hs : List HeldV} (h : w.ownsRow B 53 2 (.slice a n c) n (heldRow hs)) {k : Nat} {x : HeldV} (hx : hs[k]? = some x) (hk : k < n) :
    ∃ g, a = some ⟨g, 0, none⟩ ∧ g < w.heap.size ∧ w.cell? ⟨g, k * 2, none⟩ = some (.slice (some ⟨x.g, 0, none⟩) x.n x.n) ∧ w.cell? ⟨g, k * 2 + 1, none⟩ = some (.int .i64 x.m) := by
  rcases h.2 with ⟨_, h0⟩ | ⟨g, cap, cur, hv, _, hg, _, _, hcs, ht⟩
  · omega
  · obtain ⟨rfl, _⟩ : a = some ⟨g, 0, none⟩ ∧ c = cap := by simpa using hv
    obtain ⟨h1, h2⟩ := heldRow_at hs k x hx
    refine ⟨g, rfl, (heap_cells hg).2.2, ?_, ?_⟩
    · rw [(heap_cells hg).1, ← h1, ← ht, ← Array.getElem?_toList, List.getElem?_take_of_lt (by omega)]
    · rw [(heap_cells hg).1, ← h2, ← ht, ← Array.getElem?_toList, List.getElem?_take_of_lt (by omega)]

set_option maxHeartbeats 1000000 in
theorem marked_any2 (n : Int) (w : World) (h0 : 0 ≤ n) (h1 : n < 1000000000000000) :
    Calls Tryz.prog 15 #[.int .i64 n] w fun e w' => e = .returned (.agg #[.int .i64 (-n), .int .i64 n, .bool true, .string ⟨#[109, 97, 114, 107]⟩]) ∧ Below w.heap.size w w' := by
  go_enter Tryz.func15, Tryz.ntmps15
  go_wp2
  refine bodyPost_ret (v := .agg #[.int .i64 (-n), .int .i64 n, .bool true, .string ⟨#[109, 97, 114, 107]⟩]) (by simp [results, Tryz.results15, go_sem]) rfl ?_
  exact ⟨rfl, (Below.refl _ _).alloc (Nat.le_refl _) _⟩
set_option maxRecDepth 100000 in
set_option maxHeartbeats 4000000 in
theorem wdry_any (B N : Nat) (gW : Nat) (ps : List Pair) (lab : Nat → Nat) (w : World) (h : WldAt B N w gW ps lab) (hN : N ≤ 10000000000000) :
    Calls Tryz.prog 6 #[.pointer (some ⟨gW, 2, none⟩)] w fun e w' => e = .returned (.bool true) ∧ Below w.heap.size w w' := by
  obtain ⟨aC, cC, aR, cR, vH, m1, _, _, _, _, a, c, hs, hv, hnN, hown, _, hall⟩ := h.mem
  have zh := (heap_cells m1).2.2
  subst hv
  have c2 : w.cell? ⟨gW, 2, none⟩ = some (.slice a hs.length c) := by rw [(heap_cells m1).1]; rfl
  have HG : Hid (_ ∧ _) := ⟨hown, hall⟩
  clear h hown hall m1
  obtain ⟨n, hn⟩ : ∃ n, hs.length = n := ⟨_, rfl⟩
  rw [hn] at c2 hnN HG
  have heq := equal_rec
  have hgd := guard_rec
  go_enter Tryz.func6, Tryz.ntmps6
  go_wp2
  go_loopw [3] (fun i wr => ∃ (j : Nat), j ≤ n ∧ i = .int .i64 j ∧ Hid (Below w.heap.size w wr)) (fun i _ => n - (intOf i).toNat)
  case atStart => exact ⟨0, by omega, rfl, Below.refl _ _⟩
  case round =>
    obtain ⟨j, hj, rfl, HB⟩ := hrel
    have ch := (HB.out.cell (p := ⟨gW, 2, none⟩) zh).trans c2
    have zhr := Nat.lt_of_lt_of_le zh HB.out.size
    by_cases hlt : j < n
    · have hjl : j < hs.length := by omega
      obtain ⟨g, rfl, hg, d0, d1⟩ := heldRow_cell HG.out.1 (List.getElem?_eq_getElem hjl) hlt
      obtain ⟨hA, _, _, hL0, hL, hx0, hx1⟩ := HG.out.2 hs[j] (List.getElem_mem hjl)
      generalize hs[j] = x at d0 d1 hA hx0 hx1 hL hL0
      obtain ⟨G, L, M⟩ := x
      simp only at d0 d1 hA hx0 hx1 hL hL0
      have e0 := (HB.out.cell (p := ⟨g, j * 2, none⟩) hg).trans d0
      have e1 := (HB.out.cell (p := ⟨g, j * 2 + 1, none⟩) hg).trans d1
      have hgr : g < wr.heap.size := Nat.lt_of_lt_of_le hg HB.out.size
      have HA : Hid _ := hA
      have HAr : Hid (AllAt wr G (List.replicate L (mark M))) := hA.kept HB.out
      have hwz : w.heap.size ≤ wr.heap.size := HB.out.size
      clear d0 d1 hA
      have j1 : (j : Int) < (n : Int) := by omega
      have j0 : (0 : Int) ≤ (j : Int) := by omega
      go_wp2
      have HX : Hid (AllAt (wr.alloc (.cells #[.slice (some ⟨G, 0, none⟩) L L, .int .i64 M] 53)) G (List.replicate L (mark M)) ∧ (wr.alloc (.cells #[.slice (some ⟨G, 0, none⟩) L L, .int .i64 M] 53)).heap[wr.heap.size]? = some (.cells #[.slice (some ⟨G, 0, none⟩) L L, .int .i64 M] 53) ∧ Below w.heap.size w (wr.alloc (.cells #[.slice (some ⟨G, 0, none⟩) L L, .int .i64 M] 53))) :=
        ⟨HAr.out.kept ((Below.refl _ _).alloc (Nat.le_refl _) _), heap_at rfl, HB.out.alloc hwz _⟩
      clear e0 e1 HAr HA ch zhr HB
      generalize wr.alloc (.cells #[.slice (some ⟨G, 0, none⟩) L L, .int .i64 M] 53) = W1 at *
      generalize wr.heap.size = gx at *
      go_loopw [5] (fun i wr2 => ∃ (q : Nat), q ≤ L ∧ i = .int .i64 q ∧ Hid (AllAt wr2 G (List.replicate L (mark M)) ∧ wr2.heap[gx]? = some (.cells #[.slice (some ⟨G, 0, none⟩) L L, .int .i64 M] 53) ∧ Below w.heap.size w wr2)) (fun i _ => L - (intOf i).toNat)
      case atStart => exact ⟨0, by omega, rfl, HX⟩
      case round =>
        obtain ⟨q, hq, rfl, HR⟩ := hrel
        obtain ⟨cx, fx, zx⟩ := heap_cells HR.out.2.1
        by_cases hql : q < L
        · obtain ⟨c0, c1, c2, c3⟩ := HR.out.1.cell (k := q) (r := mark M) (by rw [List.getElem?_replicate, if_pos hql])
          simp only [mark] at c0 c1 c2 c3
          have hzG := (heap_cells HR.out.1).2.2
          have hqI : (q : Int) < (L : Int) := by omega
          have hq0 : (0 : Int) ≤ (q : Int) := by omega
          go_wp2
          go_region_held3 (fun W => Below wr.heap.size wr W ∧ (∀ b x, b < wr.heap.size → W.cell? ⟨b, x, none⟩ = wr.cell? ⟨b, x, none⟩))
            (first | (with_reducible exact doS_0) | (with_reducible exact doS_2 ‹_›))
            (first | (go_at_call 15; refine (marked_any2 M _ hx0 (by omega)).mono ?_; rintro e w9 ⟨rfl, hB9⟩))
          have hB10 := (doS_2 hB9).1
          have HN : Hid (AllAt w9 G (List.replicate L (mark M)) ∧ w9.heap[gx]? = some (.cells #[.slice (some ⟨G, 0, none⟩) L L, .int .i64 M] 53) ∧ Below w.heap.size w w9) :=
            ⟨HR.out.1.kept hB10, (hB10.block gx zx).trans HR.out.2.1, HR.out.2.2.trans (hB10.mono HR.out.2.2.size)⟩
          clear hB9 hB10 c0 c1 c2 c3 cx fx
          go_wp2
          go_roundw
          case rel => exact ⟨q + 1, by omega, by go_num, HN⟩
          case measure => simp [intOf]; omega
        · have hqL : q = L := by omega
          subst hqL
          have HB : Hid _ := HR.out.2.2
          go_wp2
          go_roundw
          case rel => exact ⟨j + 1, by omega, by go_num, HB⟩
          case measure => simp [intOf]; omega
    · have hjn : j = n := by omega
      subst hjn
      go_wp2
      go_ret
      exact ⟨rfl, HB.out⟩

end Go.Proofs.YtccckonckddadabGreat
