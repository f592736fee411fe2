import Derived.Test.YtccckonckddadaaGreatJ29
import Derived.Test.YtccckonckddadaaGreatK01
import Derived.Test.YtccckonckddadaaGreatJ30
namespace Go.Proofs.YtccckonckddadaaGreat
open Go.RowKit
set_option linter.unusedVariables false

set_option maxRecDepth 100000 in
set_option maxHeartbeats 4000000 in
theorem psync_any (g : Nat) (F : Nat → Prop) (p : SeqV) (s : CluV) (r : Int) (w : World) (h : SeqAt w g F p) (hB : Both p s) :
    Calls Tryz.prog 42 #[.pointer (some ⟨g, 0, none⟩), .int .i64 r] w fun e w' => e = .returned (.int .i64 (syncV s r).2) ∧ SeqPost g F (withR p (repsOf (syncV s r).1)) w w' := by
  have HV : Hid (syncV s r = if ¬ (0 ≤ r ∧ r ≤ s.conf.reps - 1) then (s, 11) else (repV s r.toNat ((s.reps.getD r.toNat (0, 0)).1, (s.reps.getD r.toNat (0, 0)).1), 0)) := rfl
  have hg := h.block
  have H : Hid _ := h
  have HB : Hid _ := hB
  have hrl := hB.rlen
  have hrc := conf_reps hB.fit.conf
  obtain ⟨gA, qb, aS, cS, lb, m⟩ := h.mem
  have c15 := seq_cell15 h.fit m
  have HM : Hid _ := m
  clear h hB m
  obtain ⟨nr, hnr⟩ : ∃ x, p.reps.length = x := ⟨_, rfl⟩
  have HNr : Hid (p.reps.length = nr) := hnr
  rw [hnr] at c15 hrl
  clear hnr
  go_enter Tryz.func42, Tryz.ntmps42
  go_wp2_with fail
  refine (phas_any g F p r w H.out).mono ?_
  rintro e w1 ⟨rfl, hw1⟩
  obtain rfl := hw1.symm
  rewrite [HNr.out]
  by_cases h0 : 0 ≤ r ∧ r < (nr : Int)
  rotate_left
  · have HX : Hid (syncV s r = (s, 11)) := by show _ = _; rw [HV.out, if_pos (by omega)]
    have hd : hasV nr r = false := decide_eq_false h0
    rewrite [hd]
    clear hd
    go_wp2
    go_ret
    rw [HX.out]
    exact ⟨rfl, by rw [withR_self HB.out.rsim]; exact SeqPost.same H.out (Below.refl _ _)⟩
  have hd : hasV nr r = true := decide_eq_true h0
  rewrite [hd]
  clear hd
  obtain ⟨rn, rfl⟩ : ∃ k : Nat, r = k := ⟨r.toNat, by omega⟩
  obtain ⟨h0a, h0b⟩ := h0
  rw [if_neg (show ¬ ¬ (0 ≤ (rn : Int) ∧ (rn : Int) ≤ s.conf.reps - 1) by omega), Int.toNat_natCast] at HV
  have HAt : Hid _ := HB.out.rat (k := rn) (by omega)
  have HRf : Hid _ := rep_fit HB.out.rep rn
  generalize hxx : s.reps.getD rn (0, 0) = x at *
  have HOk : Hid _ := repOf_ok HB.out.fit HRf.out
  obtain ⟨hbx, hpl⟩ := seq_rep HM.out HAt.out
  have HBx : Hid _ := hbx
  have HPl : Hid _ := hpl
  clear hbx hpl
  have hsy := rsync_any lb.gR (prepsCells (p.reps.take rn)) (prepsCells (p.reps.drop (rn + 1))) (repOf s x).disk (repOf s x).safe (repOf s x).count (repOf s x).cells w HBx.out HOk.out.1.1
  rw [HPl.out] at hsy
  go_wp2_with fail
  refine hsy.mono ?_
  rintro e w2 ⟨rfl, hP⟩
  have hsz : (repOf s x).disk.size = (logV s x.1.toNat).length := by
    have h1 := congrArg List.length (bytesOf_list (logV s x.1.toNat))
    rw [← len_list]
    exact h1
  have hP' : RepPost lb.gR (prepsCells (p.reps.take rn)) (prepsCells (p.reps.drop (rn + 1))) (repOf s (x.1, x.1)) w w2 := by
    rw [hsz] at hP
    exact hP
  have HP : Hid _ := seq_rep_put H.out HM.out (r := rn) (by rw [HNr.out]; omega) (repOf_ok HB.out.fit (x := (x.1, x.1)) ⟨by have := HRf.out; show 0 ≤ x.1; omega, Int.le_refl _, HRf.out.2.2⟩).1 hP'
  clear hP hP' hsy hsz
  go_wp2
  go_ret
  rw [HV.out]
  refine ⟨rfl, ?_⟩
  show SeqPost g F (withR p (repsOf (repV s rn (x.1, x.1)))) w w2
  rw [reps_put, ← HB.out.rsim]
  exact HP.out

set_option maxRecDepth 100000 in
set_option maxHeartbeats 4000000 in
theorem pcrash_any (g : Nat) (F : Nat → Prop) (p : SeqV) (s : CluV) (r keep : Int) (w : World) (h : SeqAt w g F p) (hB : Both p s) :
    Calls Tryz.prog 44 #[.pointer (some ⟨g, 0, none⟩), .int .i64 r, .int .i64 keep] w fun e w' => e = .returned (.int .i64 (crashV s r keep).2) ∧ SeqPost g F (withR p (repsOf (crashV s r keep).1)) w w' := by
  have HV : Hid (crashV s r keep = if ¬ (0 ≤ r ∧ r ≤ s.conf.reps - 1) then (s, 11) else (repV s r.toNat (crashN s (s.reps.getD r.toNat (0, 0)) keep, crashN s (s.reps.getD r.toNat (0, 0)) keep), 0)) := rfl
  have hg := h.block
  have H : Hid _ := h
  have HB : Hid _ := hB
  have hrl := hB.rlen
  have hrc := conf_reps hB.fit.conf
  obtain ⟨gA, qb, aS, cS, lb, m⟩ := h.mem
  have c15 := seq_cell15 h.fit m
  have HM : Hid _ := m
  clear h hB m
  obtain ⟨nr, hnr⟩ : ∃ x, p.reps.length = x := ⟨_, rfl⟩
  have HNr : Hid (p.reps.length = nr) := hnr
  rw [hnr] at c15 hrl
  clear hnr
  go_enter Tryz.func44, Tryz.ntmps44
  go_wp2_with fail
  refine (phas_any g F p r w H.out).mono ?_
  rintro e w1 ⟨rfl, hw1⟩
  obtain rfl := hw1.symm
  rewrite [HNr.out]
  by_cases h0 : 0 ≤ r ∧ r < (nr : Int)
  rotate_left
  · have HX : Hid (crashV s r keep = (s, 11)) := by show _ = _; rw [HV.out, if_pos (by omega)]
    have hd : hasV nr r = false := decide_eq_false h0
    rewrite [hd]
    clear hd
    go_wp2
    go_ret
    rw [HX.out]
    exact ⟨rfl, by rw [withR_self HB.out.rsim]; exact SeqPost.same H.out (Below.refl _ _)⟩
  have hd : hasV nr r = true := decide_eq_true h0
  rewrite [hd]
  clear hd
  obtain ⟨rn, rfl⟩ : ∃ k : Nat, r = k := ⟨r.toNat, by omega⟩
  obtain ⟨h0a, h0b⟩ := h0
  rw [if_neg (show ¬ ¬ (0 ≤ (rn : Int) ∧ (rn : Int) ≤ s.conf.reps - 1) by omega), Int.toNat_natCast] at HV
  have HAt : Hid _ := HB.out.rat (k := rn) (by omega)
  have HRf : Hid _ := rep_fit HB.out.rep rn
  generalize hxx : s.reps.getD rn (0, 0) = x at *
  have HOk : Hid _ := repOf_ok HB.out.fit HRf.out
  obtain ⟨hbx, hpl⟩ := seq_rep HM.out HAt.out
  have HBx : Hid _ := hbx
  have HPl : Hid _ := hpl
  clear hbx hpl
  have hsz : (repOf s x).disk.size = (logV s x.1.toNat).length := by
    have h1 := congrArg List.length (bytesOf_list (logV s x.1.toNat))
    rw [← len_list]
    exact h1
  obtain ⟨rr, hsp, hrd⟩ := crash_split HB.out.fit HRf.out keep
  obtain ⟨K, hK⟩ : ∃ K, crashN s x keep = K := ⟨_, rfl⟩
  have hKl : K ≤ s.epochs.length := by
    have h1 := crashGo_le s x.2.toNat keep (x.1.toNat - x.2.toNat) x.2.toNat
    have h2 := HRf.out
    unfold crashN at hK
    omega
  rw [hK] at hsp hrd HV
  have hm := HB.out.fit.many
  have htl : (s.epochs.take K).length = K := by rw [List.length_take]; omega
  have hcr := rcrash_any lb.gR (prepsCells (p.reps.take rn)) (prepsCells (p.reps.drop (rn + 1))) (repOf s x).disk (repOf s x).safe (repOf s x).count (repOf s x).cells keep (s.epochs.take K) rr w HBx.out HOk.out.1.1 HOk.out.1.2.1 HOk.out.2 (by
    rw [hsz]
    show (bytesOf (logV s x.1.toNat)).data.toList.take _ = _
    rw [bytesOf_list]
    exact hsp) (sound_eps0 HB.out.fit K) (by rw [htl]; omega) (by rw [htl]; exact hrd)
  rw [htl, didEps_done HB.out.fit K] at hcr
  rw [HPl.out] at hcr
  go_wp2_with fail
  refine hcr.mono ?_
  rintro e w2 ⟨rfl, hP⟩
  have hP' : RepPost lb.gR (prepsCells (p.reps.take rn)) (prepsCells (p.reps.drop (rn + 1))) (repOf s ((K : Int), (K : Int))) w w2 := by
    unfold repOf
    simp only [Int.toNat_natCast]
    exact hP
  have HP : Hid _ := seq_rep_put H.out HM.out (r := rn) (by rw [HNr.out]; omega) (repOf_ok HB.out.fit (x := ((K : Int), (K : Int))) ⟨by show (0 : Int) ≤ (K : Int); omega, Int.le_refl _, by show (K : Int) ≤ _; omega⟩).1 hP'
  clear hP hP' hcr hsz hsp hrd
  go_wp2
  go_ret
  rw [HV.out]
  refine ⟨rfl, ?_⟩
  show SeqPost g F (withR p (repsOf (repV s rn ((K : Int), (K : Int))))) w w2
  rw [reps_put, ← HB.out.rsim]
  exact HP.out

end Go.Proofs.YtccckonckddadaaGreat
namespace Go.Proofs.YtccckonckddadaaGreat
open Go.RowKit
set_option linter.unusedVariables false

/-! ### The replicas' calls leave the two states together -/
theorem sim_rep {p : SeqV} {s : CluV} (h : Sim p s) (l : List RepV) (k : Nat) (x : Int × Int) : Sim (withR p l) (repV s k x) := ⟨h.queue, h.quantum, h.room, h.first, h.epochs, h.log, h.cells, h.many, h.acc, h.outs, h.few, h.e0⟩
theorem both_put {p : SeqV} {s : CluV} (h : Both p s) (k : Nat) {x : Int × Int} (hx : 0 ≤ x.2 ∧ x.2 ≤ x.1 ∧ x.1 ≤ (s.epochs.length : Int)) : Both (withR p (repsOf (repV s k x))) (repV s k x) :=
  ⟨sim_rep h.sim _ k x, rfl, fit_rep h.fit k x, ⟨h.rest.queue, h.rest.credit⟩, rep_put h.rep k hx⟩
theorem both_self {p : SeqV} {s : CluV} (h : Both p s) : Both (withR p (repsOf s)) s := by rw [withR_self h.rsim]; exact h
theorem both_send {p : SeqV} {s : CluV} (h : Both p s) (r n : Int) : Both (withR p (repsOf (sendV s r n).1)) (sendV s r n).1 := by
  have hr := sendV_rep h.rep r n
  unfold sendV at hr ⊢
  split
  · exact both_self h
  split
  · exact both_self h
  split
  · exact both_self h
  split
  · exact both_self h
  · have := rep_fit h.rep r.toNat
    exact both_put h _ ⟨this.1, by show (s.reps.getD r.toNat (0, 0)).2 ≤ n + 1; omega, by show n + 1 ≤ _; omega⟩
theorem both_sync {p : SeqV} {s : CluV} (h : Both p s) (r : Int) : Both (withR p (repsOf (syncV s r).1)) (syncV s r).1 := by
  unfold syncV
  split
  · exact both_self h
  · have := rep_fit h.rep r.toNat
    exact both_put h _ ⟨by show 0 ≤ (s.reps.getD r.toNat (0, 0)).1; omega, Int.le_refl _, this.2.2⟩
theorem both_crash {p : SeqV} {s : CluV} (h : Both p s) (r keep : Int) : Both (withR p (repsOf (crashV s r keep).1)) (crashV s r keep).1 := by
  unfold crashV
  split
  · exact both_self h
  · have h1 := rep_fit h.rep r.toNat
    have h2 := crashGo_le s (s.reps.getD r.toNat (0, 0)).2.toNat keep ((s.reps.getD r.toNat (0, 0)).1.toNat - (s.reps.getD r.toNat (0, 0)).2.toNat) (s.reps.getD r.toNat (0, 0)).2.toNat
    refine both_put h _ ⟨by show (0 : Int) ≤ ((crashN _ _ _ : Nat) : Int); omega, Int.le_refl _, ?_⟩
    show ((crashN s (s.reps.getD r.toNat (0, 0)) keep : Nat) : Int) ≤ _
    unfold crashN
    omega

end Go.Proofs.YtccckonckddadaaGreat
namespace Go.Proofs.YtccckonckddadaaGreat
open Go.RowKit
set_option linter.unusedVariables false

set_option maxRecDepth 100000 in
set_option maxHeartbeats 4000000 in
theorem pdisk_any (g : Nat) (F : Nat → Prop) (p : SeqV) (s : CluV) (r : Int) (w : World) (h : SeqAt w g F p) (hB : Both p s) :
    Calls Tryz.prog 19 #[.pointer (some ⟨g, 0, none⟩), .int .i64 r] w fun e w' => e = .returned (.tuple #[.string (bytesOf (diskV s r).1), .int .i64 (diskV s r).2]) ∧ Below w.heap.size w w' := by
  have HV : Hid (diskV s r = if ¬ (0 ≤ r ∧ r ≤ s.conf.reps - 1) then ([], 11) else (logV s (s.reps.getD r.toNat (0, 0)).1.toNat, 0)) := rfl
  have hg := h.block
  have H : Hid _ := h
  have HB : Hid _ := hB
  have hrl := hB.rlen
  have hrc := conf_reps hB.fit.conf
  obtain ⟨gA, qb, aS, cS, lb, m⟩ := h.mem
  have c15 := seq_cell15 h.fit m
  have HM : Hid _ := m
  clear h hB m
  obtain ⟨nr, hnr⟩ : ∃ x, p.reps.length = x := ⟨_, rfl⟩
  have HNr : Hid (p.reps.length = nr) := hnr
  rw [hnr] at c15 hrl
  clear hnr
  go_enter Tryz.func19, Tryz.ntmps19
  go_wp2_with fail
  refine (phas_any g F p r w H.out).mono ?_
  rintro e w1 ⟨rfl, hw1⟩
  obtain rfl := hw1.symm
  rewrite [HNr.out]
  by_cases h0 : 0 ≤ r ∧ r < (nr : Int)
  rotate_left
  · have HX : Hid (diskV s r = ([], 11)) := by show _ = _; rw [HV.out, if_pos (by omega)]
    have hd : hasV nr r = false := decide_eq_false h0
    rewrite [hd]
    clear hd
    go_wp2
    go_ret2
    rw [HX.out]
    exact ⟨rfl, Below.refl _ _⟩
  have hd : hasV nr r = true := decide_eq_true h0
  rewrite [hd]
  clear hd
  obtain ⟨rn, rfl⟩ : ∃ k : Nat, r = k := ⟨r.toNat, by omega⟩
  obtain ⟨h0a, h0b⟩ := h0
  rw [if_neg (show ¬ ¬ (0 ≤ (rn : Int) ∧ (rn : Int) ≤ s.conf.reps - 1) by omega), Int.toNat_natCast] at HV
  have HAt : Hid _ := HB.out.rat (k := rn) (by omega)
  have HRf : Hid _ := rep_fit HB.out.rep rn
  generalize hxx : s.reps.getD rn (0, 0) = x at *
  have HOk : Hid _ := repOf_ok HB.out.fit HRf.out
  obtain ⟨hbx, hpl⟩ := seq_rep HM.out HAt.out
  have HBx : Hid _ := hbx
  have HPl : Hid _ := hpl
  clear hbx hpl
  have hsy := rdisk_any lb.gR (prepsCells (p.reps.take rn)) (prepsCells (p.reps.drop (rn + 1))) (repOf s x).disk (repOf s x).safe (repOf s x).count (repOf s x).cells w HBx.out HOk.out.1.1
  rw [HPl.out] at hsy
  go_wp2_with fail
  refine hsy.mono ?_
  rintro e w2 ⟨rfl, hw2⟩
  obtain rfl := hw2.symm
  clear hsy
  go_wp2
  go_ret2
  rw [HV.out]
  exact ⟨rfl, Below.refl _ _⟩

set_option maxRecDepth 100000 in
set_option maxHeartbeats 4000000 in
theorem pcount_any (g : Nat) (F : Nat → Prop) (p : SeqV) (s : CluV) (r : Int) (w : World) (h : SeqAt w g F p) (hB : Both p s) :
    Calls Tryz.prog 21 #[.pointer (some ⟨g, 0, none⟩), .int .i64 r] w fun e w' => e = .returned (.tuple #[.int .i64 (countV s r).1, .int .i64 (countV s r).2]) ∧ Below w.heap.size w w' := by
  have HV : Hid (countV s r = if ¬ (0 ≤ r ∧ r ≤ s.conf.reps - 1) then (0, 11) else ((s.reps.getD r.toNat (0, 0)).1, 0)) := rfl
  have hg := h.block
  have H : Hid _ := h
  have HB : Hid _ := hB
  have hrl := hB.rlen
  have hrc := conf_reps hB.fit.conf
  obtain ⟨gA, qb, aS, cS, lb, m⟩ := h.mem
  have c15 := seq_cell15 h.fit m
  have HM : Hid _ := m
  clear h hB m
  obtain ⟨nr, hnr⟩ : ∃ x, p.reps.length = x := ⟨_, rfl⟩
  have HNr : Hid (p.reps.length = nr) := hnr
  rw [hnr] at c15 hrl
  clear hnr
  go_enter Tryz.func21, Tryz.ntmps21
  go_wp2_with fail
  refine (phas_any g F p r w H.out).mono ?_
  rintro e w1 ⟨rfl, hw1⟩
  obtain rfl := hw1.symm
  rewrite [HNr.out]
  by_cases h0 : 0 ≤ r ∧ r < (nr : Int)
  rotate_left
  · have HX : Hid (countV s r = (0, 11)) := by show _ = _; rw [HV.out, if_pos (by omega)]
    have hd : hasV nr r = false := decide_eq_false h0
    rewrite [hd]
    clear hd
    go_wp2
    go_ret2
    rw [HX.out]
    exact ⟨rfl, Below.refl _ _⟩
  have hd : hasV nr r = true := decide_eq_true h0
  rewrite [hd]
  clear hd
  obtain ⟨rn, rfl⟩ : ∃ k : Nat, r = k := ⟨r.toNat, by omega⟩
  obtain ⟨h0a, h0b⟩ := h0
  rw [if_neg (show ¬ ¬ (0 ≤ (rn : Int) ∧ (rn : Int) ≤ s.conf.reps - 1) by omega), Int.toNat_natCast] at HV
  have HAt : Hid _ := HB.out.rat (k := rn) (by omega)
  have HRf : Hid _ := rep_fit HB.out.rep rn
  generalize hxx : s.reps.getD rn (0, 0) = x at *
  have HOk : Hid _ := repOf_ok HB.out.fit HRf.out
  obtain ⟨hbx, hpl⟩ := seq_rep HM.out HAt.out
  have HBx : Hid _ := hbx
  have HPl : Hid _ := hpl
  clear hbx hpl
  have hsy := rcount_any lb.gR (prepsCells (p.reps.take rn)) (prepsCells (p.reps.drop (rn + 1))) (repOf s x).disk (repOf s x).safe (repOf s x).count (repOf s x).cells w HBx.out HOk.out.1.1
  rw [HPl.out] at hsy
  have hcx : ((repOf s x).count : Int) = x.1 := by
    show ((x.1.toNat : Nat) : Int) = x.1
    have := HRf.out
    omega
  rw [hcx] at hsy
  go_wp2_with fail
  refine hsy.mono ?_
  rintro e w2 ⟨rfl, hw2⟩
  obtain rfl := hw2.symm
  clear hsy hcx
  go_wp2
  go_ret2
  rw [HV.out]
  exact ⟨rfl, Below.refl _ _⟩

theorem doneRecs_16 : ∀ (rs : List RecV) {cs : List Int}, (recs rs).all Dk.recOk = true → cs.length = 8 → Dk.All16 cs → (doneRecs cs rs).length = 8 ∧ Dk.All16 (doneRecs cs rs)
  | [], cs, _, h8, h => ⟨h8, h⟩
  | r :: rs, cs, ho, h8, h => by
    have h' : (r.told :: recs rs).all Dk.recOk = true := ho
    rw [List.all_cons, Bool.and_eq_true] at h'
    obtain ⟨h1, h2⟩ := doneRec_fit (r := r) h8 h (fun hl => recOk_text h'.1 hl)
    exact doneRecs_16 rs h'.2 h1 h2
theorem doneEps_16 : ∀ (es : List (List RecV)) {cs : List Int}, (∀ e ∈ es, (recs e).all Dk.recOk = true) → cs.length = 8 → Dk.All16 cs → Dk.All16 (doneEps cs es)
  | [], cs, _, h8, h => h
  | e :: es, cs, ho, h8, h => by
    obtain ⟨h1, h2⟩ := doneRecs_16 e (ho e (by simp)) h8 h
    exact doneEps_16 es (fun x hx => ho x (by simp [hx])) h1 h2
theorem repOf_16 {s : CluV} (hf : CluFit s) (x : Int × Int) : Dk.All16 (repOf s x).cells := by
  refine doneEps_16 _ (fun e he => (hf.ep e (List.mem_of_mem_take he)).2) rfl ?_
  intro y hy
  have : y = 0 := by
    unfold zero8 at hy
    simp only [List.mem_cons, List.not_mem_nil, or_false, or_self] at hy
    exact hy
  subst this
  exact ⟨by omega, by omega⟩

set_option maxRecDepth 100000 in
set_option maxHeartbeats 4000000 in
theorem pget_any (g : Nat) (F : Nat → Prop) (p : SeqV) (s : CluV) (r : Int) (k : ByteArray) (w : World) (h : SeqAt w g F p) (hB : Both p s) (hk : k.size ≤ maxLen) :
    Calls Tryz.prog 23 #[.pointer (some ⟨g, 0, none⟩), .int .i64 r, .string k] w (GetPost (getV s r k) w) := by
  have HV : Hid (getV s r k = if ¬ (0 ≤ r ∧ r ≤ s.conf.reps - 1) then (0, 11) else if keyOk k = false then (0, 14) else ((doneEps zero8 (s.epochs.take (s.reps.getD r.toNat (0, 0)).1.toNat)).getD ((k.data.toList.headD 0).toNat - 97) 0, 0)) := rfl
  have hg := h.block
  have H : Hid _ := h
  have HB : Hid _ := hB
  have hrl := hB.rlen
  have hrc := conf_reps hB.fit.conf
  obtain ⟨gA, qb, aS, cS, lb, m⟩ := h.mem
  have c15 := seq_cell15 h.fit m
  have HM : Hid _ := m
  clear h hB m
  obtain ⟨nr, hnr⟩ : ∃ x, p.reps.length = x := ⟨_, rfl⟩
  have HNr : Hid (p.reps.length = nr) := hnr
  rw [hnr] at c15 hrl
  clear hnr
  go_enter Tryz.func23, Tryz.ntmps23
  go_wp2_with fail
  refine (phas_any g F p r w H.out).mono ?_
  rintro e w1 ⟨rfl, hw1⟩
  obtain rfl := hw1.symm
  rewrite [HNr.out]
  by_cases h0 : 0 ≤ r ∧ r < (nr : Int)
  rotate_left
  · have HX : Hid (getV s r k = (0, 11)) := by show _ = _; rw [HV.out, if_pos (by omega)]
    have hd : hasV nr r = false := decide_eq_false h0
    rewrite [hd]
    clear hd
    go_wp2
    go_ret2
    rw [HX.out]
    exact ⟨rfl, Below.refl _ _⟩
  have hd : hasV nr r = true := decide_eq_true h0
  rewrite [hd]
  clear hd
  obtain ⟨rn, rfl⟩ : ∃ k : Nat, r = k := ⟨r.toNat, by omega⟩
  obtain ⟨h0a, h0b⟩ := h0
  rw [if_neg (show ¬ ¬ (0 ≤ (rn : Int) ∧ (rn : Int) ≤ s.conf.reps - 1) by omega), Int.toNat_natCast] at HV
  have HAt : Hid _ := HB.out.rat (k := rn) (by omega)
  have HRf : Hid _ := rep_fit HB.out.rep rn
  generalize hxx : s.reps.getD rn (0, 0) = x at *
  have HOk : Hid _ := repOf_ok HB.out.fit HRf.out
  obtain ⟨hbx, hpl⟩ := seq_rep HM.out HAt.out
  have HBx : Hid _ := hbx
  have HPl : Hid _ := hpl
  clear hbx hpl
  have HC : Hid (Calls Tryz.prog 54 #[.pointer (some ⟨lb.gR, rn * 11, none⟩), .string k] w fun e w' => e = .returned (.tuple #[.int .i64 (getV s (rn : Int) k).1, .int .i64 (getV s (rn : Int) k).2]) ∧ Below w.heap.size w w') := by
    cases hko : keyOk k
    · have := rget_no lb.gR (rn * 11) k w hk hko
      rw [HV.out, if_pos hko]
      exact this
    · obtain ⟨j, hj, rfl⟩ := key_cases hko
      have := rget_yes lb.gR (prepsCells (p.reps.take rn)) (prepsCells (p.reps.drop (rn + 1))) (repOf s x).disk (repOf s x).safe (repOf s x).count (repOf s x).cells j w HBx.out HOk.out.1.1 (repOf_16 HB.out.fit x) hj
      rw [HPl.out] at this
      rw [HV.out, if_neg (by rw [hko]; simp)]
      have e : ((⟨#[UInt8.ofNat (97 + j)]⟩ : ByteArray).data.toList.headD 0).toNat - 97 = j := by
        show (UInt8.ofNat (97 + j)).toNat - 97 = j
        rw [UInt8.toNat_ofNat']
        omega
      rw [e]
      exact this
  go_wp2_with fail
  refine HC.out.mono ?_
  rintro e w2 ⟨rfl, hb2⟩
  have HB2 : Hid _ := hb2
  clear hb2 HC
  go_wp2
  go_ret2
  exact ⟨rfl, HB2.out⟩

end Go.Proofs.YtccckonckddadaaGreat
namespace Go.Proofs.YtccckonckddadaaGreat
open Go.RowKit
set_option linter.unusedVariables false

set_option maxRecDepth 100000 in
set_option maxHeartbeats 4000000 in
theorem does_send (B N : Nat) (gW : Nat) (ps : List Pair) (lab : Nat → Nat) (o : OpV) (k : Nat) (w : World) (h : WldAt B N w gW ps lab) (hk : k < ps.length) (ho : o.kind = 6) :
    Calls Tryz.prog 13 #[.pointer (some ⟨gW, 0, none⟩), .int .i64 (k : Int), .agg o.arr] w (WPost B N gW ps.length w) := by
  obtain ⟨kind, oa, ob, oc, ok, os, conf, z0, z1, z2, z3, z4, z5, z6, z7, ra, rm, rc⟩ := o
  simp only at ho
  subst ho
  have hxk := List.getElem?_eq_getElem hk
  generalize ps[k] = x at hxk
  have HB : Hid _ := h.base
  obtain ⟨gC, cC, gR, cR, l0, l1, l2, l3, hgW, hgC, hgR⟩ := h.look hxk
  have H : Hid _ := h
  have HXk : Hid _ := hxk
  clear h hxk
  generalize hn : ps.length = n at *
  show Calls Tryz.prog 13 #[.pointer (some ⟨gW, 0, none⟩), .int .i64 (k : Int), .agg #[.int .i64 6, .int .i64 oa, .int .i64 ob, .int .i64 oc, .int .i64 ok, .string os, .int .i64 conf.clients, .int .i64 conf.queue, .int .i64 conf.quantum, .int .i64 conf.room, .int .i64 conf.reps, .int .i16 z0, .int .i16 z1, .int .i16 z2, .int .i16 z3, .int .i16 z4, .int .i16 z5, .int .i16 z6, .int .i16 z7, .slice ra rm rc]] w _
  have k1 : (k : Int) < (n : Int) := by omega
  have k0 : (0 : Int) ≤ (k : Int) := by omega
  obtain ⟨W1, hW1⟩ : ∃ W1, W1 = w.alloc (.cells #[.int .i64 6, .int .i64 oa, .int .i64 ob, .int .i64 oc, .int .i64 ok, .string os, .int .i64 conf.clients, .int .i64 conf.queue, .int .i64 conf.quantum, .int .i64 conf.room, .int .i64 conf.reps, .int .i16 z0, .int .i16 z1, .int .i16 z2, .int .i16 z3, .int .i16 z4, .int .i16 z5, .int .i16 z6, .int .i16 z7, .slice ra rm rc] 38) := ⟨_, rfl⟩
  have HBw : Hid (Below w.heap.size w W1) := by rw [hW1]; exact (Below.refl _ _).alloc (Nat.le_refl _) _
  have HBx : Hid (W1.heap[w.heap.size]? = some (.cells #[.int .i64 6, .int .i64 oa, .int .i64 ob, .int .i64 oc, .int .i64 ok, .string os, .int .i64 conf.clients, .int .i64 conf.queue, .int .i64 conf.quantum, .int .i64 conf.room, .int .i64 conf.reps, .int .i16 z0, .int .i16 z1, .int .i16 z2, .int .i16 z3, .int .i16 z4, .int .i16 z5, .int .i16 z6, .int .i16 z7, .slice ra rm rc] 38)) := by rw [hW1]; exact heap_at rfl
  have HW1 : Hid (WldAt B N W1 gW ps lab) := H.out.below HBw.out
  have HP1 : Hid (PairAt B W1 lab k x) := HW1.out.pair k x HXk.out
  go_enter Tryz.func13, Tryz.ntmps13
  go_wp2_with fail
  rewrite [← hW1]
  refine (psend_any x.g x.F x.p x.s oa ob W1 HP1.out.seq HP1.out.sim).mono ?_
  rintro e w1 ⟨rfl, hP⟩
  have HP : Hid _ := hP
  have HK1 : Hid (Kept x.F W1 w1) := by obtain ⟨_, _, hk1, _⟩ := hP; exact hk1
  have HC1 : Hid (CluAt w1 x.gr x.Fr x.s) := HP1.out.other HK1.out
  have hbx : w1.heap[w.heap.size]? = _ := (HK1.out.block w.heap.size (heap_cells HBx.out).2.2 (fun hf => by have := (H.out.pair k x HXk.out).seq.own _ hf; omega)).trans HBx.out
  obtain ⟨b0, bf, bz⟩ := heap_cells hbx
  clear hP hbx l0 l1 l2 l3
  obtain ⟨er, her⟩ : ∃ y, (sendV x.s oa ob).2 = y := ⟨_, rfl⟩
  have HEr : Hid _ := her
  rewrite [her]
  clear her
  go_wp2_with fail
  refine (refsend_any x.gr x.Fr x.s oa ob w1 HC1.out).mono ?_
  rintro e w2 ⟨rfl, hR⟩
  rewrite [HEr.out]
  have HR : Hid _ := hR
  clear hR
  go_wp2_with fail
  refine (num_any er w2).mono ?_
  rintro e w3 ⟨rfl, hw3⟩
  obtain rfl := hw3.symm
  go_wp2
  go_ret
  obtain ⟨hW, hB⟩ := HW1.out.both HXk.out HP.out HR.out (both_send HP1.out.sim oa ob) (both_send HP1.out.sim oa ob).rest HP1.out.outs
  refine ⟨rfl, ?_, (HBw.out.mono HB.out).trans hB⟩
  rw [← hn]
  exact hW

set_option maxRecDepth 100000 in
set_option maxHeartbeats 4000000 in
theorem does_sync (B N : Nat) (gW : Nat) (ps : List Pair) (lab : Nat → Nat) (o : OpV) (k : Nat) (w : World) (h : WldAt B N w gW ps lab) (hk : k < ps.length) (ho : o.kind = 7) :
    Calls Tryz.prog 13 #[.pointer (some ⟨gW, 0, none⟩), .int .i64 (k : Int), .agg o.arr] w (WPost B N gW ps.length w) := by
  obtain ⟨kind, oa, ob, oc, ok, os, conf, z0, z1, z2, z3, z4, z5, z6, z7, ra, rm, rc⟩ := o
  simp only at ho
  subst ho
  have hxk := List.getElem?_eq_getElem hk
  generalize ps[k] = x at hxk
  have HB : Hid _ := h.base
  obtain ⟨gC, cC, gR, cR, l0, l1, l2, l3, hgW, hgC, hgR⟩ := h.look hxk
  have H : Hid _ := h
  have HXk : Hid _ := hxk
  clear h hxk
  generalize hn : ps.length = n at *
  show Calls Tryz.prog 13 #[.pointer (some ⟨gW, 0, none⟩), .int .i64 (k : Int), .agg #[.int .i64 7, .int .i64 oa, .int .i64 ob, .int .i64 oc, .int .i64 ok, .string os, .int .i64 conf.clients, .int .i64 conf.queue, .int .i64 conf.quantum, .int .i64 conf.room, .int .i64 conf.reps, .int .i16 z0, .int .i16 z1, .int .i16 z2, .int .i16 z3, .int .i16 z4, .int .i16 z5, .int .i16 z6, .int .i16 z7, .slice ra rm rc]] w _
  have k1 : (k : Int) < (n : Int) := by omega
  have k0 : (0 : Int) ≤ (k : Int) := by omega
  obtain ⟨W1, hW1⟩ : ∃ W1, W1 = w.alloc (.cells #[.int .i64 7, .int .i64 oa, .int .i64 ob, .int .i64 oc, .int .i64 ok, .string os, .int .i64 conf.clients, .int .i64 conf.queue, .int .i64 conf.quantum, .int .i64 conf.room, .int .i64 conf.reps, .int .i16 z0, .int .i16 z1, .int .i16 z2, .int .i16 z3, .int .i16 z4, .int .i16 z5, .int .i16 z6, .int .i16 z7, .slice ra rm rc] 38) := ⟨_, rfl⟩
  have HBw : Hid (Below w.heap.size w W1) := by rw [hW1]; exact (Below.refl _ _).alloc (Nat.le_refl _) _
  have HBx : Hid (W1.heap[w.heap.size]? = some (.cells #[.int .i64 7, .int .i64 oa, .int .i64 ob, .int .i64 oc, .int .i64 ok, .string os, .int .i64 conf.clients, .int .i64 conf.queue, .int .i64 conf.quantum, .int .i64 conf.room, .int .i64 conf.reps, .int .i16 z0, .int .i16 z1, .int .i16 z2, .int .i16 z3, .int .i16 z4, .int .i16 z5, .int .i16 z6, .int .i16 z7, .slice ra rm rc] 38)) := by rw [hW1]; exact heap_at rfl
  have HW1 : Hid (WldAt B N W1 gW ps lab) := H.out.below HBw.out
  have HP1 : Hid (PairAt B W1 lab k x) := HW1.out.pair k x HXk.out
  go_enter Tryz.func13, Tryz.ntmps13
  go_wp2_with fail
  rewrite [← hW1]
  refine (psync_any x.g x.F x.p x.s oa W1 HP1.out.seq HP1.out.sim).mono ?_
  rintro e w1 ⟨rfl, hP⟩
  have HP : Hid _ := hP
  have HK1 : Hid (Kept x.F W1 w1) := by obtain ⟨_, _, hk1, _⟩ := hP; exact hk1
  have HC1 : Hid (CluAt w1 x.gr x.Fr x.s) := HP1.out.other HK1.out
  have hbx : w1.heap[w.heap.size]? = _ := (HK1.out.block w.heap.size (heap_cells HBx.out).2.2 (fun hf => by have := (H.out.pair k x HXk.out).seq.own _ hf; omega)).trans HBx.out
  obtain ⟨b0, bf, bz⟩ := heap_cells hbx
  clear hP hbx l0 l1 l2 l3
  obtain ⟨er, her⟩ : ∃ y, (syncV x.s oa).2 = y := ⟨_, rfl⟩
  have HEr : Hid _ := her
  rewrite [her]
  clear her
  go_wp2_with fail
  refine (refsync_any x.gr x.Fr x.s oa w1 HC1.out).mono ?_
  rintro e w2 ⟨rfl, hR⟩
  rewrite [HEr.out]
  have HR : Hid _ := hR
  clear hR
  go_wp2_with fail
  refine (num_any er w2).mono ?_
  rintro e w3 ⟨rfl, hw3⟩
  obtain rfl := hw3.symm
  go_wp2
  go_ret
  obtain ⟨hW, hB⟩ := HW1.out.both HXk.out HP.out HR.out (both_sync HP1.out.sim oa) (both_sync HP1.out.sim oa).rest HP1.out.outs
  refine ⟨rfl, ?_, (HBw.out.mono HB.out).trans hB⟩
  rw [← hn]
  exact hW

set_option maxRecDepth 100000 in
set_option maxHeartbeats 4000000 in
theorem does_crash (B N : Nat) (gW : Nat) (ps : List Pair) (lab : Nat → Nat) (o : OpV) (k : Nat) (w : World) (h : WldAt B N w gW ps lab) (hk : k < ps.length) (ho : o.kind = 8) :
    Calls Tryz.prog 13 #[.pointer (some ⟨gW, 0, none⟩), .int .i64 (k : Int), .agg o.arr] w (WPost B N gW ps.length w) := by
  obtain ⟨kind, oa, ob, oc, ok, os, conf, z0, z1, z2, z3, z4, z5, z6, z7, ra, rm, rc⟩ := o
  simp only at ho
  subst ho
  have hxk := List.getElem?_eq_getElem hk
  generalize ps[k] = x at hxk
  have HB : Hid _ := h.base
  obtain ⟨gC, cC, gR, cR, l0, l1, l2, l3, hgW, hgC, hgR⟩ := h.look hxk
  have H : Hid _ := h
  have HXk : Hid _ := hxk
  clear h hxk
  generalize hn : ps.length = n at *
  show Calls Tryz.prog 13 #[.pointer (some ⟨gW, 0, none⟩), .int .i64 (k : Int), .agg #[.int .i64 8, .int .i64 oa, .int .i64 ob, .int .i64 oc, .int .i64 ok, .string os, .int .i64 conf.clients, .int .i64 conf.queue, .int .i64 conf.quantum, .int .i64 conf.room, .int .i64 conf.reps, .int .i16 z0, .int .i16 z1, .int .i16 z2, .int .i16 z3, .int .i16 z4, .int .i16 z5, .int .i16 z6, .int .i16 z7, .slice ra rm rc]] w _
  have k1 : (k : Int) < (n : Int) := by omega
  have k0 : (0 : Int) ≤ (k : Int) := by omega
  obtain ⟨W1, hW1⟩ : ∃ W1, W1 = w.alloc (.cells #[.int .i64 8, .int .i64 oa, .int .i64 ob, .int .i64 oc, .int .i64 ok, .string os, .int .i64 conf.clients, .int .i64 conf.queue, .int .i64 conf.quantum, .int .i64 conf.room, .int .i64 conf.reps, .int .i16 z0, .int .i16 z1, .int .i16 z2, .int .i16 z3, .int .i16 z4, .int .i16 z5, .int .i16 z6, .int .i16 z7, .slice ra rm rc] 38) := ⟨_, rfl⟩
  have HBw : Hid (Below w.heap.size w W1) := by rw [hW1]; exact (Below.refl _ _).alloc (Nat.le_refl _) _
  have HBx : Hid (W1.heap[w.heap.size]? = some (.cells #[.int .i64 8, .int .i64 oa, .int .i64 ob, .int .i64 oc, .int .i64 ok, .string os, .int .i64 conf.clients, .int .i64 conf.queue, .int .i64 conf.quantum, .int .i64 conf.room, .int .i64 conf.reps, .int .i16 z0, .int .i16 z1, .int .i16 z2, .int .i16 z3, .int .i16 z4, .int .i16 z5, .int .i16 z6, .int .i16 z7, .slice ra rm rc] 38)) := by rw [hW1]; exact heap_at rfl
  have HW1 : Hid (WldAt B N W1 gW ps lab) := H.out.below HBw.out
  have HP1 : Hid (PairAt B W1 lab k x) := HW1.out.pair k x HXk.out
  go_enter Tryz.func13, Tryz.ntmps13
  go_wp2_with fail
  rewrite [← hW1]
  refine (pcrash_any x.g x.F x.p x.s oa ob W1 HP1.out.seq HP1.out.sim).mono ?_
  rintro e w1 ⟨rfl, hP⟩
  have HP : Hid _ := hP
  have HK1 : Hid (Kept x.F W1 w1) := by obtain ⟨_, _, hk1, _⟩ := hP; exact hk1
  have HC1 : Hid (CluAt w1 x.gr x.Fr x.s) := HP1.out.other HK1.out
  have hbx : w1.heap[w.heap.size]? = _ := (HK1.out.block w.heap.size (heap_cells HBx.out).2.2 (fun hf => by have := (H.out.pair k x HXk.out).seq.own _ hf; omega)).trans HBx.out
  obtain ⟨b0, bf, bz⟩ := heap_cells hbx
  clear hP hbx l0 l1 l2 l3
  obtain ⟨er, her⟩ : ∃ y, (crashV x.s oa ob).2 = y := ⟨_, rfl⟩
  have HEr : Hid _ := her
  rewrite [her]
  clear her
  go_wp2_with fail
  refine (refcrash_any x.gr x.Fr x.s oa ob w1 HC1.out HP1.out.sim.rep).mono ?_
  rintro e w2 ⟨rfl, hR⟩
  rewrite [HEr.out]
  have HR : Hid _ := hR
  clear hR
  go_wp2_with fail
  refine (num_any er w2).mono ?_
  rintro e w3 ⟨rfl, hw3⟩
  obtain rfl := hw3.symm
  go_wp2
  go_ret
  obtain ⟨hW, hB⟩ := HW1.out.both HXk.out HP.out HR.out (both_crash HP1.out.sim oa ob) (both_crash HP1.out.sim oa ob).rest HP1.out.outs
  refine ⟨rfl, ?_, (HBw.out.mono HB.out).trans hB⟩
  rw [← hn]
  exact hW

end Go.Proofs.YtccckonckddadaaGreat
namespace Go.Proofs.YtccckonckddadaaGreat
open Go.RowKit
set_option linter.unusedVariables false

theorem does_send' (B N : Nat) (gW : Nat) (ps : List Pair) (lab : Nat → Nat) (oa ob oc ok : Int) (os : ByteArray) (x1 x2 x3 x4 x5 z0 z1 z2 z3 z4 z5 z6 z7 : Int) (ra : Option Addr) (rm rc : Nat) (k : Nat) (w : World) (h : WldAt B N w gW ps lab) (hk : k < ps.length) :
    Calls Tryz.prog 13 #[.pointer (some ⟨gW, 0, none⟩), .int .i64 (k : Int), .agg #[.int .i64 6, .int .i64 oa, .int .i64 ob, .int .i64 oc, .int .i64 ok, .string os, .int .i64 x1, .int .i64 x2, .int .i64 x3, .int .i64 x4, .int .i64 x5, .int .i16 z0, .int .i16 z1, .int .i16 z2, .int .i16 z3, .int .i16 z4, .int .i16 z5, .int .i16 z6, .int .i16 z7, .slice ra rm rc]] w (WPost B N gW ps.length w) :=
  does_send B N gW ps lab ⟨6, oa, ob, oc, ok, os, ⟨x1, x2, x3, x4, x5⟩, z0, z1, z2, z3, z4, z5, z6, z7, ra, rm, rc⟩ k w h hk rfl

set_option maxRecDepth 100000 in
set_option maxHeartbeats 8000000 in
theorem step_send (B N : Nat) (gW : Nat) (ps : List Pair) (lab : Nat → Nat) (oa ob oc ok : Int) (os : ByteArray) (x1 x2 x3 x4 x5 z0 z1 z2 z3 z4 z5 z6 z7 : Int) (ra : Option Addr) (rm rc : Nat) (w : World) (h : WldAt B N w gW ps lab) (hs : os.size ≤ maxLen) (hk0 : -9223372036854775808 ≤ ok) (hk1 : ok < 9223372036854775808) (hn : ps.length + 1 ≤ 10000000000000) (h0 : 0 < ps.length) :
    Calls Tryz.prog 5 #[.pointer (some ⟨gW, 0, none⟩), .agg #[.int .i64 6, .int .i64 oa, .int .i64 ob, .int .i64 oc, .int .i64 ok, .string os, .int .i64 x1, .int .i64 x2, .int .i64 x3, .int .i64 x4, .int .i64 x5, .int .i16 z0, .int .i16 z1, .int .i16 z2, .int .i16 z3, .int .i16 z4, .int .i16 z5, .int .i16 z6, .int .i16 z7, .slice ra rm rc]] w (NPost B N gW ps.length w) := by
  have HB : Hid _ := h.base
  have H : Hid _ := h
  clear h
  obtain ⟨W1, hW1⟩ : ∃ W1, W1 = w.alloc (.cells #[.int .i64 6, .int .i64 oa, .int .i64 ob, .int .i64 oc, .int .i64 ok, .string os, .int .i64 x1, .int .i64 x2, .int .i64 x3, .int .i64 x4, .int .i64 x5, .int .i16 z0, .int .i16 z1, .int .i16 z2, .int .i16 z3, .int .i16 z4, .int .i16 z5, .int .i16 z6, .int .i16 z7, .slice ra rm rc] 38) := ⟨_, rfl⟩
  have HBw : Hid (Below w.heap.size w W1) := by rw [hW1]; exact (Below.refl _ _).alloc (Nat.le_refl _) _
  have HBx : Hid (W1.heap[w.heap.size]? = some (.cells #[.int .i64 6, .int .i64 oa, .int .i64 ob, .int .i64 oc, .int .i64 ok, .string os, .int .i64 x1, .int .i64 x2, .int .i64 x3, .int .i64 x4, .int .i64 x5, .int .i16 z0, .int .i16 z1, .int .i16 z2, .int .i16 z3, .int .i16 z4, .int .i16 z5, .int .i16 z6, .int .i16 z7, .slice ra rm rc] 38)) := by rw [hW1]; exact heap_at rfl
  have HW1 : Hid (WldAt B N W1 gW ps lab) := H.out.below HBw.out
  obtain ⟨aC, cC, aR, cR, vH, m1, _⟩ := HW1.out.mem
  have hgW1 := (heap_cells m1).2.2
  have c0 : W1.cell? ⟨gW, 0, none⟩ = some (.slice aC ps.length cC) := by rw [(heap_cells m1).1]; rfl
  have hgW : gW < w.heap.size := by obtain ⟨_, _, _, _, _, q1, _⟩ := H.out.mem; exact (heap_cells q1).2.2
  have c0w : w.cell? ⟨gW, 0, none⟩ = some (.slice aC ps.length cC) := (HBw.out.cell (p := ⟨gW, 0, none⟩) hgW).symm.trans c0
  clear m1
  obtain ⟨n, hnn⟩ : ∃ n, ps.length = n := ⟨_, rfl⟩
  have HNn : Hid _ := hnn
  rw [hnn] at c0 c0w hn ⊢
  have hnb : ((n : Int) == 0) = false := by rw [beq_eq_false_iff_ne]; omega
  have hn0 : (0 : Int) < (n : Int) := by omega
  go_enter Tryz.func5, Tryz.ntmps5
  go_wp2
  rewrite [← hW1]
  clear c0w hW1
  obtain ⟨b0, bf, bz⟩ := heap_cells HBx.out
  have x4c : W1.cell? ⟨w.heap.size, 4, none⟩ = some (.int .i64 ok) := by rw [b0]; rfl
  clear b0 bf
  go_region_held3 (fun W => W.cell? ⟨gW, 0, none⟩ = some (.slice aC n cC) ∧ W.cell? ⟨w.heap.size, 4, none⟩ = some (.int .i64 ok))
    (first | (exact ⟨c0, x4c⟩))
    (first | (go_at_call 12; refine (lpick_any ok (n : Int) _ hk0 hk1 hn0 (by omega)).mono ?_; rintro e w1 ⟨r, rfl, hr0, hr1, rfl⟩))
  have HBd : Hid (Below w.heap.size w W1.drew) := HBw.out.drew
  have HWd : Hid (WldAt B N W1.drew gW ps lab) := HW1.out.below (Below.refl _ _).drew
  have HBy : Hid (W1.drew.heap[w.heap.size]? = some (.cells #[.int .i64 6, .int .i64 oa, .int .i64 ob, .int .i64 oc, .int .i64 ok, .string os, .int .i64 x1, .int .i64 x2, .int .i64 x3, .int .i64 x4, .int .i64 x5, .int .i16 z0, .int .i16 z1, .int .i16 z2, .int .i16 z3, .int .i16 z4, .int .i16 z5, .int .i16 z6, .int .i16 z7, .slice ra rm rc] 38)) := HBx.out
  generalize W1.drew = W2 at *
  clear HW1 HBx HBw c0 x4c bz
  obtain ⟨b0, bf, bz⟩ := heap_cells HBy.out
  have HRg : Hid (W2.rangeAt w.heap.size 0 [.int .i64 6, .int .i64 oa, .int .i64 ob, .int .i64 oc, .int .i64 ok, .string os, .int .i64 x1, .int .i64 x2, .int .i64 x3, .int .i64 x4, .int .i64 x5, .int .i16 z0, .int .i16 z1, .int .i16 z2, .int .i16 z3, .int .i16 z4, .int .i16 z5, .int .i16 z6, .int .i16 z7, .slice ra rm rc]) := fun j v hv => by rw [Nat.zero_add, b0, List.getElem?_toArray]; exact hv
  have y0 : W2.cell? ⟨w.heap.size, 0, none⟩ = some (.int .i64 6) := by rw [b0]; rfl
  clear b0 bf
  obtain ⟨k, hk⟩ : ∃ k : Nat, r = (k : Int) := ⟨r.toNat, by omega⟩
  subst hk
  have hkn : k < ps.length := by rw [HNn.out]; omega
  have HFin : Hid (∀ {e : Ending} {w' : World}, NPost B N gW ps.length W2 e w' → NPost B N gW n w e w') := fun hN => by
    obtain ⟨q1, ⟨ps', lab', q2, q3⟩, q4⟩ := hN
    exact ⟨q1, ⟨ps', lab', by rw [← HNn.out]; exact q2, q3⟩, (HBd.out.mono HB.out).trans q4⟩
  go_wp2_with (refine wpList_load_mid rfl 38 (.tmp 3) rfl w.heap.size 0 rfl [.int .i64 6, .int .i64 oa, .int .i64 ob, .int .i64 oc, .int .i64 ok, .string os, .int .i64 x1, .int .i64 x2, .int .i64 x3, .int .i64 x4, .int .i64 x5, .int .i16 z0, .int .i16 z1, .int .i16 z2, .int .i16 z3, .int .i16 z4, .int .i16 z5, .int .i16 z6, .int .i16 z7, .slice ra rm rc] _ HRg.out Tryz.underlying38 rfl info_opsize ?_)
  refine (does_send' B N gW ps lab oa ob oc ok os x1 x2 x3 x4 x5 z0 z1 z2 z3 z4 z5 z6 z7 ra rm rc k W2 HWd.out hkn).mono ?_
  rintro e w3 hP
  have hN := HFin.out (WPost.more hP)
  obtain ⟨rfl, hN2⟩ := hN
  have HP : Hid _ := hN2
  clear hP hN2
  go_wp2
  go_ret
  exact ⟨rfl, HP.out⟩

end Go.Proofs.YtccckonckddadaaGreat
namespace Go.Proofs.YtccckonckddadaaGreat
open Go.RowKit
set_option linter.unusedVariables false

theorem does_sync' (B N : Nat) (gW : Nat) (ps : List Pair) (lab : Nat → Nat) (oa ob oc ok : Int) (os : ByteArray) (x1 x2 x3 x4 x5 z0 z1 z2 z3 z4 z5 z6 z7 : Int) (ra : Option Addr) (rm rc : Nat) (k : Nat) (w : World) (h : WldAt B N w gW ps lab) (hk : k < ps.length) :
    Calls Tryz.prog 13 #[.pointer (some ⟨gW, 0, none⟩), .int .i64 (k : Int), .agg #[.int .i64 7, .int .i64 oa, .int .i64 ob, .int .i64 oc, .int .i64 ok, .string os, .int .i64 x1, .int .i64 x2, .int .i64 x3, .int .i64 x4, .int .i64 x5, .int .i16 z0, .int .i16 z1, .int .i16 z2, .int .i16 z3, .int .i16 z4, .int .i16 z5, .int .i16 z6, .int .i16 z7, .slice ra rm rc]] w (WPost B N gW ps.length w) :=
  does_sync B N gW ps lab ⟨7, oa, ob, oc, ok, os, ⟨x1, x2, x3, x4, x5⟩, z0, z1, z2, z3, z4, z5, z6, z7, ra, rm, rc⟩ k w h hk rfl

set_option maxRecDepth 100000 in
set_option maxHeartbeats 8000000 in
theorem step_sync (B N : Nat) (gW : Nat) (ps : List Pair) (lab : Nat → Nat) (oa ob oc ok : Int) (os : ByteArray) (x1 x2 x3 x4 x5 z0 z1 z2 z3 z4 z5 z6 z7 : Int) (ra : Option Addr) (rm rc : Nat) (w : World) (h : WldAt B N w gW ps lab) (hs : os.size ≤ maxLen) (hk0 : -9223372036854775808 ≤ ok) (hk1 : ok < 9223372036854775808) (hn : ps.length + 1 ≤ 10000000000000) (h0 : 0 < ps.length) :
    Calls Tryz.prog 5 #[.pointer (some ⟨gW, 0, none⟩), .agg #[.int .i64 7, .int .i64 oa, .int .i64 ob, .int .i64 oc, .int .i64 ok, .string os, .int .i64 x1, .int .i64 x2, .int .i64 x3, .int .i64 x4, .int .i64 x5, .int .i16 z0, .int .i16 z1, .int .i16 z2, .int .i16 z3, .int .i16 z4, .int .i16 z5, .int .i16 z6, .int .i16 z7, .slice ra rm rc]] w (NPost B N gW ps.length w) := by
  have HB : Hid _ := h.base
  have H : Hid _ := h
  clear h
  obtain ⟨W1, hW1⟩ : ∃ W1, W1 = w.alloc (.cells #[.int .i64 7, .int .i64 oa, .int .i64 ob, .int .i64 oc, .int .i64 ok, .string os, .int .i64 x1, .int .i64 x2, .int .i64 x3, .int .i64 x4, .int .i64 x5, .int .i16 z0, .int .i16 z1, .int .i16 z2, .int .i16 z3, .int .i16 z4, .int .i16 z5, .int .i16 z6, .int .i16 z7, .slice ra rm rc] 38) := ⟨_, rfl⟩
  have HBw : Hid (Below w.heap.size w W1) := by rw [hW1]; exact (Below.refl _ _).alloc (Nat.le_refl _) _
  have HBx : Hid (W1.heap[w.heap.size]? = some (.cells #[.int .i64 7, .int .i64 oa, .int .i64 ob, .int .i64 oc, .int .i64 ok, .string os, .int .i64 x1, .int .i64 x2, .int .i64 x3, .int .i64 x4, .int .i64 x5, .int .i16 z0, .int .i16 z1, .int .i16 z2, .int .i16 z3, .int .i16 z4, .int .i16 z5, .int .i16 z6, .int .i16 z7, .slice ra rm rc] 38)) := by rw [hW1]; exact heap_at rfl
  have HW1 : Hid (WldAt B N W1 gW ps lab) := H.out.below HBw.out
  obtain ⟨aC, cC, aR, cR, vH, m1, _⟩ := HW1.out.mem
  have hgW1 := (heap_cells m1).2.2
  have c0 : W1.cell? ⟨gW, 0, none⟩ = some (.slice aC ps.length cC) := by rw [(heap_cells m1).1]; rfl
  have hgW : gW < w.heap.size := by obtain ⟨_, _, _, _, _, q1, _⟩ := H.out.mem; exact (heap_cells q1).2.2
  have c0w : w.cell? ⟨gW, 0, none⟩ = some (.slice aC ps.length cC) := (HBw.out.cell (p := ⟨gW, 0, none⟩) hgW).symm.trans c0
  clear m1
  obtain ⟨n, hnn⟩ : ∃ n, ps.length = n := ⟨_, rfl⟩
  have HNn : Hid _ := hnn
  rw [hnn] at c0 c0w hn ⊢
  have hnb : ((n : Int) == 0) = false := by rw [beq_eq_false_iff_ne]; omega
  have hn0 : (0 : Int) < (n : Int) := by omega
  go_enter Tryz.func5, Tryz.ntmps5
  go_wp2
  rewrite [← hW1]
  clear c0w hW1
  obtain ⟨b0, bf, bz⟩ := heap_cells HBx.out
  have x4c : W1.cell? ⟨w.heap.size, 4, none⟩ = some (.int .i64 ok) := by rw [b0]; rfl
  clear b0 bf
  go_region_held3 (fun W => W.cell? ⟨gW, 0, none⟩ = some (.slice aC n cC) ∧ W.cell? ⟨w.heap.size, 4, none⟩ = some (.int .i64 ok))
    (first | (exact ⟨c0, x4c⟩))
    (first | (go_at_call 12; refine (lpick_any ok (n : Int) _ hk0 hk1 hn0 (by omega)).mono ?_; rintro e w1 ⟨r, rfl, hr0, hr1, rfl⟩))
  have HBd : Hid (Below w.heap.size w W1.drew) := HBw.out.drew
  have HWd : Hid (WldAt B N W1.drew gW ps lab) := HW1.out.below (Below.refl _ _).drew
  have HBy : Hid (W1.drew.heap[w.heap.size]? = some (.cells #[.int .i64 7, .int .i64 oa, .int .i64 ob, .int .i64 oc, .int .i64 ok, .string os, .int .i64 x1, .int .i64 x2, .int .i64 x3, .int .i64 x4, .int .i64 x5, .int .i16 z0, .int .i16 z1, .int .i16 z2, .int .i16 z3, .int .i16 z4, .int .i16 z5, .int .i16 z6, .int .i16 z7, .slice ra rm rc] 38)) := HBx.out
  generalize W1.drew = W2 at *
  clear HW1 HBx HBw c0 x4c bz
  obtain ⟨b0, bf, bz⟩ := heap_cells HBy.out
  have HRg : Hid (W2.rangeAt w.heap.size 0 [.int .i64 7, .int .i64 oa, .int .i64 ob, .int .i64 oc, .int .i64 ok, .string os, .int .i64 x1, .int .i64 x2, .int .i64 x3, .int .i64 x4, .int .i64 x5, .int .i16 z0, .int .i16 z1, .int .i16 z2, .int .i16 z3, .int .i16 z4, .int .i16 z5, .int .i16 z6, .int .i16 z7, .slice ra rm rc]) := fun j v hv => by rw [Nat.zero_add, b0, List.getElem?_toArray]; exact hv
  have y0 : W2.cell? ⟨w.heap.size, 0, none⟩ = some (.int .i64 7) := by rw [b0]; rfl
  clear b0 bf
  obtain ⟨k, hk⟩ : ∃ k : Nat, r = (k : Int) := ⟨r.toNat, by omega⟩
  subst hk
  have hkn : k < ps.length := by rw [HNn.out]; omega
  have HFin : Hid (∀ {e : Ending} {w' : World}, NPost B N gW ps.length W2 e w' → NPost B N gW n w e w') := fun hN => by
    obtain ⟨q1, ⟨ps', lab', q2, q3⟩, q4⟩ := hN
    exact ⟨q1, ⟨ps', lab', by rw [← HNn.out]; exact q2, q3⟩, (HBd.out.mono HB.out).trans q4⟩
  go_wp2_with (refine wpList_load_mid rfl 38 (.tmp 3) rfl w.heap.size 0 rfl [.int .i64 7, .int .i64 oa, .int .i64 ob, .int .i64 oc, .int .i64 ok, .string os, .int .i64 x1, .int .i64 x2, .int .i64 x3, .int .i64 x4, .int .i64 x5, .int .i16 z0, .int .i16 z1, .int .i16 z2, .int .i16 z3, .int .i16 z4, .int .i16 z5, .int .i16 z6, .int .i16 z7, .slice ra rm rc] _ HRg.out Tryz.underlying38 rfl info_opsize ?_)
  refine (does_sync' B N gW ps lab oa ob oc ok os x1 x2 x3 x4 x5 z0 z1 z2 z3 z4 z5 z6 z7 ra rm rc k W2 HWd.out hkn).mono ?_
  rintro e w3 hP
  have hN := HFin.out (WPost.more hP)
  obtain ⟨rfl, hN2⟩ := hN
  have HP : Hid _ := hN2
  clear hP hN2
  go_wp2
  go_ret
  exact ⟨rfl, HP.out⟩

end Go.Proofs.YtccckonckddadaaGreat
namespace Go.Proofs.YtccckonckddadaaGreat
open Go.RowKit
set_option linter.unusedVariables false

theorem does_crash' (B N : Nat) (gW : Nat) (ps : List Pair) (lab : Nat → Nat) (oa ob oc ok : Int) (os : ByteArray) (x1 x2 x3 x4 x5 z0 z1 z2 z3 z4 z5 z6 z7 : Int) (ra : Option Addr) (rm rc : Nat) (k : Nat) (w : World) (h : WldAt B N w gW ps lab) (hk : k < ps.length) :
    Calls Tryz.prog 13 #[.pointer (some ⟨gW, 0, none⟩), .int .i64 (k : Int), .agg #[.int .i64 8, .int .i64 oa, .int .i64 ob, .int .i64 oc, .int .i64 ok, .string os, .int .i64 x1, .int .i64 x2, .int .i64 x3, .int .i64 x4, .int .i64 x5, .int .i16 z0, .int .i16 z1, .int .i16 z2, .int .i16 z3, .int .i16 z4, .int .i16 z5, .int .i16 z6, .int .i16 z7, .slice ra rm rc]] w (WPost B N gW ps.length w) :=
  does_crash B N gW ps lab ⟨8, oa, ob, oc, ok, os, ⟨x1, x2, x3, x4, x5⟩, z0, z1, z2, z3, z4, z5, z6, z7, ra, rm, rc⟩ k w h hk rfl

set_option maxRecDepth 100000 in
set_option maxHeartbeats 8000000 in
theorem step_crash (B N : Nat) (gW : Nat) (ps : List Pair) (lab : Nat → Nat) (oa ob oc ok : Int) (os : ByteArray) (x1 x2 x3 x4 x5 z0 z1 z2 z3 z4 z5 z6 z7 : Int) (ra : Option Addr) (rm rc : Nat) (w : World) (h : WldAt B N w gW ps lab) (hs : os.size ≤ maxLen) (hk0 : -9223372036854775808 ≤ ok) (hk1 : ok < 9223372036854775808) (hn : ps.length + 1 ≤ 10000000000000) (h0 : 0 < ps.length) :
    Calls Tryz.prog 5 #[.pointer (some ⟨gW, 0, none⟩), .agg #[.int .i64 8, .int .i64 oa, .int .i64 ob, .int .i64 oc, .int .i64 ok, .string os, .int .i64 x1, .int .i64 x2, .int .i64 x3, .int .i64 x4, .int .i64 x5, .int .i16 z0, .int .i16 z1, .int .i16 z2, .int .i16 z3, .int .i16 z4, .int .i16 z5, .int .i16 z6, .int .i16 z7, .slice ra rm rc]] w (NPost B N gW ps.length w) := by
  have HB : Hid _ := h.base
  have H : Hid _ := h
  clear h
  obtain ⟨W1, hW1⟩ : ∃ W1, W1 = w.alloc (.cells #[.int .i64 8, .int .i64 oa, .int .i64 ob, .int .i64 oc, .int .i64 ok, .string os, .int .i64 x1, .int .i64 x2, .int .i64 x3, .int .i64 x4, .int .i64 x5, .int .i16 z0, .int .i16 z1, .int .i16 z2, .int .i16 z3, .int .i16 z4, .int .i16 z5, .int .i16 z6, .int .i16 z7, .slice ra rm rc] 38) := ⟨_, rfl⟩
  have HBw : Hid (Below w.heap.size w W1) := by rw [hW1]; exact (Below.refl _ _).alloc (Nat.le_refl _) _
  have HBx : Hid (W1.heap[w.heap.size]? = some (.cells #[.int .i64 8, .int .i64 oa, .int .i64 ob, .int .i64 oc, .int .i64 ok, .string os, .int .i64 x1, .int .i64 x2, .int .i64 x3, .int .i64 x4, .int .i64 x5, .int .i16 z0, .int .i16 z1, .int .i16 z2, .int .i16 z3, .int .i16 z4, .int .i16 z5, .int .i16 z6, .int .i16 z7, .slice ra rm rc] 38)) := by rw [hW1]; exact heap_at rfl
  have HW1 : Hid (WldAt B N W1 gW ps lab) := H.out.below HBw.out
  obtain ⟨aC, cC, aR, cR, vH, m1, _⟩ := HW1.out.mem
  have hgW1 := (heap_cells m1).2.2
  have c0 : W1.cell? ⟨gW, 0, none⟩ = some (.slice aC ps.length cC) := by rw [(heap_cells m1).1]; rfl
  have hgW : gW < w.heap.size := by obtain ⟨_, _, _, _, _, q1, _⟩ := H.out.mem; exact (heap_cells q1).2.2
  have c0w : w.cell? ⟨gW, 0, none⟩ = some (.slice aC ps.length cC) := (HBw.out.cell (p := ⟨gW, 0, none⟩) hgW).symm.trans c0
  clear m1
  obtain ⟨n, hnn⟩ : ∃ n, ps.length = n := ⟨_, rfl⟩
  have HNn : Hid _ := hnn
  rw [hnn] at c0 c0w hn ⊢
  have hnb : ((n : Int) == 0) = false := by rw [beq_eq_false_iff_ne]; omega
  have hn0 : (0 : Int) < (n : Int) := by omega
  go_enter Tryz.func5, Tryz.ntmps5
  go_wp2
  rewrite [← hW1]
  clear c0w hW1
  obtain ⟨b0, bf, bz⟩ := heap_cells HBx.out
  have x4c : W1.cell? ⟨w.heap.size, 4, none⟩ = some (.int .i64 ok) := by rw [b0]; rfl
  clear b0 bf
  go_region_held3 (fun W => W.cell? ⟨gW, 0, none⟩ = some (.slice aC n cC) ∧ W.cell? ⟨w.heap.size, 4, none⟩ = some (.int .i64 ok))
    (first | (exact ⟨c0, x4c⟩))
    (first | (go_at_call 12; refine (lpick_any ok (n : Int) _ hk0 hk1 hn0 (by omega)).mono ?_; rintro e w1 ⟨r, rfl, hr0, hr1, rfl⟩))
  have HBd : Hid (Below w.heap.size w W1.drew) := HBw.out.drew
  have HWd : Hid (WldAt B N W1.drew gW ps lab) := HW1.out.below (Below.refl _ _).drew
  have HBy : Hid (W1.drew.heap[w.heap.size]? = some (.cells #[.int .i64 8, .int .i64 oa, .int .i64 ob, .int .i64 oc, .int .i64 ok, .string os, .int .i64 x1, .int .i64 x2, .int .i64 x3, .int .i64 x4, .int .i64 x5, .int .i16 z0, .int .i16 z1, .int .i16 z2, .int .i16 z3, .int .i16 z4, .int .i16 z5, .int .i16 z6, .int .i16 z7, .slice ra rm rc] 38)) := HBx.out
  generalize W1.drew = W2 at *
  clear HW1 HBx HBw c0 x4c bz
  obtain ⟨b0, bf, bz⟩ := heap_cells HBy.out
  have HRg : Hid (W2.rangeAt w.heap.size 0 [.int .i64 8, .int .i64 oa, .int .i64 ob, .int .i64 oc, .int .i64 ok, .string os, .int .i64 x1, .int .i64 x2, .int .i64 x3, .int .i64 x4, .int .i64 x5, .int .i16 z0, .int .i16 z1, .int .i16 z2, .int .i16 z3, .int .i16 z4, .int .i16 z5, .int .i16 z6, .int .i16 z7, .slice ra rm rc]) := fun j v hv => by rw [Nat.zero_add, b0, List.getElem?_toArray]; exact hv
  have y0 : W2.cell? ⟨w.heap.size, 0, none⟩ = some (.int .i64 8) := by rw [b0]; rfl
  clear b0 bf
  obtain ⟨k, hk⟩ : ∃ k : Nat, r = (k : Int) := ⟨r.toNat, by omega⟩
  subst hk
  have hkn : k < ps.length := by rw [HNn.out]; omega
  have HFin : Hid (∀ {e : Ending} {w' : World}, NPost B N gW ps.length W2 e w' → NPost B N gW n w e w') := fun hN => by
    obtain ⟨q1, ⟨ps', lab', q2, q3⟩, q4⟩ := hN
    exact ⟨q1, ⟨ps', lab', by rw [← HNn.out]; exact q2, q3⟩, (HBd.out.mono HB.out).trans q4⟩
  go_wp2_with (refine wpList_load_mid rfl 38 (.tmp 3) rfl w.heap.size 0 rfl [.int .i64 8, .int .i64 oa, .int .i64 ob, .int .i64 oc, .int .i64 ok, .string os, .int .i64 x1, .int .i64 x2, .int .i64 x3, .int .i64 x4, .int .i64 x5, .int .i16 z0, .int .i16 z1, .int .i16 z2, .int .i16 z3, .int .i16 z4, .int .i16 z5, .int .i16 z6, .int .i16 z7, .slice ra rm rc] _ HRg.out Tryz.underlying38 rfl info_opsize ?_)
  refine (does_crash' B N gW ps lab oa ob oc ok os x1 x2 x3 x4 x5 z0 z1 z2 z3 z4 z5 z6 z7 ra rm rc k W2 HWd.out hkn).mono ?_
  rintro e w3 hP
  have hN := HFin.out (WPost.more hP)
  obtain ⟨rfl, hN2⟩ := hN
  have HP : Hid _ := hN2
  clear hP hN2
  go_wp2
  go_ret
  exact ⟨rfl, HP.out⟩

end Go.Proofs.YtccckonckddadaaGreat
