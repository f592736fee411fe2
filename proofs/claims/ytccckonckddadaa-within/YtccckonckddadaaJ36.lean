import Derived.Test.YtccckonckddadaaJ31
import Derived.Test.YtccckonckddadaaJ35
import Derived.Test.YtccckonckddadaaJ30
import Derived.Test.YtccckonckddadaaJ21
import Derived.Deep.RegionHeld3
namespace Go.Proofs.Ytccckonckddadaa
open Go.RowKit
set_option linter.unusedVariables false

/-! ### A cluster's replicas -/
def withR (p : SeqV) (l : List RepV) : SeqV := { p with reps := l }
theorem set_self {α : Type} {l : List α} {k : Nat} {x : α} (h : l[k]? = some x) : l.set k x = l := by
  obtain ⟨hlt, he⟩ := List.getElem?_eq_some_iff.1 h
  rw [← he, List.set_getElem_self]
theorem withR_self {p : SeqV} {l : List RepV} (h : p.reps = l) : withR p l = p := by subst h; rfl
theorem seq_rep {w : World} {g : Nat} {F : Nat → Prop} {p : SeqV} {gA : Nat} {qb : Nat → Option Nat} {aS : Option Addr} {cS : Nat} {lb : TailV} (m : SeqMem w g F p gA qb aS cS lb) {r : Nat} {x : RepV} (h : p.reps[r]? = some x) :
    RBox w lb.gR (prepsCells (p.reps.take r)) (prepsCells (p.reps.drop (r + 1))) x ∧ (prepsCells (p.reps.take r)).length = r * 11 := by
  have hlt := (List.getElem?_eq_some_iff.1 h).1
  refine ⟨?_, ?_⟩
  · unfold RBox
    rw [m.log.reps, preps_split h]
  · rw [preps_len (fun y hy => (m.log.rfit.2 y (List.mem_of_mem_take hy)).1), List.length_take, Nat.min_eq_left (by omega)]
theorem seq_rep_put {w w' : World} {g : Nat} {F : Nat → Prop} {p : SeqV} (h : SeqAt w g F p) {gA : Nat} {qb : Nat → Option Nat} {aS : Option Addr} {cS : Nat} {lb : TailV} (m : SeqMem w g F p gA qb aS cS lb) {r : Nat} {x : RepV} (hr : r < p.reps.length) (hx : RepOk x)
    (hP : RepPost lb.gR (prepsCells (p.reps.take r)) (prepsCells (p.reps.drop (r + 1))) x w w') : SeqPost g F (withR p (p.reps.set r x)) w w' := by
  obtain ⟨hB, hK⟩ := hP
  have hall : ∀ k, F k → k ≠ lb.gR → w'.heap[k]? = w.heap[k]? := fun k hk hne => hK.block k (h.own k hk) hne
  have hAc : ∀ y, w'.cell? ⟨gA, y, none⟩ = w.cell? ⟨gA, y, none⟩ := fun y => World.cell?_of_block (a := ⟨gA, y, none⟩) (hall gA m.aF.1 (fun e => m.log.rF.2.2.1 e.symm))
  refine ⟨F, ⟨⟨h.fit.n0, h.fit.n8, h.fit.qu, h.fit.qt, h.fit.ro, h.fit.first, h.fit.many, h.fit.cells, h.fit.long, h.fit.outs, h.fit.acc⟩, h.gF, fun k hk => Nat.lt_of_lt_of_le (h.own k hk) hK.size, gA, qb, aS, cS, lb, ?_, ⟨m.log.eplen, m.log.eplog, m.log.epfit, ?_, m.log.eF, ?_, m.log.rF, ?_⟩, ?_, ?_, m.aF, m.qF, m.qone, ?_, m.sF⟩, ⟨hK.os, hK.tape, hK.output, hK.size, fun k hk hF => hK.block k hk (fun e => hF (e ▸ m.log.rF.1))⟩, fun k hk => .inl hk⟩
  · rw [hall g h.gF (fun e => m.log.rF.2.1 e.symm), m.blk]
    unfold seqCells withR
    simp only [List.length_set]
  · exact own_same m.log.row (fun k hk => hall k (m.log.eF k hk).1 (m.log.eF k hk).2.2.2.1)
  · have h2 : w'.heap[lb.gR]? = _ := hB
    rw [h2]
    show _ = some (Obj.cells (prepsCells (p.reps.set r x)).toArray _)
    rw [preps_set hr]
  · refine ⟨?_, fun y hy => ?_⟩
    · show (p.reps.set r x).length ≤ 4
      rw [List.length_set]; exact m.log.rfit.1
    · rcases List.mem_or_eq_of_mem_set hy with hy | rfl
      · exact m.log.rfit.2 y hy
      · exact hx
  · obtain ⟨arr, hr⟩ := m.row
    exact ⟨arr, (hall gA m.aF.1 (fun e => m.log.rF.2.2.1 e.symm)).trans hr⟩
  · intro i a ha
    exact (m.acc i a ha).same (hAc _) (hAc _) (fun k hk => hall k (m.qF i k hk).1 (fun e => m.log.rF.2.2.2.2 i (e ▸ hk)))
  · exact own_same m.outs (fun k hk => hall k (m.sF k hk).1 (fun e => m.log.rF.2.2.2.1 (e ▸ hk)))

theorem seq_cell15 {w : World} {g : Nat} {F : Nat → Prop} {p : SeqV} {gA : Nat} {qb : Nat → Option Nat} {aS : Option Addr} {cS : Nat} {lb : TailV} (hf : SeqFit p) (m : SeqMem w g F p gA qb aS cS lb) : w.cell? ⟨g, 15, none⟩ = some (.slice (some ⟨lb.gR, 0, none⟩) p.reps.length p.reps.length) := by
  rw [(heap_cells m.blk).1, List.getElem?_toArray]
  obtain ⟨x0, x1, x2, x3, x4, x5, x6, x7, hx⟩ := list8' p.cells hf.cells
  unfold seqCells
  rw [hx]
  rfl

def hasV (n : Nat) (r : Int) : Bool := decide (0 ≤ r ∧ r < (n : Int))
theorem phas_any (g : Nat) (F : Nat → Prop) (p : SeqV) (r : Int) (w : World) (h : SeqAt w g F p) :
    Calls Try.prog 51 #[.pointer (some ⟨g, 0, none⟩), .int .i64 r] w fun e w' => e = .returned (.bool (hasV p.reps.length r)) ∧ w' = w := by
  have hg := h.block
  obtain ⟨gA, qb, aS, cS, lb, m⟩ := h.mem
  have c15 := seq_cell15 h.fit m
  clear m h
  generalize p.reps.length = n at *
  by_cases h0 : 0 ≤ r
  · by_cases h1 : r < (n : Int)
    · have HX : Hid (hasV n r = true) := decide_eq_true ⟨h0, h1⟩
      go_enter Try.func51, Try.ntmps51
      go_wp2
      go_ret
      exact ⟨by rw [HX.out]; rfl, rfl⟩
    · have HX : Hid (hasV n r = false) := decide_eq_false (by omega)
      go_enter Try.func51, Try.ntmps51
      go_wp2
      go_ret
      exact ⟨by rw [HX.out]; rfl, rfl⟩
  · have HX : Hid (hasV n r = false) := decide_eq_false (by omega)
    have h0' : r < 0 := by omega
    go_enter Try.func51, Try.ntmps51
    go_wp2
    go_ret
    exact ⟨by rw [HX.out]; rfl, rfl⟩

/-! ### What is asked of the plain states -/
structure Both (p : SeqV) (s : CluV) : Prop where
  sim : Sim p s
  rsim : RSim p s
  fit : CluFit s
  rest : Rest s
  rep : RepFit s
theorem Both.rlen {p : SeqV} {s : CluV} (h : Both p s) : (p.reps.length : Int) = s.conf.reps := by
  have := conf_reps h.fit.conf
  rw [h.rsim, reps_len h.fit]; omega
theorem Both.rat {p : SeqV} {s : CluV} (h : Both p s) {k : Nat} (hk : (k : Int) ≤ s.conf.reps - 1) : p.reps[k]? = some (repOf s (s.reps.getD k (0, 0))) := by rw [h.rsim]; exact reps_at h.fit hk
theorem doneRecs_len8 : ∀ (rs : List RecV) {cs : List Int}, cs.length = 8 → (doneRecs cs rs).length = 8
  | [], cs, h => h
  | r :: rs, cs, h => by
    show (doneRecs (doneRec cs r) rs).length = 8
    refine doneRecs_len8 rs ?_
    unfold doneRec
    split
    · exact h
    · exact doV_len _ h
theorem doneEps_len8 : ∀ (es : List (List RecV)) {cs : List Int}, cs.length = 8 → (doneEps cs es).length = 8
  | [], cs, h => h
  | e :: es, cs, h => doneEps_len8 es (doneRecs_len8 e h)
theorem repOf_ok {s : CluV} (hf : CluFit s) {x : Int × Int} (hx : 0 ≤ x.2 ∧ x.2 ≤ x.1 ∧ x.1 ≤ (s.epochs.length : Int)) : RepOk (repOf s x) ∧ (repOf s x).safe ≤ (repOf s x).disk.size := by
  have hm := hf.many
  have h1 := logV_le s hf x.1.toNat (by omega)
  have h2 := logV_mono s x.2.toNat (x.1.toNat - x.2.toNat) (by omega)
  rw [show x.2.toNat + (x.1.toNat - x.2.toNat) = x.1.toNat from by omega] at h2
  have hs : (repOf s x).disk.size = (logV s x.1.toNat).length := by
    have := bytesOf_list (logV s x.1.toNat)
    rw [← len_list]
    exact congrArg List.length this
  refine ⟨⟨doneEps_len8 _ rfl, by rw [hs]; omega, ?_, ?_⟩, ?_⟩
  · show (logV s x.2.toNat).length ≤ 2000000
    omega
  · show x.1.toNat ≤ 200
    omega
  · rw [hs]; exact h2
theorem didEps_done {s : CluV} (hf : CluFit s) (n : Nat) (cs : List Int) : didEps cs (s.epochs.take n) = doneEps cs (s.epochs.take n) := by
  have h : ∀ (es : List (List RecV)) (cs : List Int), (∀ e ∈ es, (recs e).all Dk.recOk = true) → didEps cs es = doneEps cs es := by
    intro es
    induction es with
    | nil => intro cs _; rfl
    | cons e es ih =>
      intro cs h
      show didEps (didRecs cs e) es = doneEps (doneRecs cs e) es
      rw [didRecs_done e cs (h e (by simp)), ih _ (fun x hx => h x (by simp [hx]))]
  exact h _ _ (fun e he => (hf.ep e (List.mem_of_mem_take he)).2)

/-- What Send makes of a replica. -/
theorem take_is {s : CluV} (hf : CluFit s) {x : Int × Int} (hx : 0 ≤ x.2 ∧ x.2 ≤ x.1 ∧ x.1 ≤ (s.epochs.length : Int)) {n : Nat} (hn : n < s.epochs.length) {b : ByteArray} (hb : b.data.toList = Dk.epoch n (recs s.epochs[n])) :
    takeV (repOf s x) n b s.epochs[n] = if (n : Int) < x.1 then (repOf s x, 12) else if x.1 < (n : Int) then (repOf s x, 13) else (repOf s (n + 1, x.2), 0) := by
  unfold takeV
  obtain ⟨x1, x2⟩ := x
  obtain ⟨c, rfl⟩ : ∃ c : Nat, x1 = c := ⟨x1.toNat, by simp only at hx; omega⟩
  have hcc : (repOf s ((c : Int), x2)).count = c := Int.toNat_natCast c
  rw [hcc]
  simp only at hx ⊢
  by_cases h1 : n < c
  · rw [if_pos h1, if_pos (by omega)]
  · by_cases h2 : c < n
    · rw [if_neg h1, if_pos h2, if_neg (show ¬ (n : Int) < (c : Int) by omega), if_pos (show (c : Int) < (n : Int) by omega)]
    · rw [if_neg h1, if_neg h2, if_neg (show ¬ (n : Int) < (c : Int) by omega), if_neg (show ¬ (c : Int) < (n : Int) by omega)]
      have hcn : c = n := by omega
      subst hcn
      congr 1
      unfold repOf
      simp only [Int.toNat_natCast]
      rw [show ((c : Int) + 1).toNat = c + 1 from by omega]
      congr 1
      · refine bytes_eq ?_
        rw [app_list, bytesOf_list, bytesOf_list, hb, log_snoc (List.getElem?_eq_getElem hn)]
      · rw [List.take_succ_eq_append_getElem hn, doneEps_snoc, didRecs_done _ _ (hf.ep _ (List.getElem_mem hn)).2]

set_option maxRecDepth 100000 in
set_option maxHeartbeats 4000000 in
theorem psend_any (g : Nat) (F : Nat → Prop) (p : SeqV) (s : CluV) (r n : Int) (w : World) (h : SeqAt w g F p) (hB : Both p s) :
    Calls Try.prog 56 #[.pointer (some ⟨g, 0, none⟩), .int .i64 r, .int .i64 n] w fun e w' => e = .returned (.int .i64 (sendV s r n).2) ∧ SeqPost g F (withR p (repsOf (sendV s r n).1)) w w' := by
  have hg := h.block
  have H : Hid _ := h
  have HB : Hid _ := hB
  have hrl := hB.rlen
  have hrc := conf_reps hB.fit.conf
  have HV : Hid (sendV s r n = if ¬ (0 ≤ r ∧ r ≤ s.conf.reps - 1) then (s, 11) else if ¬ (0 ≤ n ∧ n ≤ (s.epochs.length : Int) - 1) then (s, 10) else if n < (s.reps.getD r.toNat (0, 0)).1 then (s, 12) else if (s.reps.getD r.toNat (0, 0)).1 < n then (s, 13) else (repV s r.toNat (n + 1, (s.reps.getD r.toNat (0, 0)).2), 0)) := rfl
  obtain ⟨gA, qb, aS, cS, lb, m⟩ := h.mem
  have c15 := seq_cell15 h.fit m
  have HM : Hid _ := m
  clear h hB m
  obtain ⟨nr, hnr⟩ : ∃ x, p.reps.length = x := ⟨_, rfl⟩
  have HNr : Hid (p.reps.length = nr) := hnr
  rw [hnr] at c15 hrl
  clear hnr
  go_enter Try.func56, Try.ntmps56
  go_wp2_with fail
  refine (phas_any g F p r w H.out).mono ?_
  rintro e w1 ⟨rfl, hw1⟩
  obtain rfl := hw1.symm
  rewrite [HNr.out]
  by_cases h0 : 0 ≤ r ∧ r < (nr : Int)
  rotate_left
  · have HX : Hid (sendV s r n = (s, 11)) := by show _ = _; rw [HV.out, if_pos (by omega)]
    have hd : hasV nr r = false := decide_eq_false h0
    rewrite [hd]
    clear hd
    go_wp2
    go_ret
    rw [HX.out]
    exact ⟨rfl, by rw [withR_self HB.out.rsim]; exact SeqPost.same H.out (Below.refl _ _)⟩
  have hd : hasV nr r = true := decide_eq_true h0
  rewrite [hd]
  clear hd
  obtain ⟨rn, rfl⟩ : ∃ k : Nat, r = k := ⟨r.toNat, by omega⟩
  obtain ⟨h0a, h0b⟩ := h0
  rw [if_neg (show ¬ ¬ (0 ≤ (rn : Int) ∧ (rn : Int) ≤ s.conf.reps - 1) by omega), Int.toNat_natCast] at HV
  have HAt : Hid _ := HB.out.rat (k := rn) (by omega)
  have HRf : Hid _ := rep_fit HB.out.rep rn
  generalize hxx : s.reps.getD rn (0, 0) = x at *
  have HOk : Hid _ := repOf_ok HB.out.fit HRf.out
  obtain ⟨hbx, hpl⟩ := seq_rep HM.out HAt.out
  have HBx : Hid _ := hbx
  have HPl : Hid _ := hpl
  clear hbx hpl
  go_wp2_with fail
  refine (sepoch_any g F p n w H.out).mono ?_
  rintro e w1 ⟨rfl, hw1⟩
  obtain rfl := hw1.symm
  have hel : p.eps.length = s.epochs.length := by
    have h1 := congrArg List.length HB.out.sim.log.2
    rw [List.length_map, epsL, List.length_mapIdx] at h1
    exact h1
  obtain ⟨b, hbe⟩ : ∃ b, epochOf p.eps n = b := ⟨_, rfl⟩
  have hb : (¬ (0 ≤ n ∧ n < (s.epochs.length : Int)) ∧ b = ⟨#[]⟩) ∨ (0 ≤ n ∧ p.eps[n.toNat]? = some b) := by
    unfold epochOf at hbe
    rw [hel] at hbe
    split at hbe
    · rename_i hc
      refine .inr ⟨hc.1, ?_⟩
      rw [List.getD_eq_getElem?_getD, List.getElem?_eq_getElem (by omega)] at hbe
      rw [List.getElem?_eq_getElem (by omega), ← hbe]; rfl
    · rename_i hc
      exact .inl ⟨hc, hbe.symm⟩
  rewrite [hbe]
  clear hbe
  rcases hb with ⟨h1, rfl⟩ | ⟨h1, hb⟩
  · have HX : Hid (sendV s (rn : Int) n = (s, 10)) := by show _ = _; rw [HV.out, if_pos (by omega)]
    go_wp2_with fail
    have ht := rtake_no lb.gR (prepsCells (p.reps.take rn)) (prepsCells (p.reps.drop (rn + 1))) (repOf s x) n w HBx.out
    rw [HPl.out] at ht
    refine ht.mono ?_
    rintro e w2 ⟨rfl, hP⟩
    have HP : Hid _ := seq_rep_put H.out HM.out (r := rn) (by rw [HNr.out]; omega) HOk.out.1 hP
    clear hP ht
    go_wp2
    go_ret
    rw [HX.out]
    refine ⟨rfl, ?_⟩
    have := HP.out
    rw [set_self HAt.out, withR_self rfl] at this
    rw [withR_self HB.out.rsim]
    exact this
  · obtain ⟨nn, rfl⟩ : ∃ k : Nat, n = k := ⟨n.toNat, by omega⟩
    rw [Int.toNat_natCast] at hb
    have hnn : nn < s.epochs.length := by rw [← hel]; exact (List.getElem?_eq_some_iff.1 hb).1
    have hm := HB.out.fit.many
    obtain ⟨b2, hb2, hbd⟩ := eps_at HB.out.sim hnn
    rw [hb] at hb2
    obtain rfl := Option.some.inj hb2
    have hfr := frame_ep HB.out.fit hnn
    have hbs : b.size ≤ 4232 := (HM.out.log.epfit b (List.mem_of_getElem? hb)).2
    have ht := rtake_any lb.gR (prepsCells (p.reps.take rn)) (prepsCells (p.reps.drop (rn + 1))) (repOf s x).disk (repOf s x).safe (repOf s x).count (repOf s x).cells nn b s.epochs[nn] w HBx.out HOk.out.1.1 HOk.out.1.2.2.2 (by omega) HOk.out.1.2.1 hbs hbd hfr
    have hti := take_is HB.out.fit HRf.out hnn hbd
    have HT : Hid (takeV (repOf s x) nn b s.epochs[nn] = ((if (sendV s (rn : Int) (nn : Int)).2 = 0 then repOf s ((nn : Int) + 1, x.2) else repOf s x), (sendV s (rn : Int) (nn : Int)).2) ∧ repsOf (sendV s (rn : Int) (nn : Int)).1 = p.reps.set rn (if (sendV s (rn : Int) (nn : Int)).2 = 0 then repOf s ((nn : Int) + 1, x.2) else repOf s x)) := by
      have HV2 : sendV s (rn : Int) (nn : Int) = if (nn : Int) < x.1 then (s, 12) else if x.1 < (nn : Int) then (s, 13) else (repV s rn ((nn : Int) + 1, x.2), 0) := by
        rw [HV.out, if_neg (show ¬ ¬ (0 ≤ (nn : Int) ∧ (nn : Int) ≤ (s.epochs.length : Int) - 1) by omega)]
      have hself : repsOf s = p.reps.set rn (repOf s x) := by rw [set_self HAt.out, HB.out.rsim]
      rw [hti, HV2]
      by_cases c1 : (nn : Int) < x.1
      · simp only [if_pos c1]
        exact ⟨rfl, hself⟩
      by_cases c2 : x.1 < (nn : Int)
      · simp only [if_neg c1, if_pos c2]
        exact ⟨rfl, hself⟩
      · simp only [if_neg c1, if_neg c2]
        refine ⟨rfl, ?_⟩
        rw [HB.out.rsim]
        exact reps_put rn _
    have hk2 : RepOk (if (sendV s (rn : Int) (nn : Int)).2 = 0 then repOf s ((nn : Int) + 1, x.2) else repOf s x) := by
      split
      · rename_i hz
        refine (repOf_ok HB.out.fit (x := ((nn : Int) + 1, x.2)) ⟨HRf.out.1, ?_, by show (nn : Int) + 1 ≤ _; omega⟩).1
        show x.2 ≤ (nn : Int) + 1
        have hz' := hz
        rw [HV.out, if_neg (show ¬ ¬ (0 ≤ (nn : Int) ∧ (nn : Int) ≤ (s.epochs.length : Int) - 1) by omega)] at hz'
        have hrf := HRf.out
        by_cases c1 : (nn : Int) < x.1
        · rw [if_pos c1] at hz'
          exact absurd (show (12 : Int) = 0 from hz') (by decide)
        · omega
      · exact HOk.out.1
    rw [HPl.out] at ht
    go_wp2_with fail
    refine ht.mono ?_
    rintro e w2 ⟨rfl, hP⟩
    have e2 : (takeV (repOf s x) nn b s.epochs[nn]).2 = (sendV s (rn : Int) (nn : Int)).2 := by rw [HT.out.1]
    have e1 : (takeV (repOf s x) nn b s.epochs[nn]).1 = _ := congrArg Prod.fst HT.out.1
    have hP' : RepPost lb.gR (prepsCells (p.reps.take rn)) (prepsCells (p.reps.drop (rn + 1))) (takeV (repOf s x) nn b s.epochs[nn]).1 w w2 := hP
    rw [e1] at hP'
    have HP : Hid _ := seq_rep_put H.out HM.out (r := rn) (by rw [HNr.out]; omega) hk2 hP'
    have e3 : (takeV ⟨(repOf s x).disk, (repOf s x).safe, (repOf s x).count, (repOf s x).cells⟩ nn b s.epochs[nn]).2 = (sendV s (rn : Int) (nn : Int)).2 := e2
    rw [e3]
    clear hP hP' ht hti e1 e2 e3 hk2
    go_wp2
    go_ret
    exact ⟨rfl, by rw [HT.out.2]; exact HP.out⟩

end Go.Proofs.Ytccckonckddadaa
namespace Go.Proofs.Ytccckonckddadaa
open Go.RowKit
set_option linter.unusedVariables false

set_option maxRecDepth 100000 in
set_option maxHeartbeats 4000000 in
theorem psync_any (g : Nat) (F : Nat → Prop) (p : SeqV) (s : CluV) (r : Int) (w : World) (h : SeqAt w g F p) (hB : Both p s) :
    Calls Try.prog 31 #[.pointer (some ⟨g, 0, none⟩), .int .i64 r] w fun e w' => e = .returned (.int .i64 (syncV s r).2) ∧ SeqPost g F (withR p (repsOf (syncV s r).1)) w w' := by
  have HV : Hid (syncV s r = if ¬ (0 ≤ r ∧ r ≤ s.conf.reps - 1) then (s, 11) else (repV s r.toNat ((s.reps.getD r.toNat (0, 0)).1, (s.reps.getD r.toNat (0, 0)).1), 0)) := rfl
  have hg := h.block
  have H : Hid _ := h
  have HB : Hid _ := hB
  have hrl := hB.rlen
  have hrc := conf_reps hB.fit.conf
  obtain ⟨gA, qb, aS, cS, lb, m⟩ := h.mem
  have c15 := seq_cell15 h.fit m
  have HM : Hid _ := m
  clear h hB m
  obtain ⟨nr, hnr⟩ : ∃ x, p.reps.length = x := ⟨_, rfl⟩
  have HNr : Hid (p.reps.length = nr) := hnr
  rw [hnr] at c15 hrl
  clear hnr
  go_enter Try.func31, Try.ntmps31
  go_wp2_with fail
  refine (phas_any g F p r w H.out).mono ?_
  rintro e w1 ⟨rfl, hw1⟩
  obtain rfl := hw1.symm
  rewrite [HNr.out]
  by_cases h0 : 0 ≤ r ∧ r < (nr : Int)
  rotate_left
  · have HX : Hid (syncV s r = (s, 11)) := by show _ = _; rw [HV.out, if_pos (by omega)]
    have hd : hasV nr r = false := decide_eq_false h0
    rewrite [hd]
    clear hd
    go_wp2
    go_ret
    rw [HX.out]
    exact ⟨rfl, by rw [withR_self HB.out.rsim]; exact SeqPost.same H.out (Below.refl _ _)⟩
  have hd : hasV nr r = true := decide_eq_true h0
  rewrite [hd]
  clear hd
  obtain ⟨rn, rfl⟩ : ∃ k : Nat, r = k := ⟨r.toNat, by omega⟩
  obtain ⟨h0a, h0b⟩ := h0
  rw [if_neg (show ¬ ¬ (0 ≤ (rn : Int) ∧ (rn : Int) ≤ s.conf.reps - 1) by omega), Int.toNat_natCast] at HV
  have HAt : Hid _ := HB.out.rat (k := rn) (by omega)
  have HRf : Hid _ := rep_fit HB.out.rep rn
  generalize hxx : s.reps.getD rn (0, 0) = x at *
  have HOk : Hid _ := repOf_ok HB.out.fit HRf.out
  obtain ⟨hbx, hpl⟩ := seq_rep HM.out HAt.out
  have HBx : Hid _ := hbx
  have HPl : Hid _ := hpl
  clear hbx hpl
  have hsy := rsync_any lb.gR (prepsCells (p.reps.take rn)) (prepsCells (p.reps.drop (rn + 1))) (repOf s x).disk (repOf s x).safe (repOf s x).count (repOf s x).cells w HBx.out HOk.out.1.1
  rw [HPl.out] at hsy
  go_wp2_with fail
  refine hsy.mono ?_
  rintro e w2 ⟨rfl, hP⟩
  have hsz : (repOf s x).disk.size = (logV s x.1.toNat).length := by
    have h1 := congrArg List.length (bytesOf_list (logV s x.1.toNat))
    rw [← len_list]
    exact h1
  have hP' : RepPost lb.gR (prepsCells (p.reps.take rn)) (prepsCells (p.reps.drop (rn + 1))) (repOf s (x.1, x.1)) w w2 := by
    rw [hsz] at hP
    exact hP
  have HP : Hid _ := seq_rep_put H.out HM.out (r := rn) (by rw [HNr.out]; omega) (repOf_ok HB.out.fit (x := (x.1, x.1)) ⟨by have := HRf.out; show 0 ≤ x.1; omega, Int.le_refl _, HRf.out.2.2⟩).1 hP'
  clear hP hP' hsy hsz
  go_wp2
  go_ret
  rw [HV.out]
  refine ⟨rfl, ?_⟩
  show SeqPost g F (withR p (repsOf (repV s rn (x.1, x.1)))) w w2
  rw [reps_put, ← HB.out.rsim]
  exact HP.out

set_option maxRecDepth 100000 in
set_option maxHeartbeats 4000000 in
theorem pcrash_any (g : Nat) (F : Nat → Prop) (p : SeqV) (s : CluV) (r keep : Int) (w : World) (h : SeqAt w g F p) (hB : Both p s) :
    Calls Try.prog 33 #[.pointer (some ⟨g, 0, none⟩), .int .i64 r, .int .i64 keep] w fun e w' => e = .returned (.int .i64 (crashV s r keep).2) ∧ SeqPost g F (withR p (repsOf (crashV s r keep).1)) w w' := by
  have HV : Hid (crashV s r keep = if ¬ (0 ≤ r ∧ r ≤ s.conf.reps - 1) then (s, 11) else (repV s r.toNat (crashN s (s.reps.getD r.toNat (0, 0)) keep, crashN s (s.reps.getD r.toNat (0, 0)) keep), 0)) := rfl
  have hg := h.block
  have H : Hid _ := h
  have HB : Hid _ := hB
  have hrl := hB.rlen
  have hrc := conf_reps hB.fit.conf
  obtain ⟨gA, qb, aS, cS, lb, m⟩ := h.mem
  have c15 := seq_cell15 h.fit m
  have HM : Hid _ := m
  clear h hB m
  obtain ⟨nr, hnr⟩ : ∃ x, p.reps.length = x := ⟨_, rfl⟩
  have HNr : Hid (p.reps.length = nr) := hnr
  rw [hnr] at c15 hrl
  clear hnr
  go_enter Try.func33, Try.ntmps33
  go_wp2_with fail
  refine (phas_any g F p r w H.out).mono ?_
  rintro e w1 ⟨rfl, hw1⟩
  obtain rfl := hw1.symm
  rewrite [HNr.out]
  by_cases h0 : 0 ≤ r ∧ r < (nr : Int)
  rotate_left
  · have HX : Hid (crashV s r keep = (s, 11)) := by show _ = _; rw [HV.out, if_pos (by omega)]
    have hd : hasV nr r = false := decide_eq_false h0
    rewrite [hd]
    clear hd
    go_wp2
    go_ret
    rw [HX.out]
    exact ⟨rfl, by rw [withR_self HB.out.rsim]; exact SeqPost.same H.out (Below.refl _ _)⟩
  have hd : hasV nr r = true := decide_eq_true h0
  rewrite [hd]
  clear hd
  obtain ⟨rn, rfl⟩ : ∃ k : Nat, r = k := ⟨r.toNat, by omega⟩
  obtain ⟨h0a, h0b⟩ := h0
  rw [if_neg (show ¬ ¬ (0 ≤ (rn : Int) ∧ (rn : Int) ≤ s.conf.reps - 1) by omega), Int.toNat_natCast] at HV
  have HAt : Hid _ := HB.out.rat (k := rn) (by omega)
  have HRf : Hid _ := rep_fit HB.out.rep rn
  generalize hxx : s.reps.getD rn (0, 0) = x at *
  have HOk : Hid _ := repOf_ok HB.out.fit HRf.out
  obtain ⟨hbx, hpl⟩ := seq_rep HM.out HAt.out
  have HBx : Hid _ := hbx
  have HPl : Hid _ := hpl
  clear hbx hpl
  have hsz : (repOf s x).disk.size = (logV s x.1.toNat).length := by
    have h1 := congrArg List.length (bytesOf_list (logV s x.1.toNat))
    rw [← len_list]
    exact h1
  obtain ⟨rr, hsp, hrd⟩ := crash_split HB.out.fit HRf.out keep
  obtain ⟨K, hK⟩ : ∃ K, crashN s x keep = K := ⟨_, rfl⟩
  have hKl : K ≤ s.epochs.length := by
    have h1 := crashGo_le s x.2.toNat keep (x.1.toNat - x.2.toNat) x.2.toNat
    have h2 := HRf.out
    unfold crashN at hK
    omega
  rw [hK] at hsp hrd HV
  have hm := HB.out.fit.many
  have htl : (s.epochs.take K).length = K := by rw [List.length_take]; omega
  have hcr := rcrash_any lb.gR (prepsCells (p.reps.take rn)) (prepsCells (p.reps.drop (rn + 1))) (repOf s x).disk (repOf s x).safe (repOf s x).count (repOf s x).cells keep (s.epochs.take K) rr w HBx.out HOk.out.1.1 HOk.out.1.2.1 HOk.out.2 (by
    rw [hsz]
    show (bytesOf (logV s x.1.toNat)).data.toList.take _ = _
    rw [bytesOf_list]
    exact hsp) (sound_eps0 HB.out.fit K) (by rw [htl]; omega) (by rw [htl]; exact hrd)
  rw [htl, didEps_done HB.out.fit K] at hcr
  rw [HPl.out] at hcr
  go_wp2_with fail
  refine hcr.mono ?_
  rintro e w2 ⟨rfl, hP⟩
  have hP' : RepPost lb.gR (prepsCells (p.reps.take rn)) (prepsCells (p.reps.drop (rn + 1))) (repOf s ((K : Int), (K : Int))) w w2 := by
    unfold repOf
    simp only [Int.toNat_natCast]
    exact hP
  have HP : Hid _ := seq_rep_put H.out HM.out (r := rn) (by rw [HNr.out]; omega) (repOf_ok HB.out.fit (x := ((K : Int), (K : Int))) ⟨by show (0 : Int) ≤ (K : Int); omega, Int.le_refl _, by show (K : Int) ≤ _; omega⟩).1 hP'
  clear hP hP' hcr hsz hsp hrd
  go_wp2
  go_ret
  rw [HV.out]
  refine ⟨rfl, ?_⟩
  show SeqPost g F (withR p (repsOf (repV s rn ((K : Int), (K : Int))))) w w2
  rw [reps_put, ← HB.out.rsim]
  exact HP.out

end Go.Proofs.Ytccckonckddadaa
namespace Go.Proofs.Ytccckonckddadaa
open Go.RowKit
set_option linter.unusedVariables false

set_option maxRecDepth 100000 in
set_option maxHeartbeats 4000000 in
theorem pdisk_any (g : Nat) (F : Nat → Prop) (p : SeqV) (s : CluV) (r : Int) (w : World) (h : SeqAt w g F p) (hB : Both p s) :
    Calls Try.prog 28 #[.pointer (some ⟨g, 0, none⟩), .int .i64 r] w fun e w' => e = .returned (.tuple #[.string (bytesOf (diskV s r).1), .int .i64 (diskV s r).2]) ∧ Below w.heap.size w w' := by
  have HV : Hid (diskV s r = if ¬ (0 ≤ r ∧ r ≤ s.conf.reps - 1) then ([], 11) else (logV s (s.reps.getD r.toNat (0, 0)).1.toNat, 0)) := rfl
  have hg := h.block
  have H : Hid _ := h
  have HB : Hid _ := hB
  have hrl := hB.rlen
  have hrc := conf_reps hB.fit.conf
  obtain ⟨gA, qb, aS, cS, lb, m⟩ := h.mem
  have c15 := seq_cell15 h.fit m
  have HM : Hid _ := m
  clear h hB m
  obtain ⟨nr, hnr⟩ : ∃ x, p.reps.length = x := ⟨_, rfl⟩
  have HNr : Hid (p.reps.length = nr) := hnr
  rw [hnr] at c15 hrl
  clear hnr
  go_enter Try.func28, Try.ntmps28
  go_wp2_with fail
  refine (phas_any g F p r w H.out).mono ?_
  rintro e w1 ⟨rfl, hw1⟩
  obtain rfl := hw1.symm
  rewrite [HNr.out]
  by_cases h0 : 0 ≤ r ∧ r < (nr : Int)
  rotate_left
  · have HX : Hid (diskV s r = ([], 11)) := by show _ = _; rw [HV.out, if_pos (by omega)]
    have hd : hasV nr r = false := decide_eq_false h0
    rewrite [hd]
    clear hd
    go_wp2
    go_ret2
    rw [HX.out]
    exact ⟨rfl, Below.refl _ _⟩
  have hd : hasV nr r = true := decide_eq_true h0
  rewrite [hd]
  clear hd
  obtain ⟨rn, rfl⟩ : ∃ k : Nat, r = k := ⟨r.toNat, by omega⟩
  obtain ⟨h0a, h0b⟩ := h0
  rw [if_neg (show ¬ ¬ (0 ≤ (rn : Int) ∧ (rn : Int) ≤ s.conf.reps - 1) by omega), Int.toNat_natCast] at HV
  have HAt : Hid _ := HB.out.rat (k := rn) (by omega)
  have HRf : Hid _ := rep_fit HB.out.rep rn
  generalize hxx : s.reps.getD rn (0, 0) = x at *
  have HOk : Hid _ := repOf_ok HB.out.fit HRf.out
  obtain ⟨hbx, hpl⟩ := seq_rep HM.out HAt.out
  have HBx : Hid _ := hbx
  have HPl : Hid _ := hpl
  clear hbx hpl
  have hsy := rdisk_any lb.gR (prepsCells (p.reps.take rn)) (prepsCells (p.reps.drop (rn + 1))) (repOf s x).disk (repOf s x).safe (repOf s x).count (repOf s x).cells w HBx.out HOk.out.1.1
  rw [HPl.out] at hsy
  go_wp2_with fail
  refine hsy.mono ?_
  rintro e w2 ⟨rfl, hw2⟩
  obtain rfl := hw2.symm
  clear hsy
  go_wp2
  go_ret2
  rw [HV.out]
  exact ⟨rfl, Below.refl _ _⟩

set_option maxRecDepth 100000 in
set_option maxHeartbeats 4000000 in
theorem pcount_any (g : Nat) (F : Nat → Prop) (p : SeqV) (s : CluV) (r : Int) (w : World) (h : SeqAt w g F p) (hB : Both p s) :
    Calls Try.prog 29 #[.pointer (some ⟨g, 0, none⟩), .int .i64 r] w fun e w' => e = .returned (.tuple #[.int .i64 (countV s r).1, .int .i64 (countV s r).2]) ∧ Below w.heap.size w w' := by
  have HV : Hid (countV s r = if ¬ (0 ≤ r ∧ r ≤ s.conf.reps - 1) then (0, 11) else ((s.reps.getD r.toNat (0, 0)).1, 0)) := rfl
  have hg := h.block
  have H : Hid _ := h
  have HB : Hid _ := hB
  have hrl := hB.rlen
  have hrc := conf_reps hB.fit.conf
  obtain ⟨gA, qb, aS, cS, lb, m⟩ := h.mem
  have c15 := seq_cell15 h.fit m
  have HM : Hid _ := m
  clear h hB m
  obtain ⟨nr, hnr⟩ : ∃ x, p.reps.length = x := ⟨_, rfl⟩
  have HNr : Hid (p.reps.length = nr) := hnr
  rw [hnr] at c15 hrl
  clear hnr
  go_enter Try.func29, Try.ntmps29
  go_wp2_with fail
  refine (phas_any g F p r w H.out).mono ?_
  rintro e w1 ⟨rfl, hw1⟩
  obtain rfl := hw1.symm
  rewrite [HNr.out]
  by_cases h0 : 0 ≤ r ∧ r < (nr : Int)
  rotate_left
  · have HX : Hid (countV s r = (0, 11)) := by show _ = _; rw [HV.out, if_pos (by omega)]
    have hd : hasV nr r = false := decide_eq_false h0
    rewrite [hd]
    clear hd
    go_wp2
    go_ret2
    rw [HX.out]
    exact ⟨rfl, Below.refl _ _⟩
  have hd : hasV nr r = true := decide_eq_true h0
  rewrite [hd]
  clear hd
  obtain ⟨rn, rfl⟩ : ∃ k : Nat, r = k := ⟨r.toNat, by omega⟩
  obtain ⟨h0a, h0b⟩ := h0
  rw [if_neg (show ¬ ¬ (0 ≤ (rn : Int) ∧ (rn : Int) ≤ s.conf.reps - 1) by omega), Int.toNat_natCast] at HV
  have HAt : Hid _ := HB.out.rat (k := rn) (by omega)
  have HRf : Hid _ := rep_fit HB.out.rep rn
  generalize hxx : s.reps.getD rn (0, 0) = x at *
  have HOk : Hid _ := repOf_ok HB.out.fit HRf.out
  obtain ⟨hbx, hpl⟩ := seq_rep HM.out HAt.out
  have HBx : Hid _ := hbx
  have HPl : Hid _ := hpl
  clear hbx hpl
  have hsy := rcount_any lb.gR (prepsCells (p.reps.take rn)) (prepsCells (p.reps.drop (rn + 1))) (repOf s x).disk (repOf s x).safe (repOf s x).count (repOf s x).cells w HBx.out HOk.out.1.1
  rw [HPl.out] at hsy
  have hcx : ((repOf s x).count : Int) = x.1 := by
    show ((x.1.toNat : Nat) : Int) = x.1
    have := HRf.out
    omega
  rw [hcx] at hsy
  go_wp2_with fail
  refine hsy.mono ?_
  rintro e w2 ⟨rfl, hw2⟩
  obtain rfl := hw2.symm
  clear hsy hcx
  go_wp2
  go_ret2
  rw [HV.out]
  exact ⟨rfl, Below.refl _ _⟩

theorem doneRecs_16 : ∀ (rs : List RecV) {cs : List Int}, (recs rs).all Dk.recOk = true → cs.length = 8 → Dk.All16 cs → (doneRecs cs rs).length = 8 ∧ Dk.All16 (doneRecs cs rs)
  | [], cs, _, h8, h => ⟨h8, h⟩
  | r :: rs, cs, ho, h8, h => by
    have h' : (r.told :: recs rs).all Dk.recOk = true := ho
    rw [List.all_cons, Bool.and_eq_true] at h'
    obtain ⟨h1, h2⟩ := doneRec_fit (r := r) h8 h (fun hl => recOk_text h'.1 hl)
    exact doneRecs_16 rs h'.2 h1 h2
theorem doneEps_16 : ∀ (es : List (List RecV)) {cs : List Int}, (∀ e ∈ es, (recs e).all Dk.recOk = true) → cs.length = 8 → Dk.All16 cs → Dk.All16 (doneEps cs es)
  | [], cs, _, h8, h => h
  | e :: es, cs, ho, h8, h => by
    obtain ⟨h1, h2⟩ := doneRecs_16 e (ho e (by simp)) h8 h
    exact doneEps_16 es (fun x hx => ho x (by simp [hx])) h1 h2
theorem repOf_16 {s : CluV} (hf : CluFit s) (x : Int × Int) : Dk.All16 (repOf s x).cells := by
  refine doneEps_16 _ (fun e he => (hf.ep e (List.mem_of_mem_take he)).2) rfl ?_
  intro y hy
  have : y = 0 := by
    unfold zero8 at hy
    simp only [List.mem_cons, List.not_mem_nil, or_false, or_self] at hy
    exact hy
  subst this
  exact ⟨by omega, by omega⟩

set_option maxRecDepth 100000 in
set_option maxHeartbeats 4000000 in
theorem pget_any (g : Nat) (F : Nat → Prop) (p : SeqV) (s : CluV) (r : Int) (k : ByteArray) (w : World) (h : SeqAt w g F p) (hB : Both p s) (hk : k.size ≤ maxLen) :
    Calls Try.prog 54 #[.pointer (some ⟨g, 0, none⟩), .int .i64 r, .string k] w (GetPost (getV s r k) w) := by
  have HV : Hid (getV s r k = if ¬ (0 ≤ r ∧ r ≤ s.conf.reps - 1) then (0, 11) else if keyOk k = false then (0, 14) else ((doneEps zero8 (s.epochs.take (s.reps.getD r.toNat (0, 0)).1.toNat)).getD ((k.data.toList.headD 0).toNat - 97) 0, 0)) := rfl
  have hg := h.block
  have H : Hid _ := h
  have HB : Hid _ := hB
  have hrl := hB.rlen
  have hrc := conf_reps hB.fit.conf
  obtain ⟨gA, qb, aS, cS, lb, m⟩ := h.mem
  have c15 := seq_cell15 h.fit m
  have HM : Hid _ := m
  clear h hB m
  obtain ⟨nr, hnr⟩ : ∃ x, p.reps.length = x := ⟨_, rfl⟩
  have HNr : Hid (p.reps.length = nr) := hnr
  rw [hnr] at c15 hrl
  clear hnr
  go_enter Try.func54, Try.ntmps54
  go_wp2_with fail
  refine (phas_any g F p r w H.out).mono ?_
  rintro e w1 ⟨rfl, hw1⟩
  obtain rfl := hw1.symm
  rewrite [HNr.out]
  by_cases h0 : 0 ≤ r ∧ r < (nr : Int)
  rotate_left
  · have HX : Hid (getV s r k = (0, 11)) := by show _ = _; rw [HV.out, if_pos (by omega)]
    have hd : hasV nr r = false := decide_eq_false h0
    rewrite [hd]
    clear hd
    go_wp2
    go_ret2
    rw [HX.out]
    exact ⟨rfl, Below.refl _ _⟩
  have hd : hasV nr r = true := decide_eq_true h0
  rewrite [hd]
  clear hd
  obtain ⟨rn, rfl⟩ : ∃ k : Nat, r = k := ⟨r.toNat, by omega⟩
  obtain ⟨h0a, h0b⟩ := h0
  rw [if_neg (show ¬ ¬ (0 ≤ (rn : Int) ∧ (rn : Int) ≤ s.conf.reps - 1) by omega), Int.toNat_natCast] at HV
  have HAt : Hid _ := HB.out.rat (k := rn) (by omega)
  have HRf : Hid _ := rep_fit HB.out.rep rn
  generalize hxx : s.reps.getD rn (0, 0) = x at *
  have HOk : Hid _ := repOf_ok HB.out.fit HRf.out
  obtain ⟨hbx, hpl⟩ := seq_rep HM.out HAt.out
  have HBx : Hid _ := hbx
  have HPl : Hid _ := hpl
  clear hbx hpl
  have HC : Hid (Calls Try.prog 79 #[.pointer (some ⟨lb.gR, rn * 11, none⟩), .string k] w fun e w' => e = .returned (.tuple #[.int .i64 (getV s (rn : Int) k).1, .int .i64 (getV s (rn : Int) k).2]) ∧ Below w.heap.size w w') := by
    cases hko : keyOk k
    · have := rget_no lb.gR (rn * 11) k w hk hko
      rw [HV.out, if_pos hko]
      exact this
    · obtain ⟨j, hj, rfl⟩ := key_cases hko
      have := rget_yes lb.gR (prepsCells (p.reps.take rn)) (prepsCells (p.reps.drop (rn + 1))) (repOf s x).disk (repOf s x).safe (repOf s x).count (repOf s x).cells j w HBx.out HOk.out.1.1 (repOf_16 HB.out.fit x) hj
      rw [HPl.out] at this
      rw [HV.out, if_neg (by rw [hko]; simp)]
      have e : ((⟨#[UInt8.ofNat (97 + j)]⟩ : ByteArray).data.toList.headD 0).toNat - 97 = j := by
        show (UInt8.ofNat (97 + j)).toNat - 97 = j
        rw [UInt8.toNat_ofNat']
        omega
      rw [e]
      exact this
  go_wp2_with fail
  refine HC.out.mono ?_
  rintro e w2 ⟨rfl, hb2⟩
  have HB2 : Hid _ := hb2
  clear hb2 HC
  go_wp2
  go_ret2
  exact ⟨rfl, HB2.out⟩

end Go.Proofs.Ytccckonckddadaa
namespace Go.Proofs.Ytccckonckddadaa
open Go.RowKit
set_option linter.unusedVariables false

/-! ### The replicas' calls leave the two states together -/
theorem sim_rep {p : SeqV} {s : CluV} (h : Sim p s) (l : List RepV) (k : Nat) (x : Int × Int) : Sim (withR p l) (repV s k x) := ⟨h.queue, h.quantum, h.room, h.first, h.epochs, h.log, h.cells, h.many, h.acc, h.outs, h.few, h.e0⟩
theorem both_put {p : SeqV} {s : CluV} (h : Both p s) (k : Nat) {x : Int × Int} (hx : 0 ≤ x.2 ∧ x.2 ≤ x.1 ∧ x.1 ≤ (s.epochs.length : Int)) : Both (withR p (repsOf (repV s k x))) (repV s k x) :=
  ⟨sim_rep h.sim _ k x, rfl, fit_rep h.fit k x, ⟨h.rest.queue, h.rest.credit⟩, rep_put h.rep k hx⟩
theorem both_self {p : SeqV} {s : CluV} (h : Both p s) : Both (withR p (repsOf s)) s := by rw [withR_self h.rsim]; exact h
theorem both_send {p : SeqV} {s : CluV} (h : Both p s) (r n : Int) : Both (withR p (repsOf (sendV s r n).1)) (sendV s r n).1 := by
  have hr := sendV_rep h.rep r n
  unfold sendV at hr ⊢
  split
  · exact both_self h
  split
  · exact both_self h
  split
  · exact both_self h
  split
  · exact both_self h
  · have := rep_fit h.rep r.toNat
    exact both_put h _ ⟨this.1, by show (s.reps.getD r.toNat (0, 0)).2 ≤ n + 1; omega, by show n + 1 ≤ _; omega⟩
theorem both_sync {p : SeqV} {s : CluV} (h : Both p s) (r : Int) : Both (withR p (repsOf (syncV s r).1)) (syncV s r).1 := by
  unfold syncV
  split
  · exact both_self h
  · have := rep_fit h.rep r.toNat
    exact both_put h _ ⟨by show 0 ≤ (s.reps.getD r.toNat (0, 0)).1; omega, Int.le_refl _, this.2.2⟩
theorem both_crash {p : SeqV} {s : CluV} (h : Both p s) (r keep : Int) : Both (withR p (repsOf (crashV s r keep).1)) (crashV s r keep).1 := by
  unfold crashV
  split
  · exact both_self h
  · have h1 := rep_fit h.rep r.toNat
    have h2 := crashGo_le s (s.reps.getD r.toNat (0, 0)).2.toNat keep ((s.reps.getD r.toNat (0, 0)).1.toNat - (s.reps.getD r.toNat (0, 0)).2.toNat) (s.reps.getD r.toNat (0, 0)).2.toNat
    refine both_put h _ ⟨by show (0 : Int) ≤ ((crashN _ _ _ : Nat) : Int); omega, Int.le_refl _, ?_⟩
    show ((crashN s (s.reps.getD r.toNat (0, 0)) keep : Nat) : Int) ≤ _
    unfold crashN
    omega

end Go.Proofs.Ytccckonckddadaa
namespace Go.Proofs.Ytccckonckddadaa
open Go.RowKit
set_option linter.unusedVariables false

/-! ### The two states stay together -/
theorem submit_fit {s : CluV} (h : CluFit s) (client id : Int) (t : ByteArray) (d : Int) : CluFit (submitV s client id t d).1 := by
  unfold submitV
  split
  · exact h
  split
  · exact h
  split
  · exact h
  split
  · exact h
  split
  · exact h
  split
  · exact h
  · rename_i h1 h2 h3 h4 h5 h6
    refine fit_submit h ⟨by simpa using h3, by show 0 ≤ client; omega, by show client < _; omega, by show 0 ≤ id; omega, by show id ≤ 999999; omega⟩ (fun x hx e => h4 ?_)
    exact Int.not_lt.1 (fun hlt => find_none id s.txs 0 hlt x hx e)
theorem fill_fit {p : SeqV} {s : CluV} (hS : Sim p s) (hf : CluFit s) (hr : Rest s) : CluFit (fillV s).1 := by
  obtain ⟨_, _, r1, r2⟩ := fill_ready hS hf hr
  have hs := (fill_sim hS hf hr).2
  unfold fillV
  split
  · exact hf
  · rename_i he
    obtain ⟨e1, e2, e3, _⟩ := conf_edges hf.conf
    obtain ⟨y1, y2, y3⟩ := lateFrom_mild s.conf.clients.toNat 0 s [] hf (by omega)
    obtain ⟨z1, z2⟩ := visitFrom_mild s.conf.clients.toNat 0 (lateFrom s.conf.clients.toNat 0 s []).1 s.conf.room (lateFrom s.conf.clients.toNat 0 s []).2 y2 (by rw [y1.conf]; omega) e3 (fun j _ _ => by rw [y3, y1.epochs]; exact hr.credit _)
    have hM := y1.trans z1
    obtain ⟨c1, c2⟩ := lateFrom_count s.conf.clients.toNat 0 s [] hf (by omega) rfl
    obtain ⟨d1, d2⟩ := visitFrom_count s.conf.clients.toNat 0 (lateFrom s.conf.clients.toNat 0 s []).1 s.conf.room (lateFrom s.conf.clients.toNat 0 s []).2 y2 (by rw [y1.conf]; omega) e3 (fun j _ _ => by rw [y3, y1.epochs]; exact hr.credit _) c2
    have hw := waiting_le hf hr.queue
    have hnil : ([] : List RecV).length = 0 := rfl
    have hfi := Int.emod_nonneg ((visitFrom s.conf.clients.toNat 0 (lateFrom s.conf.clients.toNat 0 s []).1 s.conf.room (lateFrom s.conf.clients.toNat 0 s []).2).1.first + 1) (show s.conf.clients ≠ 0 by omega)
    have hfl := Int.emod_lt_of_pos ((visitFrom s.conf.clients.toNat 0 (lateFrom s.conf.clients.toNat 0 s []).1 s.conf.room (lateFrom s.conf.clients.toNat 0 s []).2).1.first + 1) (show 0 < s.conf.clients by omega)
    refine fit_epoch (fit_first z2 hfi (by rw [hM.conf]; exact hfl)) ?_ ?_ d2
    · show (visitFrom s.conf.clients.toNat 0 (lateFrom s.conf.clients.toNat 0 s []).1 s.conf.room (lateFrom s.conf.clients.toNat 0 s []).2).1.epochs.length < 200
      rw [hM.epochs]; omega
    · omega
theorem both_submit {p : SeqV} {s : CluV} (h : Both p s) (client id : Int) (t : ByteArray) (d : Int) : Both (pSubmitV p client id t d).1 (submitV s client id t d).1 :=
  ⟨(submit_sim h.sim h.fit client id t d).2, submit_rsim h.rsim h.rep client id t d, submit_fit h.fit client id t d, submitV_rest h.rest client id t d, submitV_rep h.rep client id t d⟩
theorem both_fill {p : SeqV} {s : CluV} (h : Both p s) : Both (pFillV p).1 (fillV s).1 :=
  ⟨(fill_sim h.sim h.fit h.rest).2, fill_rsim h.rsim h.fit h.rest h.rep, fill_fit h.sim h.fit h.rest, fillV_rest h.fit h.rest, fillV_rep h.fit h.rest h.rep⟩
theorem new_fit {c : ConfV} (h : confOk c = true) : CluFit (newV c) := by
  have hc := h
  unfold confOk at hc
  simp only [Bool.and_eq_true, decide_eq_true_eq] at hc
  refine ⟨h, rfl, rfl, rfl, Nat.zero_le _, Int.le_refl _, by show (0 : Int) < c.clients; omega, Nat.zero_le _, (fun t ht => by cases ht), (fun i j x y hx => by simp [newV] at hx), (fun rs hrs => by cases hrs), ?_, ?_⟩
  · intro y hy
    have : y = 0 := by
      have h2 : y ∈ [(0 : Int), 0, 0, 0, 0, 0, 0, 0] := hy
      simp only [List.mem_cons, List.not_mem_nil, or_false, or_self] at h2
      exact h2
    subst this
    exact ⟨by omega, by omega⟩
  · intro x hx
    have : x = 0 := by
      have h2 : x ∈ [(0 : Int), 0, 0, 0, 0, 0, 0, 0] := hx
      simp only [List.mem_cons, List.not_mem_nil, or_false, or_self] at h2
      exact h2
    subst this
    exact ⟨Int.le_refl _, by show (0 : Int) ≤ 8 * _; omega⟩
theorem both_new {c : ConfV} (h : confOk c = true) : Both (pNewV c) (newV c) := ⟨new_sim h, new_rsim h, new_fit h, newV_rest h, newV_rep c⟩

/-! ### The book -/
structure BookV where
  inn : List Bool
  ep : Int
  nr : Int
def bookCells (b : BookV) : List Value := b.inn.map (Value.bool ·) ++ [.int .i64 b.ep, .int .i64 b.nr, .bool true]
def BookAt (w : World) (g : Nat) (b : BookV) : Prop := w.heap[g]? = some (.cells (bookCells b).toArray 68) ∧ b.inn.length = 40
theorem BookAt.reads {w : World} {g : Nat} {b : BookV} (h : BookAt w g b) : (∀ j, j < 40 → w.cell? ⟨g, j, none⟩ = some (.bool (b.inn.getD j false))) ∧ w.cell? ⟨g, 40, none⟩ = some (.int .i64 b.ep) ∧ w.cell? ⟨g, 41, none⟩ = some (.int .i64 b.nr) ∧ w.cell? ⟨g, 42, none⟩ = some (.bool true) ∧ (∀ j, w.frozen? ⟨g, j, none⟩ = false) ∧ g < w.heap.size := by
  have hc := heap_cells h.1
  have hl : (b.inn.map (Value.bool ·)).length = 40 := by rw [List.length_map]; exact h.2
  refine ⟨fun j hj => ?_, ?_, ?_, ?_, hc.2.1, hc.2.2⟩
  · rw [hc.1, List.getElem?_toArray]
    unfold bookCells
    rw [List.getElem?_append_left (by omega), List.getElem?_map, List.getD_eq_getElem?_getD, List.getElem?_eq_getElem (by rw [h.2]; exact hj)]; rfl
  all_goals
    rw [hc.1, List.getElem?_toArray]
    unfold bookCells
    rw [List.getElem?_append_right (by omega), hl]; rfl
theorem BookAt.same {w W : World} {g : Nat} {b : BookV} (h : BookAt w g b) (hb : W.heap[g]? = w.heap[g]?) : BookAt W g b := ⟨hb.trans h.1, h.2⟩
theorem BookAt.inn {w : World} {g : Nat} {b : BookV} (h : BookAt w g b) {j : Nat} (hj : j < 40) (x : Bool) : BookAt (w.setCell ⟨g, j, none⟩ (.bool x)) g { b with inn := b.inn.set j x } := by
  refine ⟨?_, by show (b.inn.set j x).length = 40; rw [List.length_set]; exact h.2⟩
  rw [heap_set h.1, List.setIfInBounds_toArray]
  unfold bookCells
  rw [List.set_append_left _ _ (by rw [List.length_map, h.2]; exact hj), List.map_set]
theorem BookAt.ep {w : World} {g : Nat} {b : BookV} (h : BookAt w g b) (x : Int) : BookAt (w.setCell ⟨g, 40, none⟩ (.int .i64 x)) g { b with ep := x } := by
  refine ⟨?_, h.2⟩
  rw [heap_set h.1, List.setIfInBounds_toArray]
  unfold bookCells
  rw [List.set_append_right _ _ (by rw [List.length_map, h.2]; omega), List.length_map, h.2]; rfl
theorem BookAt.nrec {w : World} {g : Nat} {b : BookV} (h : BookAt w g b) (x : Int) : BookAt (w.setCell ⟨g, 41, none⟩ (.int .i64 x)) g { b with nr := x } := by
  refine ⟨?_, h.2⟩
  rw [heap_set h.1, List.setIfInBounds_toArray]
  unfold bookCells
  rw [List.set_append_right _ _ (by rw [List.length_map, h.2]; omega), List.length_map, h.2]; rfl
theorem BookAt.right {w : World} {g : Nat} {b : BookV} (h : BookAt w g b) : BookAt (w.setCell ⟨g, 42, none⟩ (.bool true)) g b := by
  refine ⟨?_, h.2⟩
  rw [heap_set h.1, List.setIfInBounds_toArray]
  unfold bookCells
  rw [List.set_append_right _ _ (by rw [List.length_map, h.2]; omega), List.length_map, h.2]; rfl

/-- What the book and the cluster have to do with one another. -/
structure Inv (M : Nat) (p : SeqV) (s : CluV) (b : BookV) : Prop where
  both : Both p s
  outs : OutsOk p
  oep : OutsEp p
  bep : b.ep = (s.epochs.length : Int)
  brec : b.nr = (p.outs.length : Int)
  ids : ∀ t ∈ s.txs, t.i < (M : Int)
  inn : ∀ id : Nat, id < 40 → (b.inn.getD id false = true ↔ 0 ≤ findV s.txs id)

/-- What lies below B, and what is in A, stays. -/
structure Bel (B : Nat) (A : Nat → Prop) (w w' : World) : Prop where
  bel : Below B w w'
  av : ∀ k, A k → w'.heap[k]? = w.heap[k]?
theorem Bel.trans {B : Nat} {A : Nat → Prop} {a b c : World} (h : Bel B A a b) (k : Bel B A b c) : Bel B A a c := ⟨h.bel.trans k.bel, fun x hx => (k.av x hx).trans (h.av x hx)⟩
theorem Bel.of {B : Nat} {A : Nat → Prop} {w W : World} (h : Below w.heap.size w W) (hB : B ≤ w.heap.size) (hA : ∀ k, A k → k < w.heap.size) : Bel B A w W := ⟨h.mono hB, fun k hk => h.block k (hA k hk)⟩

/-- The book and the cluster in memory; what is in A is neither's. -/
structure KAt (B : Nat) (A : Nat → Prop) (w : World) (gB g : Nat) (p : SeqV) (b : BookV) : Prop where
  seq : ∃ F, SeqAt w g F p ∧ ∀ k, F k → B ≤ k ∧ k ≠ gB ∧ ¬ A k
  book : BookAt w gB b
  gb : B ≤ gB
  av : ∀ k, A k → k < w.heap.size ∧ k ≠ gB
theorem KAt.lt {B : Nat} {A : Nat → Prop} {w : World} {gB g : Nat} {p : SeqV} {b : BookV} (h : KAt B A w gB g p b) : ∀ k, A k → k < w.heap.size := fun k hk => (h.av k hk).1
theorem KAt.below {B : Nat} {A : Nat → Prop} {w W : World} {gB g : Nat} {p : SeqV} {b : BookV} (h : KAt B A w gB g p b) (hb : Below w.heap.size w W) : KAt B A W gB g p b := by
  obtain ⟨F, h1, h2⟩ := h.seq
  exact ⟨⟨F, h1.below hb, h2⟩, h.book.same (hb.block gB h.book.reads.2.2.2.2.2), h.gb, fun k hk => ⟨Nat.lt_of_lt_of_le (h.av k hk).1 hb.size, (h.av k hk).2⟩⟩
theorem KAt.base {B : Nat} {A : Nat → Prop} {w : World} {gB g : Nat} {p : SeqV} {b : BookV} (h : KAt B A w gB g p b) : B ≤ w.heap.size := by
  have := h.book.reads.2.2.2.2.2
  have := h.gb
  omega
/-- A call on the cluster leaves the book alone. -/
theorem KAt.call {B : Nat} {A : Nat → Prop} {w w1 : World} {gB g : Nat} {p p' : SeqV} {b : BookV} (h : KAt B A w gB g p b) {F : Nat → Prop} (hF : ∀ k, F k → B ≤ k ∧ k ≠ gB ∧ ¬ A k) (hP : SeqPost g F p' w w1) : KAt B A w1 gB g p' b ∧ Bel B A w w1 := by
  obtain ⟨F', p1, p2, p3⟩ := hP
  have hz := h.book.reads.2.2.2.2.2
  have hB := h.base
  refine ⟨⟨⟨F', p1, fun k hk => ?_⟩, h.book.same (p2.block gB hz (fun e => (hF gB e).2.1 rfl)), h.gb, fun k hk => ⟨Nat.lt_of_lt_of_le (h.av k hk).1 p2.size, (h.av k hk).2⟩⟩, p2.below hB (fun k hk => (hF k hk).1), fun k hk => p2.block k (h.av k hk).1 (fun e => (hF k e).2.2 hk)⟩
  rcases p3 k hk with e | e
  · exact hF k e
  · exact ⟨by omega, by omega, fun ha => by have := (h.av k ha).1; omega⟩
/-- The book is written. -/
theorem KAt.wrote {B : Nat} {A : Nat → Prop} {w : World} {gB g : Nat} {p : SeqV} {b b' : BookV} (h : KAt B A w gB g p b) {j : Nat} {v : Value} (hb : BookAt (w.setCell ⟨gB, j, none⟩ v) gB b') : KAt B A (w.setCell ⟨gB, j, none⟩ v) gB g p b' ∧ Bel B A w (w.setCell ⟨gB, j, none⟩ v) := by
  obtain ⟨F, h1, h2⟩ := h.seq
  have hs : (w.setCell ⟨gB, j, none⟩ v).heap.size = w.heap.size := by simp [World.setCell]
  refine ⟨⟨⟨F, h1.same (by rw [hs]; exact Nat.le_refl _) (fun k hk => Below.heap_setCell _ _ _ _ (by exact (h2 k hk).2.1)), h2⟩, hb, h.gb, fun k hk => by rw [hs]; exact h.av k hk⟩, (Below.refl _ _).setCell h.gb _, fun k hk => Below.heap_setCell _ _ _ _ (by exact (h.av k hk).2)⟩

end Go.Proofs.Ytccckonckddadaa
namespace Go.Proofs.Ytccckonckddadaa
open Go.RowKit
set_option linter.unusedVariables false

def pickV (c n : Int) : Int := if c < 0 then -((c + 1).tmod n) else c % n
theorem pick_bd {c n : Int} (hn : 0 < n) : 0 ≤ pickV c n ∧ pickV c n < n := by
  unfold pickV
  split
  · have hc2 : (0 : Int) ≤ -(c + 1) := by omega
    have r0 := Int.tmod_nonneg n hc2
    have r1 := Int.tmod_lt_of_pos (-(c + 1)) hn
    rw [Int.neg_tmod] at r0 r1
    exact ⟨r0, r1⟩
  · exact ⟨Int.emod_nonneg _ (by omega), Int.emod_lt_of_pos _ hn⟩
theorem pick_is (c n : Int) (w : World) (h0 : -9223372036854775808 ≤ c) (h1 : c < 9223372036854775808) (hn : 0 < n) (hn2 : n < 4611686018427387904) :
    Calls Try.prog 22 #[.int .i64 c, .int .i64 n] w fun e w' => e = .returned (.int .i64 (pickV c n)) ∧ w' = w := by
  have hne : n ≠ 0 := by omega
  have hnb : (n == 0) = false := by rw [beq_eq_false_iff_ne]; exact hne
  by_cases hc : c < 0
  · have hc2 : (0 : Int) ≤ -(c + 1) := by omega
    have HV : Hid (pickV c n = -((c + 1).tmod n)) := if_pos hc
    go_enter Try.func22, Try.ntmps22
    go_wp2
    go_ret
    exact ⟨by rw [HV.out]; rfl, rfl⟩
  · have hc2 : (0 : Int) ≤ c := by omega
    have HV : Hid (pickV c n = c % n) := if_neg hc
    go_enter Try.func22, Try.ntmps22
    go_wp2
    go_ret
    exact ⟨by rw [HV.out]; rfl, rfl⟩

def In64 (n : Int) : Prop := -9223372036854775808 ≤ n ∧ n < 9223372036854775808
def confV (c : ConfV) : ConfV := ⟨pickV c.clients 8 + 1, pickV c.queue 8 + 1, pickV c.quantum 8 + 1, pickV c.room 57 + 8, pickV c.reps 4 + 1⟩
theorem confV_ok (c : ConfV) : confOk (confV c) = true := by
  have h1 := pick_bd (c := c.clients) (n := 8) (by omega)
  have h2 := pick_bd (c := c.queue) (n := 8) (by omega)
  have h3 := pick_bd (c := c.quantum) (n := 8) (by omega)
  have h4 := pick_bd (c := c.room) (n := 57) (by omega)
  have h5 := pick_bd (c := c.reps) (n := 4) (by omega)
  unfold confOk confV
  simp only [Bool.and_eq_true, decide_eq_true_eq]
  refine ⟨⟨⟨⟨?_, ?_⟩, ?_⟩, ?_⟩, ?_⟩ <;> omega

set_option maxRecDepth 100000 in
set_option maxHeartbeats 4000000 in
theorem conf_any (c : ConfV) (w : World) (h1 : In64 c.clients) (h2 : In64 c.queue) (h3 : In64 c.quantum) (h4 : In64 c.room) (h5 : In64 c.reps) :
    Calls Try.prog 27 #[.agg #[.int .i64 c.clients, .int .i64 c.queue, .int .i64 c.quantum, .int .i64 c.room, .int .i64 c.reps]] w fun e w' => e = .returned (.agg #[.int .i64 (confV c).clients, .int .i64 (confV c).queue, .int .i64 (confV c).quantum, .int .i64 (confV c).room, .int .i64 (confV c).reps]) ∧ Below w.heap.size w w' := by
  obtain ⟨x1, x2, x3, x4, x5⟩ := c
  simp only at h1 h2 h3 h4 h5
  have HP1 : Hid (∀ W, Calls Try.prog 22 #[.int .i64 x1, .int .i64 8] W fun e w' => e = .returned (.int .i64 (pickV x1 8)) ∧ w' = W) := fun W => pick_is x1 8 W h1.1 h1.2 (by omega) (by omega)
  have HP2 : Hid (∀ W, Calls Try.prog 22 #[.int .i64 x2, .int .i64 8] W fun e w' => e = .returned (.int .i64 (pickV x2 8)) ∧ w' = W) := fun W => pick_is x2 8 W h2.1 h2.2 (by omega) (by omega)
  have HP3 : Hid (∀ W, Calls Try.prog 22 #[.int .i64 x3, .int .i64 8] W fun e w' => e = .returned (.int .i64 (pickV x3 8)) ∧ w' = W) := fun W => pick_is x3 8 W h3.1 h3.2 (by omega) (by omega)
  have HP4 : Hid (∀ W, Calls Try.prog 22 #[.int .i64 x4, .int .i64 57] W fun e w' => e = .returned (.int .i64 (pickV x4 57)) ∧ w' = W) := fun W => pick_is x4 57 W h4.1 h4.2 (by omega) (by omega)
  have HP5 : Hid (∀ W, Calls Try.prog 22 #[.int .i64 x5, .int .i64 4] W fun e w' => e = .returned (.int .i64 (pickV x5 4)) ∧ w' = W) := fun W => pick_is x5 4 W h5.1 h5.2 (by omega) (by omega)
  have b1 := pick_bd (c := x1) (n := 8) (by omega)
  have b2 := pick_bd (c := x2) (n := 8) (by omega)
  have b3 := pick_bd (c := x3) (n := 8) (by omega)
  have b4 := pick_bd (c := x4) (n := 57) (by omega)
  have b5 := pick_bd (c := x5) (n := 4) (by omega)
  have HV : Hid (confV ⟨x1, x2, x3, x4, x5⟩ = ⟨pickV x1 8 + 1, pickV x2 8 + 1, pickV x3 8 + 1, pickV x4 57 + 8, pickV x5 4 + 1⟩) := rfl
  clear h1 h2 h3 h4 h5
  generalize pickV x1 8 = y1 at *
  generalize pickV x2 8 = y2 at *
  generalize pickV x3 8 = y3 at *
  generalize pickV x4 57 = y4 at *
  generalize pickV x5 4 = y5 at *
  have w1 : IntKind.i64.wrap (y1 + 1) = y1 + 1 := wrap_i64_id (by omega) (by omega)
  have w2 : IntKind.i64.wrap (y2 + 1) = y2 + 1 := wrap_i64_id (by omega) (by omega)
  have w3 : IntKind.i64.wrap (y3 + 1) = y3 + 1 := wrap_i64_id (by omega) (by omega)
  have w4 : IntKind.i64.wrap (y4 + 8) = y4 + 8 := wrap_i64_id (by omega) (by omega)
  have w5 : IntKind.i64.wrap (y5 + 1) = y5 + 1 := wrap_i64_id (by omega) (by omega)
  have HC : Hid (∀ o, ((w.alloc (.cells #[.int .i64 x1, .int .i64 x2, .int .i64 x3, .int .i64 x4, .int .i64 x5] 55)).alloc o).drew.cell? ⟨w.heap.size, 0, none⟩ = some (.int .i64 x1) ∧ ((w.alloc (.cells #[.int .i64 x1, .int .i64 x2, .int .i64 x3, .int .i64 x4, .int .i64 x5] 55)).alloc o).drew.cell? ⟨w.heap.size, 1, none⟩ = some (.int .i64 x2) ∧ ((w.alloc (.cells #[.int .i64 x1, .int .i64 x2, .int .i64 x3, .int .i64 x4, .int .i64 x5] 55)).alloc o).drew.cell? ⟨w.heap.size, 2, none⟩ = some (.int .i64 x3) ∧ ((w.alloc (.cells #[.int .i64 x1, .int .i64 x2, .int .i64 x3, .int .i64 x4, .int .i64 x5] 55)).alloc o).drew.cell? ⟨w.heap.size, 3, none⟩ = some (.int .i64 x4) ∧ ((w.alloc (.cells #[.int .i64 x1, .int .i64 x2, .int .i64 x3, .int .i64 x4, .int .i64 x5] 55)).alloc o).drew.cell? ⟨w.heap.size, 4, none⟩ = some (.int .i64 x5)) := fun o => by
    have h1 : ((w.alloc (.cells #[.int .i64 x1, .int .i64 x2, .int .i64 x3, .int .i64 x4, .int .i64 x5] 55)).alloc o).drew.heap[w.heap.size]? = some (.cells #[.int .i64 x1, .int .i64 x2, .int .i64 x3, .int .i64 x4, .int .i64 x5] 55) := (heap_old (by simp)).trans (heap_at rfl)
    obtain ⟨c0, _, _⟩ := heap_cells h1
    exact ⟨by rw [c0]; rfl, by rw [c0]; rfl, by rw [c0]; rfl, by rw [c0]; rfl, by rw [c0]; rfl⟩
  go_enter Try.func27, Try.ntmps27
  go_wp2
  go_region_held3 (fun W => W.cell? ⟨w.heap.size, 0, none⟩ = some (.int .i64 x1) ∧ W.cell? ⟨w.heap.size, 1, none⟩ = some (.int .i64 x2) ∧ W.cell? ⟨w.heap.size, 2, none⟩ = some (.int .i64 x3) ∧ W.cell? ⟨w.heap.size, 3, none⟩ = some (.int .i64 x4) ∧ W.cell? ⟨w.heap.size, 4, none⟩ = some (.int .i64 x5)) (first | exact HC.out _)
    (first | (go_at_call 22; (first | with_reducible refine (HP1.out _).mono ?_ | with_reducible refine (HP2.out _).mono ?_ | with_reducible refine (HP3.out _).mono ?_ | with_reducible refine (HP4.out _).mono ?_ | with_reducible refine (HP5.out _).mono ?_); rintro e w9 ⟨rfl, rfl⟩))
  go_wp2
  refine bodyPost_ret (v := .agg #[.int .i64 (y1 + 1), .int .i64 (y2 + 1), .int .i64 (y3 + 1), .int .i64 (y4 + 8), .int .i64 (y5 + 1)]) (by simp [results, Try.results27, go_sem]) rfl ?_
  exact ⟨by rw [HV.out], (((Below.refl _ _).alloc (Nat.le_refl _) _).alloc (by simp) _).drew⟩

end Go.Proofs.Ytccckonckddadaa
namespace Go.Proofs.Ytccckonckddadaa
open Go.RowKit
set_option linter.unusedVariables false

/-! ### submits -/
def bookSub (b : BookV) (id : Nat) (e : Int) : BookV := if e = 0 then { b with inn := b.inn.set id true } else b
theorem find_append {l : List TxV} {t : TxV} {id : Int} : (0 ≤ findV (l ++ [t]) id) ↔ (0 ≤ findV l id ∨ t.i = id) := by
  constructor
  · intro h
    obtain ⟨i, x, _, hx, hi⟩ := find_some id (l ++ [t]) 0 h
    have hm := List.mem_of_getElem? hx
    rcases List.mem_append.1 hm with hm | hm
    · exact .inl (Int.not_lt.1 (fun hlt => find_none id l 0 hlt x hm hi))
    · have : x = t := by simpa using hm
      subst this
      exact .inr hi
  · intro h
    refine Int.not_lt.1 (fun hlt => ?_)
    rcases h with h | h
    · obtain ⟨i, x, _, hx, hi⟩ := find_some id l 0 h
      exact find_none id (l ++ [t]) 0 hlt x (List.mem_append_left _ (List.mem_of_getElem? hx)) hi
    · exact find_none id (l ++ [t]) 0 hlt t (by simp) h
theorem inv_submit {M : Nat} {p : SeqV} {s : CluV} {b : BookV} (h : Inv M p s b) (hM : 40 ≤ M) {client : Int} {id : Nat} {t : ByteArray} {d : Int} (hl : b.inn.length = 40) (hid : id < 40) :
    Inv M (pSubmitV p client id t d).1 (submitV s client id t d).1 (bookSub b id (submitV s client id t d).2) := by
  have hb := both_submit h.both client id t d
  have ho := submit_outs (p := p) (client := client) (id := (id : Int)) (t := t) (d := d)
  have hcase : ((submitV s client id t d).2 ≠ 0 ∧ (submitV s client id t d).1 = s) ∨ ((submitV s client id t d).2 = 0 ∧ (submitV s client id t d).1 = { s with txs := s.txs ++ [⟨client, id, t, d, 0, 0⟩] }) := by
    unfold submitV
    split
    · exact .inl ⟨by simp, rfl⟩
    split
    · exact .inl ⟨by simp, rfl⟩
    split
    · exact .inl ⟨by simp, rfl⟩
    split
    · exact .inl ⟨by simp, rfl⟩
    split
    · exact .inl ⟨by simp, rfl⟩
    split
    · exact .inl ⟨by simp, rfl⟩
    · exact .inr ⟨rfl, rfl⟩
  refine ⟨hb, submit_outsOk h.outs, submit_ep h.oep, ?_, ?_, ?_, ?_⟩
  · have e1 : (bookSub b id (submitV s client id t d).2).ep = b.ep := by unfold bookSub; split <;> rfl
    rw [e1, h.bep]
    rcases hcase with ⟨_, e⟩ | ⟨_, e⟩ <;> rw [e]
  · have e1 : (bookSub b id (submitV s client id t d).2).nr = b.nr := by unfold bookSub; split <;> rfl
    rw [e1, h.brec, ho.1]
  · rcases hcase with ⟨_, e⟩ | ⟨_, e⟩
    · rw [e]; exact h.ids
    · rw [e]
      intro x hx
      rcases List.mem_append.1 hx with hx | hx
      · exact h.ids x hx
      · have : x = ⟨client, id, t, d, 0, 0⟩ := by simpa using hx
        subst this
        show (id : Int) < (M : Int)
        omega
  · intro j hj
    rcases hcase with ⟨e0, e⟩ | ⟨e0, e⟩
    · rw [e]
      unfold bookSub
      rw [if_neg e0]
      exact h.inn j hj
    · rw [e]
      unfold bookSub
      rw [if_pos e0]
      show (b.inn.set id true).getD j false = true ↔ 0 ≤ findV (s.txs ++ [⟨client, id, t, d, 0, 0⟩]) j
      rw [find_append, ← h.inn j hj]
      by_cases hij : id = j
      · subst hij
        rw [List.getD_eq_getElem?_getD, List.getElem?_set_self (by omega)]
        simp
      · rw [List.getD_eq_getElem?_getD, List.getElem?_set_ne hij, List.getD_eq_getElem?_getD]
        constructor
        · exact fun x => .inl x
        · rintro (x | x)
          · exact x
          · have e2 : (id : Int) = (j : Int) := x
            omega

set_option maxRecDepth 100000 in
set_option maxHeartbeats 4000000 in
theorem submits_any (B M : Nat) (A : Nat → Prop) (gB g : Nat) (p : SeqV) (s : CluV) (b : BookV) (client : Int) (id : Nat) (t : ByteArray) (d : Int) (F : Nat → Prop) (w : World) (h : KAt B A w gB g p b) (hS : SeqAt w g F p) (hF : ∀ k, F k → B ≤ k ∧ k ≠ gB ∧ ¬ A k) (hI : Inv M p s b) (hc : 0 ≤ client ∧ client < s.conf.clients) (hid : id < 40) (ht : Dk.parseOk t.data.toList = true) :
    Calls Try.prog 36 #[.pointer (some ⟨gB, 0, none⟩), .pointer (some ⟨g, 0, none⟩), .int .i64 client, .int .i64 (id : Int), .string t, .int .i64 d] w fun e w' => e = .returned (.tuple #[]) ∧ KAt B A w' gB g (pSubmitV p client id t d).1 (bookSub b id (submitV s client id t d).2) ∧ Bel B A w w' ∧ Kept (fun k => F k ∨ k = gB) w w' := by
  have hts : t.size ≤ maxLen := by
    have := parse_len ht
    rw [len_list] at this
    unfold maxLen
    omega
  have hsub := submit_sim hI.both.sim hI.both.fit client id t d
  have hlen := h.book.2
  have H : Hid _ := h
  have HF : Hid _ := hF
  have HSq : Hid _ := hS
  have HSub : Hid _ := hsub.1
  -- what the document's answer may be
  have hans : (submitV s client id t d).2 = 0 ∧ b.inn.getD id false = false ∨ (submitV s client id t d).2 ≠ 0 ∧ (b.inn.getD id false = true → (submitV s client id t d).2 = 6) := by
    have hin := hI.inn id hid
    unfold submitV
    rw [if_neg (by omega), if_neg (by omega), if_neg (by rw [ht]; simp)]
    by_cases h4 : 0 ≤ findV s.txs (id : Int)
    · rw [if_pos h4]
      exact .inr ⟨by simp, fun _ => rfl⟩
    · rw [if_neg h4]
      have hf : b.inn.getD id false = false := by
        cases hv : b.inn.getD id false
        · rfl
        · exact absurd (hin.1 hv) h4
      split
      · exact .inr ⟨by simp, fun hh => by rw [hf] at hh; cases hh⟩
      split
      · exact .inr ⟨by simp, fun hh => by rw [hf] at hh; cases hh⟩
      · exact .inl ⟨rfl, hf⟩
  obtain ⟨er, her⟩ : ∃ x, (submitV s client id t d).2 = x := ⟨_, rfl⟩
  rw [her] at hans HSub
  rewrite [her]
  clear h hF hS hsub her
  have k1 : (id : Int) < 40 := by omega
  have k0 : (0 : Int) ≤ (id : Int) := by omega
  go_enter Try.func36, Try.ntmps36
  go_wp2_with fail
  refine (psubmit_any g F p client id t d w HSq.out hts).mono ?_
  rintro e w1 ⟨rfl, hP⟩
  rewrite [HSub.out]
  obtain ⟨hK1, hB1⟩ := H.out.call HF.out hP
  have HK1 : Hid (_ ∧ _) := ⟨hK1, hB1⟩
  have HKp : Hid (Kept (fun k => F k ∨ k = gB) w w1) := by
    obtain ⟨F', p1, p2, p3⟩ := hP
    exact ⟨p2.os, p2.tape, p2.output, p2.size, fun k hk hn => p2.block k hk (fun hf => hn (.inl hf))⟩
  obtain ⟨r0, r1, r2, r3, fz, hz⟩ := hK1.book.reads
  have ri := r0 id hid
  clear hP hK1 hB1 r0 r1 r2
  rcases hans with ⟨rfl, hin⟩ | ⟨hne, hin⟩
  · rw [hin] at ri
    have HW2 : Hid _ := HK1.out.1.wrote HK1.out.1.book.right
    have HW3 : Hid _ := HW2.out.1.wrote (HW2.out.1.book.inn hid true)
    have q1 : (w1.setCell ⟨gB, 42, none⟩ (.bool true)).cell? ⟨gB, id, none⟩ = some (.bool false) := by
      have := HW2.out.1.book.reads.1 id hid
      rw [hin] at this
      exact this
    have q2 : ((w1.setCell ⟨gB, 42, none⟩ (.bool true)).setCell ⟨gB, id, none⟩ (.bool true)).cell? ⟨gB, id, none⟩ = some (.bool true) := by
      have := HW3.out.1.book.reads.1 id hid
      rw [List.getD_eq_getElem?_getD] at this
      rw [this]
      show some (Value.bool (((b.inn.set id true)[id]?).getD false)) = _
      rw [List.getElem?_set_self (by omega)]; rfl
    have f2 : ∀ j, (w1.setCell ⟨gB, 42, none⟩ (.bool true)).frozen? ⟨gB, j, none⟩ = false := HW2.out.1.book.reads.2.2.2.2.1
    have z2 : gB < (w1.setCell ⟨gB, 42, none⟩ (.bool true)).heap.size := HW2.out.1.book.reads.2.2.2.2.2
    go_wp2
    go_end0
    exact ⟨rfl, by unfold bookSub; rw [if_pos rfl]; exact HW3.out.1, (HK1.out.2.trans HW2.out.2).trans HW3.out.2, Kept.set (F := fun k => F k ∨ k = gB) (Kept.set (F := fun k => F k ∨ k = gB) HKp.out (.inl (.inr rfl)) _) (.inl (.inr rfl)) _⟩
  · have hnb : (er == 0) = false := by rw [beq_eq_false_iff_ne]; exact hne
    have hnn : (er != 0) = true := by rw [bne_iff_ne]; exact hne
    have HBs : Hid (bookSub b id er = b) := if_neg hne
    cases hv : b.inn.getD id false
    · rw [hv] at ri
      go_wp2
      go_end0
      exact ⟨rfl, by rw [HBs.out]; exact HK1.out.1, HK1.out.2, HKp.out⟩
    · rw [hv] at ri
      have h6 := hin hv
      subst h6
      have HW2 : Hid _ := HK1.out.1.wrote HK1.out.1.book.right
      clear hin
      go_wp2
      go_end0
      exact ⟨rfl, by rw [HBs.out]; exact HW2.out.1, HK1.out.2.trans HW2.out.2, Kept.set (F := fun k => F k ∨ k = gB) HKp.out (.inl (.inr rfl)) _⟩

end Go.Proofs.Ytccckonckddadaa
namespace Go.Proofs.Ytccckonckddadaa
open Go.RowKit
set_option linter.unusedVariables false

/-- What an act leaves. -/
def ActPost (B M : Nat) (A : Nat → Prop) (gB g : Nat) (cf : ConfV) (w : World) (e : Ending) (w' : World) : Prop :=
  e = .returned (.tuple #[]) ∧ (∃ p' s' b', KAt B A w' gB g p' b' ∧ Inv M p' s' b' ∧ s'.conf = cf) ∧ Bel B A w w'

theorem submit_conf (s : CluV) (client id : Int) (t : ByteArray) (d : Int) : (submitV s client id t d).1.conf = s.conf := by
  unfold submitV
  iterate 6 (split; rfl)
  rfl

set_option maxRecDepth 100000 in
set_option maxHeartbeats 8000000 in
theorem does_sub (B M : Nat) (A : Nat → Prop) (gB g : Nat) (p : SeqV) (s : CluV) (b : BookV) (cl qu qt ro re xw xa xb xc : Int) (w : World) (h : KAt B A w gB g p b) (hI : Inv M p s b) (hM : 40 ≤ M) (hcv : s.conf = ⟨cl, qu, qt, ro, re⟩) (hx1 : In64 xw) (hx2 : In64 xa) (hx3 : In64 xb) (hx4 : In64 xc) (hk : pickV xw 10 < 4) :
    Calls Try.prog 48 #[.pointer (some ⟨gB, 0, none⟩), .pointer (some ⟨g, 0, none⟩), .agg #[.int .i64 cl, .int .i64 qu, .int .i64 qt, .int .i64 ro, .int .i64 re], .agg #[.int .i64 xw, .int .i64 xa, .int .i64 xb, .int .i64 xc]] w (ActPost B M A gB g s.conf w) := by
  obtain ⟨F, hS, hF⟩ := h.seq
  have hcf := hI.both.fit.conf
  have hep := hI.bep
  have hmany := hI.both.fit.many
  rw [hcv] at hcf
  unfold confOk at hcf
  simp only [Bool.and_eq_true, decide_eq_true_eq] at hcf
  have hcl := hcf.1.1.1.1
  have hre := hcf.2
  have H : Hid _ := h
  have HI : Hid _ := hI
  have HSF : Hid (SeqAt w g F p ∧ ∀ k, F k → B ≤ k ∧ k ≠ gB ∧ ¬ A k) := ⟨hS, hF⟩
  have HCv : Hid _ := hcv
  have hB0 := h.base
  have HAv : Hid (∀ k, A k → k < w.heap.size) := h.lt
  have hgBz := h.book.reads.2.2.2.2.2
  have hbd := pick_bd (c := xw) (n := 10) (by omega)
  have HPw : Hid (∀ W, Calls Try.prog 22 #[.int .i64 xw, .int .i64 10] W fun e w' => e = .returned (.int .i64 (pickV xw 10)) ∧ w' = W) := fun W => pick_is xw 10 W hx1.1 hx1.2 (by omega) (by omega)
  clear h hI hS hF hcf hcv
  generalize pickV xw 10 = kk at *
  obtain ⟨W1, hW1⟩ : ∃ W1, W1 = (w.alloc (.cells #[.int .i64 cl, .int .i64 qu, .int .i64 qt, .int .i64 ro, .int .i64 re] 55)).alloc (.cells #[.int .i64 xw, .int .i64 xa, .int .i64 xb, .int .i64 xc] 85) := ⟨_, rfl⟩
  have HBw : Hid (Below w.heap.size w W1) := by rw [hW1]; exact ((Below.refl _ _).alloc (Nat.le_refl _) _).alloc (by simp) _
  have HBx : Hid (W1.heap[w.heap.size]? = some (.cells #[.int .i64 cl, .int .i64 qu, .int .i64 qt, .int .i64 ro, .int .i64 re] 55) ∧ W1.heap[w.heap.size + 1]? = some (.cells #[.int .i64 xw, .int .i64 xa, .int .i64 xb, .int .i64 xc] 85)) := by rw [hW1]; exact ⟨(heap_old (by simp)).trans (heap_at rfl), heap_at (by simp)⟩
  have HK1 : Hid (KAt B A W1 gB g p b) := H.out.below HBw.out
  have HS1 : Hid (SeqAt W1 g F p) := HSF.out.1.below HBw.out
  -- what is read of the boxes, and that they stay
  have HRd : Hid (∀ W : World, W.heap[w.heap.size]? = W1.heap[w.heap.size]? → W.heap[w.heap.size + 1]? = W1.heap[w.heap.size + 1]? → (W.cell? ⟨w.heap.size, 0, none⟩ = some (.int .i64 cl) ∧ W.cell? ⟨w.heap.size, 4, none⟩ = some (.int .i64 re)) ∧ W.cell? ⟨w.heap.size + 1, 0, none⟩ = some (.int .i64 xw) ∧ W.cell? ⟨w.heap.size + 1, 1, none⟩ = some (.int .i64 xa) ∧ W.cell? ⟨w.heap.size + 1, 2, none⟩ = some (.int .i64 xb) ∧ W.cell? ⟨w.heap.size + 1, 3, none⟩ = some (.int .i64 xc)) := fun W e1 e2 => by
    obtain ⟨c0, _, _⟩ := heap_cells (e1.trans HBx.out.1)
    obtain ⟨d0, _, _⟩ := heap_cells (e2.trans HBx.out.2)
    exact ⟨⟨by rw [c0]; rfl, by rw [c0]; rfl⟩, by rw [d0]; rfl, by rw [d0]; rfl, by rw [d0]; rfl, by rw [d0]; rfl⟩
  have hz0 : w.heap.size < W1.heap.size := (heap_cells HBx.out.1).2.2
  have hz1 : w.heap.size + 1 < W1.heap.size := (heap_cells HBx.out.2).2.2
  obtain ⟨⟨c0, c4⟩, a0, a1, a2, a3⟩ := HRd.out W1 rfl rfl
  obtain ⟨br, be, bn, bR, bf, bz⟩ := HK1.out.book.reads
  go_enter Try.func48, Try.ntmps48
  go_wp2_with fail
  rewrite [← hW1]
  refine (HPw.out W1).mono ?_
  rintro e w0 ⟨rfl, hw0⟩
  obtain rfl := hw0.symm
  clear hW1 br
  have HP1 : Hid (∀ W, Calls Try.prog 22 #[.int .i64 xa, .int .i64 cl] W fun e w' => e = .returned (.int .i64 (pickV xa cl)) ∧ w' = W) := fun W => pick_is xa cl W hx2.1 hx2.2 (by omega) (by omega)
  have HP2 : Hid (∀ W, Calls Try.prog 22 #[.int .i64 xb, .int .i64 40] W fun e w' => e = .returned (.int .i64 (pickV xb 40)) ∧ w' = W) := fun W => pick_is xb 40 W hx3.1 hx3.2 (by omega) (by omega)
  have HP3 : Hid (∀ W, Calls Try.prog 22 #[.int .i64 xc, .int .i64 9] W fun e w' => e = .returned (.int .i64 (pickV xc 9)) ∧ w' = W) := fun W => pick_is xc 9 W hx4.1 hx4.2 (by omega) (by omega)
  have HT : Hid (∀ W, Calls Try.prog 35 #[.int .i64 xc] W fun e w' => ∃ t : ByteArray, e = .returned (.string t) ∧ Dk.parseOk t.data.toList = true ∧ Below W.heap.size W w') := fun W => texts_any xc W hx4.1 hx4.2
  have b1 := pick_bd (c := xa) (n := cl) (by omega)
  have b2 := pick_bd (c := xb) (n := 40) (by omega)
  have b3 := pick_bd (c := xc) (n := 9) (by omega)
  generalize pickV xa cl = y1 at *
  obtain ⟨y2, hy2⟩ : ∃ y : Nat, pickV xb 40 = y := ⟨(pickV xb 40).toNat, by omega⟩
  rw [hy2] at HP2 b2
  generalize pickV xc 9 = y3 at *
  clear hx1 hx2 hx3 hx4 hy2
  obtain ⟨ee, hee⟩ : ∃ x, b.ep = x := ⟨_, rfl⟩
  have HEe : Hid (b.ep = ee) := hee
  rw [hee] at be hep
  have he0 : 0 ≤ ee := by omega
  have he1 : ee ≤ 200 := by omega
  clear hee hep
  have wv1 : IntKind.i64.wrap (ee + y3) = ee + y3 := wrap_i64_id (by omega) (by omega)
  have hwm : IntKind.i64.wrap (ee + y3 - 1) = ee + y3 - 1 := by
    unfold IntKind.wrap
    simp [IntKind.bits, IntKind.signed]
    omega
  have HS0 : Hid (∀ W : World, Below W1.heap.size W1 W → W.cell? ⟨w.heap.size, 0, none⟩ = some (.int .i64 cl) ∧ W.cell? ⟨w.heap.size + 1, 1, none⟩ = some (.int .i64 xa) ∧ W.cell? ⟨w.heap.size + 1, 2, none⟩ = some (.int .i64 xb) ∧ W.cell? ⟨w.heap.size + 1, 3, none⟩ = some (.int .i64 xc) ∧ W.cell? ⟨gB, 40, none⟩ = some (.int .i64 ee)) := fun W hW => by
    obtain ⟨⟨q0, _⟩, _, q1, q2, q3⟩ := HRd.out W (hW.block _ hz0) (hW.block _ hz1)
    exact ⟨q0, q1, q2, q3, (hW.cell (p := ⟨gB, 40, none⟩) bz).trans be⟩
  have HSs : Hid (∀ t : ByteArray, Dk.parseOk t.data.toList = true → ∀ W, Below W1.heap.size W1 W → Calls Try.prog 36 #[.pointer (some ⟨gB, 0, none⟩), .pointer (some ⟨g, 0, none⟩), .int .i64 y1, .int .i64 (y2 : Int), .string t, .int .i64 (ee + y3 - 1)] W fun e w' => e = .returned (.tuple #[]) ∧ (KAt B A w' gB g (pSubmitV p y1 y2 t (ee + y3 - 1)).1 (bookSub b y2 (submitV s y1 y2 t (ee + y3 - 1)).2) ∧ Bel B A W w') ∧ w'.cell? ⟨w.heap.size, 0, none⟩ = some (.int .i64 cl) ∧ w'.cell? ⟨w.heap.size + 1, 1, none⟩ = some (.int .i64 xa) ∧ w'.cell? ⟨w.heap.size + 1, 2, none⟩ = some (.int .i64 xb) ∧ w'.cell? ⟨w.heap.size + 1, 3, none⟩ = some (.int .i64 xc) ∧ w'.cell? ⟨gB, 40, none⟩ = some (.int .i64 ee)) := fun t ht W hW =>
    (submits_any B M A gB g p s b y1 y2 t (ee + y3 - 1) F W (HK1.out.below hW) (HS1.out.below hW) HSF.out.2 HI.out ⟨b1.1, by rw [HCv.out]; exact b1.2⟩ (by omega) ht).mono (by
      rintro e w' ⟨rfl, hK, hB, hKp⟩
      have hsz := hW.size
      have n0 : ¬ (F w.heap.size ∨ w.heap.size = gB) := fun hh => by
        rcases hh with hh | hh
        · have := HSF.out.1.own _ hh; omega
        · omega
      have n1 : ¬ (F (w.heap.size + 1) ∨ w.heap.size + 1 = gB) := fun hh => by
        rcases hh with hh | hh
        · have := HSF.out.1.own _ hh; omega
        · omega
      obtain ⟨⟨q0, _⟩, _, q1, q2, q3⟩ := HRd.out w' ((hKp.block _ (by omega) n0).trans (hW.block _ hz0)) ((hKp.block _ (by omega) n1).trans (hW.block _ hz1))
      have hbe : (bookSub b y2 (submitV s y1 y2 t (ee + y3 - 1)).2).ep = ee := by rw [← HEe.out]; unfold bookSub; split <;> rfl
      have q4 := hK.book.reads.2.1
      rw [hbe] at q4
      exact ⟨rfl, ⟨hK, hB⟩, q0, q1, q2, q3, q4⟩)
  have HBd : Hid (Below W1.heap.size W1 W1.drew) := (Below.refl _ _).drew
  have HBq : Hid (∀ W, Below W1.drew.heap.size W1.drew W → Below W1.heap.size W1 W) := fun W hW => HBd.out.trans hW
  clear c0 c4 a0 a1 a2 a3 be bn bR bf
  go_wp2
  go_region_held3 (fun W => W.cell? ⟨w.heap.size, 0, none⟩ = some (.int .i64 cl) ∧ W.cell? ⟨w.heap.size + 1, 1, none⟩ = some (.int .i64 xa) ∧ W.cell? ⟨w.heap.size + 1, 2, none⟩ = some (.int .i64 xb) ∧ W.cell? ⟨w.heap.size + 1, 3, none⟩ = some (.int .i64 xc) ∧ W.cell? ⟨gB, 40, none⟩ = some (.int .i64 ee))
    (first | (with_reducible exact HS0.out _ HBd.out) | (with_reducible exact hSx) | (with_reducible exact HS0.out _ (HBq.out _ hBx)))
    (first | (go_at_call 22; (first | with_reducible refine (HP1.out _).mono ?_ | with_reducible refine (HP2.out _).mono ?_ | with_reducible refine (HP3.out _).mono ?_); rintro e w9 ⟨rfl, rfl⟩) | (go_at_call 35; with_reducible refine (HT.out _).mono ?_; rintro e w8 ⟨tx, rfl, hpx, hBx⟩) | (go_at_call 36; with_reducible refine (HSs.out _ hpx _ (HBq.out _ hBx)).mono ?_; rintro e w7 ⟨rfl, hKx, hSx⟩))
  have HBt : Hid (Below W1.heap.size W1 _) := HBq.out _ hBx
  have HKx : Hid _ := hKx
  have HPx : Hid _ := hpx
  clear hKx hSx hBx hpx
  go_wp2
  go_end0
  refine ⟨rfl, ⟨_, _, _, HKx.out.1, inv_submit HI.out hM (client := y1) (id := y2) (t := tx) (d := ee + y3 - 1) H.out.book.2 (by omega), submit_conf _ _ _ _ _⟩, ?_⟩
  exact ((Bel.of HBw.out hB0 HAv.out).trans (Bel.of HBt.out (by have := HBw.out.size; omega) HK1.out.lt)).trans HKx.out.2

end Go.Proofs.Ytccckonckddadaa
namespace Go.Proofs.Ytccckonckddadaa
open Go.RowKit
set_option linter.unusedVariables false

/-! ### The numbers that were taken in stay -/
theorem modify_ids (f : TxV → TxV) (hf : ∀ t, (f t).i = t.i) : ∀ (l : List TxV) (i : Nat), (l.modify i f).map (·.i) = l.map (·.i)
  | [], i => by simp
  | t :: l, 0 => by simp [hf]
  | t :: l, i + 1 => by
    show t.i :: (l.modify i f).map (·.i) = t.i :: l.map (·.i)
    rw [modify_ids f hf l i]
theorem ends_ids (s : CluV) (i : Nat) (st : Int) : (endsV s i st).txs.map (·.i) = s.txs.map (·.i) := modify_ids (fun t => { t with s := st, e := s.epochs.length }) (fun _ => rfl) s.txs i
theorem lateGo_ids (client : Int) : ∀ (q : List Nat) (s : CluV) (l : List RecV), (lateGo client q s l).1.txs.map (·.i) = s.txs.map (·.i)
  | [], s, l => rfl
  | q :: qs, s, l => by
    rw [lateGo]
    split
    · exact lateGo_ids client qs s l
    · split
      · rw [lateGo_ids client qs]; exact ends_ids s q 3
      · exact lateGo_ids client qs s l
theorem lateFrom_ids : ∀ (r i : Nat) (s : CluV) (l : List RecV), (lateFrom r i s l).1.txs.map (·.i) = s.txs.map (·.i)
  | 0, i, s, l => rfl
  | r + 1, i, s, l => by
    show (lateFrom r (i + 1) (lateV s i).1 (l ++ (lateV s i).2)).1.txs.map (·.i) = _
    rw [lateFrom_ids r (i + 1)]
    exact lateGo_ids _ _ _ _
theorem visitGo_ids (client : Nat) : ∀ (k : Nat) (s : CluV) (room : Int) (l : List RecV), (visitGo client k s room l).1.txs.map (·.i) = s.txs.map (·.i)
  | 0, s, room, l => rfl
  | k + 1, s, room, l => by
    rw [visitGo]
    split
    · rfl
    · split
      · rfl
      · rw [visitGo_ids client k]
        unfold roundV
        rw [ends_ids]
        rfl
theorem visitV_ids (s : CluV) (client : Nat) (room : Int) : (visitV s client room).1.txs.map (·.i) = s.txs.map (·.i) := by
  unfold visitV
  simp only
  split
  · show (visitGo client 65 _ room []).1.txs.map (·.i) = _
    rw [visitGo_ids]; rfl
  · rw [visitGo_ids]; rfl
theorem visitFrom_ids : ∀ (r i : Nat) (s : CluV) (room : Int) (l : List RecV), (visitFrom r i s room l).1.txs.map (·.i) = s.txs.map (·.i)
  | 0, i, s, room, l => rfl
  | r + 1, i, s, room, l => by
    rw [visitFrom, visitFrom_ids r (i + 1)]
    exact visitV_ids _ _ _
theorem fill_ids (s : CluV) : (fillV s).1.txs.map (·.i) = s.txs.map (·.i) := by
  unfold fillV
  split
  · rfl
  · show (visitFrom _ _ _ _ _).1.txs.map (·.i) = _
    rw [visitFrom_ids, lateFrom_ids]
theorem find_iff {l : List TxV} {id : Int} : 0 ≤ findV l id ↔ id ∈ l.map (·.i) := by
  constructor
  · intro h
    obtain ⟨i, x, _, hx, hi⟩ := find_some id l 0 h
    exact List.mem_map.2 ⟨x, List.mem_of_getElem? hx, hi⟩
  · intro h
    obtain ⟨x, hx, hi⟩ := List.mem_map.1 h
    exact Int.not_lt.1 (fun hlt => find_none id l 0 hlt x hx hi)
theorem ids_of {s s' : CluV} (h : s'.txs.map (·.i) = s.txs.map (·.i)) {M : Int} (hM : ∀ t ∈ s.txs, t.i < M) : ∀ t ∈ s'.txs, t.i < M := fun t ht => by
  have h1 : t.i ∈ s'.txs.map (·.i) := List.mem_map.2 ⟨t, ht, rfl⟩
  rw [h] at h1
  obtain ⟨x, hx, hi⟩ := List.mem_map.1 h1
  rw [← hi]
  exact hM x hx

/-! ### What each act leaves of what the book and the cluster have to do with one another -/
def bookFill (b : BookV) (m e : Int) : BookV := if e = 0 then { b with ep := b.ep + 1, nr := b.nr + m } else b
theorem fill_ans {M : Nat} {p : SeqV} {s : CluV} {b : BookV} (h : Inv M p s b) : 0 ≤ (fillV s).2.1 ∧ (fillV s).2.1 ≤ 64 ∧ ((fillV s).2.2 = 0 ∨ (fillV s).2.2 = 9) := by
  have hf := (fill_sim h.both.sim h.both.fit h.both.rest).1
  have hr := (fill_ready h.both.sim h.both.fit h.both.rest).2.2.1
  rw [← hf]
  by_cases he : p.epochs < 200
  · obtain ⟨_, h2⟩ := fill_count he
    rw [h2]
    refine ⟨by omega, by omega, .inl ?_⟩
    rw [pFillV_go he]
  · unfold pFillV
    rw [if_pos (by omega)]
    exact ⟨Int.le_refl _, by show (0 : Int) ≤ 64; omega, .inr rfl⟩
theorem inv_fill {M : Nat} {p : SeqV} {s : CluV} {b : BookV} (h : Inv M p s b) : Inv M (pFillV p).1 (fillV s).1 (bookFill b (fillV s).2.1 (fillV s).2.2) := by
  have hf := (fill_sim h.both.sim h.both.fit h.both.rest).1
  have hr := (fill_ready h.both.sim h.both.fit h.both.rest).2.2.1
  have hb := both_fill h.both
  have hse := hb.sim.epochs
  have hs0 := h.both.sim.epochs
  have hbi : (bookFill b (fillV s).2.1 (fillV s).2.2).inn = b.inn := by unfold bookFill; split <;> rfl
  refine ⟨hb, fill_outsOk h.outs hr, fill_ep h.oep, ?_, ?_, ids_of (fill_ids s) h.ids, fun id hid => ?_⟩
  · rw [← hf]
    by_cases he : p.epochs < 200
    · have e1 : (pFillV p).1.epochs = p.epochs + 1 := by rw [pFillV_go he]
      have e2 : (pFillV p).2.2 = 0 := by rw [pFillV_go he]
      unfold bookFill
      rw [if_pos e2]
      show b.ep + 1 = _
      have := h.bep
      omega
    · have e1 : pFillV p = (p, 0, 9) := by unfold pFillV; rw [if_pos (by omega)]
      rw [e1] at hse
      have hse' : p.epochs = (fillV s).1.epochs.length := hse
      rw [e1]
      show b.ep = _
      have := h.bep
      omega
  · rw [← hf]
    by_cases he : p.epochs < 200
    · have e2 : (pFillV p).2.2 = 0 := by rw [pFillV_go he]
      obtain ⟨c1, c2⟩ := fill_count he
      unfold bookFill
      rw [if_pos e2]
      show b.nr + (pFillV p).2.1 = _
      rw [c1, c2, h.brec]
      omega
    · have e1 : pFillV p = (p, 0, 9) := by unfold pFillV; rw [if_pos (by omega)]
      rw [e1]
      exact h.brec
  · rw [hbi, h.inn id hid, find_iff, find_iff, fill_ids]
theorem inv_reps {M : Nat} {p p' : SeqV} {s s' : CluV} {b : BookV} (h : Inv M p s b) (hb : Both p' s') (h1 : p'.outs = p.outs ∧ p'.epochs = p.epochs) (h2 : s'.txs = s.txs ∧ s'.epochs = s.epochs) : Inv M p' s' b :=
  ⟨hb, by unfold OutsOk; rw [h1.1, h1.2]; exact h.outs, by unfold OutsEp; rw [h1.1, h1.2]; exact h.oep, by rw [h2.2]; exact h.bep, by rw [h1.1]; exact h.brec, by rw [h2.1]; exact h.ids, by rw [h2.1]; exact h.inn⟩
theorem send_parts (s : CluV) (r n : Int) : (sendV s r n).1.txs = s.txs ∧ (sendV s r n).1.epochs = s.epochs ∧ (sendV s r n).1.conf = s.conf := by
  unfold sendV
  iterate 4 (split; exact ⟨rfl, rfl, rfl⟩)
  exact ⟨rfl, rfl, rfl⟩
theorem sync_parts (s : CluV) (r : Int) : (syncV s r).1.txs = s.txs ∧ (syncV s r).1.epochs = s.epochs ∧ (syncV s r).1.conf = s.conf := by
  unfold syncV
  split <;> exact ⟨rfl, rfl, rfl⟩
theorem crash_parts (s : CluV) (r k : Int) : (crashV s r k).1.txs = s.txs ∧ (crashV s r k).1.epochs = s.epochs ∧ (crashV s r k).1.conf = s.conf := by
  unfold crashV
  split <;> exact ⟨rfl, rfl, rfl⟩
theorem inv_send {M : Nat} {p : SeqV} {s : CluV} {b : BookV} (h : Inv M p s b) (r n : Int) : Inv M (withR p (repsOf (sendV s r n).1)) (sendV s r n).1 b := inv_reps h (both_send h.both r n) ⟨rfl, rfl⟩ ⟨(send_parts s r n).1, (send_parts s r n).2.1⟩
theorem inv_sync {M : Nat} {p : SeqV} {s : CluV} {b : BookV} (h : Inv M p s b) (r : Int) : Inv M (withR p (repsOf (syncV s r).1)) (syncV s r).1 b := inv_reps h (both_sync h.both r) ⟨rfl, rfl⟩ ⟨(sync_parts s r).1, (sync_parts s r).2.1⟩
theorem inv_crash {M : Nat} {p : SeqV} {s : CluV} {b : BookV} (h : Inv M p s b) (r k : Int) : Inv M (withR p (repsOf (crashV s r k).1)) (crashV s r k).1 b := inv_reps h (both_crash h.both r k) ⟨rfl, rfl⟩ ⟨(crash_parts s r k).1, (crash_parts s r k).2.1⟩

end Go.Proofs.Ytccckonckddadaa
