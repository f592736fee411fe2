import Derived.Test.YtccckonckddadabGreatJ44
import Derived.Test.YtccckonckddadabGreatJ47
import Derived.Test.YtccckonckddadabGreatJ42
import Derived.Test.YtccckonckddadabGreatJ31
import Derived.Test.YtccckonckddadabGreatJ28
import Derived.Test.YtccckonckddadabGreatJ27
namespace Go.Proofs.YtccckonckddadabGreat
open Go.RowKit
set_option linter.unusedVariables false

/-! ### A cluster's replicas -/
def withR (p : SeqV) (l : List RepV) : SeqV := { p with reps := l }
theorem set_self {α : Type} {l : List α} {k : Nat} {x : α} (h : l[k]? = some x) : l.set k x = l := by
  obtain ⟨hlt, he⟩ := List.getElem?_eq_some_iff.1 h
  rw [← he, List.set_getElem_self]
theorem withR_self {p : SeqV} {l : List RepV} (h : p.reps = l) : withR p l = p := by subst h; rfl
theorem seq_rep {w : World} {g : Nat} {F : Nat → Prop} {p : SeqV} {gA : Nat} {qb : Nat → Option Nat} {aS : Option Addr} {cS : Nat} {lb : TailV} (m : SeqMem w g F p gA qb aS cS lb) {r : Nat} {x : RepV} (h : p.reps[r]? = some x) :
    RBox w lb.gR (prepsCells (p.reps.take r)) (prepsCells (p.reps.drop (r + 1))) x ∧ (prepsCells (p.reps.take r)).length = r * 11 := by
  have hlt := (List.getElem?_eq_some_iff.1 h).1
  refine ⟨?_, ?_⟩
  · unfold RBox
    rw [m.log.reps, preps_split h]
  · rw [preps_len (fun y hy => (m.log.rfit.2 y (List.mem_of_mem_take hy)).1), List.length_take, Nat.min_eq_left (by omega)]
theorem seq_rep_put {w w' : World} {g : Nat} {F : Nat → Prop} {p : SeqV} (h : SeqAt w g F p) {gA : Nat} {qb : Nat → Option Nat} {aS : Option Addr} {cS : Nat} {lb : TailV} (m : SeqMem w g F p gA qb aS cS lb) {r : Nat} {x : RepV} (hr : r < p.reps.length) (hx : RepOk x)
    (hP : RepPost lb.gR (prepsCells (p.reps.take r)) (prepsCells (p.reps.drop (r + 1))) x w w') : SeqPost g F (withR p (p.reps.set r x)) w w' := by
  obtain ⟨hB, hK⟩ := hP
  have hall : ∀ k, F k → k ≠ lb.gR → w'.heap[k]? = w.heap[k]? := fun k hk hne => hK.block k (h.own k hk) hne
  have hAc : ∀ y, w'.cell? ⟨gA, y, none⟩ = w.cell? ⟨gA, y, none⟩ := fun y => World.cell?_of_block (a := ⟨gA, y, none⟩) (hall gA m.aF.1 (fun e => m.log.rF.2.2.1 e.symm))
  refine ⟨F, ⟨⟨h.fit.n0, h.fit.n8, h.fit.qu, h.fit.qt, h.fit.ro, h.fit.first, h.fit.many, h.fit.cells, h.fit.long, h.fit.outs, h.fit.acc⟩, h.gF, fun k hk => Nat.lt_of_lt_of_le (h.own k hk) hK.size, gA, qb, aS, cS, lb, ?_, ⟨m.log.eplen, m.log.eplog, m.log.epfit, ?_, m.log.eF, ?_, m.log.rF, ?_⟩, ?_, ?_, m.aF, m.qF, m.qone, ?_, m.sF⟩, ⟨hK.os, hK.tape, hK.output, hK.size, fun k hk hF => hK.block k hk (fun e => hF (e ▸ m.log.rF.1))⟩, fun k hk => .inl hk⟩
  · rw [hall g h.gF (fun e => m.log.rF.2.1 e.symm), m.blk]
    unfold seqCells withR
    simp only [List.length_set]
  · exact own_same m.log.row (fun k hk => hall k (m.log.eF k hk).1 (m.log.eF k hk).2.2.2.1)
  · have h2 : w'.heap[lb.gR]? = _ := hB
    rw [h2]
    show _ = some (Obj.cells (prepsCells (p.reps.set r x)).toArray _)
    rw [preps_set hr]
  · refine ⟨?_, fun y hy => ?_⟩
    · show (p.reps.set r x).length ≤ 4
      rw [List.length_set]; exact m.log.rfit.1
    · rcases List.mem_or_eq_of_mem_set hy with hy | rfl
      · exact m.log.rfit.2 y hy
      · exact hx
  · obtain ⟨arr, hr⟩ := m.row
    exact ⟨arr, (hall gA m.aF.1 (fun e => m.log.rF.2.2.1 e.symm)).trans hr⟩
  · intro i a ha
    exact (m.acc i a ha).same (hAc _) (hAc _) (fun k hk => hall k (m.qF i k hk).1 (fun e => m.log.rF.2.2.2.2 i (e ▸ hk)))
  · exact own_same m.outs (fun k hk => hall k (m.sF k hk).1 (fun e => m.log.rF.2.2.2.1 (e ▸ hk)))

theorem seq_cell15 {w : World} {g : Nat} {F : Nat → Prop} {p : SeqV} {gA : Nat} {qb : Nat → Option Nat} {aS : Option Addr} {cS : Nat} {lb : TailV} (hf : SeqFit p) (m : SeqMem w g F p gA qb aS cS lb) : w.cell? ⟨g, 15, none⟩ = some (.slice (some ⟨lb.gR, 0, none⟩) p.reps.length p.reps.length) := by
  rw [(heap_cells m.blk).1, List.getElem?_toArray]
  obtain ⟨x0, x1, x2, x3, x4, x5, x6, x7, hx⟩ := list8' p.cells hf.cells
  unfold seqCells
  rw [hx]
  rfl

def hasV (n : Nat) (r : Int) : Bool := decide (0 ≤ r ∧ r < (n : Int))
theorem phas_any (g : Nat) (F : Nat → Prop) (p : SeqV) (r : Int) (w : World) (h : SeqAt w g F p) :
    Calls Tryz.prog 66 #[.pointer (some ⟨g, 0, none⟩), .int .i64 r] w fun e w' => e = .returned (.bool (hasV p.reps.length r)) ∧ w' = w := by
  have hg := h.block
  obtain ⟨gA, qb, aS, cS, lb, m⟩ := h.mem
  have c15 := seq_cell15 h.fit m
  clear m h
  generalize p.reps.length = n at *
  by_cases h0 : 0 ≤ r
  · by_cases h1 : r < (n : Int)
    · have HX : Hid (hasV n r = true) := decide_eq_true ⟨h0, h1⟩
      go_enter Tryz.func66, Tryz.ntmps66
      go_wp2
      go_ret
      exact ⟨by rw [HX.out]; rfl, rfl⟩
    · have HX : Hid (hasV n r = false) := decide_eq_false (by omega)
      go_enter Tryz.func66, Tryz.ntmps66
      go_wp2
      go_ret
      exact ⟨by rw [HX.out]; rfl, rfl⟩
  · have HX : Hid (hasV n r = false) := decide_eq_false (by omega)
    have h0' : r < 0 := by omega
    go_enter Tryz.func66, Tryz.ntmps66
    go_wp2
    go_ret
    exact ⟨by rw [HX.out]; rfl, rfl⟩

/-! ### What is asked of the plain states -/
structure Both (p : SeqV) (s : CluV) : Prop where
  sim : Sim p s
  rsim : RSim p s
  fit : CluFit s
  rest : Rest s
  rep : RepFit s
theorem Both.rlen {p : SeqV} {s : CluV} (h : Both p s) : (p.reps.length : Int) = s.conf.reps := by
  have := conf_reps h.fit.conf
  rw [h.rsim, reps_len h.fit]; omega
theorem Both.rat {p : SeqV} {s : CluV} (h : Both p s) {k : Nat} (hk : (k : Int) ≤ s.conf.reps - 1) : p.reps[k]? = some (repOf s (s.reps.getD k (0, 0))) := by rw [h.rsim]; exact reps_at h.fit hk
theorem doneRecs_len8 : ∀ (rs : List RecV) {cs : List Int}, cs.length = 8 → (doneRecs cs rs).length = 8
  | [], cs, h => h
  | r :: rs, cs, h => by
    show (doneRecs (doneRec cs r) rs).length = 8
    refine doneRecs_len8 rs ?_
    unfold doneRec
    split
    · exact h
    · exact doV_len _ h
theorem doneEps_len8 : ∀ (es : List (List RecV)) {cs : List Int}, cs.length = 8 → (doneEps cs es).length = 8
  | [], cs, h => h
  | e :: es, cs, h => doneEps_len8 es (doneRecs_len8 e h)
theorem repOf_ok {s : CluV} (hf : CluFit s) {x : Int × Int} (hx : 0 ≤ x.2 ∧ x.2 ≤ x.1 ∧ x.1 ≤ (s.epochs.length : Int)) : RepOk (repOf s x) ∧ (repOf s x).safe ≤ (repOf s x).disk.size := by
  have hm := hf.many
  have h1 := logV_le s hf x.1.toNat (by omega)
  have h2 := logV_mono s x.2.toNat (x.1.toNat - x.2.toNat) (by omega)
  rw [show x.2.toNat + (x.1.toNat - x.2.toNat) = x.1.toNat from by omega] at h2
  have hs : (repOf s x).disk.size = (logV s x.1.toNat).length := by
    have := bytesOf_list (logV s x.1.toNat)
    rw [← len_list]
    exact congrArg List.length this
  refine ⟨⟨doneEps_len8 _ rfl, by rw [hs]; omega, ?_, ?_⟩, ?_⟩
  · show (logV s x.2.toNat).length ≤ 2000000
    omega
  · show x.1.toNat ≤ 200
    omega
  · rw [hs]; exact h2
theorem didEps_done {s : CluV} (hf : CluFit s) (n : Nat) (cs : List Int) : didEps cs (s.epochs.take n) = doneEps cs (s.epochs.take n) := by
  have h : ∀ (es : List (List RecV)) (cs : List Int), (∀ e ∈ es, (recs e).all Dk.recOk = true) → didEps cs es = doneEps cs es := by
    intro es
    induction es with
    | nil => intro cs _; rfl
    | cons e es ih =>
      intro cs h
      show didEps (didRecs cs e) es = doneEps (doneRecs cs e) es
      rw [didRecs_done e cs (h e (by simp)), ih _ (fun x hx => h x (by simp [hx]))]
  exact h _ _ (fun e he => (hf.ep e (List.mem_of_mem_take he)).2)

/-- What Send makes of a replica. -/
theorem take_is {s : CluV} (hf : CluFit s) {x : Int × Int} (hx : 0 ≤ x.2 ∧ x.2 ≤ x.1 ∧ x.1 ≤ (s.epochs.length : Int)) {n : Nat} (hn : n < s.epochs.length) {b : ByteArray} (hb : b.data.toList = Dk.epoch n (recs s.epochs[n])) :
    takeV (repOf s x) n b s.epochs[n] = if (n : Int) < x.1 then (repOf s x, 12) else if x.1 < (n : Int) then (repOf s x, 13) else (repOf s (n + 1, x.2), 0) := by
  unfold takeV
  obtain ⟨x1, x2⟩ := x
  obtain ⟨c, rfl⟩ : ∃ c : Nat, x1 = c := ⟨x1.toNat, by simp only at hx; omega⟩
  have hcc : (repOf s ((c : Int), x2)).count = c := Int.toNat_natCast c
  rw [hcc]
  simp only at hx ⊢
  by_cases h1 : n < c
  · rw [if_pos h1, if_pos (by omega)]
  · by_cases h2 : c < n
    · rw [if_neg h1, if_pos h2, if_neg (show ¬ (n : Int) < (c : Int) by omega), if_pos (show (c : Int) < (n : Int) by omega)]
    · rw [if_neg h1, if_neg h2, if_neg (show ¬ (n : Int) < (c : Int) by omega), if_neg (show ¬ (c : Int) < (n : Int) by omega)]
      have hcn : c = n := by omega
      subst hcn
      congr 1
      unfold repOf
      simp only [Int.toNat_natCast]
      rw [show ((c : Int) + 1).toNat = c + 1 from by omega]
      congr 1
      · refine bytes_eq ?_
        rw [app_list, bytesOf_list, bytesOf_list, hb, log_snoc (List.getElem?_eq_getElem hn)]
      · rw [List.take_succ_eq_append_getElem hn, doneEps_snoc, didRecs_done _ _ (hf.ep _ (List.getElem_mem hn)).2]

set_option maxRecDepth 100000 in
set_option maxHeartbeats 4000000 in
theorem psend_any (g : Nat) (F : Nat → Prop) (p : SeqV) (s : CluV) (r n : Int) (w : World) (h : SeqAt w g F p) (hB : Both p s) :
    Calls Tryz.prog 29 #[.pointer (some ⟨g, 0, none⟩), .int .i64 r, .int .i64 n] w fun e w' => e = .returned (.int .i64 (sendV s r n).2) ∧ SeqPost g F (withR p (repsOf (sendV s r n).1)) w w' := by
  have hg := h.block
  have H : Hid _ := h
  have HB : Hid _ := hB
  have hrl := hB.rlen
  have hrc := conf_reps hB.fit.conf
  have HV : Hid (sendV s r n = if ¬ (0 ≤ r ∧ r ≤ s.conf.reps - 1) then (s, 11) else if ¬ (0 ≤ n ∧ n ≤ (s.epochs.length : Int) - 1) then (s, 10) else if n < (s.reps.getD r.toNat (0, 0)).1 then (s, 12) else if (s.reps.getD r.toNat (0, 0)).1 < n then (s, 13) else (repV s r.toNat (n + 1, (s.reps.getD r.toNat (0, 0)).2), 0)) := rfl
  obtain ⟨gA, qb, aS, cS, lb, m⟩ := h.mem
  have c15 := seq_cell15 h.fit m
  have HM : Hid _ := m
  clear h hB m
  obtain ⟨nr, hnr⟩ : ∃ x, p.reps.length = x := ⟨_, rfl⟩
  have HNr : Hid (p.reps.length = nr) := hnr
  rw [hnr] at c15 hrl
  clear hnr
  go_enter Tryz.func29, Tryz.ntmps29
  go_wp2_with fail
  refine (phas_any g F p r w H.out).mono ?_
  rintro e w1 ⟨rfl, hw1⟩
  obtain rfl := hw1.symm
  rewrite [HNr.out]
  by_cases h0 : 0 ≤ r ∧ r < (nr : Int)
  rotate_left
  · have HX : Hid (sendV s r n = (s, 11)) := by show _ = _; rw [HV.out, if_pos (by omega)]
    have hd : hasV nr r = false := decide_eq_false h0
    rewrite [hd]
    clear hd
    go_wp2
    go_ret
    rw [HX.out]
    exact ⟨rfl, by rw [withR_self HB.out.rsim]; exact SeqPost.same H.out (Below.refl _ _)⟩
  have hd : hasV nr r = true := decide_eq_true h0
  rewrite [hd]
  clear hd
  obtain ⟨rn, rfl⟩ : ∃ k : Nat, r = k := ⟨r.toNat, by omega⟩
  obtain ⟨h0a, h0b⟩ := h0
  rw [if_neg (show ¬ ¬ (0 ≤ (rn : Int) ∧ (rn : Int) ≤ s.conf.reps - 1) by omega), Int.toNat_natCast] at HV
  have HAt : Hid _ := HB.out.rat (k := rn) (by omega)
  have HRf : Hid _ := rep_fit HB.out.rep rn
  generalize hxx : s.reps.getD rn (0, 0) = x at *
  have HOk : Hid _ := repOf_ok HB.out.fit HRf.out
  obtain ⟨hbx, hpl⟩ := seq_rep HM.out HAt.out
  have HBx : Hid _ := hbx
  have HPl : Hid _ := hpl
  clear hbx hpl
  go_wp2_with fail
  refine (sepoch_any g F p n w H.out).mono ?_
  rintro e w1 ⟨rfl, hw1⟩
  obtain rfl := hw1.symm
  have hel : p.eps.length = s.epochs.length := by
    have h1 := congrArg List.length HB.out.sim.log.2
    rw [List.length_map, epsL, List.length_mapIdx] at h1
    exact h1
  obtain ⟨b, hbe⟩ : ∃ b, epochOf p.eps n = b := ⟨_, rfl⟩
  have hb : (¬ (0 ≤ n ∧ n < (s.epochs.length : Int)) ∧ b = ⟨#[]⟩) ∨ (0 ≤ n ∧ p.eps[n.toNat]? = some b) := by
    unfold epochOf at hbe
    rw [hel] at hbe
    split at hbe
    · rename_i hc
      refine .inr ⟨hc.1, ?_⟩
      rw [List.getD_eq_getElem?_getD, List.getElem?_eq_getElem (by omega)] at hbe
      rw [List.getElem?_eq_getElem (by omega), ← hbe]; rfl
    · rename_i hc
      exact .inl ⟨hc, hbe.symm⟩
  rewrite [hbe]
  clear hbe
  rcases hb with ⟨h1, rfl⟩ | ⟨h1, hb⟩
  · have HX : Hid (sendV s (rn : Int) n = (s, 10)) := by show _ = _; rw [HV.out, if_pos (by omega)]
    go_wp2_with fail
    have ht := rtake_no lb.gR (prepsCells (p.reps.take rn)) (prepsCells (p.reps.drop (rn + 1))) (repOf s x) n w HBx.out
    rw [HPl.out] at ht
    refine ht.mono ?_
    rintro e w2 ⟨rfl, hP⟩
    have HP : Hid _ := seq_rep_put H.out HM.out (r := rn) (by rw [HNr.out]; omega) HOk.out.1 hP
    clear hP ht
    go_wp2
    go_ret
    rw [HX.out]
    refine ⟨rfl, ?_⟩
    have := HP.out
    rw [set_self HAt.out, withR_self rfl] at this
    rw [withR_self HB.out.rsim]
    exact this
  · obtain ⟨nn, rfl⟩ : ∃ k : Nat, n = k := ⟨n.toNat, by omega⟩
    rw [Int.toNat_natCast] at hb
    have hnn : nn < s.epochs.length := by rw [← hel]; exact (List.getElem?_eq_some_iff.1 hb).1
    have hm := HB.out.fit.many
    obtain ⟨b2, hb2, hbd⟩ := eps_at HB.out.sim hnn
    rw [hb] at hb2
    obtain rfl := Option.some.inj hb2
    have hfr := frame_ep HB.out.fit hnn
    have hbs : b.size ≤ 4232 := (HM.out.log.epfit b (List.mem_of_getElem? hb)).2
    have ht := rtake_any lb.gR (prepsCells (p.reps.take rn)) (prepsCells (p.reps.drop (rn + 1))) (repOf s x).disk (repOf s x).safe (repOf s x).count (repOf s x).cells nn b s.epochs[nn] w HBx.out HOk.out.1.1 HOk.out.1.2.2.2 (by omega) HOk.out.1.2.1 hbs hbd hfr
    have hti := take_is HB.out.fit HRf.out hnn hbd
    have HT : Hid (takeV (repOf s x) nn b s.epochs[nn] = ((if (sendV s (rn : Int) (nn : Int)).2 = 0 then repOf s ((nn : Int) + 1, x.2) else repOf s x), (sendV s (rn : Int) (nn : Int)).2) ∧ repsOf (sendV s (rn : Int) (nn : Int)).1 = p.reps.set rn (if (sendV s (rn : Int) (nn : Int)).2 = 0 then repOf s ((nn : Int) + 1, x.2) else repOf s x)) := by
      have HV2 : sendV s (rn : Int) (nn : Int) = if (nn : Int) < x.1 then (s, 12) else if x.1 < (nn : Int) then (s, 13) else (repV s rn ((nn : Int) + 1, x.2), 0) := by
        rw [HV.out, if_neg (show ¬ ¬ (0 ≤ (nn : Int) ∧ (nn : Int) ≤ (s.epochs.length : Int) - 1) by omega)]
      have hself : repsOf s = p.reps.set rn (repOf s x) := by rw [set_self HAt.out, HB.out.rsim]
      rw [hti, HV2]
      by_cases c1 : (nn : Int) < x.1
      · simp only [if_pos c1]
        exact ⟨rfl, hself⟩
      by_cases c2 : x.1 < (nn : Int)
      · simp only [if_neg c1, if_pos c2]
        exact ⟨rfl, hself⟩
      · simp only [if_neg c1, if_neg c2]
        refine ⟨rfl, ?_⟩
        rw [HB.out.rsim]
        exact reps_put rn _
    have hk2 : RepOk (if (sendV s (rn : Int) (nn : Int)).2 = 0 then repOf s ((nn : Int) + 1, x.2) else repOf s x) := by
      split
      · rename_i hz
        refine (repOf_ok HB.out.fit (x := ((nn : Int) + 1, x.2)) ⟨HRf.out.1, ?_, by show (nn : Int) + 1 ≤ _; omega⟩).1
        show x.2 ≤ (nn : Int) + 1
        have hz' := hz
        rw [HV.out, if_neg (show ¬ ¬ (0 ≤ (nn : Int) ∧ (nn : Int) ≤ (s.epochs.length : Int) - 1) by omega)] at hz'
        have hrf := HRf.out
        by_cases c1 : (nn : Int) < x.1
        · rw [if_pos c1] at hz'
          exact absurd (show (12 : Int) = 0 from hz') (by decide)
        · omega
      · exact HOk.out.1
    rw [HPl.out] at ht
    go_wp2_with fail
    refine ht.mono ?_
    rintro e w2 ⟨rfl, hP⟩
    have e2 : (takeV (repOf s x) nn b s.epochs[nn]).2 = (sendV s (rn : Int) (nn : Int)).2 := by rw [HT.out.1]
    have e1 : (takeV (repOf s x) nn b s.epochs[nn]).1 = _ := congrArg Prod.fst HT.out.1
    have hP' : RepPost lb.gR (prepsCells (p.reps.take rn)) (prepsCells (p.reps.drop (rn + 1))) (takeV (repOf s x) nn b s.epochs[nn]).1 w w2 := hP
    rw [e1] at hP'
    have HP : Hid _ := seq_rep_put H.out HM.out (r := rn) (by rw [HNr.out]; omega) hk2 hP'
    have e3 : (takeV ⟨(repOf s x).disk, (repOf s x).safe, (repOf s x).count, (repOf s x).cells⟩ nn b s.epochs[nn]).2 = (sendV s (rn : Int) (nn : Int)).2 := e2
    rw [e3]
    clear hP hP' ht hti e1 e2 e3 hk2
    go_wp2
    go_ret
    exact ⟨rfl, by rw [HT.out.2]; exact HP.out⟩

end Go.Proofs.YtccckonckddadabGreat
namespace Go.Proofs.YtccckonckddadabGreat
open Go.RowKit
set_option linter.unusedVariables false

/-! ### The world of a script: clusters, and beside each the document's -/
structure Pair where
  g : Nat
  F : Nat → Prop
  p : SeqV
  gr : Nat
  Fr : Nat → Prop
  s : CluV
def ptrC (ps : List Pair) : List Value := ps.map fun x => .pointer (some ⟨x.g, 0, none⟩)
def ptrR (ps : List Pair) : List Value := ps.map fun x => .pointer (some ⟨x.gr, 0, none⟩)

structure PairAt (B : Nat) (w : World) (lab : Nat → Nat) (i : Nat) (x : Pair) : Prop where
  seq : SeqAt w x.g x.F x.p
  clu : CluAt w x.gr x.Fr x.s
  sim : Both x.p x.s
  rest : Rest x.s
  outs : OutsOk x.p
  lF : ∀ k, x.F k → B ≤ k ∧ lab k = 5 + 2 * i
  lR : ∀ k, x.Fr k → B ≤ k ∧ lab k = 6 + 2 * i

/-! ### The lists that are held -/
structure HeldV where
  g : Nat
  n : Nat
  m : Int
def heldRow (hs : List HeldV) : List Value := hs.flatMap fun x => [.slice (some ⟨x.g, 0, none⟩) x.n x.n, .int .i64 x.m]
def HeldAt (B N : Nat) (w : World) (lab : Nat → Nat) (vH : Value) : Prop :=
  ∃ (a : Option Addr) (c : Nat) (hs : List HeldV), vH = .slice a hs.length c ∧ hs.length ≤ N ∧ w.ownsRow B 53 2 (.slice a hs.length c) hs.length (heldRow hs) ∧ (∀ k, (Value.slice a hs.length c).ownBlock = some k → lab k = 3) ∧
    ∀ x ∈ hs, AllAt w x.g (List.replicate x.n (mark x.m)) ∧ B ≤ x.g ∧ lab x.g = 4 ∧ 0 < x.n ∧ x.n ≤ 7036874417768 ∧ 0 ≤ x.m ∧ x.m ≤ 10000000000002
theorem HeldAt.same {B N : Nat} {w W : World} {lab lab' : Nat → Nat} {vH : Value} (h : HeldAt B N w lab vH) (hl : ∀ k, k < w.heap.size → lab' k = lab k) (hb : ∀ k, k < w.heap.size → B ≤ k → (lab k = 3 ∨ lab k = 4) → W.heap[k]? = w.heap[k]?) : HeldAt B N W lab' vH := by
  obtain ⟨a, c, hs, h1, h0, h2, h3, h4⟩ := h
  refine ⟨a, c, hs, h1, h0, own_same h2 (fun k hk => hb k (h2.lt k hk).2 (h2.lt k hk).1 (.inl (h3 k hk))), fun k hk => (hl k (h2.lt k hk).2).trans (h3 k hk), fun x hx => ?_⟩
  obtain ⟨q1, q2, q3, q4⟩ := h4 x hx
  have hz := (heap_cells q1).2.2
  exact ⟨(hb x.g hz q2 (.inr q3)).trans q1, q2, (hl x.g hz).trans q3, q4⟩

structure WldAt (B N : Nat) (w : World) (gW : Nat) (ps : List Pair) (lab : Nat → Nat) : Prop where
  gB : B ≤ gW
  gl : lab gW = 0
  mem : ∃ aC cC aR cR vH, w.heap[gW]? = some (.cells #[.slice aC ps.length cC, .slice aR ps.length cR, vH] 32) ∧
    w.ownsRow B 57 1 (.slice aC ps.length cC) ps.length (ptrC ps) ∧ w.ownsRow B 61 1 (.slice aR ps.length cR) ps.length (ptrR ps) ∧
    (∀ k, (Value.slice aC ps.length cC).ownBlock = some k → lab k = 1) ∧ (∀ k, (Value.slice aR ps.length cR).ownBlock = some k → lab k = 2) ∧ HeldAt B N w lab vH
  pair : ∀ i x, ps[i]? = some x → PairAt B w lab i x

theorem WldAt.same {B N : Nat} {w W : World} {gW : Nat} {ps : List Pair} {lab lab' : Nat → Nat} (h : WldAt B N w gW ps lab) (hs : w.heap.size ≤ W.heap.size) (hl : ∀ k, k < w.heap.size → lab' k = lab k) (hb : ∀ k, k < w.heap.size → (lab k = 0 → k = gW) → (B ≤ k → W.heap[k]? = w.heap[k]?)) : WldAt B N W gW ps lab' := by
  obtain ⟨aC, cC, aR, cR, vH, m1, m2, m3, m4, m5, m6⟩ := h.mem
  have hgW := (heap_cells m1).2.2
  refine ⟨h.gB, (hl gW hgW).trans h.gl, ⟨aC, cC, aR, cR, vH, (hb gW hgW (fun _ => rfl) h.gB).trans m1, own_same m2 (fun k hk => ?_), own_same m3 (fun k hk => ?_), fun k hk => ?_, fun k hk => ?_, m6.same hl (fun k hk h1 h2 => hb k hk (fun e => by omega) h1)⟩, fun i x hx => ?_⟩
  · have := m2.lt k hk
    exact hb k this.2 (fun e => by rw [m4 k hk] at e; omega) this.1
  · have := m3.lt k hk
    exact hb k this.2 (fun e => by rw [m5 k hk] at e; omega) this.1
  · rw [hl k (m2.lt k hk).2]; exact m4 k hk
  · rw [hl k (m3.lt k hk).2]; exact m5 k hk
  · have hp := h.pair i x hx
    refine ⟨hp.seq.same hs (fun k hk => hb k (hp.seq.own k hk) (fun e => by rw [(hp.lF k hk).2] at e; omega) (hp.lF k hk).1), hp.clu.same hs (fun k hk => hb k (hp.clu.own k hk) (fun e => by rw [(hp.lR k hk).2] at e; omega) (hp.lR k hk).1), hp.sim, hp.rest, hp.outs, fun k hk => ?_, fun k hk => ?_⟩
    · exact ⟨(hp.lF k hk).1, (hl k (hp.seq.own k hk)).trans (hp.lF k hk).2⟩
    · exact ⟨(hp.lR k hk).1, (hl k (hp.clu.own k hk)).trans (hp.lR k hk).2⟩
theorem WldAt.below {B N : Nat} {w W : World} {gW : Nat} {ps : List Pair} {lab : Nat → Nat} (h : WldAt B N w gW ps lab) (hb : Below w.heap.size w W) : WldAt B N W gW ps lab :=
  h.same hb.size (fun _ _ => rfl) (fun k hk _ _ => hb.block k hk)
theorem WldAt.base {B N : Nat} {w : World} {gW : Nat} {ps : List Pair} {lab : Nat → Nat} (h : WldAt B N w gW ps lab) : B ≤ w.heap.size := by
  obtain ⟨_, _, _, _, _, m1, _⟩ := h.mem
  have := (heap_cells m1).2.2
  have := h.gB
  omega

/-- The program's call leaves the document's cluster alone. -/
theorem PairAt.other {B : Nat} {w w1 : World} {lab : Nat → Nat} {i : Nat} {x : Pair} (h : PairAt B w lab i x) (hk : Kept x.F w w1) : CluAt w1 x.gr x.Fr x.s :=
  h.clu.same hk.size (fun k hf => hk.block k (h.clu.own k hf) (fun hF => by have := (h.lF k hF).2; have := (h.lR k hf).2; omega))

/-- Both have answered. -/
theorem WldAt.both {B N : Nat} {w w1 w2 : World} {gW : Nat} {ps : List Pair} {lab : Nat → Nat} (h : WldAt B N w gW ps lab) {i : Nat} {x : Pair} (hx : ps[i]? = some x) {p' : SeqV} {s' : CluV} (hP : SeqPost x.g x.F p' w w1) (hR : CluPost x.gr x.Fr s' w1 w2) (hS : Both p' s') (hRe : Rest s') (ho : OutsOk p') :
    (∃ ps' lab', ps'.length = ps.length ∧ WldAt B N w2 gW ps' lab') ∧ Below B w w2 := by
  have hp := h.pair i x hx
  have hB := h.base
  obtain ⟨F', p1, p2, p3⟩ := hP
  obtain ⟨Fr', r1, r2, r3⟩ := hR
  have hz1 := p2.size
  have hz2 := r2.size
  have hil := (List.getElem?_eq_some_iff.1 hx).1
  -- what was there and is neither's stays
  have hkeep : ∀ k, k < w.heap.size → ¬ x.F k → ¬ x.Fr k → w2.heap[k]? = w.heap[k]? := fun k hk h1 h2 => (r2.block k (by omega) h2).trans (p2.block k hk h1)
  have hFr : ∀ k, x.Fr k → k < w.heap.size := hp.clu.own
  have hlabF : ∀ k, k < w.heap.size → lab k ≠ 5 + 2 * i → lab k ≠ 6 + 2 * i → w2.heap[k]? = w.heap[k]? := fun k hk h1 h2 => hkeep k hk (fun e => h1 (hp.lF k e).2) (fun e => h2 (hp.lR k e).2)
  refine ⟨⟨ps.set i ⟨x.g, F', p', x.gr, Fr', s'⟩, fun k => if k < w.heap.size then lab k else if k < w1.heap.size then 5 + 2 * i else 6 + 2 * i, List.length_set, ?_⟩, ?_⟩
  · obtain ⟨aC, cC, aR, cR, vH, m1, m2, m3, m4, m5, m6⟩ := h.mem
    have hgW := (heap_cells m1).2.2
    have hlen : (ps.set i ⟨x.g, F', p', x.gr, Fr', s'⟩).length = ps.length := List.length_set
    have hC : ptrC (ps.set i ⟨x.g, F', p', x.gr, Fr', s'⟩) = ptrC ps := by
      unfold ptrC
      rw [List.map_set]
      apply List.ext_getElem?
      intro j
      by_cases hj : i = j
      · subst hj
        rw [List.getElem?_set_self (by rw [List.length_map]; exact hil), List.getElem?_map, hx]; rfl
      · rw [List.getElem?_set_ne hj]
    have hRr : ptrR (ps.set i ⟨x.g, F', p', x.gr, Fr', s'⟩) = ptrR ps := by
      unfold ptrR
      rw [List.map_set]
      apply List.ext_getElem?
      intro j
      by_cases hj : i = j
      · subst hj
        rw [List.getElem?_set_self (by rw [List.length_map]; exact hil), List.getElem?_map, hx]; rfl
      · rw [List.getElem?_set_ne hj]
    refine ⟨h.gB, ?_, ?_, ?_⟩
    · show (if gW < w.heap.size then lab gW else _) = 0
      rw [if_pos hgW]; exact h.gl
    · rw [hlen, hC, hRr]
      refine ⟨aC, cC, aR, cR, vH, (hlabF gW hgW (by rw [h.gl]; omega) (by rw [h.gl]; omega)).trans m1, own_same m2 (fun k hk => ?_), own_same m3 (fun k hk => ?_), fun k hk => ?_, fun k hk => ?_, m6.same (fun k hk => if_pos hk) (fun k hk h1 h2 => hlabF k hk (by omega) (by omega))⟩
      · exact hlabF k (m2.lt k hk).2 (by rw [m4 k hk]; omega) (by rw [m4 k hk]; omega)
      · exact hlabF k (m3.lt k hk).2 (by rw [m5 k hk]; omega) (by rw [m5 k hk]; omega)
      · show (if k < w.heap.size then lab k else _) = 1
        rw [if_pos (m2.lt k hk).2]; exact m4 k hk
      · show (if k < w.heap.size then lab k else _) = 2
        rw [if_pos (m3.lt k hk).2]; exact m5 k hk
    · intro j y hy
      by_cases hj : i = j
      · subst hj
        rw [List.getElem?_set_self hil] at hy
        cases hy
        have hF'w : ∀ k, F' k → k < w1.heap.size := p1.own
        have hdis : ∀ k, F' k → ¬ x.Fr k := fun k hk hf => by
          rcases p3 k hk with e | e
          · have := (hp.lF k e).2; have := (hp.lR k hf).2; omega
          · have := hFr k hf; omega
        refine ⟨p1.same hz2 (fun k hk => r2.block k (hF'w k hk) (hdis k hk)), r1, hS, hRe, ho, fun k hk => ?_, fun k hk => ?_⟩
        · rcases p3 k hk with e | e
          · refine ⟨(hp.lF k e).1, ?_⟩
            show (if k < w.heap.size then lab k else _) = _
            rw [if_pos (hp.seq.own k e)]; exact (hp.lF k e).2
          · refine ⟨by omega, ?_⟩
            show (if k < w.heap.size then lab k else if k < w1.heap.size then 5 + 2 * i else 6 + 2 * i) = _
            rw [if_neg (by omega), if_pos (hF'w k hk)]
        · rcases r3 k hk with e | e
          · refine ⟨(hp.lR k e).1, ?_⟩
            show (if k < w.heap.size then lab k else _) = _
            rw [if_pos (hFr k e)]; exact (hp.lR k e).2
          · refine ⟨by omega, ?_⟩
            show (if k < w.heap.size then lab k else if k < w1.heap.size then 5 + 2 * i else 6 + 2 * i) = _
            rw [if_neg (by omega), if_neg (by omega)]
      · rw [List.getElem?_set_ne hj] at hy
        have hq := h.pair j y hy
        refine ⟨hq.seq.same (by omega) (fun k hk => hlabF k (hq.seq.own k hk) ?_ ?_), hq.clu.same (by omega) (fun k hk => hlabF k (hq.clu.own k hk) ?_ ?_), hq.sim, hq.rest, hq.outs, fun k hk => ⟨(hq.lF k hk).1, ?_⟩, fun k hk => ⟨(hq.lR k hk).1, ?_⟩⟩
        · rw [(hq.lF k hk).2]; omega
        · rw [(hq.lF k hk).2]; omega
        · rw [(hq.lR k hk).2]; omega
        · rw [(hq.lR k hk).2]; omega
        · show (if k < w.heap.size then lab k else _) = _
          rw [if_pos (hq.seq.own k hk)]; exact (hq.lF k hk).2
        · show (if k < w.heap.size then lab k else _) = _
          rw [if_pos (hq.clu.own k hk)]; exact (hq.lR k hk).2
  · have b1 := p2.below hB (fun k hk => (hp.lF k hk).1)
    have b2 := r2.below (B := B) (by omega) (fun k hk => (hp.lR k hk).1)
    exact b1.trans b2

end Go.Proofs.YtccckonckddadabGreat
namespace Go.Proofs.YtccckonckddadabGreat
open Go.RowKit
set_option linter.unusedVariables false

structure OpV where
  kind : Int
  a : Int
  b : Int
  c : Int
  k : Int
  s : ByteArray
  conf : ConfV
  z0 : Int
  z1 : Int
  z2 : Int
  z3 : Int
  z4 : Int
  z5 : Int
  z6 : Int
  z7 : Int
  ra : Option Addr
  rm : Nat
  rc : Nat
def OpV.arr (o : OpV) : Array Value := #[.int .i64 o.kind, .int .i64 o.a, .int .i64 o.b, .int .i64 o.c, .int .i64 o.k, .string o.s, .int .i64 o.conf.clients, .int .i64 o.conf.queue, .int .i64 o.conf.quantum, .int .i64 o.conf.room, .int .i64 o.conf.reps, .int .i16 o.z0, .int .i16 o.z1, .int .i16 o.z2, .int .i16 o.z3, .int .i16 o.z4, .int .i16 o.z5, .int .i16 o.z6, .int .i16 o.z7, .slice o.ra o.rm o.rc]

theorem num_any (e : Int) (w : World) : Calls Tryz.prog 18 #[.int .i64 e] w fun r w' => r = .returned (.int .i64 e) ∧ w' = w := by
  go_enter Tryz.func18, Tryz.ntmps18
  go_wp2
  go_ret
  exact ⟨rfl, rfl⟩

theorem lpick_any (c n : Int) (w : World) (h0 : -9223372036854775808 ≤ c) (h1 : c < 9223372036854775808) (hn : 0 < n) (hn2 : n < 4611686018427387904) :
    Calls Tryz.prog 12 #[.int .i64 c, .int .i64 n] w fun e w' => ∃ r : Int, e = .returned (.int .i64 r) ∧ 0 ≤ r ∧ r < n ∧ w' = w := by
  have hne : n ≠ 0 := by omega
  have hnb : (n == 0) = false := by rw [beq_eq_false_iff_ne]; exact hne
  by_cases hc : c < 0
  · have hc2 : (0 : Int) ≤ -(c + 1) := by omega
    go_enter Tryz.func12, Tryz.ntmps12
    go_wp2
    go_ret
    have r0 := Int.tmod_nonneg n hc2
    have r1 := Int.tmod_lt_of_pos (-(c + 1)) hn
    rw [Int.neg_tmod] at r0 r1
    exact ⟨_, rfl, r0, r1, rfl⟩
  · have hc2 : (0 : Int) ≤ c := by omega
    go_enter Tryz.func12, Tryz.ntmps12
    go_wp2
    go_ret
    exact ⟨_, rfl, Int.emod_nonneg _ hne, Int.emod_lt_of_pos _ hn, rfl⟩

theorem WldAt.look {B N : Nat} {w : World} {gW : Nat} {ps : List Pair} {lab : Nat → Nat} (h : WldAt B N w gW ps lab) {i : Nat} {x : Pair} (hx : ps[i]? = some x) :
    ∃ gC cC gR cR, w.cell? ⟨gW, 0, none⟩ = some (.slice (some ⟨gC, 0, none⟩) ps.length cC) ∧ w.cell? ⟨gW, 1, none⟩ = some (.slice (some ⟨gR, 0, none⟩) ps.length cR) ∧ w.cell? ⟨gC, i, none⟩ = some (.pointer (some ⟨x.g, 0, none⟩)) ∧ w.cell? ⟨gR, i, none⟩ = some (.pointer (some ⟨x.gr, 0, none⟩)) ∧ gW < w.heap.size ∧ gC < w.heap.size ∧ gR < w.heap.size := by
  obtain ⟨aC, cC, aR, cR, vH, m1, m2, m3, _⟩ := h.mem
  have hil := (List.getElem?_eq_some_iff.1 hx).1
  obtain ⟨gC, rfl, hgC, hcC, _⟩ := own_cell m2 (by omega)
  obtain ⟨gR, rfl, hgR, hcR, _⟩ := own_cell m3 (by omega)
  refine ⟨gC, cC, gR, cR, by rw [(heap_cells m1).1]; rfl, by rw [(heap_cells m1).1]; rfl, hcC i _ ?_, hcR i _ ?_, (heap_cells m1).2.2, hgC, hgR⟩
  · unfold ptrC; rw [List.getElem?_map, hx]; rfl
  · unfold ptrR; rw [List.getElem?_map, hx]; rfl

def WPost (B N : Nat) (gW : Nat) (n : Nat) (w : World) (e : Ending) (w' : World) : Prop := e = .returned (.bool true) ∧ (∃ ps' lab', ps'.length = n ∧ WldAt B N w' gW ps' lab') ∧ Below B w w'

set_option maxRecDepth 100000 in
set_option maxHeartbeats 4000000 in
theorem does_submit (B N : Nat) (gW : Nat) (ps : List Pair) (lab : Nat → Nat) (o : OpV) (k : Nat) (w : World) (h : WldAt B N w gW ps lab) (hk : k < ps.length) (ho : o.kind = 2) (hs : o.s.size ≤ maxLen) :
    Calls Tryz.prog 13 #[.pointer (some ⟨gW, 0, none⟩), .int .i64 (k : Int), .agg o.arr] w (WPost B N gW ps.length w) := by
  obtain ⟨kind, oa, ob, oc, ok, os, conf, z0, z1, z2, z3, z4, z5, z6, z7, ra, rm, rc⟩ := o
  simp only at ho hs
  subst ho
  have hxk := List.getElem?_eq_getElem hk
  generalize ps[k] = x at hxk
  have HB : Hid _ := h.base
  obtain ⟨gC, cC, gR, cR, l0, l1, l2, l3, hgW, hgC, hgR⟩ := h.look hxk
  have H : Hid _ := h
  have HXk : Hid _ := hxk
  clear h hxk
  generalize hn : ps.length = n at *
  show Calls Tryz.prog 13 #[.pointer (some ⟨gW, 0, none⟩), .int .i64 (k : Int), .agg #[.int .i64 2, .int .i64 oa, .int .i64 ob, .int .i64 oc, .int .i64 ok, .string os, .int .i64 conf.clients, .int .i64 conf.queue, .int .i64 conf.quantum, .int .i64 conf.room, .int .i64 conf.reps, .int .i16 z0, .int .i16 z1, .int .i16 z2, .int .i16 z3, .int .i16 z4, .int .i16 z5, .int .i16 z6, .int .i16 z7, .slice ra rm rc]] w _
  have k1 : (k : Int) < (n : Int) := by omega
  have k0 : (0 : Int) ≤ (k : Int) := by omega
  obtain ⟨W1, hW1⟩ : ∃ W1, W1 = w.alloc (.cells #[.int .i64 2, .int .i64 oa, .int .i64 ob, .int .i64 oc, .int .i64 ok, .string os, .int .i64 conf.clients, .int .i64 conf.queue, .int .i64 conf.quantum, .int .i64 conf.room, .int .i64 conf.reps, .int .i16 z0, .int .i16 z1, .int .i16 z2, .int .i16 z3, .int .i16 z4, .int .i16 z5, .int .i16 z6, .int .i16 z7, .slice ra rm rc] 40) := ⟨_, rfl⟩
  have HBw : Hid (Below w.heap.size w W1) := by rw [hW1]; exact (Below.refl _ _).alloc (Nat.le_refl _) _
  have HBx : Hid (W1.heap[w.heap.size]? = some (.cells #[.int .i64 2, .int .i64 oa, .int .i64 ob, .int .i64 oc, .int .i64 ok, .string os, .int .i64 conf.clients, .int .i64 conf.queue, .int .i64 conf.quantum, .int .i64 conf.room, .int .i64 conf.reps, .int .i16 z0, .int .i16 z1, .int .i16 z2, .int .i16 z3, .int .i16 z4, .int .i16 z5, .int .i16 z6, .int .i16 z7, .slice ra rm rc] 40)) := by rw [hW1]; exact heap_at rfl
  have HW1 : Hid (WldAt B N W1 gW ps lab) := H.out.below HBw.out
  have HP1 : Hid (PairAt B W1 lab k x) := HW1.out.pair k x HXk.out
  go_enter Tryz.func13, Tryz.ntmps13
  go_wp2_with fail
  rewrite [← hW1]
  refine (psubmit_any x.g x.F x.p oa ob os oc W1 HP1.out.seq hs).mono ?_
  rintro e w1 ⟨rfl, hP⟩
  have HP : Hid _ := hP
  have HK1 : Hid (Kept x.F W1 w1) := by obtain ⟨_, _, hk1, _⟩ := hP; exact hk1
  have HC1 : Hid (CluAt w1 x.gr x.Fr x.s) := HP1.out.other HK1.out
  have hbx : w1.heap[w.heap.size]? = _ := (HK1.out.block w.heap.size (heap_cells HBx.out).2.2 (fun hf => by have := (H.out.pair k x HXk.out).seq.own _ hf; omega)).trans HBx.out
  obtain ⟨b0, bf, bz⟩ := heap_cells hbx
  have HSub : Hid _ := submit_sim HP1.out.sim.sim HP1.out.clu.fit oa ob os oc
  clear hP hbx l0 l1 l2 l3
  obtain ⟨er, her⟩ : ∃ y, (submitV x.s oa ob os oc).2 = y := ⟨_, rfl⟩
  have HEr : Hid _ := her
  rewrite [HSub.out.1, her]
  clear her
  go_wp2_with fail
  refine (refsubmit_any x.gr x.Fr x.s oa ob os oc w1 HC1.out hs).mono ?_
  rintro e w2 ⟨rfl, hR⟩
  rewrite [HEr.out]
  have HR : Hid _ := hR
  clear hR
  go_wp2_with fail
  refine (num_any er w2).mono ?_
  rintro e w3 ⟨rfl, hw3⟩
  obtain rfl := hw3.symm
  go_wp2
  go_ret
  obtain ⟨hW, hB⟩ := HW1.out.both HXk.out HP.out HR.out ⟨HSub.out.2, submit_rsim HP1.out.sim.rsim HP1.out.sim.rep oa ob os oc, (by obtain ⟨_, r1, _⟩ := HR.out; exact r1.fit), submitV_rest HP1.out.rest oa ob os oc, submitV_rep HP1.out.sim.rep oa ob os oc⟩ (submitV_rest HP1.out.rest oa ob os oc) (submit_outsOk HP1.out.outs)
  refine ⟨rfl, ?_, (HBw.out.mono HB.out).trans hB⟩
  rw [← hn]
  exact hW

end Go.Proofs.YtccckonckddadabGreat
namespace Go.Proofs.YtccckonckddadabGreat
open Go.RowKit
set_option linter.unusedVariables false

set_option maxRecDepth 100000 in
set_option maxHeartbeats 4000000 in
theorem does_fill (B N : Nat) (gW : Nat) (ps : List Pair) (lab : Nat → Nat) (o : OpV) (k : Nat) (w : World) (h : WldAt B N w gW ps lab) (hk : k < ps.length) (ho : o.kind = 3) :
    Calls Tryz.prog 13 #[.pointer (some ⟨gW, 0, none⟩), .int .i64 (k : Int), .agg o.arr] w (WPost B N gW ps.length w) := by
  obtain ⟨kind, oa, ob, oc, ok, os, conf, z0, z1, z2, z3, z4, z5, z6, z7, ra, rm, rc⟩ := o
  simp only at ho
  subst ho
  have hxk := List.getElem?_eq_getElem hk
  generalize ps[k] = x at hxk
  have HB : Hid _ := h.base
  obtain ⟨gC, cC, gR, cR, l0, l1, l2, l3, hgW, hgC, hgR⟩ := h.look hxk
  have H : Hid _ := h
  have HXk : Hid _ := hxk
  clear h hxk
  generalize hn : ps.length = n at *
  show Calls Tryz.prog 13 #[.pointer (some ⟨gW, 0, none⟩), .int .i64 (k : Int), .agg #[.int .i64 3, .int .i64 oa, .int .i64 ob, .int .i64 oc, .int .i64 ok, .string os, .int .i64 conf.clients, .int .i64 conf.queue, .int .i64 conf.quantum, .int .i64 conf.room, .int .i64 conf.reps, .int .i16 z0, .int .i16 z1, .int .i16 z2, .int .i16 z3, .int .i16 z4, .int .i16 z5, .int .i16 z6, .int .i16 z7, .slice ra rm rc]] w _
  have k1 : (k : Int) < (n : Int) := by omega
  have k0 : (0 : Int) ≤ (k : Int) := by omega
  obtain ⟨W1, hW1⟩ : ∃ W1, W1 = w.alloc (.cells #[.int .i64 3, .int .i64 oa, .int .i64 ob, .int .i64 oc, .int .i64 ok, .string os, .int .i64 conf.clients, .int .i64 conf.queue, .int .i64 conf.quantum, .int .i64 conf.room, .int .i64 conf.reps, .int .i16 z0, .int .i16 z1, .int .i16 z2, .int .i16 z3, .int .i16 z4, .int .i16 z5, .int .i16 z6, .int .i16 z7, .slice ra rm rc] 40) := ⟨_, rfl⟩
  have HBw : Hid (Below w.heap.size w W1) := by rw [hW1]; exact (Below.refl _ _).alloc (Nat.le_refl _) _
  have HW1 : Hid (WldAt B N W1 gW ps lab) := H.out.below HBw.out
  have HP1 : Hid (PairAt B W1 lab k x) := HW1.out.pair k x HXk.out
  have HRd : Hid _ := fill_ready HP1.out.sim.sim HP1.out.clu.fit HP1.out.rest
  have HOl : Hid (x.p.outs.length + 64 ≤ 1000000) := by
    have h1 := HP1.out.outs.1
    have h2 := HP1.out.seq.fit.many
    show _ ≤ _
    omega
  go_enter Tryz.func13, Tryz.ntmps13
  go_wp2_with fail
  rewrite [← hW1]
  refine (pfill_any x.g x.F x.p W1 HP1.out.seq HRd.out.1 HRd.out.2.1 (fun _ => HRd.out.2.2) HOl.out).mono ?_
  rintro e w1 ⟨rfl, hP⟩
  have HP : Hid _ := hP
  have HK1 : Hid (Kept x.F W1 w1) := by obtain ⟨_, _, hk1, _⟩ := hP; exact hk1
  have HC1 : Hid (CluAt w1 x.gr x.Fr x.s) := HP1.out.other HK1.out
  have HSub : Hid _ := fill_sim HP1.out.sim.sim HP1.out.clu.fit HP1.out.rest
  clear hP l0 l1 l2 l3
  obtain ⟨⟨nr, er⟩, her⟩ : ∃ y, (fillV x.s).2 = y := ⟨_, rfl⟩
  have HEr : Hid _ := her
  rewrite [HSub.out.1, her]
  clear her
  simp only
  go_wp2_with fail
  refine (reffill_any x.gr x.Fr x.s w1 HC1.out HP1.out.rest).mono ?_
  rintro e w2 ⟨rfl, hR⟩
  rewrite [HEr.out]
  have HR : Hid _ := hR
  clear hR
  simp only
  go_wp2_with fail
  refine (num_any er w2).mono ?_
  rintro e w3 ⟨rfl, hw3⟩
  obtain rfl := hw3.symm
  go_wp2
  go_ret
  obtain ⟨hW, hB⟩ := HW1.out.both HXk.out HP.out HR.out ⟨HSub.out.2, fill_rsim HP1.out.sim.rsim HP1.out.clu.fit HP1.out.rest HP1.out.sim.rep, (by obtain ⟨_, r1, _⟩ := HR.out; exact r1.fit), fillV_rest HP1.out.clu.fit HP1.out.rest, fillV_rep HP1.out.clu.fit HP1.out.rest HP1.out.sim.rep⟩ (fillV_rest HP1.out.clu.fit HP1.out.rest) (fill_outsOk HP1.out.outs HRd.out.2.2.1)
  refine ⟨rfl, ?_, (HBw.out.mono HB.out).trans hB⟩
  rw [← hn]
  exact hW

set_option maxRecDepth 100000 in
set_option maxHeartbeats 4000000 in
theorem tells_log (B N : Nat) (gW : Nat) (ps : List Pair) (lab : Nat → Nat) (a : Int) (s : ByteArray) (k : Nat) (w : World) (h : WldAt B N w gW ps lab) (hk : k < ps.length) :
    Calls Tryz.prog 14 #[.pointer (some ⟨gW, 0, none⟩), .int .i64 (k : Int), .int .i64 4, .int .i64 a, .string s] w (WPost B N gW ps.length w) := by
  have hxk := List.getElem?_eq_getElem hk
  generalize ps[k] = x at hxk
  have HB : Hid _ := h.base
  obtain ⟨gC, cC, gR, cR, l0, l1, l2, l3, hgW, hgC, hgR⟩ := h.look hxk
  have H : Hid _ := h
  have HP : Hid _ := h.pair k x hxk
  clear h hxk
  generalize hn : ps.length = n at *
  have k1 : (k : Int) < (n : Int) := by omega
  have k0 : (0 : Int) ≤ (k : Int) := by omega
  go_enter Tryz.func14, Tryz.ntmps14
  go_wp2_with fail
  refine (plog_any x.g x.F x.p w HP.out.seq).mono ?_
  rintro e w1 ⟨b1, rfl, hb1, hw1⟩
  have HB1 : Hid (Below w.heap.size w w1) := hw1
  have HC1 : Hid (CluAt w1 x.gr x.Fr x.s) := HP.out.clu.below hw1
  clear hw1
  go_wp2_with fail
  refine (reflog_any x.gr x.Fr x.s w1 HC1.out).mono ?_
  rintro e w2 ⟨b2, rfl, hb2, hB2⟩
  have hbb : b1 = b2 := bytes_eq (by rw [hb1, hb2, HP.out.sim.sim.log.1])
  subst hbb
  have HB2 : Hid (Below w.heap.size w w2) := HB1.out.trans (hB2.mono HB1.out.size)
  clear hb1 hb2 hB2 l0 l1 l2 l3
  have hbe : (b1.toList == b1.toList) = true := by simp
  go_wp2
  go_ret
  exact ⟨rfl, ⟨ps, lab, hn, H.out.below HB2.out⟩, HB2.out.mono HB.out⟩

set_option maxRecDepth 100000 in
set_option maxHeartbeats 4000000 in
theorem tells_reply (B N : Nat) (gW : Nat) (ps : List Pair) (lab : Nat → Nat) (a : Int) (s : ByteArray) (k : Nat) (w : World) (h : WldAt B N w gW ps lab) (hk : k < ps.length) :
    Calls Tryz.prog 14 #[.pointer (some ⟨gW, 0, none⟩), .int .i64 (k : Int), .int .i64 5, .int .i64 a, .string s] w (WPost B N gW ps.length w) := by
  have hxk := List.getElem?_eq_getElem hk
  generalize ps[k] = x at hxk
  have HB : Hid _ := h.base
  obtain ⟨gC, cC, gR, cR, l0, l1, l2, l3, hgW, hgC, hgR⟩ := h.look hxk
  have H : Hid _ := h
  have HP : Hid _ := h.pair k x hxk
  clear h hxk
  generalize hn : ps.length = n at *
  have k1 : (k : Int) < (n : Int) := by omega
  have k0 : (0 : Int) ≤ (k : Int) := by omega
  have hrs := reply_state HP.out.outs a
  have HRe : Hid (replyV x.s a = pReplyV x.p a) := (reply_sim HP.out.sim.sim HP.out.clu.fit a).symm
  go_enter Tryz.func14, Tryz.ntmps14
  go_wp2_with fail
  refine (preply_any x.g x.F x.p a w HP.out.seq).mono ?_
  rintro e w1 ⟨rfl, hb1⟩
  obtain ⟨⟨r1, r2, r3⟩, hr⟩ : ∃ y, pReplyV x.p a = y := ⟨_, rfl⟩
  rewrite [hr]
  rw [hr] at hrs
  have HR : Hid _ := hr
  have HB1 : Hid _ := hb1
  clear hr hb1 l0 l1 l2 l3
  simp only at hrs
  simp only
  obtain ⟨hr0, hr3⟩ := hrs
  go_wp2_with fail
  have HBa : Hid (Below w.heap.size w (w1.alloc (.cells #[.int .u8 r1, .int .i64 r2] 86))) := HB1.out.alloc HB1.out.size _
  have HBx : Hid ((w1.alloc (.cells #[.int .u8 r1, .int .i64 r2] 86)).heap[w1.heap.size]? = some (.cells #[.int .u8 r1, .int .i64 r2] 86)) := heap_at rfl
  generalize w1.alloc (.cells #[.int .u8 r1, .int .i64 r2] 86) = W2 at *
  generalize w1.heap.size = gb at *
  refine (refreply_any x.gr x.Fr x.s a W2 (HP.out.clu.below HBa.out)).mono ?_
  rintro e w3 ⟨rfl, hb3⟩
  rewrite [HRe.out, HR.out]
  have hbx : w3.heap[gb]? = _ := (hb3.block gb (heap_cells HBx.out).2.2).trans HBx.out
  obtain ⟨b0, bf, bz⟩ := heap_cells hbx
  have e0 : w3.cell? ⟨gb, 0, none⟩ = some (.int .u8 r1) := by rw [b0]; rfl
  have e1 : w3.cell? ⟨gb, 1, none⟩ = some (.int .i64 r2) := by rw [b0]; rfl
  have HB3 : Hid (Below w.heap.size w w3) := HBa.out.trans (hb3.mono HBa.out.size)
  clear hb3 hbx b0 bf HBa HBx
  have hww : IntKind.i64.wrap r1 = r1 := wrap_i64_id (by omega) (by omega)
  simp only
  go_wp2_with fail
  refine (num_any r3 w3).mono ?_
  rintro e w4 ⟨rfl, hw4⟩
  obtain rfl := hw4.symm
  go_wp2
  go_ret
  exact ⟨rfl, ⟨ps, lab, hn, H.out.below HB3.out⟩, HB3.out.mono HB.out⟩

set_option maxRecDepth 100000 in
set_option maxHeartbeats 4000000 in
theorem tells_other (B N : Nat) (gW : Nat) (ps : List Pair) (lab : Nat → Nat) (kind a : Int) (s : ByteArray) (k : Nat) (w : World) (h : WldAt B N w gW ps lab) (hk : k < ps.length) (h5 : kind < 4) :
    Calls Tryz.prog 14 #[.pointer (some ⟨gW, 0, none⟩), .int .i64 (k : Int), .int .i64 kind, .int .i64 a, .string s] w (WPost B N gW ps.length w) := by
  have hxk := List.getElem?_eq_getElem hk
  generalize ps[k] = x at hxk
  have HB : Hid _ := h.base
  obtain ⟨gC, cC, gR, cR, l0, l1, l2, l3, hgW, hgC, hgR⟩ := h.look hxk
  have H : Hid _ := h
  clear h hxk
  generalize hn : ps.length = n at *
  have k1 : (k : Int) < (n : Int) := by omega
  have k0 : (0 : Int) ≤ (k : Int) := by omega
  have n4 : (kind == 4) = false := by rw [beq_eq_false_iff_ne]; omega
  have n5 : (kind == 5) = false := by rw [beq_eq_false_iff_ne]; omega
  have n9 : (kind == 9) = false := by rw [beq_eq_false_iff_ne]; omega
  have n10 : (kind == 10) = false := by rw [beq_eq_false_iff_ne]; omega
  have n11 : (kind == 11) = false := by rw [beq_eq_false_iff_ne]; omega
  go_enter Tryz.func14, Tryz.ntmps14
  go_wp2
  go_ret
  exact ⟨rfl, ⟨ps, lab, hn, H.out⟩, Below.refl _ _⟩

end Go.Proofs.YtccckonckddadabGreat
namespace Go.Proofs.YtccckonckddadabGreat
open Go.RowKit
set_option linter.unusedVariables false

theorem info_pc : (Tryz.prog.info? 57).map (fun i => (i.zero, i.size, i.bytes)) = some (some (.pointer none), 1, 8) := by kernel_rfl
theorem info_pr : (Tryz.prog.info? 61).map (fun i => (i.zero, i.size, i.bytes)) = some (some (.pointer none), 1, 8) := by kernel_rfl

theorem ptrC_snoc (ps : List Pair) (x : Pair) : ptrC (ps ++ [x]) = ptrC ps ++ [.pointer (some ⟨x.g, 0, none⟩)] := by unfold ptrC; rw [List.map_append]; rfl
theorem ptrR_snoc (ps : List Pair) (x : Pair) : ptrR (ps ++ [x]) = ptrR ps ++ [.pointer (some ⟨x.gr, 0, none⟩)] := by unfold ptrR; rw [List.map_append]; rfl

/-- What stays of a world of clusters while a row grows. -/
theorem wld_news {B N : Nat} {w w1 w2 w3 w5 : World} {gW : Nat} {ps : List Pair} {lab : Nat → Nat} {o3 o5 : Obj} {vH : Value} {aC aR : Option Addr} {cC cR : Nat} (h : WldAt B N w gW ps lab)
    (m1 : w.heap[gW]? = some (.cells #[.slice aC ps.length cC, .slice aR ps.length cR, vH] 32)) (m2 : w.ownsRow B 57 1 (.slice aC ps.length cC) ps.length (ptrC ps)) (m3 : w.ownsRow B 61 1 (.slice aR ps.length cR) ps.length (ptrR ps))
    (m4 : ∀ k, (Value.slice aC ps.length cC).ownBlock = some k → lab k = 1) (m5 : ∀ k, (Value.slice aR ps.length cR).ownBlock = some k → lab k = 2) (m6 : HeldAt B N w lab vH)
    {x : Pair} (b1 : Below w.heap.size w w1) (b2 : Below w1.heap.size w1 w2) (hS : SeqAt w2 x.g x.F x.p) (hC : CluAt w2 x.gr x.Fr x.s) (hF : ∀ k, x.F k → w.heap.size ≤ k ∧ k < w1.heap.size) (hFr : ∀ k, x.Fr k → w1.heap.size ≤ k) (hSim : Both x.p x.s) (hR : Rest x.s) (hO : OutsOk x.p)
    {gN cap : Nat} (o3w : w3.ownsRow B 57 1 (.slice (some ⟨gN, 0, none⟩) (ps.length + 1) cap) (ps.length + 1) (ptrC ps ++ [.pointer (some ⟨x.g, 0, none⟩)])) (g3 : (w2.alloc o3).grownBy w3 (Value.slice aC ps.length cC).ownBlock) (t3 : (Value.slice aC ps.length cC).ownBlock = some gN ∨ gN = w2.heap.size + 1)
    {gM cap' : Nat} (o5w : w5.ownsRow B 61 1 (.slice (some ⟨gM, 0, none⟩) (ps.length + 1) cap') (ps.length + 1) (ptrR ps ++ [.pointer (some ⟨x.gr, 0, none⟩)])) (g5 : ((w3.setCell ⟨gW, 0, none⟩ (.slice (some ⟨gN, 0, none⟩) (ps.length + 1) cap)).alloc o5).grownBy w5 (Value.slice aR ps.length cR).ownBlock) (t5 : (Value.slice aR ps.length cR).ownBlock = some gM ∨ gM = w3.heap.size + 1) :
    (∃ lab', WldAt B N (w5.setCell ⟨gW, 1, none⟩ (.slice (some ⟨gM, 0, none⟩) (ps.length + 1) cap')) gW (ps ++ [x]) lab') ∧ Below B w (w5.setCell ⟨gW, 1, none⟩ (.slice (some ⟨gM, 0, none⟩) (ps.length + 1) cap')) := by
  have hB := h.base
  have hgW := (heap_cells m1).2.2
  have z1 := b1.size
  have z2 := b2.size
  have z3 := g3.size
  have z5 := g5.size
  have e3 : (w2.alloc o3).heap.size = w2.heap.size + 1 := by simp
  have e5 : ((w3.setCell ⟨gW, 0, none⟩ (.slice (some ⟨gN, 0, none⟩) (ps.length + 1) cap)).alloc o5).heap.size = w3.heap.size + 1 := by simp [World.setCell]
  have es : ∀ v, (w3.setCell ⟨gW, 0, none⟩ v).heap.size = w3.heap.size := fun v => by simp [World.setCell]
  have eS : ∀ v, (w5.setCell ⟨gW, 1, none⟩ v).heap.size = w5.heap.size := fun v => by simp [World.setCell]
  rw [e3] at z3
  rw [e5] at z5
  have nC : (Value.slice aC ps.length cC).ownBlock ≠ some gW := fun e => by have := m4 gW e; rw [h.gl] at this; omega
  have nR : (Value.slice aR ps.length cR).ownBlock ≠ some gW := fun e => by have := m5 gW e; rw [h.gl] at this; omega
  have nCR : ∀ k, (Value.slice aC ps.length cC).ownBlock = some k → (Value.slice aR ps.length cR).ownBlock ≠ some k := fun k e1 e2 => by have := m4 k e1; have := m5 k e2; omega
  have lC : ∀ k, (Value.slice aC ps.length cC).ownBlock = some k → k < w.heap.size := fun k e => (World.ownsRow.lt m2 k e).2
  have lR : ∀ k, (Value.slice aR ps.length cR).ownBlock = some k → k < w.heap.size := fun k e => (World.ownsRow.lt m3 k e).2
  -- w2 to w3, w3 to w5, w5 to the end
  have s3 : ∀ k, k < w2.heap.size → (Value.slice aC ps.length cC).ownBlock ≠ some k → w3.heap[k]? = w2.heap[k]? := fun k hk hn => (g3.block k (by rw [e3]; omega) (fun e => hn e.symm)).trans (heap_old hk)
  have s5 : ∀ k, k < w3.heap.size → k ≠ gW → (Value.slice aR ps.length cR).ownBlock ≠ some k → (w5.setCell ⟨gW, 1, none⟩ (.slice (some ⟨gM, 0, none⟩) (ps.length + 1) cap')).heap[k]? = w3.heap[k]? := fun k hk hg hn => by
    rw [Below.heap_setCell _ _ _ _ (by exact hg)]
    refine (g5.block k (by rw [e5]; omega) (fun e => hn e.symm)).trans ?_
    rw [heap_old (by rw [es]; exact hk), Below.heap_setCell _ _ _ _ (by exact hg)]
  have sAll : ∀ k, k < w2.heap.size → k ≠ gW → (Value.slice aC ps.length cC).ownBlock ≠ some k → (Value.slice aR ps.length cR).ownBlock ≠ some k → (w5.setCell ⟨gW, 1, none⟩ (.slice (some ⟨gM, 0, none⟩) (ps.length + 1) cap')).heap[k]? = w2.heap[k]? := fun k hk h1 h2 h3 => (s5 k (by omega) h1 h3).trans (s3 k hk h2)
  have sOld : ∀ k, k < w.heap.size → k ≠ gW → (Value.slice aC ps.length cC).ownBlock ≠ some k → (Value.slice aR ps.length cR).ownBlock ≠ some k → (w5.setCell ⟨gW, 1, none⟩ (.slice (some ⟨gM, 0, none⟩) (ps.length + 1) cap')).heap[k]? = w.heap[k]? := fun k hk h1 h2 h3 => ((sAll k (by omega) h1 h2 h3).trans (b2.block k (by omega))).trans (b1.block k hk)
  have lN : gN < w3.heap.size := (World.ownsRow.lt o3w gN rfl).2
  have lM : gM < w5.heap.size := (World.ownsRow.lt o5w gM rfl).2
  have hgNW : gN ≠ gW := by
    rcases t3 with e | e
    · exact fun e2 => nC (by rw [e, e2])
    · omega
  have hgMW : gM ≠ gW := by
    rcases t5 with e | e
    · exact fun e2 => nR (by rw [e, e2])
    · omega
  have hgNR : (Value.slice aR ps.length cR).ownBlock ≠ some gN := by
    rcases t3 with e | e
    · exact nCR gN e
    · intro e2; have := lR gN e2; omega
  have hgMN : gM ≠ gN := by
    rcases t5 with e | e
    · exact fun e2 => hgNR (by rw [← e2]; exact e)
    · omega
  refine ⟨?_, ?_⟩
  · classical
    refine ⟨fun k => if k < w.heap.size then lab k else if x.F k then 5 + 2 * ps.length else if x.Fr k then 6 + 2 * ps.length else if k = gN then 1 else 2, h.gB, ?_, ?_, ?_⟩
    · show (if gW < w.heap.size then lab gW else _) = 0
      rw [if_pos hgW]; exact h.gl
    · have hlen : (ps ++ [x]).length = ps.length + 1 := by rw [List.length_append]; rfl
      rw [hlen, ptrC_snoc, ptrR_snoc]
      refine ⟨some ⟨gN, 0, none⟩, cap, some ⟨gM, 0, none⟩, cap', vH, ?_, ?_, ?_, ?_, ?_, m6.same (fun k hk => if_pos hk) (fun k hk h1 h2 => sOld k hk (fun e => by rw [e, h.gl] at h2; omega) (fun e => by have := m4 k e; omega) (fun e => by have := m5 k e; omega))⟩
      · have hb : w3.heap[gW]? = some (.cells #[.slice aC ps.length cC, .slice aR ps.length cR, vH] 32) := ((s3 gW (by omega) nC).trans (b2.block gW (by omega))).trans ((b1.block gW hgW).trans m1)
        have hb4 := heap_set hb (x := 0) (.slice (some ⟨gN, 0, none⟩) (ps.length + 1) cap)
        have hb5 : w5.heap[gW]? = _ := ((g5.block gW (by rw [e5]; omega) (fun e => nR e.symm)).trans (heap_old (by rw [es]; omega))).trans hb4
        rw [heap_set hb5]
        rfl
      · refine own_same o3w (fun k hk => ?_)
        have e : gN = k := by simpa [Value.ownBlock] using hk
        subst e
        exact s5 gN lN hgNW hgNR
      · refine own_same o5w (fun k hk => ?_)
        have e : gM = k := by simpa [Value.ownBlock] using hk
        subst e
        exact Below.heap_setCell _ _ _ _ (by exact hgMW)
      · intro k hk
        have e : gN = k := by simpa [Value.ownBlock] using hk
        subst e
        show (if gN < w.heap.size then lab gN else if x.F gN then 5 + 2 * ps.length else if x.Fr gN then 6 + 2 * ps.length else if gN = gN then 1 else 2) = 1
        rcases t3 with e | e
        · rw [if_pos (lC gN e)]; exact m4 gN e
        · rw [if_neg (by omega), if_neg (fun hf => by have := hS.own gN hf; omega), if_neg (fun hf => by have := hC.own gN hf; omega), if_pos rfl]
      · intro k hk
        have e : gM = k := by simpa [Value.ownBlock] using hk
        subst e
        show (if gM < w.heap.size then lab gM else if x.F gM then 5 + 2 * ps.length else if x.Fr gM then 6 + 2 * ps.length else if gM = gN then 1 else 2) = 2
        rcases t5 with e | e
        · rw [if_pos (lR gM e)]; exact m5 gM e
        · rw [if_neg (by omega), if_neg (fun hf => by have := hS.own gM hf; omega), if_neg (fun hf => by have := hC.own gM hf; omega), if_neg hgMN]
    · intro i y hy
      by_cases hi : i < ps.length
      · rw [List.getElem?_append_left hi] at hy
        have hq := h.pair i y hy
        refine ⟨hq.seq.same (by rw [eS]; omega) (fun k hk => sOld k (hq.seq.own k hk) ?_ ?_ ?_), hq.clu.same (by rw [eS]; omega) (fun k hk => sOld k (hq.clu.own k hk) ?_ ?_ ?_), hq.sim, hq.rest, hq.outs, fun k hk => ⟨(hq.lF k hk).1, ?_⟩, fun k hk => ⟨(hq.lR k hk).1, ?_⟩⟩
        · intro e; have := (hq.lF k hk).2; rw [e, h.gl] at this; omega
        · intro e; have := (hq.lF k hk).2; rw [m4 k e] at this; omega
        · intro e; have := (hq.lF k hk).2; rw [m5 k e] at this; omega
        · intro e; have := (hq.lR k hk).2; rw [e, h.gl] at this; omega
        · intro e; have := (hq.lR k hk).2; rw [m4 k e] at this; omega
        · intro e; have := (hq.lR k hk).2; rw [m5 k e] at this; omega
        · show (if k < w.heap.size then lab k else _) = _
          rw [if_pos (hq.seq.own k hk)]; exact (hq.lF k hk).2
        · show (if k < w.heap.size then lab k else _) = _
          rw [if_pos (hq.clu.own k hk)]; exact (hq.lR k hk).2
      · rw [List.getElem?_append_right (by omega)] at hy
        have hi0 : i - ps.length = 0 := by
          have := (List.getElem?_eq_some_iff.1 hy).1
          simp at this
          omega
        rw [hi0] at hy
        have e : x = y := by simpa using hy
        subst e
        have hin : i = ps.length := by omega
        subst hin
        refine ⟨hS.same (by rw [eS]; omega) (fun k hk => sAll k (hS.own k hk) ?_ ?_ ?_), hC.same (by rw [eS]; omega) (fun k hk => sAll k (hC.own k hk) ?_ ?_ ?_), hSim, hR, hO, fun k hk => ⟨by have := (hF k hk).1; omega, ?_⟩, fun k hk => ⟨by have := hFr k hk; omega, ?_⟩⟩
        · have := (hF k hk).1; omega
        · intro e; have := lC k e; have := (hF k hk).1; omega
        · intro e; have := lR k e; have := (hF k hk).1; omega
        · have := hFr k hk; omega
        · intro e; have := lC k e; have := hFr k hk; omega
        · intro e; have := lR k e; have := hFr k hk; omega
        · show (if k < w.heap.size then lab k else if x.F k then 5 + 2 * ps.length else _) = _
          rw [if_neg (by have := (hF k hk).1; omega), if_pos hk]
        · show (if k < w.heap.size then lab k else if x.F k then 5 + 2 * ps.length else if x.Fr k then 6 + 2 * ps.length else _) = _
          rw [if_neg (by have := hFr k hk; omega), if_neg (fun hf => by have := (hF k hf).2; have := hFr k hk; omega), if_pos hk]
  · have k1 : Below B w w2 := (b1.mono hB).trans (b2.mono (by omega))
    have k2 : Below B w w3 := (k1.alloc (by omega) o3).grown g3 (by rw [e3]; omega) (fun k hk => (World.ownsRow.lt m2 k hk).1)
    have k3 : Below B w (w3.setCell ⟨gW, 0, none⟩ (.slice (some ⟨gN, 0, none⟩) (ps.length + 1) cap)) := k2.setCell (by exact h.gB) _
    have k4 : Below B w w5 := (k3.alloc (by rw [es]; omega) o5).grown g5 (by rw [e5]; omega) (fun k hk => (World.ownsRow.lt m3 k hk).1)
    exact k4.setCell (by exact h.gB) _

end Go.Proofs.YtccckonckddadabGreat
