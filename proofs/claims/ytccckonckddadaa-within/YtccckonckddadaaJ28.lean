import Derived.Test.YtccckonckddadaaJ25
import Derived.Test.YtccckonckddadaaJ23
import Derived.Deep.MidRow
namespace Go.Proofs.Ytccckonckddadaa
open Go.RowKit
set_option linter.unusedVariables false

/-! ### Get -/
def doneRec (cs : List Int) (r : RecV) : List Int := if r.l = true then cs else (Dk.doV r.t.data.toList cs).1
def doneRecs (cs : List Int) (rs : List RecV) : List Int := rs.foldl doneRec cs
def doneEps (cs : List Int) (es : List (List RecV)) : List Int := es.foldl doneRecs cs
def zero8 : List Int := [0, 0, 0, 0, 0, 0, 0, 0]
def keyOk (k : ByteArray) : Bool := decide (k.size = 1) && Dk.isK ((k.data.toList.headD 0).toNat : Int)
def getV (s : CluV) (r : Int) (k : ByteArray) : Int × Int :=
  if ¬ (0 ≤ r ∧ r ≤ s.conf.reps - 1) then (0, 11) else if keyOk k = false then (0, 14)
  else ((doneEps zero8 (s.epochs.take (s.reps.getD r.toNat (0, 0)).1.toNat)).getD ((k.data.toList.headD 0).toNat - 97) 0, 0)

theorem doneRec_fit {cs : List Int} {r : RecV} (hl : cs.length = 8) (h16 : Dk.All16 cs) (hp : r.l = false → Dk.parseOk r.t.data.toList = true) : (doneRec cs r).length = 8 ∧ Dk.All16 (doneRec cs r) := by
  unfold doneRec
  split
  · exact ⟨hl, h16⟩
  · exact ⟨doV_len _ hl, doV_16 h16⟩
theorem doneRecs_snoc (cs : List Int) (rs : List RecV) (r : RecV) : doneRecs cs (rs ++ [r]) = doneRec (doneRecs cs rs) r := by unfold doneRecs; rw [List.foldl_append]; rfl
theorem doneEps_snoc (cs : List Int) (es : List (List RecV)) (rs : List RecV) : doneEps cs (es ++ [rs]) = doneRecs (doneEps cs es) rs := by unfold doneEps; rw [List.foldl_append]; rfl

theorem info_eight : (Try.prog.info? 75).map (·.size) = some 8 := by kernel_rfl
structure GetAt (w wr : World) (gb : Nat) (ys : List Int) : Prop where
  blk : ∃ y0 y1 y2 y3 y4 y5 y6 y7, ys = [y0, y1, y2, y3, y4, y5, y6, y7] ∧ wr.heap[gb]? = some (.cells #[.int .i64 y0, .int .i64 y1, .int .i64 y2, .int .i64 y3, .int .i64 y4, .int .i64 y5, .int .i64 y6, .int .i64 y7] 75)
  bel : Below w.heap.size w wr
  a16 : Dk.All16 ys
  gb : w.heap.size ≤ gb

def GetPost (x : Int × Int) (w : World) (e : Ending) (w' : World) : Prop := e = .returned (.tuple #[.int .i64 x.1, .int .i64 x.2]) ∧ Below w.heap.size w w'

end Go.Proofs.Ytccckonckddadaa
namespace Go.Proofs.Ytccckonckddadaa
set_option linter.unusedVariables false

/-! ### What a replica of the program is -/
def bytesOf (l : List UInt8) : ByteArray := ⟨l.toArray⟩
theorem bytesOf_list (l : List UInt8) : (bytesOf l).data.toList = l := by simp [bytesOf]
theorem bytesOf_eq {b : ByteArray} {l : List UInt8} (h : b.data.toList = l) : b = bytesOf l := bytes_eq (by rw [h, bytesOf_list])
def repOf (s : CluV) (x : Int × Int) : RepV := ⟨bytesOf (logV s x.1.toNat), (logV s x.2.toNat).length, x.1.toNat, doneEps zero8 (s.epochs.take x.1.toNat)⟩
def repsOf (s : CluV) : List RepV := (s.reps.take s.conf.reps.toNat).map (repOf s)
def RSim (p : SeqV) (s : CluV) : Prop := p.reps = repsOf s

theorem reps_len {s : CluV} (hf : CluFit s) : (repsOf s).length = s.conf.reps.toNat := by
  have := conf_reps hf.conf
  have := hf.reps
  unfold repsOf
  rw [List.length_map, List.length_take]; omega
theorem reps_at {s : CluV} (hf : CluFit s) {k : Nat} (hk : (k : Int) ≤ s.conf.reps - 1) : (repsOf s)[k]? = some (repOf s (s.reps.getD k (0, 0))) := by
  have := conf_reps hf.conf
  have hl := hf.reps
  unfold repsOf
  rw [List.getElem?_map, List.getElem?_take, if_pos (by omega), List.getD_eq_getElem?_getD, List.getElem?_eq_getElem (by omega)]; rfl
theorem reps_put {s : CluV} (k : Nat) (x : Int × Int) : repsOf (repV s k x) = (repsOf s).set k (repOf s x) := by
  unfold repsOf repV
  simp only
  rw [← List.map_set, List.take_set]
  rfl

/-- Nothing of the replicas hangs on more than the epochs that they have. -/
theorem reps_same {s s' : CluV} (h1 : s'.reps = s.reps) (h2 : s'.conf = s.conf) (h3 : ∀ n, n ≤ s.epochs.length → s'.epochs.take n = s.epochs.take n) (hr : RepFit s) : repsOf s' = repsOf s := by
  unfold repsOf
  rw [h1, h2]
  refine List.map_congr_left (fun x hx => ?_)
  obtain ⟨p0, p1, p2⟩ := hr x (List.mem_of_mem_take hx)
  unfold repOf logV
  rw [h3 x.1.toNat (by omega), h3 x.2.toNat (by omega)]

theorem pLate_reps : ∀ (r i : Nat) (p : SeqV) (l : List RecV), (pLateFrom r i p l).1.reps = p.reps ∧ (pLateFrom r i p l).1.eps = p.eps
  | 0, i, p, l => ⟨rfl, rfl⟩
  | r + 1, i, p, l => by
    rw [pLate_step]
    exact pLate_reps r (i + 1) _ _
theorem pVisit_reps : ∀ (r i : Nat) (p : SeqV) (room : Int) (l : List RecV), (pVisitFrom r i p room l).1.reps = p.reps ∧ (pVisitFrom r i p room l).1.eps = p.eps
  | 0, i, p, room, l => ⟨rfl, rfl⟩
  | r + 1, i, p, room, l => by
    rw [pVisit_step]
    exact pVisit_reps r _ _ _ _
theorem fill_reps (p : SeqV) : (pFillV p).1.reps = p.reps := by
  unfold pFillV
  split
  · rfl
  · show (settleV _ _).reps = p.reps
    rw [(settle_reps _ _).2]
    show (pVisitFrom _ _ _ _ _).1.reps = _
    rw [(pVisit_reps _ _ _ _ _).1, (pLate_reps _ _ _ _).1]
theorem submit_reps (p : SeqV) (client id : Int) (t : ByteArray) (d : Int) : (pSubmitV p client id t d).1.reps = p.reps := by
  unfold pSubmitV
  iterate 6 (split; rfl)
  rfl

theorem new_rsim {c : ConfV} (h : confOk c = true) : RSim (pNewV c) (newV c) := by
  have hr := conf_reps h
  have e : ∀ x : Int × Int, x = (0, 0) → repOf (newV c) x = ⟨⟨#[]⟩, 0, 0, [0, 0, 0, 0, 0, 0, 0, 0]⟩ := fun x hx => by subst hx; rfl
  have h4 : c.reps = 1 ∨ c.reps = 2 ∨ c.reps = 3 ∨ c.reps = 4 := by omega
  show List.replicate c.reps.toNat _ = ((newV c).reps.take c.reps.toNat).map (repOf (newV c))
  rcases h4 with h | h | h | h <;> rw [h] <;> rfl
theorem submit_rsim {p : SeqV} {s : CluV} (h : RSim p s) (hr : RepFit s) (client id : Int) (t : ByteArray) (d : Int) : RSim (pSubmitV p client id t d).1 (submitV s client id t d).1 := by
  unfold RSim
  rw [submit_reps, h]
  symm
  have e : (submitV s client id t d).1.reps = s.reps ∧ (submitV s client id t d).1.conf = s.conf ∧ (submitV s client id t d).1.epochs = s.epochs := by
    unfold submitV
    iterate 6 (split; exact ⟨rfl, rfl, rfl⟩)
    exact ⟨rfl, rfl, rfl⟩
  exact reps_same e.1 e.2.1 (fun n _ => by rw [e.2.2]) hr
theorem fill_shape {s : CluV} (hf : CluFit s) (hr : Rest s) : (fillV s).1.reps = s.reps ∧ (fillV s).1.conf = s.conf ∧ (∀ n, n ≤ s.epochs.length → (fillV s).1.epochs.take n = s.epochs.take n) := by
  unfold fillV
  split
  · exact ⟨rfl, rfl, fun _ _ => rfl⟩
  · obtain ⟨e1, e2, e3, _⟩ := conf_edges hf.conf
    obtain ⟨y1, y2, y3⟩ := lateFrom_mild s.conf.clients.toNat 0 s [] hf (by omega)
    obtain ⟨z1, z2⟩ := visitFrom_mild s.conf.clients.toNat 0 (lateFrom s.conf.clients.toNat 0 s []).1 s.conf.room (lateFrom s.conf.clients.toNat 0 s []).2 y2 (by rw [y1.conf]; omega) e3 (fun j _ _ => by rw [y3, y1.epochs]; exact hr.credit _)
    have hM := y1.trans z1
    refine ⟨hM.reps, hM.conf, fun n hn => ?_⟩
    show List.take n ((visitFrom s.conf.clients.toNat 0 (lateFrom s.conf.clients.toNat 0 s []).1 s.conf.room (lateFrom s.conf.clients.toNat 0 s []).2).1.epochs ++ [_]) = _
    rw [hM.epochs, List.take_append_of_le_length hn]
theorem fill_rsim {p : SeqV} {s : CluV} (h : RSim p s) (hf : CluFit s) (hr : Rest s) (hp : RepFit s) : RSim (pFillV p).1 (fillV s).1 := by
  unfold RSim
  rw [fill_reps, h]
  obtain ⟨e1, e2, e3⟩ := fill_shape hf hr
  exact (reps_same e1 e2 e3 hp).symm

/-! ### The texts of the epochs -/
theorem eps_at {p : SeqV} {s : CluV} (h : Sim p s) {n : Nat} (hn : n < s.epochs.length) : ∃ b, p.eps[n]? = some b ∧ b.data.toList = Dk.epoch n (recs s.epochs[n]) := by
  have h2 := congrArg (fun l => l[n]?) h.log.2
  simp only [List.getElem?_map, epsL, List.getElem?_mapIdx, List.getElem?_eq_getElem hn, Option.map_some] at h2
  cases hb : p.eps[n]? with
  | none => rw [hb] at h2; cases h2
  | some b =>
    rw [hb] at h2
    exact ⟨b, rfl, by simpa using h2⟩
theorem frame_ep {s : CluV} (hf : CluFit s) {n : Nat} (hn : n < s.epochs.length) : Dk.frameOk (n : Int) (recs s.epochs[n]) = true := by
  have hep := hf.ep _ (List.getElem_mem hn)
  have := hf.many
  unfold Dk.frameOk
  rw [decide_eq_true ⟨by omega, by omega⟩, decide_eq_true (by rw [recs, List.length_map]; exact hep.1), hep.2]; rfl

/-- The records are told by what is read. -/
theorem told_inj {a b : RecV} (h : a.told = b.told) : a = b := by
  obtain ⟨a1, a2, a3, a4⟩ := a
  obtain ⟨b1, b2, b3, b4⟩ := b
  unfold RecV.told recOf at h
  simp only [Dk.Rec.mk.injEq] at h
  obtain ⟨h1, h2, h3, h4⟩ := h
  subst h1 h2 h3
  rw [bytes_eq h4]
theorem recs_inj : ∀ {a b : List RecV}, recs a = recs b → a = b
  | [], [], _ => rfl
  | [], _ :: _, h => by cases h
  | _ :: _, [], h => by cases h
  | x :: a, y :: b, h => by
    have h' : x.told :: recs a = y.told :: recs b := h
    injection h' with h1 h2
    rw [told_inj h1, recs_inj h2]

theorem recOk_text {r : RecV} (h : Dk.recOk r.told = true) (hl : r.l = false) : Dk.parseOk r.t.data.toList = true := by
  unfold Dk.recOk RecV.told recOf at h
  simp only [hl, Bool.and_eq_true, Bool.false_eq_true, if_false] at h
  exact h.1.1

/-! ### What it does -/
def didRecs (cs : List Int) (rs : List RecV) : List Int := rs.foldl (fun cs r => (doRec r cs).1) cs
theorem didRecs_done : ∀ (rs : List RecV) (cs : List Int), (recs rs).all Dk.recOk = true → didRecs cs rs = doneRecs cs rs
  | [], cs, _ => rfl
  | r :: rs, cs, h => by
    have h' : (r.told :: recs rs).all Dk.recOk = true := h
    rw [List.all_cons, Bool.and_eq_true] at h'
    show didRecs (doRec r cs).1 rs = doneRecs (doneRec cs r) rs
    rw [didRecs_done rs _ h'.2]
    congr 1
    unfold doRec doneRec
    by_cases hl : r.l = true
    · rw [if_pos hl, if_pos hl]
    · rw [if_neg hl, if_neg hl]
      have hp := recOk_text h'.1 (by simpa using hl)
      rw [if_pos hp]

/-- A front of the bytes of some epochs: those that are in it as a whole, and what is no epoch. -/
theorem cut_split {es : List (List Dk.Rec)} (hs : Dk.Sound 0 es) {at' k : Nat} (hk : k ≤ es.length) (h1 : (Dk.logFrom 0 (es.take k)).length ≤ at') (h2 : k < es.length → at' < (Dk.logFrom 0 (es.take (k + 1))).length) :
    ∃ r, (Dk.logFrom 0 es).take at' = Dk.logFrom 0 (es.take k) ++ r ∧ Dk.readV k r = none := by
  have hlk : (es.take k).length = k := by rw [List.length_take]; omega
  by_cases hlt : k < es.length
  · have h2' := h2 hlt
    have hes : es = es.take k ++ es[k] :: es.drop (k + 1) := by rw [← List.drop_eq_getElem_cons hlt, List.take_append_drop]
    have e1 : Dk.logFrom 0 es = Dk.logFrom 0 (es.take k) ++ (Dk.epoch k es[k] ++ Dk.logFrom (k + 1) (es.drop (k + 1))) := by
      conv => lhs; rw [hes]
      rw [Dk.logFrom_append, hlk, Nat.zero_add]
      rfl
    have e2 : (Dk.logFrom 0 (es.take (k + 1))).length = (Dk.logFrom 0 (es.take k)).length + (Dk.epoch k es[k]).length := by
      rw [List.take_succ_eq_append_getElem hlt, Dk.logFrom_snoc, hlk, Nat.zero_add, List.length_append]
    have e3 : (Dk.logFrom 0 es).take at' = Dk.logFrom 0 (es.take k) ++ (Dk.epoch k es[k]).take (at' - (Dk.logFrom 0 (es.take k)).length) := by
      rw [e1, List.take_append, List.take_of_length_le h1, List.take_append_of_le_length (by omega)]
    have hf : Dk.frameOk (k : Int) es[k] = true := by
      have := hs k es[k] (List.getElem?_eq_getElem hlt)
      rw [Nat.zero_add] at this
      exact this
    exact ⟨_, e3, Dk.read_short hf (by omega)⟩
  · have hke : es.take k = es := List.take_of_length_le (by omega)
    rw [hke] at h1 ⊢
    exact ⟨[], by rw [List.take_of_length_le h1, List.append_nil], Dk.read_nil _⟩

theorem sound_eps0 {s : CluV} (hf : CluFit s) (n : Nat) : Dk.Sound 0 ((s.epochs.take n).map recs) := by
  intro i rs hrs
  rw [List.getElem?_map] at hrs
  obtain ⟨es, hes, rfl⟩ := Option.map_eq_some_iff.1 hrs
  have hlt : i < n ∧ i < s.epochs.length := by
    have := (List.getElem?_eq_some_iff.1 hes).1
    rw [List.length_take] at this
    omega
  rw [List.getElem?_take_of_lt hlt.1] at hes
  have hep := hf.ep es (List.mem_of_getElem? hes)
  have := hf.many
  unfold Dk.frameOk
  rw [decide_eq_true ⟨by omega, by omega⟩, decide_eq_true (by rw [recs, List.length_map]; exact hep.1), hep.2]; rfl

/-! ### A crash -/
theorem crash_low (s : CluV) (safe : Nat) (keep : Int) : ∀ f n, n < crashGo s safe keep f n → ((logV s (crashGo s safe keep f n)).length : Int) - (logV s safe).length ≤ keep
  | 0, n, h => by exact absurd h (by show ¬ n < n; omega)
  | f + 1, n, h => by
    rw [crashGo] at h ⊢
    split at h
    · omega
    · rename_i hk
      rw [if_neg hk]
      by_cases hn : n + 1 < crashGo s safe keep f (n + 1)
      · exact crash_low s safe keep f (n + 1) hn
      · have := (crashGo_le s safe keep f (n + 1)).1
        have e : crashGo s safe keep f (n + 1) = n + 1 := by omega
        rw [e]
        omega
theorem crash_high (s : CluV) (safe : Nat) (keep : Int) : ∀ f n, crashGo s safe keep f n < n + f → keep < ((logV s (crashGo s safe keep f n + 1)).length : Int) - (logV s safe).length
  | 0, n, h => by exact absurd h (by show ¬ n < n + 0; omega)
  | f + 1, n, h => by
    rw [crashGo] at h ⊢
    split at h
    · rename_i hk
      rw [if_pos hk]
      exact hk
    · rename_i hk
      rw [if_neg hk]
      exact crash_high s safe keep f (n + 1) (by omega)
/-- How many bytes a crash leaves. -/
def leftN (disk safe : Nat) (keep : Int) : Nat := if (disk : Int) - safe ≤ 0 ∨ (disk : Int) - safe ≤ keep then disk else safe + keep.toNat
theorem log_lt {s : CluV} {n : Nat} (hn : n < s.epochs.length) : (logV s n).length < (logV s (n + 1)).length := by
  rw [log_snoc (List.getElem?_eq_getElem hn), List.length_append]
  have := Dk.epoch_pos n (recs s.epochs[n])
  omega
theorem crash_split {s : CluV} (hf : CluFit s) {x : Int × Int} (hx : 0 ≤ x.2 ∧ x.2 ≤ x.1 ∧ x.1 ≤ (s.epochs.length : Int)) (keep : Int) :
    ∃ r, (logV s x.1.toNat).take (leftN (logV s x.1.toNat).length (logV s x.2.toNat).length keep) = logV s (crashN s x keep) ++ r ∧ Dk.readV (crashN s x keep) r = none := by
  obtain ⟨x1, x2⟩ := x
  simp only at hx
  obtain ⟨c, rfl⟩ : ∃ c : Nat, x1 = c := ⟨x1.toNat, by omega⟩
  obtain ⟨sf, rfl⟩ : ∃ c : Nat, x2 = c := ⟨x2.toNat, by omega⟩
  have hle := crashGo_le s sf keep (c - sf) sf
  have hlow := crash_low s sf keep (c - sf) sf
  have hhigh := crash_high s sf keep (c - sf) sf
  obtain ⟨K, hK⟩ : ∃ K, crashGo s sf keep (c - sf) sf = K := ⟨_, rfl⟩
  have e : crashN s (((c : Nat) : Int), ((sf : Nat) : Int)) keep = K := by
    unfold crashN
    simp only [Int.toNat_natCast]
    exact hK
  rw [hK] at hle hlow hhigh
  simp only [Int.toNat_natCast]
  rw [e]
  have hc : c ≤ s.epochs.length := by omega
  have hsc : sf ≤ c := by omega
  have m1 := logV_mono s sf (K - sf) (by omega)
  rw [show sf + (K - sf) = K from by omega] at m1
  have m2 := logV_mono s K (c - K) (by omega)
  rw [show K + (c - K) = c from by omega] at m2
  have hs := sound_eps0 hf c
  have hlen : ((s.epochs.take c).map recs).length = c := by rw [List.length_map, List.length_take]; omega
  have htake : ∀ j, j ≤ c → ((s.epochs.take c).map recs).take j = (s.epochs.take j).map recs := fun j hj => by
    rw [← List.map_take, List.take_take, Nat.min_eq_left hj]
  have h := cut_split hs (at' := leftN (logV s c).length (logV s sf).length keep) (k := K) (by omega) (by
    rw [htake K (by omega)]
    show (logV s K).length ≤ _
    unfold leftN
    split
    · exact m2
    · by_cases hk : sf < K
      · have := hlow hk; omega
      · have : K = sf := by omega
        rw [this]; omega) (fun hlt => by
    rw [hlen] at hlt
    rw [htake (K + 1) (by omega)]
    show _ < (logV s (K + 1)).length
    have h2 := hhigh (by omega)
    have m3 := logV_mono s (K + 1) (c - (K + 1)) (by omega)
    rw [show K + 1 + (c - (K + 1)) = c from by omega] at m3
    have m4 := log_lt (s := s) (n := K) (by omega)
    unfold leftN
    rw [if_neg (by omega)]
    omega)
  rw [htake K (by omega)] at h
  exact h

end Go.Proofs.Ytccckonckddadaa
