import Derived.Test.YtccckonckddadaaJ39
namespace Go.Proofs.Ytccckonckddadaa
open Go.RowKit
set_option linter.unusedVariables false

/-! ### caught -/
theorem rep_get {s : CluV} (hf : CluFit s) {r : Nat} (hr : r < 4) (x : Int × Int) : (repV s r x).reps.getD r (0, 0) = x := by
  unfold repV
  rw [List.getD_eq_getElem?_getD, List.getElem?_set_self (by rw [hf.reps]; exact hr)]; rfl
theorem rep_rep (s : CluV) (r : Nat) (x y : Int × Int) : repV (repV s r x) r y = repV s r y := by
  unfold repV
  simp only [List.set_set]
theorem rep_same {s : CluV} (hf : CluFit s) {r : Nat} (hr : r < 4) : repV s r (s.reps.getD r (0, 0)) = s := by
  have hl : r < s.reps.length := by rw [hf.reps]; exact hr
  unfold repV
  rw [List.getD_eq_getElem?_getD, List.getElem?_eq_getElem hl]
  show { s with reps := s.reps.set r s.reps[r] } = s
  rw [List.set_getElem_self]
theorem send_next {s : CluV} (hf : CluFit s) {r : Nat} (hr4 : r < 4) (hr : (r : Int) ≤ s.conf.reps - 1) {n : Nat} (hn : n < s.epochs.length) (sf : Int) : sendV (repV s r ((n : Int), sf)) (r : Int) (n : Int) = (repV s r (((n + 1 : Nat) : Int), sf), 0) := by
  unfold sendV
  rw [if_neg (show ¬ ¬ (0 ≤ (r : Int) ∧ (r : Int) ≤ (repV s r ((n : Int), sf)).conf.reps - 1) by show ¬ ¬ (0 ≤ (r : Int) ∧ (r : Int) ≤ s.conf.reps - 1); omega), if_neg (show ¬ ¬ (0 ≤ (n : Int) ∧ (n : Int) ≤ ((repV s r ((n : Int), sf)).epochs.length : Int) - 1) by show ¬ ¬ (0 ≤ (n : Int) ∧ (n : Int) ≤ (s.epochs.length : Int) - 1); omega), Int.toNat_natCast, rep_get hf hr4]
  rw [if_neg (by show ¬ (n : Int) < (n : Int); omega), if_neg (by show ¬ (n : Int) < (n : Int); omega), rep_rep]
  rfl
theorem count_rep {s : CluV} (hf : CluFit s) {r : Nat} (hr4 : r < 4) (hr : (r : Int) ≤ s.conf.reps - 1) (x : Int × Int) : countV (repV s r x) (r : Int) = (x.1, 0) := by
  unfold countV
  rw [if_neg (show ¬ ¬ (0 ≤ (r : Int) ∧ (r : Int) ≤ (repV s r x).conf.reps - 1) by show ¬ ¬ (0 ≤ (r : Int) ∧ (r : Int) ≤ s.conf.reps - 1); omega), Int.toNat_natCast, rep_get hf hr4]

def CaughtPost (B : Nat) (A : Nat → Prop) (gB g : Nat) (p : SeqV) (s' : CluV) (b : BookV) (w : World) (e : Ending) (w' : World) : Prop :=
  e = .returned (.bool true) ∧ KAt B A w' gB g (withR p (repsOf s')) b ∧ Bel B A w w'

set_option maxRecDepth 100000 in
set_option maxHeartbeats 8000000 in
theorem caught_any (B : Nat) (A : Nat → Prop) (gB g : Nat) (p : SeqV) (s : CluV) (b : BookV) (r : Nat) (w : World) (h : KAt B A w gB g p b) (hBo : Both p s) (hr : (r : Int) ≤ s.conf.reps - 1) :
    Calls Try.prog 32 #[.pointer (some ⟨g, 0, none⟩), .int .i64 (r : Int), .int .i64 (s.epochs.length : Int)] w (CaughtPost B A gB g p (repV s r ((s.epochs.length : Int), (s.reps.getD r (0, 0)).2)) b w) := by
  have hr4 : r < 4 := by have := conf_reps hBo.fit.conf; omega
  have hrf := rep_fit hBo.rep r
  obtain ⟨sf, hsf⟩ : ∃ x, (s.reps.getD r (0, 0)).2 = x := ⟨_, rfl⟩
  obtain ⟨c0, hc0⟩ : ∃ n : Nat, (s.reps.getD r (0, 0)).1 = (n : Int) := ⟨(s.reps.getD r (0, 0)).1.toNat, by omega⟩
  rw [hsf, hc0] at hrf
  have hss : repV s r ((c0 : Int), sf) = s := by
    rw [← hc0, ← hsf]
    exact rep_same hBo.fit hr4
  have HBoth : Hid (∀ n : Nat, c0 ≤ n → n ≤ s.epochs.length → Both (withR p (repsOf (repV s r ((n : Int), sf)))) (repV s r ((n : Int), sf))) := fun n h1 h2 => both_put hBo r ⟨hrf.1, by show sf ≤ (n : Int); omega, by show (n : Int) ≤ _; omega⟩
  have HSn : Hid (∀ n : Nat, n < s.epochs.length → sendV (repV s r ((n : Int), sf)) (r : Int) (n : Int) = (repV s r (((n + 1 : Nat) : Int), sf), 0)) := fun n hn => send_next hBo.fit hr4 hr hn sf
  have HCn : Hid (∀ n : Nat, countV (repV s r ((n : Int), sf)) (r : Int) = ((n : Int), 0)) := fun n => count_rep hBo.fit hr4 hr _
  have HK0 : Hid (KAt B A w gB g (withR p (repsOf (repV s r ((c0 : Int), sf)))) b) := by
    show KAt _ _ _ _ _ _ _
    rw [hss, withR_self hBo.rsim]
    exact h
  have HRefl : Hid (Bel B A w w) := ⟨Below.refl _ _, fun _ _ => rfl⟩
  have hm := hBo.fit.many
  have HPost : Hid (∀ e w', CaughtPost B A gB g p (repV s r ((s.epochs.length : Int), (s.reps.getD r (0, 0)).2)) b w e w' ↔ (e = .returned (.bool true) ∧ KAt B A w' gB g (withR p (repsOf (repV s r ((s.epochs.length : Int), sf)))) b ∧ Bel B A w w')) := fun _ _ => by rw [hsf]; exact Iff.rfl
  generalize CaughtPost B A gB g p (repV s r ((s.epochs.length : Int), (s.reps.getD r (0, 0)).2)) b w = PP at *
  clear h hBo hsf hc0 hss
  obtain ⟨E, hE⟩ : ∃ E, s.epochs.length = E := ⟨_, rfl⟩
  rw [hE] at hrf HBoth HSn hm HPost
  rewrite [hE]
  clear hE
  go_enter Try.func32, Try.ntmps32
  go_wp2
  go_loopw [7] (fun v7 wr => ∃ (i : Nat), v7 = .int .i64 i ∧ c0 + i ≤ E ∧ Hid (KAt B A wr gB g (withR p (repsOf (repV s r (((c0 + i : Nat) : Int), sf)))) b ∧ Bel B A w wr)) (fun v7 _ => E + 1 - (intOf v7).toNat)
  case atStart => exact ⟨0, rfl, by omega, HK0.out, HRefl.out⟩
  case round =>
    obtain ⟨i, rfl, hi, HL⟩ := hrel
    clear HK0
    obtain ⟨F, hS, hF⟩ := HL.out.1.seq
    have HSF : Hid (_ ∧ _) := ⟨hS, hF⟩
    have HCo : Hid (Calls Try.prog 29 #[.pointer (some ⟨g, 0, none⟩), .int .i64 (r : Int)] wr fun e w' => e = .returned (.tuple #[.int .i64 ((c0 + i : Nat) : Int), .int .i64 0]) ∧ Below wr.heap.size wr w') := by
      have := pcount_any g F _ _ (r : Int) wr hS (HBoth.out (c0 + i) (by omega) hi)
      rw [HCn.out (c0 + i)] at this
      exact this
    clear hS hF
    have i1 : (i : Int) ≤ (E : Int) := by omega
    obtain ⟨n, hn⟩ : ∃ n, c0 + i = n := ⟨_, rfl⟩
    rw [hn] at HL HCo hi
    have HSq : Hid (SeqAt wr g F (withR p (repsOf (repV s r ((n : Int), sf))))) := by
      have := HSF.out.1
      rw [hn] at this
      exact this
    go_wp2_with fail
    refine HCo.out.mono ?_
    rintro e w2 ⟨rfl, hb2⟩
    have HB2 : Hid _ := hb2
    have HK2 : Hid (KAt B A w2 gB g (withR p (repsOf (repV s r ((n : Int), sf)))) b) := HL.out.1.below hb2
    clear hb2 HCo
    by_cases hnE : n = E
    · subst hnE
      have hnn : ¬ (n : Int) < (n : Int) := by omega
      go_wp2
      refine (HPost.out _ _).2 ⟨rfl, HK2.out, HL.out.2.trans (Bel.of HB2.out HL.out.1.base HL.out.1.lt)⟩
    · have hlt : n < E := by omega
      have hne : ((n : Int) == (E : Int)) = false := by rw [beq_eq_false_iff_ne]; omega
      have hle : (n : Int) ≤ (E : Int) := by omega
      have HSe : Hid (Calls Try.prog 56 #[.pointer (some ⟨g, 0, none⟩), .int .i64 (r : Int), .int .i64 (n : Int)] w2 fun e w' => e = .returned (.int .i64 0) ∧ SeqPost g F (withR p (repsOf (repV s r (((n + 1 : Nat) : Int), sf)))) w2 w') := by
        have := psend_any g F _ _ (r : Int) (n : Int) w2 (HSq.out.below HB2.out) (HBoth.out n (by omega) (by omega))
        rw [HSn.out n hlt] at this
        exact this
      go_wp2_with fail
      refine HSe.out.mono ?_
      rintro e w3 ⟨rfl, hP⟩
      obtain ⟨hK3, hB3⟩ := HK2.out.call HSF.out.2 hP
      have HN : Hid (KAt B A w3 gB g (withR p (repsOf (repV s r (((c0 + (i + 1) : Nat) : Int), sf)))) b ∧ Bel B A w w3) := by
        rw [show c0 + (i + 1) = n + 1 from by omega]
        exact ⟨hK3, (HL.out.2.trans (Bel.of HB2.out HL.out.1.base HL.out.1.lt)).trans hB3⟩
      clear hP hK3 hB3 HSe
      go_wp2
      go_roundw
      case rel => exact ⟨i + 1, by go_num, by omega, HN⟩
      case measure => simp [intOf]; omega

end Go.Proofs.Ytccckonckddadaa
namespace Go.Proofs.Ytccckonckddadaa
open Go.RowKit
set_option linter.unusedVariables false

/-! ### Healed -/
def sR (s : CluV) (r : Nat) (x y : Nat) : CluV := repV s r ((x : Int), (y : Int))
def pR (p : SeqV) (s : CluV) (r : Nat) (x y : Nat) : SeqV := withR p (repsOf (sR s r x y))

theorem both_R {p : SeqV} {s : CluV} (h : Both p s) (r : Nat) {x y : Nat} (h1 : y ≤ x) (h2 : x ≤ s.epochs.length) : Both (pR p s r x y) (sR s r x y) := both_put h r ⟨by show (0 : Int) ≤ (y : Int); omega, by show (y : Int) ≤ (x : Int); omega, by show (x : Int) ≤ _; omega⟩
theorem sync_R {s : CluV} (hf : CluFit s) {r : Nat} (hr4 : r < 4) (hr : (r : Int) ≤ s.conf.reps - 1) (x y : Nat) : syncV (sR s r x y) (r : Int) = (sR s r x x, 0) := by
  unfold syncV sR
  rw [if_neg (show ¬ ¬ (0 ≤ (r : Int) ∧ (r : Int) ≤ (repV s r ((x : Int), (y : Int))).conf.reps - 1) by show ¬ ¬ (0 ≤ (r : Int) ∧ (r : Int) ≤ s.conf.reps - 1); omega), Int.toNat_natCast, rep_get hf hr4, rep_rep]
theorem crash_R {s : CluV} (hf : CluFit s) {r : Nat} (hr4 : r < 4) (hr : (r : Int) ≤ s.conf.reps - 1) {x y : Nat} (hyx : y ≤ x) (keep : Int) : ∃ K, y ≤ K ∧ K ≤ x ∧ crashV (sR s r x y) (r : Int) keep = (sR s r K K, 0) := by
  refine ⟨crashN (sR s r x y) ((x : Int), (y : Int)) keep, ?_, ?_, ?_⟩
  · have := crashGo_le (sR s r x y) y keep (x - y) y
    unfold crashN
    simp only [Int.toNat_natCast]
    omega
  · have := crashGo_le (sR s r x y) y keep (x - y) y
    unfold crashN
    simp only [Int.toNat_natCast]
    omega
  · unfold crashV
    rw [if_neg (show ¬ ¬ (0 ≤ (r : Int) ∧ (r : Int) ≤ (sR s r x y).conf.reps - 1) by show ¬ ¬ (0 ≤ (r : Int) ∧ (r : Int) ≤ s.conf.reps - 1); omega), Int.toNat_natCast]
    have e : (sR s r x y).reps.getD r (0, 0) = ((x : Int), (y : Int)) := rep_get hf hr4 _
    rw [e]
    unfold sR
    rw [rep_rep]
theorem cells_R {s : CluV} (hf : CluFit s) {r : Nat} (hr4 : r < 4) (x y : Nat) : cellsR (sR s r x y) r = doneEps zero8 (s.epochs.take x) := by
  unfold cellsR
  have e : (sR s r x y).reps.getD r (0, 0) = ((x : Int), (y : Int)) := rep_get hf hr4 _
  rw [e]
  rfl
theorem disk_R {s : CluV} (hf : CluFit s) {r : Nat} (hr4 : r < 4) (hr : (r : Int) ≤ s.conf.reps - 1) (x y : Nat) : diskV (sR s r x y) (r : Int) = (logV s x, 0) := by
  unfold diskV
  have e : (sR s r x y).reps.getD r (0, 0) = ((x : Int), (y : Int)) := rep_get hf hr4 _
  rw [if_neg (show ¬ ¬ (0 ≤ (r : Int) ∧ (r : Int) ≤ (sR s r x y).conf.reps - 1) by show ¬ ¬ (0 ≤ (r : Int) ∧ (r : Int) ≤ s.conf.reps - 1); omega), Int.toNat_natCast, e]
  rfl
theorem caught_R (B : Nat) (A : Nat → Prop) (gB g : Nat) (p : SeqV) (s : CluV) (b : BookV) (r x y : Nat) (w : World) (hb : Both p s) (h : KAt B A w gB g (pR p s r x y) b) (hr4 : r < 4) (hr : (r : Int) ≤ s.conf.reps - 1) (hyx : y ≤ x) (hx : x ≤ s.epochs.length) :
    Calls Try.prog 32 #[.pointer (some ⟨g, 0, none⟩), .int .i64 (r : Int), .int .i64 (s.epochs.length : Int)] w fun e w' => e = .returned (.bool true) ∧ KAt B A w' gB g (pR p s r s.epochs.length y) b ∧ Bel B A w w' := by
  have h1 := caught_any B A gB g (pR p s r x y) (sR s r x y) b r w h (both_R hb r hyx hx) hr
  refine h1.mono ?_
  rintro e w' ⟨q1, q2, q3⟩
  refine ⟨q1, ?_, q3⟩
  have e1 : (sR s r x y).reps.getD r (0, 0) = ((x : Int), (y : Int)) := rep_get hb.fit hr4 _
  rw [e1] at q2
  have e2 : repV (sR s r x y) r (((sR s r x y).epochs.length : Int), (y : Int)) = sR s r s.epochs.length y := by
    unfold sR
    rw [rep_rep]
    rfl
  have q2' : KAt B A w' gB g (withR (pR p s r x y) (repsOf (repV (sR s r x y) r (((sR s r x y).epochs.length : Int), (y : Int))))) b := q2
  rw [e2] at q2'
  exact q2'
theorem KAt.avoid {B : Nat} {w : World} {gB g : Nat} {p : SeqV} {b : BookV} (h : KAt B (fun _ => False) w gB g p b) (o : Obj) : KAt B (fun k => k = w.heap.size) (w.alloc o) gB g p b := by
  obtain ⟨F, h1, h2⟩ := h.seq
  have hz := h.book.reads.2.2.2.2.2
  have hb : Below w.heap.size w (w.alloc o) := (Below.refl _ _).alloc (Nat.le_refl _) _
  refine ⟨⟨F, h1.below hb, fun k hk => ⟨(h2 k hk).1, (h2 k hk).2.1, fun e => ?_⟩⟩, h.book.same (hb.block gB hz), h.gb, fun k hk => ?_⟩
  · have := h1.own k hk
    omega
  · subst hk
    exact ⟨by simp, by omega⟩

set_option maxRecDepth 100000 in
set_option maxHeartbeats 16000000 in
theorem healed_walk (c : ConfV) (a : Option Addr) (m cp : Nat) (which keep : Int) (w : World) (hr : RawRow w a m) (h1 : In64 c.clients) (h2 : In64 c.queue) (h3 : In64 c.quantum) (h4 : In64 c.room) (h5 : In64 c.reps) (hm : m ≤ 9000000000000000) (hwh : In64 which) (hke : In64 keep) :
    Calls Try.prog 11 #[.agg #[.int .i64 c.clients, .int .i64 c.queue, .int .i64 c.quantum, .int .i64 c.room, .int .i64 c.reps], .slice a m cp, .int .i64 which, .int .i64 keep] w fun e w' => e = .returned (.bool true) ∧ Below w.heap.size w w' := by
  have HPl : Hid (∀ W, RawRow W a m → Calls Try.prog 24 #[.agg #[.int .i64 c.clients, .int .i64 c.queue, .int .i64 c.quantum, .int .i64 c.room, .int .i64 c.reps], .slice a m cp] W fun e w' => ∃ (g gB : Nat) (p : SeqV) (s : CluV) (b : BookV), e = .returned (.tuple #[.pointer (some ⟨g, 0, none⟩), .pointer (some ⟨gB, 0, none⟩)]) ∧ KAt W.heap.size (fun _ => False) w' gB g p b ∧ Inv 40 p s b ∧ s.conf = confV c ∧ Below W.heap.size W w') := fun W hW => (played_any c a m cp W hW h1 h2 h3 h4 h5 hm).mono (by
    rintro e w' ⟨g, gB, p, s, b, q1, q2, q3, q4, q5⟩
    exact ⟨g, gB, p, s, b, q1, q2, q3, q4, q5⟩)
  have HCf : Hid (∀ W, Calls Try.prog 27 #[.agg #[.int .i64 c.clients, .int .i64 c.queue, .int .i64 c.quantum, .int .i64 c.room, .int .i64 c.reps]] W fun e w' => e = .returned (.agg #[.int .i64 (confV c).clients, .int .i64 (confV c).queue, .int .i64 (confV c).quantum, .int .i64 (confV c).room, .int .i64 (confV c).reps]) ∧ Below W.heap.size W w') := fun W => conf_any c W h1 h2 h3 h4 h5
  have HR : Hid _ := hr
  clear h1 h2 h3 h4 h5 hr
  obtain ⟨x1, x2, x3, x4, x5⟩ := c
  simp only at HPl HCf
  generalize confV ⟨x1, x2, x3, x4, x5⟩ = cv at *
  obtain ⟨y1, y2, y3, y4, y5⟩ := cv
  simp only at HCf
  have heq := kequal_eight
  have hgd := kguard_eight
  have HBa : Hid (∀ o, Below w.heap.size w (w.alloc o)) := fun o => (Below.refl _ _).alloc (Nat.le_refl _) _
  go_enter Try.func11, Try.ntmps11
  go_wp2_with fail
  refine (HPl.out _ (HR.out.kept (HBa.out _))).mono ?_
  rintro e w1 ⟨g, gB, p, s, b, rfl, hK, hI, hcv, hB1⟩
  obtain ⟨g0, hb0⟩ := below_one hB1
  obtain ⟨cx, fx, zx⟩ := heap_cells g0
  have x0' : w1.cell? ⟨w.heap.size, 0, none⟩ = some (.int .i64 x1) := by rw [cx]; rfl
  have x1' : w1.cell? ⟨w.heap.size, 1, none⟩ = some (.int .i64 x2) := by rw [cx]; rfl
  have x2' : w1.cell? ⟨w.heap.size, 2, none⟩ = some (.int .i64 x3) := by rw [cx]; rfl
  have x3' : w1.cell? ⟨w.heap.size, 3, none⟩ = some (.int .i64 x4) := by rw [cx]; rfl
  have x4' : w1.cell? ⟨w.heap.size, 4, none⟩ = some (.int .i64 x5) := by rw [cx]; rfl
  have HB1 : Hid (Below w.heap.size w w1) := hb0
  have hre := conf_reps hI.both.fit.conf
  rw [hcv] at hre
  simp only at hre
  have HRe : Hid (s.conf.reps = y5) := by show _ = _; rw [hcv]
  have HBo : Hid (Both p s) := hI.both
  have HLog : Hid (p.log = logV s s.epochs.length) := hI.both.sim.log.1
  have hbe := hI.bep
  have hrf := rep_fit hI.both.rep (pickV which y5).toNat
  have hyb := pick_bd (c := which) (n := y5) (by omega)
  have HPk : Hid (∀ W, Calls Try.prog 22 #[.int .i64 which, .int .i64 y5] W fun e w' => e = .returned (.int .i64 (pickV which y5)) ∧ w' = W) := fun W => pick_is which y5 W hwh.1 hwh.2 (by omega) (by omega)
  obtain ⟨r, hrr⟩ : ∃ r : Nat, pickV which y5 = (r : Int) := ⟨(pickV which y5).toNat, by omega⟩
  rw [hrr] at HPk hyb hrf
  rw [Int.toNat_natCast] at hrf
  have hr4 : r < 4 := by omega
  have HRr : Hid ((r : Int) ≤ s.conf.reps - 1) := by show _ ≤ _; rw [HRe.out]; omega
  obtain ⟨m0, hm0⟩ : ∃ n : Nat, (s.reps.getD r (0, 0)).1 = (n : Int) := ⟨(s.reps.getD r (0, 0)).1.toNat, by omega⟩
  obtain ⟨f0, hf0⟩ : ∃ n : Nat, (s.reps.getD r (0, 0)).2 = (n : Int) := ⟨(s.reps.getD r (0, 0)).2.toNat, by omega⟩
  rw [hm0, hf0] at hrf
  have hss : sR s r m0 f0 = s := by
    unfold sR
    rw [← hm0, ← hf0]
    exact rep_same hI.both.fit hr4
  have HK1 : Hid (KAt (w.heap.size + 1) (fun _ => False) w1 gB g (pR p s r m0 f0) b) := by
    show KAt _ _ _ _ _ _ _
    unfold pR
    rw [hss, withR_self hI.both.rsim]
    have := hK
    simp only [World.size_alloc] at this
    exact this
  have HCo : Hid (countV (sR s r m0 f0) (r : Int) = ((m0 : Int), 0)) := count_rep hI.both.fit hr4 HRr.out _
  obtain ⟨E, hE⟩ : ∃ E, s.epochs.length = E := ⟨_, rfl⟩
  have HE : Hid (s.epochs.length = E) := hE
  have hm0E : m0 ≤ E := by omega
  have hf0m : f0 ≤ m0 := by omega
  rw [hE] at hbe HLog
  have HBe : Hid _ := hbe
  clear hK hI hB1 g0 hb0 cx fx hcv hm0 hf0 hss hrf hrr hbe hE hwh
  go_wp2_with fail
  refine (HCf.out _).mono ?_
  rintro e w2 ⟨rfl, hb2⟩
  have HB2 : Hid (Below w1.heap.size w1 w2) := hb2
  have hz12 := hb2.size
  clear hb2 x0' x1' x2' x3' x4'
  go_wp2_with fail
  refine (HPk.out _).mono ?_
  rintro e w0 ⟨rfl, hw0⟩
  obtain ⟨W3, hW3⟩ : ∃ W3, W3 = w2.alloc (.cells #[.int .i64 y1, .int .i64 y2, .int .i64 y3, .int .i64 y4, .int .i64 y5] 55) := ⟨_, rfl⟩
  rw [← hW3] at hw0
  obtain rfl := hw0.symm
  have HB3 : Hid (Below w1.heap.size w1 W3) := by rw [hW3]; exact HB2.out.alloc hz12 _
  have HK3 : Hid (KAt (w.heap.size + 1) (fun _ => False) W3 gB g (pR p s r m0 f0) b) := HK1.out.below HB3.out
  clear hW3
  obtain ⟨F3, hS3, hF3⟩ := HK3.out.seq
  have HC3 : Hid (Calls Try.prog 29 #[.pointer (some ⟨g, 0, none⟩), .int .i64 (r : Int)] W3 fun e w' => e = .returned (.tuple #[.int .i64 (m0 : Int), .int .i64 0]) ∧ Below W3.heap.size W3 w') := by
    have := pcount_any g F3 _ _ (r : Int) W3 hS3 (both_R HBo.out r hf0m (by rw [HE.out]; omega))
    rw [HCo.out] at this
    exact this
  have HSF3 : Hid (_ ∧ _) := ⟨hS3, hF3⟩
  clear hS3 hF3
  go_wp2_with fail
  refine HC3.out.mono ?_
  rintro e w4 ⟨rfl, hb4⟩
  have HB4 : Hid _ := hb4
  have HK4 : Hid (KAt (w.heap.size + 1) (fun _ => False) w4 gB g (pR p s r m0 f0) b ∧ Below w.heap.size w w4) := ⟨HK3.out.below hb4, (HB1.out.trans (HB3.out.mono HB1.out.size)).trans (hb4.mono (by have := HB1.out.size; have := HB3.out.size; omega))⟩
  have HSy : Hid (Calls Try.prog 31 #[.pointer (some ⟨g, 0, none⟩), .int .i64 (r : Int)] w4 fun e w' => e = .returned (.int .i64 0) ∧ SeqPost g F3 (pR p s r m0 m0) w4 w') := by
    have := psync_any g F3 _ _ (r : Int) w4 (HSF3.out.1.below hb4) (both_R HBo.out r hf0m (by rw [HE.out]; omega))
    rw [sync_R HBo.out.fit hr4 HRr.out] at this
    exact this
  clear hb4 HC3
  go_wp2_with fail
  refine HSy.out.mono ?_
  rintro e w5 ⟨rfl, hP5⟩
  obtain ⟨hK5, hB5⟩ := HK4.out.1.call HSF3.out.2 hP5
  have HK5 : Hid (KAt (w.heap.size + 1) (fun _ => False) w5 gB g (pR p s r m0 m0) b ∧ Below w.heap.size w w5) := ⟨hK5, HK4.out.2.trans (hB5.bel.mono (by omega))⟩
  have e5 := hK5.book.reads.2.1
  have z5 := hK5.book.reads.2.2.2.2.2
  rw [HBe.out] at e5
  clear hP5 hK5 hB5 HSy
  have HCa : Hid (∀ (A : Nat → Prop) (x y : Nat) (W : World), KAt (w.heap.size + 1) A W gB g (pR p s r x y) b → y ≤ x → x ≤ E → Calls Try.prog 32 #[.pointer (some ⟨g, 0, none⟩), .int .i64 (r : Int), .int .i64 (E : Int)] W fun e w' => e = .returned (.bool true) ∧ KAt (w.heap.size + 1) A w' gB g (pR p s r E y) b ∧ Bel (w.heap.size + 1) A W w') := fun A x y W hK hyx hx => by
    have := caught_R (w.heap.size + 1) A gB g p s b r x y W HBo.out hK hr4 HRr.out hyx (by rw [HE.out]; exact hx)
    rw [HE.out] at this
    exact this
  go_wp2_with fail
  refine (HCa.out _ m0 m0 w5 HK5.out.1 (Nat.le_refl _) hm0E).mono ?_
  rintro e w6 ⟨rfl, hK6, hB6⟩
  have HK6 : Hid (KAt (w.heap.size + 1) (fun _ => False) w6 gB g (pR p s r E m0) b ∧ Below w.heap.size w w6) := ⟨hK6, HK5.out.2.trans (hB6.bel.mono (by omega))⟩
  clear hK6 hB6 e5 z5
  obtain ⟨F6, hS6, hF6⟩ := HK6.out.1.seq
  have HSF6 : Hid (_ ∧ _) := ⟨hS6, hF6⟩
  clear hS6 hF6
  have HCe : Hid (∀ (y : Nat) (F : Nat → Prop) (W : World), SeqAt W g F (pR p s r E y) → y ≤ E → Calls Try.prog 30 #[.pointer (some ⟨g, 0, none⟩), .int .i64 (r : Int)] W (CellsPost (doneEps zero8 (s.epochs.take E)) W)) := fun y F W hS hy => by
    have := kcells_any g F (pR p s r E y) (sR s r E y) r W hS (both_R HBo.out r hy (by rw [HE.out]; exact Nat.le_refl _)) HRr.out
    rw [cells_R HBo.out.fit hr4] at this
    exact this
  go_wp2_with fail
  refine (HCe.out m0 F6 w6 HSF6.out.1 hm0E).mono ?_
  rintro e w7 ⟨k0, k1, k2, k3, k4, k5, k6, k7, rfl, hks, hb7⟩
  have HKs : Hid _ := hks
  have HK7 : Hid (KAt (w.heap.size + 1) (fun _ => False) w7 gB g (pR p s r E m0) b ∧ Below w.heap.size w w7) := ⟨HK6.out.1.below hb7, HK6.out.2.trans (hb7.mono HK6.out.2.size)⟩
  clear hks hb7
  obtain ⟨W8, hW8⟩ : ∃ W8, W8 = w7.alloc (.cells #[.int .i64 k0, .int .i64 k1, .int .i64 k2, .int .i64 k3, .int .i64 k4, .int .i64 k5, .int .i64 k6, .int .i64 k7] 75) := ⟨_, rfl⟩
  obtain ⟨gX, hgX⟩ : ∃ x, x = w7.heap.size := ⟨_, rfl⟩
  have HK8 : Hid (KAt (w.heap.size + 1) (fun k => k = gX) W8 gB g (pR p s r E m0) b ∧ Below w.heap.size w W8) := by
    rw [hW8, hgX]
    exact ⟨HK7.out.1.avoid _, HK7.out.2.alloc HK7.out.2.size _⟩
  have HG8 : Hid (W8.heap[gX]? = some (.cells #[.int .i64 k0, .int .i64 k1, .int .i64 k2, .int .i64 k3, .int .i64 k4, .int .i64 k5, .int .i64 k6, .int .i64 k7] 75)) := by rw [hW8, hgX]; exact heap_at rfl
  obtain ⟨F8, hS8, hF8⟩ := HK8.out.1.seq
  have HSF8 : Hid (_ ∧ _) := ⟨hS8, hF8⟩
  clear hS8 hF8
  obtain ⟨K, hK1, hK2, hK3⟩ := crash_R HBo.out.fit hr4 HRr.out (x := E) hm0E keep
  have HCr : Hid (Calls Try.prog 33 #[.pointer (some ⟨g, 0, none⟩), .int .i64 (r : Int), .int .i64 keep] W8 fun e w' => e = .returned (.int .i64 0) ∧ SeqPost g F8 (pR p s r K K) W8 w') := by
    have := pcrash_any g F8 _ _ (r : Int) keep W8 HSF8.out.1 (both_R HBo.out r hm0E (by rw [HE.out]; exact Nat.le_refl _))
    rw [hK3] at this
    exact this
  clear hK3
  go_wp2_with fail
  rewrite [← hW8]
  try rewrite [← hgX]
  clear hW8 hgX
  refine HCr.out.mono ?_
  rintro e w9 ⟨rfl, hP9⟩
  obtain ⟨hK9, hB9⟩ := HK8.out.1.call HSF8.out.2 hP9
  have HK9 : Hid (KAt (w.heap.size + 1) (fun k => k = gX) w9 gB g (pR p s r K K) b ∧ Below w.heap.size w w9 ∧ w9.heap[gX]? = _) := ⟨hK9, HK8.out.2.trans (hB9.bel.mono (by omega)), (hB9.av gX rfl).trans HG8.out⟩
  clear hP9 hK9 hB9 HCr
  obtain ⟨F9, hS9, hF9⟩ := HK9.out.1.seq
  have HC9 : Hid (Calls Try.prog 29 #[.pointer (some ⟨g, 0, none⟩), .int .i64 (r : Int)] w9 fun e w' => e = .returned (.tuple #[.int .i64 (K : Int), .int .i64 0]) ∧ Below w9.heap.size w9 w') := by
    have := pcount_any g F9 _ _ (r : Int) w9 hS9 (both_R HBo.out r (Nat.le_refl K) (by rw [HE.out]; omega))
    rw [show countV (sR s r K K) (r : Int) = ((K : Int), 0) from count_rep HBo.out.fit hr4 HRr.out _] at this
    exact this
  clear hS9 hF9
  go_wp2_with fail
  refine HC9.out.mono ?_
  rintro e w10 ⟨rfl, hb10⟩
  have HK10 : Hid (KAt (w.heap.size + 1) (fun k => k = gX) w10 gB g (pR p s r K K) b ∧ Below w.heap.size w w10 ∧ w10.heap[gX]? = some (.cells #[.int .i64 k0, .int .i64 k1, .int .i64 k2, .int .i64 k3, .int .i64 k4, .int .i64 k5, .int .i64 k6, .int .i64 k7] 75)) := ⟨HK9.out.1.below hb10, HK9.out.2.1.trans (hb10.mono HK9.out.2.1.size), (hb10.block gX (HK9.out.1.lt gX rfl)).trans HK9.out.2.2⟩
  have e10 := HK10.out.1.book.reads.2.1
  have z10 := HK10.out.1.book.reads.2.2.2.2.2
  rw [HBe.out] at e10
  clear hb10 HC9
  go_wp2_with fail
  refine (HCa.out _ K K w10 HK10.out.1 (Nat.le_refl _) hK2).mono ?_
  rintro e w11 ⟨rfl, hK11, hB11⟩
  have HK11 : Hid (KAt (w.heap.size + 1) (fun k => k = gX) w11 gB g (pR p s r E K) b ∧ Below w.heap.size w w11 ∧ w11.heap[gX]? = some (.cells #[.int .i64 k0, .int .i64 k1, .int .i64 k2, .int .i64 k3, .int .i64 k4, .int .i64 k5, .int .i64 k6, .int .i64 k7] 75)) := ⟨hK11, HK10.out.2.1.trans (hB11.bel.mono (by omega)), (hB11.av gX rfl).trans HK10.out.2.2⟩
  clear hK11 hB11 e10 z10
  obtain ⟨F11, hS11, hF11⟩ := HK11.out.1.seq
  have HSF11 : Hid (_ ∧ _) := ⟨hS11, hF11⟩
  clear hS11 hF11
  go_wp2_with fail
  refine (HCe.out K F11 w11 HSF11.out.1 hK2).mono ?_
  rintro e w12 ⟨l0, l1, l2, l3, l4, l5, l6, l7, rfl, hls, hb12⟩
  rw [HKs.out] at hls
  simp only [List.cons.injEq, and_true] at hls
  obtain ⟨rfl, rfl, rfl, rfl, rfl, rfl, rfl, rfl⟩ := hls
  have HB12 : Hid (Below w11.heap.size w11 w12) := hb12
  clear hb12
  obtain ⟨W13, hW13⟩ : ∃ W13, W13 = w12.alloc (.cells #[.int .i64 k0, .int .i64 k1, .int .i64 k2, .int .i64 k3, .int .i64 k4, .int .i64 k5, .int .i64 k6, .int .i64 k7] 75) := ⟨_, rfl⟩
  obtain ⟨gY, hgY⟩ : ∃ x, x = w12.heap.size := ⟨_, rfl⟩
  have HB13 : Hid (Below w11.heap.size w11 W13) := by rw [hW13]; exact HB12.out.alloc HB12.out.size _
  have HG13 : Hid (W13.heap[gY]? = some (.cells #[.int .i64 k0, .int .i64 k1, .int .i64 k2, .int .i64 k3, .int .i64 k4, .int .i64 k5, .int .i64 k6, .int .i64 k7] 75)) := by rw [hW13, hgY]; exact heap_at rfl
  have HBR : Hid (Both (pR p s r E K) (sR s r E K)) := both_R HBo.out r hK2 (by rw [HE.out]; exact Nat.le_refl _)
  have HDi : Hid (Calls Try.prog 28 #[.pointer (some ⟨g, 0, none⟩), .int .i64 (r : Int)] W13 fun e w' => e = .returned (.tuple #[.string (bytesOf (logV s E)), .int .i64 0]) ∧ Below W13.heap.size W13 w') := by
    have := pdisk_any g F11 _ _ (r : Int) W13 (HSF11.out.1.below HB13.out) HBR.out
    rw [disk_R HBo.out.fit hr4 HRr.out] at this
    exact this
  go_wp2_with fail
  rewrite [← hW13]
  try rewrite [← hgY]
  clear hW13 hgY
  refine HDi.out.mono ?_
  rintro e w14 ⟨rfl, hb14⟩
  have HB14 : Hid (Below W13.heap.size W13 w14) := hb14
  clear hb14 HDi
  go_wp2_with fail
  refine (plog_any g F11 (pR p s r E K) w14 ((HSF11.out.1.below HB13.out).below HB14.out)).mono ?_
  rintro e w15 ⟨lb, rfl, hlb, hb15⟩
  have HB15 : Hid (Below W13.heap.size W13 w15) := HB14.out.trans (hb15.mono HB14.out.size)
  have hbb : bytesOf (logV s E) = lb := (bytesOf_eq (show lb.data.toList = logV s E from by rw [hlb]; exact HLog.out)).symm
  clear hb15 hlb
  subst hbb
  have HB16 : Hid (Below w11.heap.size w11 w15) := HB13.out.trans (HB15.out.mono HB13.out.size)
  have HK15 : Hid (KAt (w.heap.size + 1) (fun k => k = gX) w15 gB g (pR p s r E K) b) := HK11.out.1.below HB16.out
  have e40 := HK15.out.book.reads.2.1
  have z40 := HK15.out.book.reads.2.2.2.2.2
  rw [HBe.out] at e40
  obtain ⟨cX, fX, zX⟩ := heap_cells ((HB16.out.block gX (HK11.out.1.lt gX rfl)).trans HK11.out.2.2)
  obtain ⟨cY, fY, zY⟩ := heap_cells ((HB15.out.block gY (heap_cells HG13.out).2.2).trans HG13.out)
  have s0 : w15.cell? ⟨gX, 0, none⟩ = some (.int .i64 k0) := by rw [cX]; rfl
  have t0 : w15.cell? ⟨gY, 0, none⟩ = some (.int .i64 k0) := by rw [cY]; rfl
  have s1 : w15.cell? ⟨gX, 1, none⟩ = some (.int .i64 k1) := by rw [cX]; rfl
  have t1 : w15.cell? ⟨gY, 1, none⟩ = some (.int .i64 k1) := by rw [cY]; rfl
  have s2 : w15.cell? ⟨gX, 2, none⟩ = some (.int .i64 k2) := by rw [cX]; rfl
  have t2 : w15.cell? ⟨gY, 2, none⟩ = some (.int .i64 k2) := by rw [cY]; rfl
  have s3 : w15.cell? ⟨gX, 3, none⟩ = some (.int .i64 k3) := by rw [cX]; rfl
  have t3 : w15.cell? ⟨gY, 3, none⟩ = some (.int .i64 k3) := by rw [cY]; rfl
  have s4 : w15.cell? ⟨gX, 4, none⟩ = some (.int .i64 k4) := by rw [cX]; rfl
  have t4 : w15.cell? ⟨gY, 4, none⟩ = some (.int .i64 k4) := by rw [cY]; rfl
  have s5 : w15.cell? ⟨gX, 5, none⟩ = some (.int .i64 k5) := by rw [cX]; rfl
  have t5 : w15.cell? ⟨gY, 5, none⟩ = some (.int .i64 k5) := by rw [cY]; rfl
  have s6 : w15.cell? ⟨gX, 6, none⟩ = some (.int .i64 k6) := by rw [cX]; rfl
  have t6 : w15.cell? ⟨gY, 6, none⟩ = some (.int .i64 k6) := by rw [cY]; rfl
  have s7 : w15.cell? ⟨gX, 7, none⟩ = some (.int .i64 k7) := by rw [cX]; rfl
  have t7 : w15.cell? ⟨gY, 7, none⟩ = some (.int .i64 k7) := by rw [cY]; rfl
  clear cX fX cY fY
  generalize bytesOf (logV s E) = lb at *
  have hbe2 : (lb.toList == lb.toList) = true := by simp
  have hKm : (m0 : Int) ≤ (K : Int) := by omega
  have hKE : (K : Int) ≤ (E : Int) := by omega
  go_wp2
  go_ret
  exact ⟨rfl, HK11.out.2.1.trans (HB16.out.mono HK11.out.2.1.size)⟩

end Go.Proofs.Ytccckonckddadaa
