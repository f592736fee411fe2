import Derived.Test.YtccckonckddadaaJ40
import Derived.Test.YtccckonckddadaaW01
namespace Go.Proofs.Ytccckonckddadaa
open Go.RowKit
set_option linter.unusedVariables false

/-! ### Within: what is kept from epoch to epoch -/
theorem near_reply {p : SeqV} {s : CluV} {c : Nat} {x0 : WaitV} {b : Nat} (h : NearAt p c x0 b) (hS : Sim p s) (hf : CluFit s) : pReplyV p x0.i = (0, 0, 0) := by
  obtain ⟨pre, post, hq, _⟩ := h.q
  have ha := hS.acc c h.lt
  have e : (accV p c).q = qOf c s.txs := by
    unfold accV
    rw [List.getD_eq_getElem?_getD, ha]
    rfl
  have hx : x0 ∈ qOf c s.txs := by rw [← e, hq]; simp
  unfold qOf at hx
  obtain ⟨t, ht, rfl⟩ := List.mem_map.1 hx
  obtain ⟨ht1, ht2⟩ := List.mem_filter.1 ht
  have hw := waits_iff.1 ht2
  rw [reply_sim hS hf]
  show replyV s t.i = _
  rw [(reply_found hf ht1).1, hw.2, hS.e0 t ht1 hw.2]

structure WInv (c : Nat) (x0 : WaitV) (n : Nat) (cf : ConfV) (p : SeqV) (s : CluV) (b : BookV) : Prop where
  inv : Inv 41 p s { b with nr := (p.outs.length : Int) }
  near : NearAt p c x0 n
  conf : s.conf = cf

theorem fillV_conf {s : CluV} (hf : CluFit s) (hr : Rest s) : (fillV s).1.conf = s.conf := by
  unfold fillV
  split
  · rfl
  · obtain ⟨e1, e2, e3, _⟩ := conf_edges hf.conf
    obtain ⟨y1, y2, y3⟩ := lateFrom_mild s.conf.clients.toNat 0 s [] hf (by omega)
    obtain ⟨z1, z2⟩ := visitFrom_mild s.conf.clients.toNat 0 (lateFrom s.conf.clients.toNat 0 s []).1 s.conf.room (lateFrom s.conf.clients.toNat 0 s []).2 y2 (by rw [y1.conf]; omega) e3 (fun j _ _ => by rw [y3, y1.epochs]; exact hr.credit _)
    exact (y1.trans z1).conf

/-- The transaction of the number that was left free. -/
theorem inv_start {p : SeqV} {s : CluV} {b : BookV} (h : Inv 40 p s b) {client : Int} {t : ByteArray} {d : Int} (h0 : (submitV s client 40 t d).2 = 0) :
    Inv 41 (pSubmitV p client 40 t d).1 (submitV s client 40 t d).1 { b with nr := ((pSubmitV p client 40 t d).1.outs.length : Int) } := by
  have hb := both_submit h.both client 40 t d
  have ho := submit_outs (p := p) (client := client) (id := 40) (t := t) (d := d)
  have e : (submitV s client 40 t d).1 = { s with txs := s.txs ++ [⟨client, 40, t, d, 0, 0⟩] } := by
    unfold submitV at h0 ⊢
    split at h0
    · exact absurd h0 (by simp)
    split at h0
    · exact absurd h0 (by simp)
    split at h0
    · exact absurd h0 (by simp)
    split at h0
    · exact absurd h0 (by simp)
    split at h0
    · exact absurd h0 (by simp)
    split at h0
    · exact absurd h0 (by simp)
    · rename_i h1 h2 h3 h4 h5 h6
      rw [if_neg h1, if_neg h2, if_neg h3, if_neg h4, if_neg h5, if_neg h6]
  refine ⟨hb, submit_outsOk h.outs, submit_ep h.oep, ?_, rfl, ?_, ?_⟩
  · show b.ep = _
    rw [h.bep, e]
  · rw [e]
    intro x hx
    rcases List.mem_append.1 hx with hx | hx
    · have := h.ids x hx; show x.i < (41 : Nat); omega
    · have : x = ⟨client, 40, t, d, 0, 0⟩ := by simpa using hx
      subst this
      show (40 : Int) < (41 : Nat)
      omega
  · intro j hj
    rw [e]
    show b.inn.getD j false = true ↔ 0 ≤ findV (s.txs ++ [⟨client, 40, t, d, 0, 0⟩]) j
    rw [find_append, ← h.inn j hj]
    constructor
    · exact fun x => .inl x
    · rintro (x | x)
      · exact x
      · have e2 : (40 : Int) = (j : Int) := x
        omega

/-- What the program answers to it: it is full, or all is well. -/
theorem start_ans {p : SeqV} {s : CluV} {b : BookV} (h : Inv 40 p s b) {client : Int} {t : ByteArray} (hc : 0 ≤ client ∧ client < s.conf.clients) (ht : Dk.parseOk t.data.toList = true) : (submitV s client 40 t 1000).2 = 8 ∨ (submitV s client 40 t 1000).2 = 0 := by
  have hmany := h.both.fit.many
  unfold submitV
  rw [if_neg (by omega), if_neg (by omega), if_neg (by rw [ht]; simp)]
  have h4 : ¬ 0 ≤ findV s.txs 40 := fun hh => by
    obtain ⟨x, hx, hi⟩ := List.mem_map.1 (find_iff.1 hh)
    have := h.ids x hx
    omega
  rw [if_neg h4]
  split
  · exfalso; omega
  split
  · exact .inl rfl
  · exact .inr rfl

theorem winv_sub {c : Nat} {x0 : WaitV} {n : Nat} {cf : ConfV} {p : SeqV} {s : CluV} {b : BookV} (h : WInv c x0 n cf p s b) (hl : b.inn.length = 40) {client : Int} {id : Nat} {t : ByteArray} {d : Int} (hid : id < 40) :
    WInv c x0 n cf (pSubmitV p client id t d).1 (submitV s client id t d).1 (bookSub b id (submitV s client id t d).2) := by
  have h1 := inv_submit h.inv (by omega) (client := client) (id := id) (t := t) (d := d) hl hid
  have ho := submit_outs (p := p) (client := client) (id := (id : Int)) (t := t) (d := d)
  refine ⟨?_, near_submit h.near client id t d, by rw [submit_conf]; exact h.conf⟩
  have e : bookSub { b with nr := (p.outs.length : Int) } id (submitV s client id t d).2 = { bookSub b id (submitV s client id t d).2 with nr := ((pSubmitV p client id t d).1.outs.length : Int) } := by
    rw [ho.1]
    unfold bookSub
    split <;> rfl
  rw [e] at h1
  exact h1

theorem winv_fill {c : Nat} {x0 : WaitV} {n : Nat} {cf : ConfV} {p : SeqV} {s : CluV} {b : BookV} (h : WInv c x0 n cf p s b) (hfit : SeqFit p) (he : p.epochs < 200) (hx : x0.d = 1000) :
    (pFillV p).2.2 = 0 ∧ ((((pReplyV (pFillV p).1 x0.i).1 = 1 ∨ (pReplyV (pFillV p).1 x0.i).1 = 2) ∧ (pReplyV (pFillV p).1 x0.i).2.2 = 0) ∨ (pReplyV (pFillV p).1 x0.i = (0, 0, 0) ∧ ∃ n', n' < n ∧ WInv c x0 n' cf (pFillV p).1 (fillV s).1 { b with ep := b.ep + 1 })) := by
  have e2 : (pFillV p).2.2 = 0 := by rw [pFillV_go he]
  have hb := both_fill h.inv.both
  refine ⟨e2, ?_⟩
  rcases near_fill h.near hfit he (by rw [hx]; omega) with hr | ⟨n', hn, hN⟩
  · exact .inl (reply_text he hr hb.sim hb.fit)
  · refine .inr ⟨near_reply hN hb.sim hb.fit, n', hn, ?_, hN, (fillV_conf h.inv.both.fit h.inv.both.rest).trans h.conf⟩
    have h1 := inv_fill h.inv
    have hf := (fill_sim h.inv.both.sim h.inv.both.fit h.inv.both.rest).1
    have h3 := h1.brec
    rw [← hf] at h1 h3
    unfold bookFill at h1 h3
    rw [if_pos e2] at h1 h3
    have e : ({ b with ep := b.ep + 1, nr := (p.outs.length : Int) + (pFillV p).2.1 } : BookV) = { b with ep := b.ep + 1, nr := ((pFillV p).1.outs.length : Int) } := by
      rw [show (p.outs.length : Int) + (pFillV p).2.1 = ((pFillV p).1.outs.length : Int) from h3]
    have h1' : Inv 41 (pFillV p).1 (fillV s).1 { b with ep := b.ep + 1, nr := (p.outs.length : Int) + (pFillV p).2.1 } := h1
    rw [e] at h1'
    exact h1'

set_option maxRecDepth 100000 in
set_option maxHeartbeats 4000000 in
theorem submits_weak (B M : Nat) (A : Nat → Prop) (gB g : Nat) (p : SeqV) (s : CluV) (b : BookV) (client : Int) (id : Nat) (t : ByteArray) (d : Int) (F : Nat → Prop) (w : World) (h : KAt B A w gB g p b) (hS : SeqAt w g F p) (hF : ∀ k, F k → B ≤ k ∧ k ≠ gB ∧ ¬ A k) (hI : Inv M p s { b with nr := (p.outs.length : Int) }) (hc : 0 ≤ client ∧ client < s.conf.clients) (hid : id < 40) (ht : Dk.parseOk t.data.toList = true) :
    Calls Try.prog 36 #[.pointer (some ⟨gB, 0, none⟩), .pointer (some ⟨g, 0, none⟩), .int .i64 client, .int .i64 (id : Int), .string t, .int .i64 d] w fun e w' => e = .returned (.tuple #[]) ∧ KAt B A w' gB g (pSubmitV p client id t d).1 (bookSub b id (submitV s client id t d).2) ∧ Bel B A w w' ∧ Kept (fun k => F k ∨ k = gB) w w' := by
  have hts : t.size ≤ maxLen := by
    have := parse_len ht
    rw [len_list] at this
    unfold maxLen
    omega
  have hsub := submit_sim hI.both.sim hI.both.fit client id t d
  have hlen := h.book.2
  have H : Hid _ := h
  have HF : Hid _ := hF
  have HSq : Hid _ := hS
  have HSub : Hid _ := hsub.1
  -- what the document's answer may be
  have hans : (submitV s client id t d).2 = 0 ∧ b.inn.getD id false = false ∨ (submitV s client id t d).2 ≠ 0 ∧ (b.inn.getD id false = true → (submitV s client id t d).2 = 6) := by
    have hin : (b.inn.getD id false = true ↔ 0 ≤ findV s.txs id) := hI.inn id hid
    unfold submitV
    rw [if_neg (by omega), if_neg (by omega), if_neg (by rw [ht]; simp)]
    by_cases h4 : 0 ≤ findV s.txs (id : Int)
    · rw [if_pos h4]
      exact .inr ⟨by simp, fun _ => rfl⟩
    · rw [if_neg h4]
      have hf : b.inn.getD id false = false := by
        cases hv : b.inn.getD id false
        · rfl
        · exact absurd (hin.1 hv) h4
      split
      · exact .inr ⟨by simp, fun hh => by rw [hf] at hh; cases hh⟩
      split
      · exact .inr ⟨by simp, fun hh => by rw [hf] at hh; cases hh⟩
      · exact .inl ⟨rfl, hf⟩
  obtain ⟨er, her⟩ : ∃ x, (submitV s client id t d).2 = x := ⟨_, rfl⟩
  rw [her] at hans HSub
  rewrite [her]
  clear h hF hS hsub her
  have k1 : (id : Int) < 40 := by omega
  have k0 : (0 : Int) ≤ (id : Int) := by omega
  go_enter Try.func36, Try.ntmps36
  go_wp2_with fail
  refine (psubmit_any g F p client id t d w HSq.out hts).mono ?_
  rintro e w1 ⟨rfl, hP⟩
  rewrite [HSub.out]
  obtain ⟨hK1, hB1⟩ := H.out.call HF.out hP
  have HK1 : Hid (_ ∧ _) := ⟨hK1, hB1⟩
  have HKp : Hid (Kept (fun k => F k ∨ k = gB) w w1) := by
    obtain ⟨F', p1, p2, p3⟩ := hP
    exact ⟨p2.os, p2.tape, p2.output, p2.size, fun k hk hn => p2.block k hk (fun hf => hn (.inl hf))⟩
  obtain ⟨r0, r1, r2, r3, fz, hz⟩ := hK1.book.reads
  have ri := r0 id hid
  clear hP hK1 hB1 r0 r1 r2
  rcases hans with ⟨rfl, hin⟩ | ⟨hne, hin⟩
  · rw [hin] at ri
    have HW2 : Hid _ := HK1.out.1.wrote HK1.out.1.book.right
    have HW3 : Hid _ := HW2.out.1.wrote (HW2.out.1.book.inn hid true)
    have q1 : (w1.setCell ⟨gB, 42, none⟩ (.bool true)).cell? ⟨gB, id, none⟩ = some (.bool false) := by
      have := HW2.out.1.book.reads.1 id hid
      rw [hin] at this
      exact this
    have q2 : ((w1.setCell ⟨gB, 42, none⟩ (.bool true)).setCell ⟨gB, id, none⟩ (.bool true)).cell? ⟨gB, id, none⟩ = some (.bool true) := by
      have := HW3.out.1.book.reads.1 id hid
      rw [List.getD_eq_getElem?_getD] at this
      rw [this]
      show some (Value.bool (((b.inn.set id true)[id]?).getD false)) = _
      rw [List.getElem?_set_self (by omega)]; rfl
    have f2 : ∀ j, (w1.setCell ⟨gB, 42, none⟩ (.bool true)).frozen? ⟨gB, j, none⟩ = false := HW2.out.1.book.reads.2.2.2.2.1
    have z2 : gB < (w1.setCell ⟨gB, 42, none⟩ (.bool true)).heap.size := HW2.out.1.book.reads.2.2.2.2.2
    go_wp2
    go_end0
    exact ⟨rfl, by unfold bookSub; rw [if_pos rfl]; exact HW3.out.1, (HK1.out.2.trans HW2.out.2).trans HW3.out.2, Kept.set (F := fun k => F k ∨ k = gB) (Kept.set (F := fun k => F k ∨ k = gB) HKp.out (.inl (.inr rfl)) _) (.inl (.inr rfl)) _⟩
  · have hnb : (er == 0) = false := by rw [beq_eq_false_iff_ne]; exact hne
    have hnn : (er != 0) = true := by rw [bne_iff_ne]; exact hne
    have HBs : Hid (bookSub b id er = b) := if_neg hne
    cases hv : b.inn.getD id false
    · rw [hv] at ri
      go_wp2
      go_end0
      exact ⟨rfl, by rw [HBs.out]; exact HK1.out.1, HK1.out.2, HKp.out⟩
    · rw [hv] at ri
      have h6 := hin hv
      subst h6
      have HW2 : Hid _ := HK1.out.1.wrote HK1.out.1.book.right
      clear hin
      go_wp2
      go_end0
      exact ⟨rfl, by rw [HBs.out]; exact HW2.out.1, HK1.out.2.trans HW2.out.2, Kept.set (F := fun k => F k ∨ k = gB) HKp.out (.inl (.inr rfl)) _⟩

end Go.Proofs.Ytccckonckddadaa
namespace Go.Proofs.Ytccckonckddadaa
open Go.RowKit
set_option linter.unusedVariables false

/-! ### Within -/
set_option maxRecDepth 100000 in
set_option maxHeartbeats 16000000 in
theorem within_walk (c : ConfV) (a : Option Addr) (m cp : Nat) (who text : Int) (a4 : Option Addr) (m4 c4 : Nat) (w : World) (hr : RawRow w a m) (hr4 : RawRow w a4 m4) (h1 : In64 c.clients) (h2 : In64 c.queue) (h3 : In64 c.quantum) (h4 : In64 c.room) (h5 : In64 c.reps) (hm : m ≤ 9000000000000000) (hm4 : m4 ≤ 9000000000000000) (hwh : In64 who) (hte : In64 text) :
    Calls Try.prog 12 #[.agg #[.int .i64 c.clients, .int .i64 c.queue, .int .i64 c.quantum, .int .i64 c.room, .int .i64 c.reps], .slice a m cp, .int .i64 who, .int .i64 text, .slice a4 m4 c4] w fun e w' => e = .returned (.bool true) ∧ Below w.heap.size w w' := by
  have HPl : Hid (∀ W, RawRow W a m → Calls Try.prog 24 #[.agg #[.int .i64 c.clients, .int .i64 c.queue, .int .i64 c.quantum, .int .i64 c.room, .int .i64 c.reps], .slice a m cp] W fun e w' => ∃ (g gB : Nat) (p : SeqV) (s : CluV) (b : BookV), e = .returned (.tuple #[.pointer (some ⟨g, 0, none⟩), .pointer (some ⟨gB, 0, none⟩)]) ∧ KAt W.heap.size (fun _ => False) w' gB g p b ∧ Inv 40 p s b ∧ s.conf = confV c ∧ Below W.heap.size W w') := fun W hW => (played_any c a m cp W hW h1 h2 h3 h4 h5 hm).mono (by
    rintro e w' ⟨g, gB, p, s, b, q1, q2, q3, q4, q5⟩
    exact ⟨g, gB, p, s, b, q1, q2, q3, q4, q5⟩)
  have HCf : Hid (∀ W, Calls Try.prog 27 #[.agg #[.int .i64 c.clients, .int .i64 c.queue, .int .i64 c.quantum, .int .i64 c.room, .int .i64 c.reps]] W fun e w' => e = .returned (.agg #[.int .i64 (confV c).clients, .int .i64 (confV c).queue, .int .i64 (confV c).quantum, .int .i64 (confV c).room, .int .i64 (confV c).reps]) ∧ Below W.heap.size W w') := fun W => conf_any c W h1 h2 h3 h4 h5
  have HR : Hid _ := hr
  have HR4 : Hid _ := hr4
  clear h1 h2 h3 h4 h5 hr hr4
  obtain ⟨x1, x2, x3, x4, x5⟩ := c
  simp only at HPl HCf
  generalize confV ⟨x1, x2, x3, x4, x5⟩ = cv at *
  obtain ⟨y1, y2, y3, y4, y5⟩ := cv
  simp only at HCf
  have HBa : Hid (∀ o, Below w.heap.size w (w.alloc o)) := fun o => (Below.refl _ _).alloc (Nat.le_refl _) _
  go_enter Try.func12, Try.ntmps12
  go_wp2_with fail
  refine (HPl.out _ (HR.out.kept (HBa.out _))).mono ?_
  rintro e w1 ⟨g, gB, p, s, b, rfl, hK, hI, hcv, hB1⟩
  obtain ⟨g0, hb0⟩ := below_one hB1
  obtain ⟨cx, fx, zx⟩ := heap_cells g0
  have x0' : w1.cell? ⟨w.heap.size, 0, none⟩ = some (.int .i64 x1) := by rw [cx]; rfl
  have x1' : w1.cell? ⟨w.heap.size, 1, none⟩ = some (.int .i64 x2) := by rw [cx]; rfl
  have x2' : w1.cell? ⟨w.heap.size, 2, none⟩ = some (.int .i64 x3) := by rw [cx]; rfl
  have x3' : w1.cell? ⟨w.heap.size, 3, none⟩ = some (.int .i64 x4) := by rw [cx]; rfl
  have x4' : w1.cell? ⟨w.heap.size, 4, none⟩ = some (.int .i64 x5) := by rw [cx]; rfl
  have HB1 : Hid (Below w.heap.size w w1) := hb0
  have hcf := hI.both.fit.conf
  rw [hcv] at hcf
  unfold confOk at hcf
  simp only [Bool.and_eq_true, decide_eq_true_eq] at hcf
  have hcl := hcf.1.1.1.1
  have hqu := hcf.1.1.1.2
  have HCv : Hid (s.conf = ⟨y1, y2, y3, y4, y5⟩) := hcv
  have HI : Hid (Inv 40 p s b) := hI
  have hyb := pick_bd (c := who) (n := y1) (by omega)
  have HPk : Hid (∀ W, Calls Try.prog 22 #[.int .i64 who, .int .i64 y1] W fun e w' => e = .returned (.int .i64 (pickV who y1)) ∧ w' = W) := fun W => pick_is who y1 W hwh.1 hwh.2 (by omega) (by omega)
  have HTx : Hid (∀ W, Calls Try.prog 35 #[.int .i64 text] W fun e w' => ∃ t : ByteArray, e = .returned (.string t) ∧ Dk.parseOk t.data.toList = true ∧ Below W.heap.size W w') := fun W => texts_any text W hte.1 hte.2
  generalize pickV who y1 = yc at *
  have HK1 : Hid (KAt (w.heap.size + 1) (fun _ => False) w1 gB g p b) := by
    have h9 := hK
    simp only [World.size_alloc] at h9
    exact h9
  obtain ⟨Q, hQ⟩ : ∃ Q : Nat, (Q : Int) = y2 * (8 + y1) := ⟨(y2 * (8 + y1)).toNat, Int.toNat_of_nonneg (Int.mul_nonneg (by omega) (by omega))⟩
  have hQb : y2 * (8 + y1) ≤ 8 * 16 := Int.mul_le_mul (by omega) (by omega) (by omega) (by omega)
  have hw1 : IntKind.i64.wrap (8 + y1) = 8 + y1 := wrap_i64_id (by omega) (by omega)
  have hw2 : IntKind.i64.wrap (y2 * (8 + y1)) = (Q : Int) := by rw [← hQ]; exact wrap_i64_id (by omega) (by omega)
  have hQ128 : (Q : Int) ≤ 128 := by omega
  have hsq := hI.both.sim.queue
  have hsm := hI.both.sim.many
  rw [hcv] at hsq hsm
  simp only at hsq hsm
  have HQn : Hid (p.queue.toNat * (8 + p.accs.length) = Q) := by
    show _ = _
    have h9 : ((p.queue.toNat * (8 + p.accs.length) : Nat) : Int) = (Q : Int) := by
      rw [hQ, Int.natCast_mul, Int.natCast_add, Int.toNat_of_nonneg (by omega), hsq, hsm]
      rfl
    exact Int.ofNat.inj h9
  clear hK hI hB1 g0 hb0 cx fx hcv hcf hwh hte hsq hsm hQb
  go_wp2_with fail
  refine (HCf.out _).mono ?_
  rintro e w2 ⟨rfl, hb2⟩
  have HB2 : Hid (Below w1.heap.size w1 w2) := hb2
  have hz12 := hb2.size
  clear hb2 x0' x1' x2' x3' x4'
  obtain ⟨gC, hgC⟩ : ∃ x, x = w2.heap.size := ⟨_, rfl⟩
  obtain ⟨W3, hW3⟩ : ∃ W3, W3 = w2.alloc (.cells #[.int .i64 y1, .int .i64 y2, .int .i64 y3, .int .i64 y4, .int .i64 y5] 55) := ⟨_, rfl⟩
  have HB3 : Hid (Below w1.heap.size w1 W3) := by rw [hW3]; exact HB2.out.alloc hz12 _
  have HK3 : Hid (KAt (w.heap.size + 1) (fun k => k = gC) W3 gB g p b ∧ Below w.heap.size w W3 ∧ W3.heap[gC]? = some (.cells #[.int .i64 y1, .int .i64 y2, .int .i64 y3, .int .i64 y4, .int .i64 y5] 55)) := by
    rw [hW3, hgC]
    exact ⟨(HK1.out.below HB2.out).avoid _, HB1.out.trans ((HB2.out.alloc hz12 _).mono HB1.out.size), heap_at rfl⟩
  have c30 : W3.cell? ⟨gC, 0, none⟩ = some (.int .i64 y1) := by rw [(heap_cells HK3.out.2.2).1]; rfl
  have z30 : gC < W3.heap.size := (heap_cells HK3.out.2.2).2.2
  go_wp2_with fail
  rewrite [← hW3]
  try rewrite [← hgC]
  clear hW3 hgC
  refine (HPk.out _).mono ?_
  rintro e w0 ⟨rfl, hw0⟩
  obtain rfl := hw0.symm
  go_wp2_with fail
  refine (HTx.out _).mono ?_
  rintro e w4 ⟨tt, rfl, hpt, hb4⟩
  have HK4 : Hid (KAt (w.heap.size + 1) (fun k => k = gC) w4 gB g p b ∧ Below w.heap.size w w4 ∧ w4.heap[gC]? = some (.cells #[.int .i64 y1, .int .i64 y2, .int .i64 y3, .int .i64 y4, .int .i64 y5] 55)) := ⟨HK3.out.1.below hb4, HK3.out.2.1.trans (hb4.mono HK3.out.2.1.size), (hb4.block gC z30).trans HK3.out.2.2⟩
  obtain ⟨F4, hS4, hF4⟩ := HK4.out.1.seq
  have hts : tt.size ≤ maxLen := by
    have h9 := parse_len hpt
    rw [len_list] at h9
    unfold maxLen
    omega
  have hans := start_ans HI.out (client := yc) (t := tt) (by rw [HCv.out]; exact ⟨hyb.1, hyb.2⟩) hpt
  have hsub := (submit_sim HI.out.both.sim HI.out.both.fit yc 40 tt 1000).1
  have HSu : Hid (Calls Try.prog 34 #[.pointer (some ⟨g, 0, none⟩), .int .i64 yc, .int .i64 40, .string tt, .int .i64 1000] w4 fun e w' => e = .returned (.int .i64 (submitV s yc 40 tt 1000).2) ∧ SeqPost g F4 (pSubmitV p yc 40 tt 1000).1 w4 w') := by
    have h9 := psubmit_any g F4 p yc 40 tt 1000 w4 hS4 hts
    unfold SubPost at h9
    rw [hsub] at h9
    exact h9
  have HF4 : Hid (SeqFit p ∧ ∀ k, F4 k → (w.heap.size + 1) ≤ k ∧ k ≠ gB ∧ ¬ (fun k => k = gC) k) := ⟨hS4.fit, hF4⟩
  have HSb : Hid _ := hsub
  clear hb4 hS4 hF4 hpt hts hsub c30 z30
  go_wp2_with fail
  refine HSu.out.mono ?_
  rintro e w5 ⟨rfl, hP5⟩
  obtain ⟨hK5, hB5⟩ := HK4.out.1.call HF4.out.2 hP5
  have HK5 : Hid (KAt (w.heap.size + 1) (fun k => k = gC) w5 gB g (pSubmitV p yc 40 tt 1000).1 b ∧ Below w.heap.size w w5 ∧ w5.heap[gC]? = some (.cells #[.int .i64 y1, .int .i64 y2, .int .i64 y3, .int .i64 y4, .int .i64 y5] 55)) := ⟨hK5, HK4.out.2.1.trans (hB5.bel.mono (by omega)), (hB5.av gC rfl).trans HK4.out.2.2⟩
  clear hP5 hK5 hB5 HSu
  rcases hans with h8 | h0
  · rewrite [h8]
    go_wp2
    go_ret
    exact ⟨rfl, HK5.out.2.1⟩
  have HIs : Hid _ := inv_start HI.out h0
  obtain ⟨cc, hcc, hNr⟩ := near_start HF4.out.1 (client := yc) (id := 40) (t := tt) (d := 1000) (HSb.out.trans h0)
  rw [HQn.out] at hNr
  have HW5 : Hid (WInv cc ⟨40, tt, costV tt, 1000⟩ (Q - 1) ⟨y1, y2, y3, y4, y5⟩ (pSubmitV p yc 40 tt 1000).1 (submitV s yc 40 tt 1000).1 b) := ⟨HIs.out, hNr, by rw [submit_conf]; exact HCv.out⟩
  have hnp := near_pos hNr
  have hQ0 : 0 + (Q - 1) < Q := by omega
  rewrite [h0]
  clear hNr hcc hnp HIs h0 hQ
  go_wp2
  go_loopw [15] (fun v15 wr => ∃ (i n : Nat) (p : SeqV) (s : CluV) (b : BookV), v15 = .int .i64 i ∧ i + n < Q ∧ Hid (KAt (w.heap.size + 1) (fun k => k = gC) wr gB g p b ∧ WInv cc ⟨40, tt, costV tt, 1000⟩ n ⟨y1, y2, y3, y4, y5⟩ p s b ∧ Below w.heap.size w wr ∧ wr.heap[gC]? = some (.cells #[.int .i64 y1, .int .i64 y2, .int .i64 y3, .int .i64 y4, .int .i64 y5] 55))) (fun v15 _ => Q - (intOf v15).toNat)
  case atStart => exact ⟨0, Q - 1, _, _, b, rfl, hQ0, HK5.out.1, HW5.out, HK5.out.2.1, HK5.out.2.2⟩
  case round =>
    clear HW5 HK5 HK4 HK3 HI HSb HF4 HCv HQn HK1 hQ0
    obtain ⟨i, n, p, s, b, rfl, hin, HL⟩ := hrel
    have hnp := near_pos HL.out.2.1.near
    obtain ⟨ck, _, zk⟩ := heap_cells HL.out.2.2.2
    have cc0 : wr.cell? ⟨gC, 0, none⟩ = some (.int .i64 y1) := by rw [ck]; rfl
    have cc1 : wr.cell? ⟨gC, 1, none⟩ = some (.int .i64 y2) := by rw [ck]; rfl
    obtain ⟨_, e40, _, _, _, z40⟩ := HL.out.1.book.reads
    obtain ⟨ee, hee⟩ : ∃ x, s.epochs.length = x := ⟨_, rfl⟩
    have hbe : b.ep = (ee : Int) := by rw [← hee]; exact HL.out.2.1.inv.bep
    rw [hbe] at e40
    have HEs : Hid (s.epochs.length = ee) := hee
    clear ck hee hbe
    have k1 : (i : Int) < (Q : Int) := by omega
    have k0 : (0 : Int) ≤ (i : Int) := by omega
    by_cases hE : ee < 200
    · have hE1 : (ee : Int) < 200 := by omega
      by_cases hm0 : m4 = 0
      · have hmI : ¬ (0 : Int) < (m4 : Int) := by omega
        have HEe : Hid (s.epochs.length = ee) := HEs
        have HT1 : Hid _ := HL.out
        clear HL HEs hm0
        obtain ⟨F2, hS2, hF2⟩ := HT1.out.1.seq
        have hrd := fill_ready HT1.out.2.1.inv.both.sim HT1.out.2.1.inv.both.fit HT1.out.2.1.inv.both.rest
        have hep2 := HT1.out.2.1.inv.both.sim.epochs
        have hou2 := HT1.out.2.1.inv.outs.1
        have hbe2 : (b).ep = (ee : Int) := by rw [← HEe.out]; exact HT1.out.2.1.inv.bep
        rw [HEe.out] at hep2
        have hout : (p).outs.length + 64 ≤ 1000000 := by omega
        have hwf := winv_fill HT1.out.2.1 hS2.fit (by omega) rfl
        obtain ⟨mm, hmm⟩ : ∃ x, (pFillV p).2.1 = x := ⟨_, rfl⟩
        have HFi : Hid (Calls Try.prog 37 #[.pointer (some ⟨g, 0, none⟩)] wr fun e w' => e = .returned (.tuple #[.int .i64 mm, .int .i64 0]) ∧ SeqPost g F2 (pFillV p).1 wr w') := by
          have h9 := pfill_any g F2 p wr hS2 hrd.1 hrd.2.1 (fun _ => hrd.2.2) hout
          unfold FillRPost at h9
          rw [hmm, hwf.1] at h9
          exact h9
        have HWf : Hid ((((pReplyV (pFillV p).1 40).1 = 1 ∨ (pReplyV (pFillV p).1 40).1 = 2) ∧ (pReplyV (pFillV p).1 40).2.2 = 0) ∨ (pReplyV (pFillV p).1 40 = (0, 0, 0) ∧ ∃ n', n' < n ∧ WInv cc ⟨40, tt, costV tt, 1000⟩ n' ⟨y1, y2, y3, y4, y5⟩ (pFillV p).1 (fillV s).1 { b with ep := (ee : Int) + 1 })) := by
          have h9 := hwf.2
          rw [hbe2] at h9
          exact h9
        have HF2 : Hid (∀ k, F2 k → (w.heap.size + 1) ≤ k ∧ k ≠ gB ∧ ¬ (fun k => k = gC) k) := hF2
        have HBe2 : Hid _ := hbe2
        clear hwf hrd hout hS2 hF2 hmm hep2 hou2 hbe2
        go_wp2_with fail
        refine HFi.out.mono ?_
        rintro e w8 ⟨rfl, hP8⟩
        obtain ⟨hK8, hB8⟩ := HT1.out.1.call HF2.out hP8
        have HK8 : Hid (KAt (w.heap.size + 1) (fun k => k = gC) w8 gB g (pFillV p).1 (b) ∧ Below w.heap.size w w8 ∧ w8.heap[gC]? = some (.cells #[.int .i64 y1, .int .i64 y2, .int .i64 y3, .int .i64 y4, .int .i64 y5] 55)) := ⟨hK8, HT1.out.2.2.1.trans (hB8.bel.mono (by omega)), (hB8.av gC rfl).trans HT1.out.2.2.2⟩
        obtain ⟨_, e8, _, _, f8, z8⟩ := hK8.book.reads
        rw [HBe2.out] at e8
        clear hP8 hK8 hB8 HFi
        have HK9 : Hid (KAt (w.heap.size + 1) (fun k => k = gC) (w8.setCell ⟨gB, 40, none⟩ (.int .i64 ((ee : Int) + 1))) gB g (pFillV p).1 { b with ep := (ee : Int) + 1 } ∧ Below w.heap.size w (w8.setCell ⟨gB, 40, none⟩ (.int .i64 ((ee : Int) + 1))) ∧ (w8.setCell ⟨gB, 40, none⟩ (.int .i64 ((ee : Int) + 1))).heap[gC]? = some (.cells #[.int .i64 y1, .int .i64 y2, .int .i64 y3, .int .i64 y4, .int .i64 y5] 55)) := by
          have h9 := HK8.out.1.wrote (HK8.out.1.book.ep ((ee : Int) + 1))
          exact ⟨h9.1, HK8.out.2.1.trans (h9.2.bel.mono (by omega)), (h9.2.av gC rfl).trans HK8.out.2.2⟩
        go_wp2_with fail
        generalize w8.setCell ⟨gB, 40, none⟩ (.int .i64 ((ee : Int) + 1)) = W9 at *
        clear e8 f8 z8 HK8
        obtain ⟨F9, hS9, hF9⟩ := HK9.out.1.seq
        have HRp : Hid (Calls Try.prog 25 #[.pointer (some ⟨g, 0, none⟩), .int .i64 40] W9 (ReplyPost (pReplyV (pFillV p).1 40) W9)) := preply_any g F9 (pFillV p).1 40 W9 hS9
        clear hS9 hF9
        rcases HWf.out with ⟨hst, hr0⟩ | ⟨hrr, n', hn', hWI⟩
        · obtain ⟨r1, r2, r3⟩ : ∃ r1 r2 r3, pReplyV (pFillV p).1 40 = (r1, r2, r3) := ⟨_, _, _, rfl⟩
          obtain ⟨r3, hrr⟩ := r3
          rw [hrr] at hst hr0 HRp
          simp only at hst hr0
          subst hr0
          refine HRp.out.mono ?_
          rintro e w10 ⟨rfl, hb10⟩
          have HB10 : Hid (Below w.heap.size w w10) := HK9.out.2.1.trans (hb10.mono HK9.out.2.1.size)
          obtain ⟨_, _, _, bR, _, bz⟩ := (HK9.out.1.below hb10).book.reads
          have hwz : w.heap.size ≤ w10.heap.size := HB10.out.size
          clear hb10 hrr HRp
          rcases hst with rfl | rfl
          · go_wp2
            go_ret
            exact ⟨rfl, HB10.out.alloc hwz _⟩
          · go_wp2
            go_ret
            exact ⟨rfl, HB10.out.alloc hwz _⟩
        · rw [hrr] at HRp
          refine HRp.out.mono ?_
          rintro e w10 ⟨rfl, hb10⟩
          have HN : Hid (∀ o, KAt (w.heap.size + 1) (fun k => k = gC) (w10.alloc o) gB g (pFillV p).1 { b with ep := (ee : Int) + 1 } ∧ WInv cc ⟨40, tt, costV tt, 1000⟩ n' ⟨y1, y2, y3, y4, y5⟩ (pFillV p).1 (fillV s).1 { b with ep := (ee : Int) + 1 } ∧ Below w.heap.size w (w10.alloc o) ∧ (w10.alloc o).heap[gC]? = some (.cells #[.int .i64 y1, .int .i64 y2, .int .i64 y3, .int .i64 y4, .int .i64 y5] 55)) := fun o => by
            have hbo : Below W9.heap.size W9 (w10.alloc o) := hb10.alloc hb10.size _
            exact ⟨HK9.out.1.below hbo, hWI, HK9.out.2.1.trans (hbo.mono HK9.out.2.1.size), (hbo.block gC (HK9.out.1.lt gC rfl)).trans HK9.out.2.2⟩
          clear hb10 hrr hWI HRp HWf HK9 HT1
          go_wp2
          go_roundw
          case rel => exact ⟨i + 1, n', _, _, _, by go_num, by omega, HN.out _⟩
          case measure => simp [intOf]; omega
      · have hmI : (0 : Int) < (m4 : Int) := by omega
        have hmn : ((m4 : Int) == 0) = false := by rw [beq_eq_false_iff_ne]; omega
        obtain ⟨r, hrr⟩ : ∃ r : Nat, i % m4 = r := ⟨_, rfl⟩
        have hrl : r < m4 := by rw [← hrr]; exact Nat.mod_lt _ (by omega)
        have hrm : Int.tmod (i : Int) (m4 : Int) = (r : Int) := by rw [← hrr]; rfl
        have r1 : (r : Int) < (m4 : Int) := by omega
        have r0 : (0 : Int) ≤ (r : Int) := by omega
        obtain ⟨gS, off, rfl, hgS, hcell⟩ : ∃ g off, a4 = some ⟨g, off, none⟩ ∧ g < w.heap.size ∧ ∀ k, k < m4 → ∃ x0 x1 x2 x3 : Int, (w.cell? ⟨g, off + k * 4, none⟩ = some (.int .i64 x0) ∧ w.cell? ⟨g, off + k * 4 + 1, none⟩ = some (.int .i64 x1) ∧ w.cell? ⟨g, off + k * 4 + 2, none⟩ = some (.int .i64 x2) ∧ w.cell? ⟨g, off + k * 4 + 3, none⟩ = some (.int .i64 x3)) ∧ In64 x0 ∧ In64 x1 ∧ In64 x2 ∧ In64 x3 := by
          rcases HR4.out.cells with h0 | h0
          · omega
          · exact h0
        obtain ⟨z0, z1, z2, z3, ⟨d0, d1, d2, d3⟩, hi0, hi1, hi2, hi3⟩ := hcell r hrl
        have d0' := (HL.out.2.2.1.cell (p := ⟨gS, off + r * 4, none⟩) hgS).trans d0
        have d1' := (HL.out.2.2.1.cell (p := ⟨gS, off + r * 4 + 1, none⟩) hgS).trans d1
        have d2' := (HL.out.2.2.1.cell (p := ⟨gS, off + r * 4 + 2, none⟩) hgS).trans d2
        have d3' := (HL.out.2.2.1.cell (p := ⟨gS, off + r * 4 + 3, none⟩) hgS).trans d3
        have hgr : gS < wr.heap.size := Nat.lt_of_lt_of_le hgS HL.out.2.2.1.size
        clear hcell d0 d1 d2 d3 hrr
        have HP1 : Hid (∀ W, Calls Try.prog 22 #[.int .i64 z1, .int .i64 y1] W fun e w' => e = .returned (.int .i64 (pickV z1 y1)) ∧ w' = W) := fun W => pick_is z1 y1 W hi1.1 hi1.2 (by omega) (by omega)
        have HP2 : Hid (∀ W, Calls Try.prog 22 #[.int .i64 z2, .int .i64 40] W fun e w' => e = .returned (.int .i64 (pickV z2 40)) ∧ w' = W) := fun W => pick_is z2 40 W hi2.1 hi2.2 (by omega) (by omega)
        have HT : Hid (∀ W, Calls Try.prog 35 #[.int .i64 z3] W fun e w' => ∃ t : ByteArray, e = .returned (.string t) ∧ Dk.parseOk t.data.toList = true ∧ Below W.heap.size W w') := fun W => texts_any z3 W hi3.1 hi3.2
        have b1 := pick_bd (c := z1) (n := y1) (by omega)
        have b2 := pick_bd (c := z2) (n := 40) (by omega)
        generalize pickV z1 y1 = pc at *
        obtain ⟨pd, hpd⟩ : ∃ y : Nat, pickV z2 40 = y := ⟨(pickV z2 40).toNat, by omega⟩
        rw [hpd] at HP2 b2
        clear hi0 hi1 hi2 hi3 hpd
        obtain ⟨gX, hgX⟩ : ∃ x, x = wr.heap.size := ⟨_, rfl⟩
        obtain ⟨W1, hW1⟩ : ∃ W1, W1 = wr.alloc (.cells #[.int .i64 z0, .int .i64 z1, .int .i64 z2, .int .i64 z3] 85) := ⟨_, rfl⟩
        have HBw : Hid (Below wr.heap.size wr W1) := by rw [hW1]; exact (Below.refl _ _).alloc (Nat.le_refl _) _
        have HBx : Hid (W1.heap[gX]? = some (.cells #[.int .i64 z0, .int .i64 z1, .int .i64 z2, .int .i64 z3] 85)) := by rw [hW1, hgX]; exact heap_at rfl
        have HK1 : Hid (KAt (w.heap.size + 1) (fun k => k = gC) W1 gB g p b) := HL.out.1.below HBw.out
        obtain ⟨F, hS, hF⟩ := HL.out.1.seq
        have HSF : Hid (SeqAt W1 g F p ∧ (∀ k, F k → (w.heap.size + 1) ≤ k ∧ k ≠ gB ∧ ¬ (fun k => k = gC) k) ∧ ∀ k, F k → k < gX) := ⟨hS.below HBw.out, hF, fun k hk => by rw [hgX]; exact hS.own k hk⟩
        have HGx : Hid (gX ≠ gB ∧ gC < W1.heap.size ∧ W1.heap[gC]? = some (.cells #[.int .i64 y1, .int .i64 y2, .int .i64 y3, .int .i64 y4, .int .i64 y5] 55)) := ⟨by rw [hgX]; omega, by have h9 := HBw.out.size; omega, (HBw.out.block gC zk).trans HL.out.2.2.2⟩
        have hzx : gX < W1.heap.size := (heap_cells HBx.out).2.2
        have HRd : Hid (∀ W : World, W.heap[gX]? = W1.heap[gX]? → W.heap[gC]? = W1.heap[gC]? → W.cell? ⟨gX, 1, none⟩ = some (.int .i64 z1) ∧ W.cell? ⟨gX, 2, none⟩ = some (.int .i64 z2) ∧ W.cell? ⟨gX, 3, none⟩ = some (.int .i64 z3) ∧ W.cell? ⟨gC, 0, none⟩ = some (.int .i64 y1)) := fun W e1 e2 => by
          obtain ⟨q0, _, _⟩ := heap_cells (e1.trans HBx.out)
          obtain ⟨q1, _, _⟩ := heap_cells (e2.trans HGx.out.2.2)
          exact ⟨by rw [q0]; rfl, by rw [q0]; rfl, by rw [q0]; rfl, by rw [q1]; rfl⟩
        have HS0 : Hid (∀ W : World, Below W1.heap.size W1 W → W.cell? ⟨gX, 1, none⟩ = some (.int .i64 z1) ∧ W.cell? ⟨gX, 2, none⟩ = some (.int .i64 z2) ∧ W.cell? ⟨gX, 3, none⟩ = some (.int .i64 z3) ∧ W.cell? ⟨gC, 0, none⟩ = some (.int .i64 y1)) := fun W hW => HRd.out W (hW.block gX hzx) (hW.block gC HGx.out.2.1)
        have HSs : Hid (∀ t : ByteArray, Dk.parseOk t.data.toList = true → ∀ W, Below W1.heap.size W1 W → Calls Try.prog 36 #[.pointer (some ⟨gB, 0, none⟩), .pointer (some ⟨g, 0, none⟩), .int .i64 pc, .int .i64 (pd : Int), .string t, .int .i64 1000] W fun e w' => e = .returned (.tuple #[]) ∧ (KAt (w.heap.size + 1) (fun k => k = gC) w' gB g (pSubmitV p pc pd t 1000).1 (bookSub b pd (submitV s pc pd t 1000).2) ∧ Bel (w.heap.size + 1) (fun k => k = gC) W w') ∧ w'.cell? ⟨gX, 1, none⟩ = some (.int .i64 z1) ∧ w'.cell? ⟨gX, 2, none⟩ = some (.int .i64 z2) ∧ w'.cell? ⟨gX, 3, none⟩ = some (.int .i64 z3) ∧ w'.cell? ⟨gC, 0, none⟩ = some (.int .i64 y1)) := fun t ht W hW =>
          (submits_weak (w.heap.size + 1) 41 (fun k => k = gC) gB g p s b pc pd t 1000 F W (HK1.out.below hW) (HSF.out.1.below hW) HSF.out.2.1 HL.out.2.1.inv ⟨b1.1, by rw [HL.out.2.1.conf]; exact b1.2⟩ (by omega) ht).mono (by
            rintro e w' ⟨rfl, hK, hB, hKp⟩
            have hsz := hW.size
            have n0 : ¬ (F gX ∨ gX = gB) := fun hh => by
              rcases hh with hh | hh
              · have h9 := HSF.out.2.2 _ hh; omega
              · exact HGx.out.1 hh
            exact ⟨rfl, ⟨hK, hB⟩, HRd.out w' ((hKp.block _ (by omega) n0).trans (hW.block _ hzx)) ((hB.av gC rfl).trans (hW.block _ HGx.out.2.1))⟩)
        have HBd : Hid (Below W1.heap.size W1 W1.drew) := (Below.refl _ _).drew
        have HBq : Hid (∀ W, Below W1.drew.heap.size W1.drew W → Below W1.heap.size W1 W) := fun W hW => HBd.out.trans hW
        clear hS hF
        go_wp2
        rewrite [← hW1]
        try rewrite [← hgX]
        clear hW1 hgX d0' d1' d2' d3' cc0 cc1 e40 z40 hgr
        go_region_held3 (fun W => W.cell? ⟨gX, 1, none⟩ = some (.int .i64 z1) ∧ W.cell? ⟨gX, 2, none⟩ = some (.int .i64 z2) ∧ W.cell? ⟨gX, 3, none⟩ = some (.int .i64 z3) ∧ W.cell? ⟨gC, 0, none⟩ = some (.int .i64 y1))
          (first | (with_reducible exact HS0.out _ HBd.out) | (with_reducible exact hSx) | (with_reducible exact HS0.out _ (HBq.out _ hBx)))
          (first | (go_at_call 22; (first | with_reducible refine (HP1.out _).mono ?_ | with_reducible refine (HP2.out _).mono ?_); rintro e w9 ⟨rfl, rfl⟩) | (go_at_call 35; with_reducible refine (HT.out _).mono ?_; rintro e w8 ⟨tx, rfl, hpx, hBx⟩) | (go_at_call 36; with_reducible refine (HSs.out _ hpx _ (HBq.out _ hBx)).mono ?_; rintro e w7 ⟨rfl, hKx, hSx⟩))
        have hb18 : Below W1.heap.size W1 _ := HBq.out _ hBx
        have HT1 : Hid (KAt (w.heap.size + 1) (fun k => k = gC) w7 gB g (pSubmitV p pc pd tx 1000).1 (bookSub b pd (submitV s pc pd tx 1000).2) ∧ WInv cc ⟨40, tt, costV tt, 1000⟩ n ⟨y1, y2, y3, y4, y5⟩ (pSubmitV p pc pd tx 1000).1 (submitV s pc pd tx 1000).1 (bookSub b pd (submitV s pc pd tx 1000).2) ∧ Below w.heap.size w w7 ∧ w7.heap[gC]? = some (.cells #[.int .i64 y1, .int .i64 y2, .int .i64 y3, .int .i64 y4, .int .i64 y5] 55)) :=
          ⟨hKx.1, winv_sub HL.out.2.1 HL.out.1.book.2 (by omega), ((HL.out.2.2.1.trans (HBw.out.mono HL.out.2.2.1.size)).trans (hb18.mono (by have h9 := HBw.out.size; have h10 := HL.out.2.2.1.size; omega))).trans (hKx.2.bel.mono (by omega)), ((hKx.2.av gC rfl).trans (hb18.block gC HGx.out.2.1)).trans HGx.out.2.2⟩
        have HEe : Hid ((submitV s pc pd tx 1000).1.epochs.length = ee) := by
          have h9 := HT1.out.2.1.inv.bep
          have h10 := HL.out.2.1.inv.bep
          have h11 : (bookSub b pd (submitV s pc pd tx 1000).2).ep = b.ep := by unfold bookSub; split <;> rfl
          have h12 : b.ep = (s.epochs.length : Int) := h10
          have h13 : (bookSub b pd (submitV s pc pd tx 1000).2).ep = ((submitV s pc pd tx 1000).1.epochs.length : Int) := h9
          show _ = _
          rw [h11, h12, HEs.out] at h13
          omega
        clear hKx hSx hBx hpx hb18 HL HEs HBq HBd HSs HS0 HRd HGx HSF HK1 HBx HBw HT HP1 HP2
        generalize (pSubmitV p pc pd tx 1000).1 = p2 at *
        generalize (submitV s pc pd tx 1000).1 = s2 at *
        generalize bookSub b pd (submitV s pc pd tx 1000).2 = bb at *
        obtain ⟨F2, hS2, hF2⟩ := HT1.out.1.seq
        have hrd := fill_ready HT1.out.2.1.inv.both.sim HT1.out.2.1.inv.both.fit HT1.out.2.1.inv.both.rest
        have hep2 := HT1.out.2.1.inv.both.sim.epochs
        have hou2 := HT1.out.2.1.inv.outs.1
        have hbe2 : (bb).ep = (ee : Int) := by rw [← HEe.out]; exact HT1.out.2.1.inv.bep
        rw [HEe.out] at hep2
        have hout : (p2).outs.length + 64 ≤ 1000000 := by omega
        have hwf := winv_fill HT1.out.2.1 hS2.fit (by omega) rfl
        obtain ⟨mm, hmm⟩ : ∃ x, (pFillV p2).2.1 = x := ⟨_, rfl⟩
        have HFi : Hid (Calls Try.prog 37 #[.pointer (some ⟨g, 0, none⟩)] w7 fun e w' => e = .returned (.tuple #[.int .i64 mm, .int .i64 0]) ∧ SeqPost g F2 (pFillV p2).1 w7 w') := by
          have h9 := pfill_any g F2 p2 w7 hS2 hrd.1 hrd.2.1 (fun _ => hrd.2.2) hout
          unfold FillRPost at h9
          rw [hmm, hwf.1] at h9
          exact h9
        have HWf : Hid ((((pReplyV (pFillV p2).1 40).1 = 1 ∨ (pReplyV (pFillV p2).1 40).1 = 2) ∧ (pReplyV (pFillV p2).1 40).2.2 = 0) ∨ (pReplyV (pFillV p2).1 40 = (0, 0, 0) ∧ ∃ n', n' < n ∧ WInv cc ⟨40, tt, costV tt, 1000⟩ n' ⟨y1, y2, y3, y4, y5⟩ (pFillV p2).1 (fillV s2).1 { bb with ep := (ee : Int) + 1 })) := by
          have h9 := hwf.2
          rw [hbe2] at h9
          exact h9
        have HF2 : Hid (∀ k, F2 k → (w.heap.size + 1) ≤ k ∧ k ≠ gB ∧ ¬ (fun k => k = gC) k) := hF2
        have HBe2 : Hid _ := hbe2
        clear hwf hrd hout hS2 hF2 hmm hep2 hou2 hbe2
        go_wp2_with fail
        refine HFi.out.mono ?_
        rintro e w8 ⟨rfl, hP8⟩
        obtain ⟨hK8, hB8⟩ := HT1.out.1.call HF2.out hP8
        have HK8 : Hid (KAt (w.heap.size + 1) (fun k => k = gC) w8 gB g (pFillV p2).1 (bb) ∧ Below w.heap.size w w8 ∧ w8.heap[gC]? = some (.cells #[.int .i64 y1, .int .i64 y2, .int .i64 y3, .int .i64 y4, .int .i64 y5] 55)) := ⟨hK8, HT1.out.2.2.1.trans (hB8.bel.mono (by omega)), (hB8.av gC rfl).trans HT1.out.2.2.2⟩
        obtain ⟨_, e8, _, _, f8, z8⟩ := hK8.book.reads
        rw [HBe2.out] at e8
        clear hP8 hK8 hB8 HFi
        have HK9 : Hid (KAt (w.heap.size + 1) (fun k => k = gC) (w8.setCell ⟨gB, 40, none⟩ (.int .i64 ((ee : Int) + 1))) gB g (pFillV p2).1 { bb with ep := (ee : Int) + 1 } ∧ Below w.heap.size w (w8.setCell ⟨gB, 40, none⟩ (.int .i64 ((ee : Int) + 1))) ∧ (w8.setCell ⟨gB, 40, none⟩ (.int .i64 ((ee : Int) + 1))).heap[gC]? = some (.cells #[.int .i64 y1, .int .i64 y2, .int .i64 y3, .int .i64 y4, .int .i64 y5] 55)) := by
          have h9 := HK8.out.1.wrote (HK8.out.1.book.ep ((ee : Int) + 1))
          exact ⟨h9.1, HK8.out.2.1.trans (h9.2.bel.mono (by omega)), (h9.2.av gC rfl).trans HK8.out.2.2⟩
        go_wp2_with fail
        generalize w8.setCell ⟨gB, 40, none⟩ (.int .i64 ((ee : Int) + 1)) = W9 at *
        clear e8 f8 z8 HK8
        obtain ⟨F9, hS9, hF9⟩ := HK9.out.1.seq
        have HRp : Hid (Calls Try.prog 25 #[.pointer (some ⟨g, 0, none⟩), .int .i64 40] W9 (ReplyPost (pReplyV (pFillV p2).1 40) W9)) := preply_any g F9 (pFillV p2).1 40 W9 hS9
        clear hS9 hF9
        rcases HWf.out with ⟨hst, hr0⟩ | ⟨hrr, n', hn', hWI⟩
        · obtain ⟨r1, r2, r3⟩ : ∃ r1 r2 r3, pReplyV (pFillV p2).1 40 = (r1, r2, r3) := ⟨_, _, _, rfl⟩
          obtain ⟨r3, hrr⟩ := r3
          rw [hrr] at hst hr0 HRp
          simp only at hst hr0
          subst hr0
          refine HRp.out.mono ?_
          rintro e w10 ⟨rfl, hb10⟩
          have HB10 : Hid (Below w.heap.size w w10) := HK9.out.2.1.trans (hb10.mono HK9.out.2.1.size)
          obtain ⟨_, _, _, bR, _, bz⟩ := (HK9.out.1.below hb10).book.reads
          have hwz : w.heap.size ≤ w10.heap.size := HB10.out.size
          clear hb10 hrr HRp
          rcases hst with rfl | rfl
          · go_wp2
            go_ret
            exact ⟨rfl, HB10.out.alloc hwz _⟩
          · go_wp2
            go_ret
            exact ⟨rfl, HB10.out.alloc hwz _⟩
        · rw [hrr] at HRp
          refine HRp.out.mono ?_
          rintro e w10 ⟨rfl, hb10⟩
          have HN : Hid (∀ o, KAt (w.heap.size + 1) (fun k => k = gC) (w10.alloc o) gB g (pFillV p2).1 { bb with ep := (ee : Int) + 1 } ∧ WInv cc ⟨40, tt, costV tt, 1000⟩ n' ⟨y1, y2, y3, y4, y5⟩ (pFillV p2).1 (fillV s2).1 { bb with ep := (ee : Int) + 1 } ∧ Below w.heap.size w (w10.alloc o) ∧ (w10.alloc o).heap[gC]? = some (.cells #[.int .i64 y1, .int .i64 y2, .int .i64 y3, .int .i64 y4, .int .i64 y5] 55)) := fun o => by
            have hbo : Below W9.heap.size W9 (w10.alloc o) := hb10.alloc hb10.size _
            exact ⟨HK9.out.1.below hbo, hWI, HK9.out.2.1.trans (hbo.mono HK9.out.2.1.size), (hbo.block gC (HK9.out.1.lt gC rfl)).trans HK9.out.2.2⟩
          clear hb10 hrr hWI HRp HWf HK9 HT1
          go_wp2
          go_roundw
          case rel => exact ⟨i + 1, n', _, _, _, by go_num, by omega, HN.out _⟩
          case measure => simp [intOf]; omega
    · have hE1 : (200 : Int) ≤ (ee : Int) := by omega
      have hE2 : ¬ (ee : Int) < 200 := by omega
      go_wp2
      go_ret
      exact ⟨rfl, HL.out.2.2.1⟩

end Go.Proofs.Ytccckonckddadaa
