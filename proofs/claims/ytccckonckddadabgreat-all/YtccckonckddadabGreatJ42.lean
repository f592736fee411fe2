import Derived.Test.YtccckonckddadabGreatJ37
import Derived.Test.YtccckonckddadabGreatJ41
import Derived.Test.YtccckonckddadabGreatJ36
namespace Go.Proofs.YtccckonckddadabGreat
open Go.RowKit
set_option linter.unusedVariables false

/-! ### Fill -/
theorem pLate_acc : ∀ (r i : Nat) (p : SeqV) (l : List RecV), (∀ a ∈ p.accs, a.cr ≤ 2000) → (∀ a ∈ (pLateFrom r i p l).1.accs, a.cr ≤ 2000)
  | 0, i, p, l, h => h
  | r + 1, i, p, l, h => by
    rw [pLate_step]
    refine pLate_acc r (i + 1) _ _ (fun a ha => ?_)
    rcases List.mem_or_eq_of_mem_set ha with ha | rfl
    · exact h a ha
    · show (accV p i).cr ≤ 2000
      unfold accV
      rw [List.getD_eq_getElem?_getD]
      cases hg : p.accs[i]? with
      | none => show (0 : Int) ≤ 2000; omega
      | some x => exact h x (List.mem_of_getElem? hg)
theorem pLate_same : ∀ (r i : Nat) (p : SeqV) (l : List RecV), (pLateFrom r i p l).1.accs.length = p.accs.length ∧ (pLateFrom r i p l).1.first = p.first ∧ (pLateFrom r i p l).1.room = p.room ∧ (pLateFrom r i p l).1.epochs = p.epochs ∧ (pLateFrom r i p l).1.outs = p.outs ∧ (pLateFrom r i p l).1.log = p.log
  | 0, i, p, l => ⟨rfl, rfl, rfl, rfl, rfl, rfl⟩
  | r + 1, i, p, l => by
    rw [pLate_step]
    obtain ⟨h1, h2, h3, h4, h5, h6⟩ := pLate_same r (i + 1) (putA p i (lateA (accV p i) p.epochs)) (l ++ (lateL (accV p i) p.epochs).map (lateRec i))
    refine ⟨?_, h2, h3, h4, h5, h6⟩
    rw [h1]; exact List.length_set
theorem pVisit_same : ∀ (r i : Nat) (p : SeqV) (room : Int) (l : List RecV), (pVisitFrom r i p room l).1.accs.length = p.accs.length ∧ (pVisitFrom r i p room l).1.epochs = p.epochs ∧ (pVisitFrom r i p room l).1.outs = p.outs ∧ (pVisitFrom r i p room l).1.log = p.log
  | 0, i, p, room, l => ⟨rfl, rfl, rfl, rfl⟩
  | r + 1, i, p, room, l => by
    rw [pVisit_step]
    obtain ⟨h1, h4, h5, h6⟩ := pVisit_same r (behindV p.accs.length i) (putA p i (visitA (accV p i) p.quantum room)) (room - costs (visitL (accV p i) p.quantum room)) (l ++ (visitL (accV p i) p.quantum room).map (textRec i))
    refine ⟨?_, h4, h5, h6⟩
    rw [h1]; exact List.length_set
theorem settle_len : ∀ (l : List RecV) (p : SeqV), (settleV p l).outs.length = p.outs.length + l.length
  | [], p => rfl
  | r :: l, p => by
    show (settleV (settle1 p r) l).outs.length = _
    rw [settle_len l (settle1 p r)]
    show (p.outs ++ [_]).length + l.length = _
    rw [List.length_append]; simp only [List.length_cons, List.length_nil]; omega

/-- 'all = append(all, l...)', and where it lies. -/
theorem wpList_append_all2 {w : World} {ops : Array Oper} {rest : List Oper} {o : Oper} {a : Act} {Q : Exit → Act → World → Prop} (hgd : o.guard = none) (s x : Operand)
    (ho : o.op = .call { callee := .builtin .append, args := #[s, x], argTypes := #[38, 38] })
    (B : Nat) (a1 : Option Addr) (m1 c1 : Nat) (l1 : List RecV) (hs : a.eval s = .slice a1 m1 c1) (h1 : w.ownsRow B 55 4 (.slice a1 m1 c1) m1 (recsCells l1))
    (a2 : Option Addr) (m2 c2 : Nat) (l2 : List RecV) (hx : a.eval x = .slice a2 m2 c2) (h2 : w.ownsRow B 55 4 (.slice a2 m2 c2) m2 (recsCells l2)) (hm : m1 + m2 ≤ 1000000) (hB : B ≤ w.heap.size)
    (h : ∀ a' c' w', w'.ownsRow B 55 4 (.slice a' (m1 + m2) c') (m1 + m2) (recsCells (l1 ++ l2)) → w.grownBy w' (Value.slice a1 m1 c1).ownBlock → (∀ k, (Value.slice a' (m1 + m2) c').ownBlock = some k → (Value.slice a1 m1 c1).ownBlock = some k ∨ w.heap.size ≤ k) → wpList Tryz.prog ops Q rest (a.put o.dst (.slice a' (m1 + m2) c')) w') :
    wpList Tryz.prog ops Q (o :: rest) a w := by
  obtain ⟨ti, i1, i2, i3, i4⟩ := info_parts info_rec
  have hl2 : l2.length = m2 := by have := h2.1; rw [recsCells_len] at this; omega
  rcases h2.2 with ⟨hv, h0⟩ | ⟨g, cap, cur, hv, _, hg, q1, q2, q3, q4⟩
  · obtain ⟨rfl, rfl⟩ : a2 = none ∧ c2 = 0 := by
      have hv' : Value.slice a2 m2 c2 = .slice none 0 0 := hv
      injection hv' with e1 e2 e3
      exact ⟨e1, e3⟩
    subst h0
    have : l2 = [] := List.eq_nil_of_length_eq_zero hl2
    subst this
    refine wpList_append_own_none hgd s x 38 ho B 55 ti 4 Tryz.underlying38 i1 (.slice a1 m1 c1) m1 (recsCells l1) hs h1 hx ?_
    have := h a1 c1 w (by rw [List.append_nil]; exact h1) ⟨rfl, rfl, rfl, Nat.le_refl _, fun _ _ _ => rfl⟩ (fun k hk => .inl hk)
    exact this
  · obtain ⟨rfl, rfl⟩ : a2 = some ⟨g, 0, none⟩ ∧ c2 = cap := by
      have hv' : Value.slice a2 m2 c2 = .slice (some ⟨g, 0, none⟩) m2 cap := hv
      injection hv' with e1 e2 e3
      exact ⟨e1, e3⟩
    refine wpList_append_own_at w hgd s x 38 ho B 55 ti (.agg #[.int .i64 0, .int .i64 0, .bool false, .string ⟨#[]⟩]) 4 40 Tryz.underlying38 i1 i2 i3 i4 rfl (by decide) (.slice a1 m1 c1) m1 (recsCells l1) hs h1 ⟨g, 0, none⟩ m2 c2 (recsCells l2) hx (by rw [recsCells_len, hl2]) ?_ (recs_one l2) (by unfold maxLen; omega) (by omega) hB ?_
    · intro j u hj
      have hadd : (⟨g, 0, none⟩ : Addr).add j = ⟨g, j, none⟩ := by unfold Addr.add; split <;> simp_all
      have hjl : j < m2 * 4 := by
        have := (List.getElem?_eq_some_iff.1 hj).1
        rw [recsCells_len, hl2] at this
        exact this
      rw [hadd, (heap_cells hg).1, ← hj, ← q4, ← Array.getElem?_toList, List.getElem?_take_of_lt hjl]
    · intro v' w' hown hgr _ hat
      obtain ⟨a', c', rfl⟩ : ∃ a' c', v' = .slice a' (m1 + m2) c' := by
        rcases hown.2 with ⟨hv', h0⟩ | ⟨g', cap', _, hv', _⟩
        · exact ⟨none, 0, by rw [hv', h0]⟩
        · exact ⟨_, _, hv'⟩
      refine h a' c' w' (by rw [recsCells_append]; exact hown) hgr (fun k hk => ?_)
      rcases hat with h1 | h1
      · exact .inl (h1.symm.trans hk)
      · rw [hk] at h1
        exact .inr (by have := Option.some.inj h1; omega)

def lateP (p : SeqV) : SeqV × List RecV := pLateFrom p.accs.length 0 p []
def visP (p : SeqV) : SeqV × List RecV := pVisitFrom p.accs.length p.first (lateP p).1 p.room []
def rsOf (p : SeqV) : List RecV := (lateP p).2 ++ (visP p).2
def visF (p : SeqV) : SeqV := { (visP p).1 with first := behindV p.accs.length p.first }
theorem pFillV_go {p : SeqV} (h : p.epochs < 200) : pFillV p = (({ settleV (visF p) (rsOf p) with log := (settleV (visF p) (rsOf p)).log ++ Dk.epoch p.epochs (recs (rsOf p)), epochs := p.epochs + 1, eps := (settleV (visF p) (rsOf p)).eps ++ [⟨(Dk.epoch p.epochs (recs (rsOf p))).toArray⟩] } : SeqV), ((rsOf p).length : Int), (0 : Int)) := by
  unfold pFillV
  rw [if_neg (by omega)]
  rfl

theorem own_addr {w : World} {B e size n c : Nat} {a : Option Addr} {xs : List Value} (h : w.ownsRow B e size (.slice a n c) n xs) : ∀ ad, a = some ad → (Value.slice a n c).ownBlock = some ad.block := by
  intro ad had
  subst had
  rfl

/-- One epoch more. -/
theorem seq_epoch {W X w2 : World} {g : Nat} {F : Nat → Prop} {p : SeqV} (h : SeqAt W g F p) {gA : Nat} {qb : Nat → Option Nat} {aS : Option Addr} {cS : Nat} {lb : TailV} (m : SeqMem W g F p gA qb aS cS lb) {b : ByteArray} {t : List UInt8} {gN cap : Nat} (hb : b.data.toList = t) (hl : (p.log ++ t).length ≤ 2000000) (he : p.epochs + 1 ≤ 200) (hbs : 0 < b.size ∧ b.size ≤ 4232) (hX : Below W.heap.size W X)
    (hown : w2.ownsRow 0 9 1 (.slice (some ⟨gN, 0, none⟩) (p.eps.length + 1) cap) (p.eps.length + 1) (p.eps.map (Value.string ·) ++ [.string b])) (hgr : X.grownBy w2 (Value.slice lb.aE p.eps.length lb.cE).ownBlock) (hat : (Value.slice lb.aE p.eps.length lb.cE).ownBlock = some gN ∨ gN = X.heap.size) :
    SeqPost g F { p with log := p.log ++ t, epochs := p.epochs + 1, eps := p.eps ++ [b] } W (w2.setCell ⟨g, 5, none⟩ (.slice (some ⟨gN, 0, none⟩) (p.eps.length + 1) cap)) := by
  have hsz := hX.size
  have hzY : W.heap.size ≤ w2.heap.size := Nat.le_trans hX.size hgr.size
  have hset : ∀ v, (w2.setCell ⟨g, 5, none⟩ v).heap.size = w2.heap.size := fun v => by simp [World.setCell]
  have hold : ∀ k, k < W.heap.size → (Value.slice lb.aE p.eps.length lb.cE).ownBlock ≠ some k → w2.heap[k]? = W.heap[k]? := fun k hk hne => (hgr.block k (by omega) (fun hh => hne hh.symm)).trans (hX.block k hk)
  have hgS : (Value.slice lb.aE p.eps.length lb.cE).ownBlock ≠ some g := fun e => (m.log.eF g e).2.1 rfl
  have hlt : gN < w2.heap.size := (World.ownsRow.lt hown gN rfl).2
  have hnew : ∀ k, F k → (Value.slice lb.aE p.eps.length lb.cE).ownBlock ≠ some k → gN ≠ k := by
    intro k hk hne e
    rcases hat with h1 | h1
    · exact hne (by rw [← e]; exact h1)
    · have := h.own k hk; omega
  have hgN : gN ≠ g := hnew g h.gF hgS
  have hnA : (Value.slice lb.aE p.eps.length lb.cE).ownBlock ≠ some gA := fun e => (m.log.eF gA e).2.2.1 rfl
  have hnR : (Value.slice lb.aE p.eps.length lb.cE).ownBlock ≠ some lb.gR := fun e => (m.log.eF _ e).2.2.2.1 rfl
  have hnS : ∀ k, (Value.slice aS p.outs.length cS).ownBlock = some k → (Value.slice lb.aE p.eps.length lb.cE).ownBlock ≠ some k := fun k hk e => (m.log.eF k e).2.2.2.2.1 hk
  have hnQ : ∀ i k, qb i = some k → (Value.slice lb.aE p.eps.length lb.cE).ownBlock ≠ some k := fun i k hk e => (m.log.eF k e).2.2.2.2.2 i hk
  have hall : ∀ k, F k → k ≠ g → (Value.slice lb.aE p.eps.length lb.cE).ownBlock ≠ some k → (w2.setCell ⟨g, 5, none⟩ (.slice (some ⟨gN, 0, none⟩) (p.eps.length + 1) cap)).heap[k]? = W.heap[k]? := fun k hk hkg hne => by
    rw [Below.heap_setCell _ _ _ _ (by exact hkg)]
    exact hold k (h.own k hk) hne
  have hA := hall gA m.aF.1 m.aF.2 hnA
  have hAc : ∀ y, (w2.setCell ⟨g, 5, none⟩ (.slice (some ⟨gN, 0, none⟩) (p.eps.length + 1) cap)).cell? ⟨gA, y, none⟩ = W.cell? ⟨gA, y, none⟩ := fun y => World.cell?_of_block (a := ⟨gA, y, none⟩) hA
  refine ⟨fun k => F k ∨ k = gN, ⟨⟨h.fit.n0, h.fit.n8, h.fit.qu, h.fit.qt, h.fit.ro, h.fit.first, he, h.fit.cells, hl, h.fit.outs, h.fit.acc⟩, .inl h.gF, ?_, gA, qb, aS, cS, ⟨some ⟨gN, 0, none⟩, cap, lb.gR⟩, ?_, ⟨?_, ?_, ?_, ?_, ?_, ?_, ?_, m.log.rfit⟩, ?_, ?_, ⟨.inl m.aF.1, m.aF.2⟩, ?_, m.qone, ?_, ?_⟩, ?_, ?_⟩
  · intro k hk
    rw [hset]
    rcases hk with hk | rfl
    · have := h.own k hk; omega
    · exact hlt
  · have hb0 : w2.heap[g]? = _ := (hold g h.block hgS).trans m.blk
    rw [heap_set hb0]
    congr 2
    rw [List.setIfInBounds_toArray]
    show _ = (seqCells { p with log := p.log ++ t, epochs := p.epochs + 1, eps := p.eps ++ [b] } _ _ _).toArray
    congr 1
    unfold seqCells
    simp only [List.length_append, List.length_cons, List.length_nil]
    rfl
  · show (p.eps ++ [b]).length = p.epochs + 1
    rw [List.length_append, m.log.eplen]; rfl
  · show p.log ++ t = (p.eps ++ [b]).flatMap _
    rw [List.flatMap_append, ← m.log.eplog, ← hb]; simp
  · intro x hx
    rcases List.mem_append.1 hx with hx | hx
    · exact m.log.epfit x hx
    · have : x = b := by simpa using hx
      subst this
      exact hbs
  · show World.ownsRow _ 0 _ 1 (.slice (some ⟨gN, 0, none⟩) (p.eps ++ [b]).length cap) (p.eps ++ [b]).length ((p.eps ++ [b]).map _)
    rw [List.length_append, List.map_append]
    refine own_same hown (fun k hk => ?_)
    have e2 : gN = k := by simpa [Value.ownBlock] using hk
    subst e2
    exact Below.heap_setCell _ _ _ _ (by exact hgN)
  · intro k hk
    have e2 : gN = k := by simpa [Value.ownBlock] using hk
    subst e2
    exact ⟨.inr rfl, hgN, hnew gA m.aF.1 hnA, hnew _ m.log.rF.1 hnR, fun e => hnew gN (m.sF gN e).1 (hnS gN e) rfl, fun i e => hnew gN (m.qF i gN e).1 (hnQ i gN e) rfl⟩
  · rw [hall _ m.log.rF.1 m.log.rF.2.1 hnR]; exact m.log.reps
  · exact ⟨.inl m.log.rF.1, m.log.rF.2⟩
  · obtain ⟨arr, hr⟩ := m.row
    exact ⟨arr, hA.trans hr⟩
  · intro i a ha
    exact (m.acc i a ha).same (hAc _) (hAc _) (fun k hk => hall k (m.qF i k hk).1 (m.qF i k hk).2.1 (hnQ i k hk))
  · intro i k hk
    have := m.qF i k hk
    exact ⟨.inl this.1, this.2⟩
  · exact own_same m.outs (fun k hk => hall k (m.sF k hk).1 (m.sF k hk).2.1 (hnS k hk))
  · intro k hk
    have := m.sF k hk
    exact ⟨.inl this.1, this.2⟩
  · exact Kept.set (Kept.grown (Kept.of hX) hgr (fun k hk => .inl (m.log.eF k hk).1)) (.inl h.gF) _
  · intro k hk
    rcases hk with hk | rfl
    · exact .inl hk
    · rcases hat with h1 | h1
      · exact .inl (m.log.eF k h1).1
      · exact .inr (by omega)

def FillRPost (g : Nat) (F : Nat → Prop) (x : SeqV × Int × Int) (w : World) (e : Ending) (w' : World) : Prop := e = .returned (.tuple #[.int .i64 x.2.1, .int .i64 x.2.2]) ∧ SeqPost g F x.1 w w'

set_option maxRecDepth 100000 in
set_option maxHeartbeats 8000000 in
theorem sfill_any (g : Nat) (F : Nat → Prop) (p : SeqV) (w : World) (h : SeqAt w g F p) (hcr : ∀ a ∈ p.accs, a.cr ≤ 2000) (hlog : p.log.length ≤ 1000000) (hall : p.epochs < 200 → (rsOf p).length ≤ 64 ∧ (recs (rsOf p)).all Dk.recOk = true) (ho : p.outs.length + 64 ≤ 1000000) :
    Calls Tryz.prog 63 #[.pointer (some ⟨g, 0, none⟩)] w (FillRPost g F (pFillV p) w) := by
  obtain ⟨ts, hi, hz0, hz1, hz2⟩ := info_parts info_str
  have HIs : Hid (_ ∧ _ ∧ _ ∧ _) := ⟨hi, hz0, hz1, hz2⟩
  clear hi hz0 hz1 hz2
  have hg := h.block
  have hmany := h.fit.many
  obtain ⟨gA, qb, aS, cS, lb, m⟩ := h.mem
  have c5 := (seq_cells m).2.2.2.2.2.1
  have H : Hid _ := h
  clear m h
  obtain ⟨ne, hne⟩ : ∃ n, p.epochs = n := ⟨_, rfl⟩
  rw [hne] at c5 hmany hall
  have HNe : Hid _ := hne
  by_cases hf : 200 ≤ ne
  · have HV : Hid (pFillV p = (p, 0, 9)) := by
      show _ = _
      unfold pFillV
      rw [if_pos (by rw [hne]; exact hf)]
    have hfI : (200 : Int) ≤ (ne : Int) := by omega
    clear hne hall hcr
    go_enter Tryz.func63, Tryz.ntmps63
    go_wp2
    go_ret2
    exact ⟨by rw [HV.out]; rfl, by rw [HV.out]; exact SeqPost.same H.out (Below.refl _ _)⟩
  · have hfI : (ne : Int) < 200 := by omega
    have HV : Hid _ := pFillV_go (p := p) (by rw [hne]; omega)
    obtain ⟨ha1, ha2⟩ := hall (by omega)
    have HA2 : Hid _ := ha2
    have HCr : Hid _ := pLate_acc p.accs.length 0 p [] hcr
    have HSm : Hid _ := pLate_same p.accs.length 0 p []
    clear hall hcr hne ha2
    go_enter Tryz.func63, Tryz.ntmps63
    go_wp2_with fail
    refine (slate_any g F p w H.out).mono ?_
    rintro e w1 ⟨a1, m1, c1, F1, rfl, hO1⟩
    have HO1 : Hid (OutAt w w1 g F F1 (lateP p).1 (lateP p).2 a1 m1 c1) := hO1
    clear hO1
    go_wp2_with fail
    have hv := svisit_any g F1 (lateP p).1 w1 HO1.out.seq HCr.out
    refine hv.mono ?_
    rintro e w2 ⟨a2, m2, c2, F2, rfl, hO2⟩
    have HO2 : Hid (OutAt w1 w2 g F1 F2 (visF p) (visP p).2 a2 m2 c2) := by
      have := hO2
      rw [show (lateP p).1.accs.length = p.accs.length from HSm.out.1, show (lateP p).1.first = p.first from HSm.out.2.1, show (lateP p).1.room = p.room from HSm.out.2.2.1] at this
      exact this
    clear hO2 hv
    have hm1 := HO1.out.len
    have hm2 := HO2.out.len
    have hrl : m1 + m2 ≤ 64 := by
      rw [← hm1, ← hm2, ← List.length_append]; exact ha1
    have hz1 : w.heap.size ≤ w1.heap.size := HO1.out.kept.size
    have hz2 : w1.heap.size ≤ w2.heap.size := HO2.out.kept.size
    have HR1 : Hid (w2.ownsRow w.heap.size 55 4 (.slice a1 m1 c1) m1 (recsCells (lateP p).2)) := own_same HO1.out.own (fun y hy => HO2.out.kept.block y (HO1.out.own.lt y hy).2 (HO1.out.free y hy))
    have HR2 : Hid (w2.ownsRow w.heap.size 55 4 (.slice a2 m2 c2) m2 (recsCells (visP p).2)) := own_base HO2.out.own hz1
    have HRl : Hid ((rsOf p).length = m1 + m2) := by
      show ((lateP p).2 ++ (visP p).2).length = _
      rw [List.length_append, hm1, hm2]
    clear hm1 hm2
    go_wp2_with (at_builtin; refine wpList_append_all2 rfl (.tmp 18) (.tmp 19) rfl w.heap.size a1 m1 c1 (lateP p).2 rfl HR1.out a2 m2 c2 (visP p).2 rfl HR2.out (by omega) (by omega) ?_)
    intro a3 c3 w3 hown3 hgr3 hat3
    have hF2 : ∀ k, F2 k → (Value.slice a1 m1 c1).ownBlock ≠ some k := fun k hk hh => by
      rcases HO2.out.new k hk with h4 | h4
      · exact HO1.out.free k hh h4
      · have := (HO1.out.own.lt k hh).2; omega
    have HS3 : Hid (SeqAt w3 g F2 (visF p)) := HO2.out.seq.same hgr3.size (fun k hk => hgr3.block k (HO2.out.seq.own k hk) (fun hh => hF2 k hk hh.symm))
    have HK3 : Hid (Kept F w w3) := by
      have k1 := HO1.out.kept.trans HO2.out.kept (fun x hx hf => by rcases HO1.out.new x hf with h4 | h4; exact h4; omega)
      exact k1.grown hgr3 (fun k hk => .inr (HR1.out.lt k hk).1)
    have HRow : Hid (RecRow w3 a3 (m1 + m2) (rsOf p)) := recrow_own hown3 HRl.out (fun r hr => by
      rcases List.mem_append.1 hr with hr | hr
      · exact HO1.out.small r hr
      · exact HO2.out.small r hr)
    have HFr : Hid (∀ ad, a3 = some ad → ¬ F2 ad.block ∧ ad.block < w3.heap.size) := fun ad had => by
      have hb := own_addr hown3 ad had
      refine ⟨fun hf => ?_, (World.ownsRow.lt hown3 _ hb).2⟩
      rcases hat3 _ hb with h4 | h4
      · exact hF2 _ hf h4
      · have := HO2.out.seq.own _ hf; omega
    have HN3 : Hid (∀ k, F2 k → F k ∨ w.heap.size ≤ k) := fun k hk => by
      rcases HO2.out.new k hk with h4 | h4
      · exact HO1.out.new k h4
      · exact .inr (by omega)
    have HOl : Hid ((visF p).outs = p.outs ∧ (visF p).epochs = ne ∧ (visF p).log = p.log) := by
      obtain ⟨_, v2, v3, v4⟩ := pVisit_same p.accs.length p.first (lateP p).1 p.room []
      exact ⟨v3.trans HSm.out.2.2.2.2.1, (v2.trans HSm.out.2.2.2.1).trans HNe.out, v4.trans HSm.out.2.2.2.2.2⟩
    clear hown3 hgr3 hat3 hF2
    obtain ⟨M, hM⟩ : ∃ x, m1 + m2 = x := ⟨_, rfl⟩
    rw [hM] at hrl HRl HRow
    rewrite [hM]
    clear hM
    obtain ⟨p2, hp2⟩ : ∃ x : SeqV, (visF p) = x := ⟨_, rfl⟩
    rw [hp2] at HS3 HOl HV
    clear hp2 HO1 HO2 HR1 HR2 HSm HCr
    go_wp2_with fail
    refine (ssettle_any g F2 p2 a3 M c3 (rsOf p) w3 HS3.out HRow.out (fun ad had => (HFr.out ad had).2) (fun ad had => (HFr.out ad had).1) hrl (by rw [HOl.out.1]; omega)).mono ?_
    rintro e w4 ⟨rfl, F4, hT4⟩
    have HT4 : Hid _ := hT4
    have hg4 := hT4.seq.block
    obtain ⟨gA4, qb4, aS4, cS4, ⟨aE4, cE4, gR4⟩, m4⟩ := hT4.seq.mem
    have d5 := (seq_cells m4).2.2.2.2.2.1
    have fz4 := (seq_cells m4).2.2.2.2.2.2.2
    rw [show (settleV p2 (rsOf p)).epochs = ne from (settle_accs _ _).2.1.trans HOl.out.2.1] at d5
    clear m4 hT4
    have HFo : Hid (Dk.frameOk (ne : Int) (recs (rsOf p)) = true) := by
      show _ = _
      unfold Dk.frameOk
      rw [decide_eq_true ⟨by omega, hfI⟩, decide_eq_true (by rw [recs, List.length_map]; omega), HA2.out]; rfl
    go_wp2_with fail
    refine (write_any (ne : Int) a3 M c3 (rsOf p) w4 (by unfold maxLen; omega) HT4.out.row).mono ?_
    rintro e w5 ⟨b, rfl, hb, hB5⟩
    rewrite [HFo.out]
    rw [HFo.out] at hb
    have HBb : Hid (b.data.toList = Dk.epoch ne (recs (rsOf p))) := hb
    have HBs : Hid (0 < b.size ∧ b.size ≤ 4232) := by
      have := epoch_small HFo.out
      have h2 := congrArg List.length HBb.out
      have h3 := Dk.epoch_pos ne (recs (rsOf p))
      rw [len_list] at h2
      rw [Int.toNat_natCast] at this
      exact ⟨by omega, by omega⟩
    have HS5 : Hid (SeqAt w5 g F4 (settleV p2 (rsOf p))) := HT4.out.seq.below hB5
    have HB5 : Hid _ := hB5
    clear hb hB5 d5 fz4
    have hg5 : g < w5.heap.size := HS5.out.block
    obtain ⟨gA5, qb5, aS5, cS5, ⟨aE, cE, gR⟩, m5⟩ := HS5.out.mem
    have HEp : Hid ((settleV p2 (rsOf p)).epochs = ne ∧ (settleV p2 (rsOf p)).eps.length = ne) := ⟨(settle_accs _ _).2.1.trans HOl.out.2.1, m5.log.eplen.trans ((settle_accs _ _).2.1.trans HOl.out.2.1)⟩
    have e5 := (seq_cells m5).2.2.2.2.2.1
    have fz5 := (seq_cells m5).2.2.2.2.2.2.2
    rw [HEp.out.1] at e5
    have HO5 : Hid (w5.ownsRow 0 9 1 (.slice aE ne cE) ne ((settleV p2 (rsOf p)).eps.map (Value.string ·))) := by
      have := m5.log.row
      rw [HEp.out.2] at this
      exact this
    have HGs : Hid ((Value.slice aE ne cE).ownBlock ≠ some g) := by
      have h1 := m5.log.eF g
      rw [HEp.out.2] at h1
      exact fun e => (h1 e).2.1 rfl
    have HM5 : Hid _ := m5
    clear m5
    have HK5 : Hid (∀ (o : Obj) (W9 : World), (w5.alloc o).grownBy W9 (Value.slice aE ne cE).ownBlock → (∀ x, W9.frozen? ⟨g, x, none⟩ = false) ∧ g < W9.heap.size ∧ W9.cell? ⟨g, 5, none⟩ = some (.slice aE ne cE)) := fun o W9 hgr => by
      have hz : (w5.alloc o).heap.size = w5.heap.size + 1 := by show (w5.alloc o).heap.size = _; simp
      have hb : W9.heap[g]? = (w5.alloc o).heap[g]? := hgr.block _ (by rw [hz]; omega) (fun hh => HGs.out hh.symm)
      have hb3 : (w5.alloc o).heap[g]? = w5.heap[g]? := heap_old hg5
      exact ⟨fun x => (World.frozen?_of_block (a := ⟨g, x, none⟩) (hb.trans hb3)).trans (fz5 x), by have := hgr.size; rw [hz] at this; omega, (World.cell?_of_block (a := ⟨g, 5, none⟩) (hb.trans hb3)).trans e5⟩
    go_wp2_with (at_builtin; refine wpList_append_lies _ rfl (.tmp 38) (.tmp 40) 98 rfl 0 9 ts (.string ⟨#[]⟩) 1 16 Tryz.underlying98 HIs.out.1 HIs.out.2.1 HIs.out.2.2.1 HIs.out.2.2.2 rfl (by decide) (.slice aE ne cE) ne ((settleV p2 (rsOf p)).eps.map (Value.string ·)) rfl (HO5.out.alloc _) ⟨w5.heap.size, 0, none⟩ 1 1 [.string b] rfl rfl ?c1 ?c2 ?c3 ?c4 ?c5 ?c6 _ rfl ?_)
    try (case c1 => exact cells_new _ _ rfl [.string b] _)
    case c2 => first | (intro u hu; simp only [List.mem_cons, List.not_mem_nil, or_false] at hu; rcases hu with rfl; rfl) | rfl | exact ⟨rfl⟩
    try (case c3 => decide)
    try (case c4 => unfold maxLen; omega)
    try (case c5 => omega)
    try (case c6 => exact Nat.zero_le _)
    intro gN cap w6 hown hgr hat hlt6
    obtain ⟨f6, z6, e6⟩ := HK5.out _ _ hgr
    all_goals
      have HP : Hid (SeqPost g F4 (pFillV p).1 w5 (w6.setCell ⟨g, 5, none⟩ (.slice (some ⟨gN, 0, none⟩) (ne + 1) cap))) := by
        have hl := HEp.out.2
        have hq := seq_epoch HS5.out HM5.out (b := b) (gN := gN) (cap := cap) (w2 := w6) HBb.out (by
          rw [List.length_append, (settle_accs _ _).2.2.2.2, HOl.out.2.2]
          have h2 := congrArg List.length HBb.out
          have h3 := HBs.out
          rw [len_list] at h2
          omega) (by rw [HEp.out.1]; omega) HBs.out ((Below.refl _ _).alloc (Nat.le_refl _) _) (by rw [hl]; exact hown) (by rw [hl]; exact hgr) (by rw [hl, show (w5.alloc (Obj.cells #[Value.string b] 9)).heap.size = w5.heap.size + 1 from by simp]; exact hat)
        have hbe : b = ⟨(Dk.epoch ne (recs (rsOf p))).toArray⟩ := bytes_eq (by rw [HBb.out])
        rw [hl, HEp.out.1, hbe] at hq
        show SeqPost _ _ _ _ _
        rw [HV.out, HNe.out]
        exact hq
      clear hown hgr hat hlt6 HK5 HO5 HM5 HS5
      go_wp2
      go_ret2
      refine ⟨?_, ?_⟩
      · rw [HV.out]
        show _ = Ending.returned (.tuple #[.int .i64 ((rsOf p).length : Int), .int .i64 0])
        rw [HRl.out]
        rfl
      · have hk4 : Kept F w w4 := HK3.out.trans HT4.out.kept (fun x hx hf => by rcases HN3.out x hf with h4 | h4; exact h4; omega)
        refine SeqPost.trans (hk4.then HB5.out) (fun k hk => ?_) HP.out
        rcases HT4.out.new k hk with h4 | h4
        · exact HN3.out k h4
        · have := HK3.out.size; exact .inr (by omega)

end Go.Proofs.YtccckonckddadabGreat
namespace Go.Proofs.YtccckonckddadabGreat
set_option linter.unusedVariables false

/-! ### What an epoch's records are -/
theorem lateFrom_count : ∀ (r i : Nat) (s : CluV) (l : List RecV), CluFit s → i + r ≤ 8 → (recs l).all Dk.recOk = true → (lateFrom r i s l).2.length + waiting (lateFrom r i s l).1 = l.length + waiting s ∧ (recs (lateFrom r i s l).2).all Dk.recOk = true
  | 0, i, s, l, hf, _, hl => ⟨rfl, hl⟩
  | r + 1, i, s, l, hf, h8, hl => by
    obtain ⟨y1, y2, y3, y4, y5⟩ := lateV_mild hf (client := (i : Int)) (by omega) (by omega)
    obtain ⟨z1, z2⟩ := lateFrom_count r (i + 1) (lateV s i).1 (l ++ (lateV s i).2) y2 (by omega) (recs_all hl y5)
    rw [late_step]
    refine ⟨?_, z2⟩
    rw [z1, List.length_append]
    omega
theorem visitFrom_count : ∀ (r i : Nat) (s : CluV) (room : Int) (l : List RecV), CluFit s → (i : Int) + r ≤ s.conf.clients → 0 ≤ room → (∀ j : Nat, i ≤ j → (j : Int) < s.conf.clients → s.credit.getD ((s.first + j) % s.conf.clients).toNat 0 ≤ 8 * (s.epochs.length : Int)) → (recs l).all Dk.recOk = true →
    (visitFrom r i s room l).2.length + waiting (visitFrom r i s room l).1 = l.length + waiting s ∧ (recs (visitFrom r i s room l).2).all Dk.recOk = true
  | 0, i, s, room, l, hf, _, _, _, hl => ⟨rfl, hl⟩
  | r + 1, i, s, room, l, hf, hn, hr, hc, hl => by
    obtain ⟨e1, e2, _, _⟩ := conf_edges hf.conf
    obtain ⟨t1, t2, t3⟩ := turn_lt (f := s.first) (i := i) (by omega : 0 < s.conf.clients) e2
    obtain ⟨y1, y2, y3, y4, y5, y6, y7⟩ := visitV_mild hf t1 hr (hc i (Nat.le_refl _) (by omega))
    rw [visitFrom]
    obtain ⟨z1, z2⟩ := visitFrom_count r (i + 1) _ _ (l ++ (visitV s ((s.first + i) % s.conf.clients).toNat room).2.1) y2 (by rw [y1.conf]; omega) y6 (fun j hj hjn => by
      rw [y1.conf] at hjn
      rw [y1.conf, y1.first, y1.epochs]
      have hne := turn_ne hf.first0 hf.first1 hjn (by omega : (i : Int) < s.conf.clients) (by omega : j ≠ i)
      rw [List.getD_eq_getElem?_getD, y5 _ hne, ← List.getD_eq_getElem?_getD]
      exact hc j (by omega) hjn) (recs_all hl y4)
    refine ⟨?_, z2⟩
    rw [z1, List.length_append]
    omega

theorem logV_le2 (s : CluV) (hf : CluFit s) : ∀ n, n ≤ s.epochs.length → (logV s n).length ≤ 4232 * n
  | 0, _ => by simp [logV, Dk.logFrom]
  | n + 1, h => by
    have ih := logV_le2 s hf n (by omega)
    have hg := List.getElem?_eq_getElem (show n < s.epochs.length by omega)
    rw [log_snoc hg, List.length_append]
    have hep := hf.ep _ (List.mem_of_getElem? hg)
    have HF : Dk.frameOk (n : Int) (recs s.epochs[n]) = true := by
      have := hf.many
      unfold Dk.frameOk
      rw [decide_eq_true ⟨by omega, by omega⟩, decide_eq_true (by rw [recs, List.length_map]; exact hep.1), hep.2]; rfl
    have h2 := epoch_small HF
    rw [Int.toNat_natCast] at h2
    omega

/-- What Fill asks for. -/
theorem fill_ready {p : SeqV} {s : CluV} (h : Sim p s) (hf : CluFit s) (hr : Rest s) : (∀ a ∈ p.accs, a.cr ≤ 2000) ∧ p.log.length ≤ 1000000 ∧ ((rsOf p).length ≤ 64 ∧ (recs (rsOf p)).all Dk.recOk = true) := by
  have hmany := hf.many
  obtain ⟨e1, e2, e3, _⟩ := conf_edges hf.conf
  have hcl := h.many
  refine ⟨fun a ha => ?_, ?_, ?_⟩
  · obtain ⟨i, hi⟩ := List.getElem?_of_mem ha
    rw [h.acc i (List.getElem?_eq_some_iff.1 hi).1] at hi
    cases hi
    have := hr.credit i
    show s.credit.getD i 0 ≤ 2000
    omega
  · have := logV_le2 s hf s.epochs.length (Nat.le_refl _)
    rw [h.log.1]
    omega
  · obtain ⟨l1, l2, l3, l4, l5, l6⟩ := lateFrom_sim p.accs.length 0 s p [] h hf (by omega)
    obtain ⟨y1, y2, y3⟩ := lateFrom_mild p.accs.length 0 s [] hf (by omega)
    have hq : ∀ c : Nat, (queueV (lateFrom p.accs.length 0 s []).1.txs c).length ≤ 64 := fun c => by
      have h1 := y1.queue (c : Int)
      have h2 := hr.queue c
      have h3 := hf.conf
      unfold confOk at h3
      simp only [Bool.and_eq_true, decide_eq_true_eq] at h3
      omega
    have hv := visitFrom_sim (pLateFrom p.accs.length 0 p []).2 p.accs.length 0 (lateFrom p.accs.length 0 s []).1 (pLateFrom p.accs.length 0 p []).1 s.conf.room [] (by rw [List.append_nil]; exact l2) y2 (by rw [y1.conf]; omega) e3 (fun j _ _ => by rw [y3, y1.epochs]; exact hr.credit _) hq
    rw [y1.first, y1.conf, mod_first hf.first0 hf.first1, List.append_nil, show s.first.toNat = p.first from by have := h.first; omega] at hv
    obtain ⟨c1, c2⟩ := lateFrom_count p.accs.length 0 s [] hf (by omega) rfl
    obtain ⟨d1, d2⟩ := visitFrom_count p.accs.length 0 (lateFrom p.accs.length 0 s []).1 s.conf.room (pLateFrom p.accs.length 0 p []).2 y2 (by rw [y1.conf]; omega) e3 (fun j _ _ => by rw [y3, y1.epochs]; exact hr.credit _) (by rw [← l1]; exact c2)
    rw [hv.1] at d1 d2
    have hw := waiting_le hf hr.queue
    have hrs : rsOf p = (pLateFrom p.accs.length 0 p []).2 ++ (pVisitFrom p.accs.length p.first (pLateFrom p.accs.length 0 p []).1 s.conf.room []).2 := by
      unfold rsOf visP lateP
      rw [h.room]
    rw [hrs]
    refine ⟨?_, d2⟩
    rw [← l1] at d1
    have hnil : ([] : List RecV).length = 0 := rfl
    rw [l1] at d1
    have hc1 := c1
    rw [l1] at hc1
    omega

theorem fill_outs {p : SeqV} (h : p.outs.length ≤ 64 * p.epochs) (hr : (rsOf p).length ≤ 64) : (pFillV p).1.outs.length ≤ 64 * (pFillV p).1.epochs := by
  by_cases he : p.epochs < 200
  · rw [pFillV_go he]
    show (settleV (visF p) (rsOf p)).outs.length ≤ 64 * (p.epochs + 1)
    rw [settle_len]
    have h1 : (visF p).outs = p.outs := by
      obtain ⟨_, _, v3, _⟩ := pVisit_same p.accs.length p.first (lateP p).1 p.room []
      exact v3.trans (pLate_same p.accs.length 0 p []).2.2.2.2.1
    rw [h1]
    omega
  · unfold pFillV
    rw [if_pos (by omega)]
    exact h
theorem submit_outs {p : SeqV} {client id : Int} {t : ByteArray} {d : Int} : (pSubmitV p client id t d).1.outs = p.outs ∧ (pSubmitV p client id t d).1.epochs = p.epochs := by
  unfold pSubmitV
  iterate 6 (split; exact ⟨rfl, rfl⟩)
  exact ⟨rfl, rfl⟩

theorem settle_states : ∀ (l : List RecV) (p : SeqV), (∀ y ∈ p.outs, 0 ≤ y.s ∧ y.s ≤ 3) → ∀ y ∈ (settleV p l).outs, 0 ≤ y.s ∧ y.s ≤ 3
  | [], p, h => h
  | r :: l, p, h => by
    refine settle_states l (settle1 p r) (fun y hy => ?_)
    rcases List.mem_append.1 hy with hy | hy
    · exact h y hy
    · have : y = ⟨r.i, (doRec r p.cells).2, p.epochs⟩ := by simpa using hy
      subst this
      show 0 ≤ (doRec r p.cells).2 ∧ (doRec r p.cells).2 ≤ 3
      unfold doRec
      split
      · exact ⟨show (0 : Int) ≤ 3 by decide, show (3 : Int) ≤ 3 by decide⟩
      split
      · show (0 : Int) ≤ (if _ then 1 else 2) ∧ (if _ then (1 : Int) else 2) ≤ 3
        split <;> exact ⟨by decide, by decide⟩
      · exact ⟨show (0 : Int) ≤ 2 by decide, show (2 : Int) ≤ 3 by decide⟩
/-- What became of those that wait no longer. -/
def OutsOk (p : SeqV) : Prop := p.outs.length ≤ 64 * p.epochs ∧ ∀ y ∈ p.outs, 0 ≤ y.s ∧ y.s ≤ 3
theorem fill_outsOk {p : SeqV} (h : OutsOk p) (hr : (rsOf p).length ≤ 64) : OutsOk (pFillV p).1 := by
  refine ⟨fill_outs h.1 hr, ?_⟩
  by_cases he : p.epochs < 200
  · rw [pFillV_go he]
    have h1 : (visF p).outs = p.outs := by
      obtain ⟨_, _, v3, _⟩ := pVisit_same p.accs.length p.first (lateP p).1 p.room []
      exact v3.trans (pLate_same p.accs.length 0 p []).2.2.2.2.1
    exact settle_states (rsOf p) (visF p) (by rw [h1]; exact h.2)
  · unfold pFillV
    rw [if_pos (by omega)]
    exact h.2
theorem submit_outsOk {p : SeqV} (h : OutsOk p) {client id : Int} {t : ByteArray} {d : Int} : OutsOk (pSubmitV p client id t d).1 := by
  obtain ⟨h1, h2⟩ := submit_outs (p := p) (client := client) (id := id) (t := t) (d := d)
  unfold OutsOk
  rw [h1, h2]
  exact h
theorem reply_state {p : SeqV} (h : OutsOk p) (id : Int) : 0 ≤ (pReplyV p id).1 ∧ (pReplyV p id).1 ≤ 3 := by
  unfold pReplyV
  cases ho : outV p id with
  | some x => exact h.2 x (List.mem_of_find?_eq_some ho)
  | none =>
    simp only
    split <;> exact ⟨show (0 : Int) ≤ 0 by decide, show (0 : Int) ≤ 3 by decide⟩

end Go.Proofs.YtccckonckddadabGreat
