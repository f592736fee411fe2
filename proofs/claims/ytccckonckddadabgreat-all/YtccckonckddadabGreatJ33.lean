import Derived.Test.YtccckonckddadabGreatJ31
import Derived.Laws.AppendOwnNone
namespace Go.Proofs.YtccckonckddadabGreat
open Go.RowKit
set_option linter.unusedVariables false

/-- 'all = append(all, l...)': both rows are the call's own. -/
theorem wpList_append_all {w : World} {ops : Array Oper} {rest : List Oper} {o : Oper} {a : Act} {Q : Exit → Act → World → Prop} (hgd : o.guard = none) (s x : Operand)
    (ho : o.op = .call { callee := .builtin .append, args := #[s, x], argTypes := #[38, 38] })
    (B : Nat) (a1 : Option Addr) (m1 c1 : Nat) (l1 : List RecV) (hs : a.eval s = .slice a1 m1 c1) (h1 : w.ownsRow B 55 4 (.slice a1 m1 c1) m1 (recsCells l1))
    (a2 : Option Addr) (m2 c2 : Nat) (l2 : List RecV) (hx : a.eval x = .slice a2 m2 c2) (h2 : w.ownsRow B 55 4 (.slice a2 m2 c2) m2 (recsCells l2)) (hm : m1 + m2 ≤ 1000000) (hB : B ≤ w.heap.size)
    (h : ∀ a' c' w', w'.ownsRow B 55 4 (.slice a' (m1 + m2) c') (m1 + m2) (recsCells (l1 ++ l2)) → w.grownBy w' (Value.slice a1 m1 c1).ownBlock → wpList Tryz.prog ops Q rest (a.put o.dst (.slice a' (m1 + m2) c')) w') :
    wpList Tryz.prog ops Q (o :: rest) a w := by
  obtain ⟨ti, i1, i2, i3, i4⟩ := info_parts info_rec
  have hl2 : l2.length = m2 := by have := h2.1; rw [recsCells_len] at this; omega
  rcases h2.2 with ⟨hv, h0⟩ | ⟨g, cap, cur, hv, _, hg, q1, q2, q3, q4⟩
  · obtain ⟨rfl, rfl⟩ : a2 = none ∧ c2 = 0 := by
      have hv' : Value.slice a2 m2 c2 = .slice none 0 0 := hv
      injection hv' with e1 e2 e3
      exact ⟨e1, e3⟩
    subst h0
    have : l2 = [] := List.eq_nil_of_length_eq_zero hl2
    subst this
    refine wpList_append_own_none hgd s x 38 ho B 55 ti 4 Tryz.underlying38 i1 (.slice a1 m1 c1) m1 (recsCells l1) hs h1 hx ?_
    have := h a1 c1 w (by rw [List.append_nil]; exact h1) ⟨rfl, rfl, rfl, Nat.le_refl _, fun _ _ _ => rfl⟩
    exact this
  · obtain ⟨rfl, rfl⟩ : a2 = some ⟨g, 0, none⟩ ∧ c2 = cap := by
      have hv' : Value.slice a2 m2 c2 = .slice (some ⟨g, 0, none⟩) m2 cap := hv
      injection hv' with e1 e2 e3
      exact ⟨e1, e3⟩
    refine wpList_append_own w hgd s x 38 ho B 55 ti (.agg #[.int .i64 0, .int .i64 0, .bool false, .string ⟨#[]⟩]) 4 40 Tryz.underlying38 i1 i2 i3 i4 rfl (by decide) (.slice a1 m1 c1) m1 (recsCells l1) hs h1 ⟨g, 0, none⟩ m2 c2 (recsCells l2) hx (by rw [recsCells_len, hl2]) ?_ (recs_one l2) (by unfold maxLen; omega) (by omega) hB ?_
    · intro j u hj
      have hadd : (⟨g, 0, none⟩ : Addr).add j = ⟨g, j, none⟩ := by unfold Addr.add; split <;> simp_all
      have hjl : j < m2 * 4 := by
        have := (List.getElem?_eq_some_iff.1 hj).1
        rw [recsCells_len, hl2] at this
        exact this
      rw [hadd, (heap_cells hg).1, ← hj, ← q4, ← Array.getElem?_toList, List.getElem?_take_of_lt hjl]
    · intro v' w' hown hgr _
      obtain ⟨a', c', rfl⟩ : ∃ a' c', v' = .slice a' (m1 + m2) c' := by
        rcases hown.2 with ⟨hv', h0⟩ | ⟨g', cap', _, hv', _⟩
        · exact ⟨none, 0, by rw [hv', h0]⟩
        · exact ⟨_, _, hv'⟩
      exact h a' c' w' (by rw [recsCells_append]; exact hown) hgr

/-! ### Fill -/
def lateFrom : Nat → Nat → CluV → List RecV → CluV × List RecV
  | 0, _, s, l => (s, l)
  | r + 1, i, s, l => lateFrom r (i + 1) (lateV s i).1 (l ++ (lateV s i).2)
def visitFrom : Nat → Nat → CluV → Int → List RecV → CluV × List RecV
  | 0, _, s, _, l => (s, l)
  | r + 1, i, s, room, l => visitFrom r (i + 1) (visitV s ((s.first + i) % s.conf.clients).toNat room).1 (visitV s ((s.first + i) % s.conf.clients).toNat room).2.2 (l ++ (visitV s ((s.first + i) % s.conf.clients).toNat room).2.1)
def fillV (s : CluV) : CluV × Int × Int :=
  if 200 ≤ s.epochs.length then (s, 0, 9) else
  let a := lateFrom s.conf.clients.toNat 0 s []
  let b := visitFrom s.conf.clients.toNat 0 a.1 s.conf.room a.2
  ({ b.1 with first := (b.1.first + 1) % s.conf.clients, epochs := b.1.epochs ++ [b.2] }, b.2.length, 0)

end Go.Proofs.YtccckonckddadabGreat
namespace Go.Proofs.YtccckonckddadabGreat
set_option linter.unusedVariables false

theorem mild_cred (s : CluV) (c : Nat) (x : Int) : Mild s (credV s c x) := ⟨rfl, rfl, rfl, rfl, fun _ => Nat.le_refl _⟩

theorem visitV_mild {s : CluV} (hf : CluFit s) {client : Nat} (h8 : client < 8) {room : Int} (hr : 0 ≤ room) (hcr : s.credit.getD client 0 ≤ 8 * (s.epochs.length : Int)) :
    Mild s (visitV s client room).1 ∧ CluFit (visitV s client room).1 ∧ (visitV s client room).2.1.length + waiting (visitV s client room).1 = waiting s ∧ (recs (visitV s client room).2.1).all Dk.recOk = true ∧ (∀ j, j ≠ client → (visitV s client room).1.credit[j]? = s.credit[j]?) ∧ 0 ≤ (visitV s client room).2.2 ∧ (visitV s client room).2.2 ≤ room := by
  have hcf := hf.conf
  unfold confOk at hcf
  simp only [Bool.and_eq_true, decide_eq_true_eq] at hcf
  have hl : client < s.credit.length := by rw [hf.credit]; exact h8
  have h0 : 0 ≤ s.credit.getD client 0 := by
    rw [List.getD_eq_getElem?_getD, List.getElem?_eq_getElem hl]
    exact (hf.cr _ (List.getElem_mem hl)).1
  have f1 := fit_cred hf (c := client) (x := s.credit.getD client 0 + s.conf.quantum) ⟨by omega, by omega⟩
  obtain ⟨a1, a2, a3, a4, a5, a6, a7⟩ := visitGo_mild h8 65 (credV s client (s.credit.getD client 0 + s.conf.quantum)) room [] f1 hr rfl
  have a5' : ∀ j, j ≠ client → (visitGo client 65 (credV s client (s.credit.getD client 0 + s.conf.quantum)) room []).1.credit[j]? = s.credit[j]? := fun j hj => by
    rw [a5 j hj]
    show (s.credit.set client _)[j]? = _
    rw [List.getElem?_set_ne (fun e => hj e.symm)]
  have a3' : (visitGo client 65 (credV s client (s.credit.getD client 0 + s.conf.quantum)) room []).2.1.length + waiting (visitGo client 65 (credV s client (s.credit.getD client 0 + s.conf.quantum)) room []).1 = waiting s := by
    rw [a3]
    show 0 + s.txs.countP wait = _
    rw [Nat.zero_add]; rfl
  unfold visitV
  simp only
  split
  · refine ⟨((mild_cred s client _).trans a1).trans (mild_cred _ client 0), fit_cred a2 ⟨Int.le_refl _, by omega⟩, a3', a4, fun j hj => ?_, a6, a7⟩
    show ((visitGo client 65 (credV s client (s.credit.getD client 0 + s.conf.quantum)) room []).1.credit.set client 0)[j]? = _
    rw [List.getElem?_set_ne (fun e => hj e.symm)]
    exact a5' j hj
  · exact ⟨(mild_cred s client _).trans a1, a2, a3', a4, a5', a6, a7⟩

theorem late_step (r i : Nat) (s : CluV) (l : List RecV) : lateFrom (r + 1) i s l = lateFrom r (i + 1) (lateV s i).1 (l ++ (lateV s i).2) := rfl
theorem recs_append (a b : List RecV) : recs (a ++ b) = recs a ++ recs b := by unfold recs; rw [List.map_append]
theorem recs_all {a b : List RecV} (ha : (recs a).all Dk.recOk = true) (hb : (recs b).all Dk.recOk = true) : (recs (a ++ b)).all Dk.recOk = true := by rw [recs_append, List.all_append, ha, hb]; rfl

theorem emod_over {a n : Int} (h0 : n ≤ a) (h1 : a < n + n) : a % n = a - n := by
  have e : a = (a - n) + n * 1 := by omega
  have h2 : ((a - n) + n * 1) % n = (a - n) % n := Int.add_mul_emod_self_left (a - n) n 1
  rw [← e] at h2
  rw [h2]
  exact Int.emod_eq_of_lt (by omega) (by omega)
/-- Who is visited: no one twice. -/
theorem turn_ne {f n : Int} {i j : Nat} (h0 : 0 ≤ f) (h1 : f < n) (hi : (i : Int) < n) (hj : (j : Int) < n) (hij : i ≠ j) : ((f + i) % n).toNat ≠ ((f + j) % n).toNat := by
  intro e
  have p1 := Int.emod_nonneg (f + i) (by omega : n ≠ 0)
  have p2 := Int.emod_nonneg (f + j) (by omega : n ≠ 0)
  have e' : (f + i) % n = (f + j) % n := by omega
  have r1 : (f + i) % n = f + i ∨ (f + i) % n = f + i - n := by
    by_cases h : f + i < n
    · exact .inl (Int.emod_eq_of_lt (by omega) h)
    · exact .inr (emod_over (by omega) (by omega))
  have r2 : (f + j) % n = f + j ∨ (f + j) % n = f + j - n := by
    by_cases h : f + j < n
    · exact .inl (Int.emod_eq_of_lt (by omega) h)
    · exact .inr (emod_over (by omega) (by omega))
  rcases r1 with r1 | r1 <;> rcases r2 with r2 | r2 <;> omega
theorem turn_lt {f n : Int} {i : Nat} (hn : 0 < n) (h8 : n ≤ 8) : ((f + i) % n).toNat < 8 ∧ 0 ≤ (f + i) % n ∧ (f + i) % n < n := by
  have p1 := Int.emod_nonneg (f + i) (by omega : n ≠ 0)
  have p2 := Int.emod_lt_of_pos (f + i) hn
  omega

/-- What is true of a cluster at rest, beside CluFit. -/
structure Rest (s : CluV) : Prop where
  queue : ∀ c : Nat, ((queueV s.txs c).length : Int) ≤ s.conf.queue
  credit : ∀ k, s.credit.getD k 0 ≤ 8 * (s.epochs.length : Int)

end Go.Proofs.YtccckonckddadabGreat
namespace Go.Proofs.YtccckonckddadabGreat
open Go.RowKit
set_option linter.unusedVariables false

theorem zip_snoc {eas : List (Option Addr × Nat)} {es : List (List RecV)} (h : eas.length = es.length) (a : Option Addr) (c : Nat) (l : List RecV) :
    List.zipWith (fun (a : Option Addr × Nat) (rs : List RecV) => Value.slice a.1 rs.length a.2) (eas ++ [(a, c)]) (es ++ [l]) = List.zipWith (fun (a : Option Addr × Nat) (rs : List RecV) => Value.slice a.1 rs.length a.2) eas es ++ [.slice a l.length c] := by
  rw [List.zipWith_append h]
  rfl

/-- The list of epochs has grown by one. -/
theorem clu_epoch {w wX wY : World} {g B : Nat} {F : Nat → Prop} {s : CluV} {l : List RecV} {aT aE aA : Option Addr} {cT cE mA cA : Nat} {eas : List (Option Addr × Nat)} (hF : F g) (hown : ∀ k, F k → k < w.heap.size) (hFB : ∀ k, F k → k < B)
    (h1 : w.heap[g]? = some (.cells (cluCells s (.slice aT s.txs.length cT) (.slice aE s.epochs.length cE)).toArray 115))
    (h2 : w.ownsRow 0 140 6 (.slice aT s.txs.length cT) s.txs.length (txsCells s.txs))
    (h3 : ∀ k, (Value.slice aT s.txs.length cT).ownBlock = some k → F k ∧ k ≠ g)
    (h5 : ∀ k, (Value.slice aE s.epochs.length cE).ownBlock = some k → F k ∧ k ≠ g ∧ (Value.slice aT s.txs.length cT).ownBlock ≠ some k)
    (h6 : eas.length = s.epochs.length)
    (h7 : ∀ (i : Nat) (a : Option Addr × Nat) (rs : List RecV), eas[i]? = some a → s.epochs[i]? = some rs → RecRow w a.1 rs.length rs ∧
      (∀ ad, a.1 = some ad → F ad.block ∧ ad.block ≠ g ∧ (Value.slice aT s.txs.length cT).ownBlock ≠ some ad.block ∧ (Value.slice aE s.epochs.length cE).ownBlock ≠ some ad.block))
    (hfit : CluFit { s with epochs := s.epochs ++ [l] }) (hX : Below w.heap.size w wX) (hgr : wX.grownBy wY (Value.slice aE s.epochs.length cE).ownBlock) {gN cap : Nat}
    (hl : l.length = mA) (hsm : ∀ r ∈ l, r.t.size ≤ maxLen) (hA : w.ownsRow B 55 4 (.slice aA mA cA) mA (recsCells l))
    (ho : wY.ownsRow 0 38 1 (.slice (some ⟨gN, 0, none⟩) (s.epochs.length + 1) cap) (s.epochs.length + 1) (List.zipWith (fun (a : Option Addr × Nat) (rs : List RecV) => Value.slice a.1 rs.length a.2) eas s.epochs ++ [.slice aA mA cA]))
    (hat : (Value.slice aE s.epochs.length cE).ownBlock = some gN ∨ gN = wX.heap.size) (hBw : B ≤ w.heap.size) :
    ∃ F' : Nat → Prop, CluAt (wY.setCell ⟨g, 15, none⟩ (.slice (some ⟨gN, 0, none⟩) (s.epochs.length + 1) cap)) g F' { s with epochs := s.epochs ++ [l] } ∧ Kept F w (wY.setCell ⟨g, 15, none⟩ (.slice (some ⟨gN, 0, none⟩) (s.epochs.length + 1) cap)) ∧ (∀ k, F' k → F k ∨ B ≤ k) := by
  have hsz := hX.size
  have hzY : w.heap.size ≤ wY.heap.size := Nat.le_trans hX.size hgr.size
  have hset : ∀ v, (wY.setCell ⟨g, 15, none⟩ v).heap.size = wY.heap.size := fun v => by simp [World.setCell]
  have hold : ∀ k, k < w.heap.size → (Value.slice aE s.epochs.length cE).ownBlock ≠ some k → wY.heap[k]? = w.heap[k]? := fun k hk hne => (hgr.block k (by omega) (fun h => hne h.symm)).trans (hX.block k hk)
  have hgE : (Value.slice aE s.epochs.length cE).ownBlock ≠ some g := fun h => (h5 g h).2.1 rfl
  have hlt : gN < wY.heap.size := by
    rcases ho.2 with ⟨hx, _⟩ | ⟨g', _, _, hv, _, hg', _⟩
    · cases hx
    · obtain ⟨rfl, _⟩ : gN = g' ∧ _ := by simpa using hv
      exact (heap_cells hg').2.2
  have hgN : gN ≠ g := by
    rcases hat with h | h
    · exact (h5 gN h).2.1
    · have := hown g hF; omega
  have hnew : ∀ k, F k → (Value.slice aE s.epochs.length cE).ownBlock ≠ some k → gN ≠ k := by
    intro k hk hne e
    rcases hat with h | h
    · exact hne (by rw [← e]; exact h)
    · have := hown k hk; omega
  have hAl : ∀ k, (Value.slice aA mA cA).ownBlock = some k → B ≤ k ∧ k < w.heap.size := hA.lt
  have hAF : ∀ k, (Value.slice aA mA cA).ownBlock = some k → ¬ F k := fun k hk hf => by have := hFB k hf; have := (hAl k hk).1; omega
  have hAN : ∀ k, (Value.slice aA mA cA).ownBlock = some k → gN ≠ k := by
    intro k hk e
    rcases hat with h | h
    · exact hAF k hk (by rw [← e]; exact (h5 gN h).1)
    · have := (hAl k hk).2; omega
  have hlen : (s.epochs ++ [l]).length = s.epochs.length + 1 := by rw [List.length_append]; rfl
  refine ⟨fun k => F k ∨ k = gN ∨ (Value.slice aA mA cA).ownBlock = some k, ⟨hfit, .inl hF, ?_, aT, some ⟨gN, 0, none⟩, cT, cap, eas ++ [(aA, cA)], ?_, ?_, ?_, ?_, ?_, ?_, ?_⟩, ?_, ?_⟩
  · intro k hk
    rw [hset]
    rcases hk with hk | rfl | hk
    · have := hown k hk; omega
    · exact hlt
    · have := (hAl k hk).2; omega
  · have hb : wY.heap[g]? = _ := (hold g (hown g hF) hgE).trans h1
    rw [heap_set hb]
    congr 2
    rw [List.setIfInBounds_toArray]
    have e := clu_set_epochs (s := s) (vT := .slice aT s.txs.length cT) (vE := .slice aE s.epochs.length cE) hfit.credit (.slice (some ⟨gN, 0, none⟩) (s.epochs.length + 1) cap)
    rw [e, hlen]
    rfl
  · exact own_same h2 (fun k hk => by
      obtain ⟨q1, q2⟩ := h3 k hk
      rw [Below.heap_setCell _ _ _ _ (by exact q2)]
      exact hold k (hown k q1) (fun hh => (h5 k hh).2.2 hk))
  · intro k hk
    obtain ⟨q1, q2⟩ := h3 k hk
    exact ⟨.inl q1, q2⟩
  · show World.ownsRow _ 0 _ 1 (.slice (some ⟨gN, 0, none⟩) (s.epochs ++ [l]).length cap) (s.epochs ++ [l]).length (List.zipWith _ (eas ++ [(aA, cA)]) (s.epochs ++ [l]))
    rw [zip_snoc h6, hlen, hl]
    exact own_same ho (fun k hk => by
      have : gN = k := by simpa [Value.ownBlock] using hk
      subst this
      exact Below.heap_setCell _ _ _ _ (by exact hgN))
  · intro k hk
    have : gN = k := by simpa [Value.ownBlock] using hk
    subst this
    refine ⟨.inr (.inl rfl), hgN, fun hh => ?_⟩
    obtain ⟨q1, q2⟩ := h3 gN hh
    exact hnew gN q1 (fun hh' => (h5 gN hh').2.2 hh) rfl
  · rw [List.length_append, hlen, h6]; rfl
  · intro i a rs ha hr
    by_cases hi : i < s.epochs.length
    · rw [List.getElem?_append_left (by omega)] at ha
      have hr' : s.epochs[i]? = some rs := by
        have hr0 : (s.epochs ++ [l])[i]? = some rs := hr
        rw [List.getElem?_append_left hi] at hr0
        exact hr0
      obtain ⟨r1, r2⟩ := h7 i a rs ha hr'
      refine ⟨r1.same (by rw [hset]; exact hzY) (fun ad had => ?_), fun ad had => ?_⟩
      · obtain ⟨q1, q2, q3, q4⟩ := r2 ad had
        rw [Below.heap_setCell _ _ _ _ (by exact q2)]
        exact hold _ (hown _ q1) q4
      · obtain ⟨q1, q2, q3, q4⟩ := r2 ad had
        refine ⟨.inl q1, q2, q3, fun hh => ?_⟩
        have : gN = ad.block := by simpa [Value.ownBlock] using hh
        exact hnew _ q1 q4 this
    · have hie : i = s.epochs.length := by
        have := (List.getElem?_eq_some_iff.1 hr).1
        have h0 : i < (s.epochs ++ [l]).length := this
        rw [hlen] at h0
        omega
      subst hie
      have hr' : l = rs := by
        have hr0 : (s.epochs ++ [l])[s.epochs.length]? = some rs := hr
        rw [List.getElem?_append_right (Nat.le_refl _), Nat.sub_self] at hr0
        simpa using hr0
      subst hr'
      have ha' : (aA, cA) = a := by
        rw [List.getElem?_append_right (by omega), h6, Nat.sub_self] at ha
        simpa using ha
      subst ha'
      have hA' : (wY.setCell ⟨g, 15, none⟩ (.slice (some ⟨gN, 0, none⟩) (s.epochs.length + 1) cap)).ownsRow B 55 4 (.slice aA mA cA) mA (recsCells l) := own_same hA (fun k hk => by
        rw [Below.heap_setCell _ _ _ _ (by exact fun e => hAF k hk (by rw [e]; exact hF))]
        exact hold k (hAl k hk).2 (fun hh => hAF k hk (h5 k hh).1))
      refine ⟨by rw [hl]; exact recrow_own hA' hl hsm, fun ad had => ?_⟩
      have had' : aA = some ad := had
      have hk : (Value.slice aA mA cA).ownBlock = some ad.block := by rw [had']; rfl
      refine ⟨.inr (.inr hk), fun e => hAF _ hk (by rw [e]; exact hF), fun hh => hAF _ hk (h3 _ hh).1, fun hh => ?_⟩
      have : gN = ad.block := by simpa [Value.ownBlock] using hh
      exact hAN _ hk this
  · refine Kept.set (Kept.grown (Kept.of hX) hgr (fun k hk => .inl (h5 k hk).1)) (.inl hF) _
  · intro k hk
    rcases hk with hk | rfl | hk
    · exact .inl hk
    · rcases hat with h | h
      · exact .inl (h5 k h).1
      · exact .inr (by omega)
    · exact .inr (hAl k hk).1

end Go.Proofs.YtccckonckddadabGreat
namespace Go.Proofs.YtccckonckddadabGreat
open Go.RowKit
set_option linter.unusedVariables false

theorem own_down {w : World} {B B' e size n : Nat} {v : Value} {xs : List Value} (h : w.ownsRow B e size v n xs) (hb : B' ≤ B) : w.ownsRow B' e size v n xs := by
  refine ⟨h.1, ?_⟩
  rcases h.2 with h0 | ⟨g, cap, cur, hv, hB, r⟩
  · exact .inl h0
  · exact .inr ⟨g, cap, cur, hv, Nat.le_trans hb hB, r⟩

/-- A row of the call's own has grown: the cluster lies as it did. -/
theorem clu_grown {w w1 w2 : World} {g e size n : Nat} {F : Nat → Prop} {s : CluV} {v : Value} {xs : List Value} (hc : CluAt w1 g F s) (hk : Kept F w w1) (hF : ∀ k, F k → k < w.heap.size) (ho : w1.ownsRow w.heap.size e size v n xs) (hg : w1.grownBy w2 v.ownBlock) : CluAt w2 g F s ∧ Kept F w w2 :=
  ⟨hc.same hg.size (fun k hf => hg.block k (hc.own k hf) (fun e => by have := (ho.lt k e.symm).1; have := hF k hf; omega)),
   hk.grown hg (fun k e => .inr (ho.lt k e).1)⟩

/-- Where Fill stands among those that are late. -/
structure FillA (w wr : World) (g : Nat) (F : Nat → Prop) (s0 s : CluV) (i : Nat) (l : List RecV) (a : Option Addr) (m c : Nat) : Prop where
  clu : CluAt wr g F s
  kept : Kept F w wr
  len : l.length = m
  small : ∀ r ∈ l, r.t.size ≤ maxLen
  own : wr.ownsRow w.heap.size 55 4 (.slice a m c) m (recsCells l)
  left : lateFrom s0.conf.clients.toNat 0 s0 [] = lateFrom (s0.conf.clients.toNat - i) i s l
  mild : Mild s0 s
  credit : s.credit = s0.credit
  wait : l.length + waiting s = waiting s0
  all : (recs l).all Dk.recOk = true

theorem fillA_step {w wr w1 w2 : World} {g : Nat} {F : Nat → Prop} {s0 s : CluV} {i : Nat} {l : List RecV} {a a' : Option Addr} {m c c' m2 : Nat} (h : FillA w wr g F s0 s i l a m c) (hF : ∀ k, F k → k < w.heap.size) (hi : i < s0.conf.clients.toNat) (h8 : i < 8)
    (hc : CluAt w1 g F (lateV s i).1) (hk : Kept F wr w1) (hl : (lateV s i).2.length = m2) (hs : ∀ r ∈ (lateV s i).2, r.t.size ≤ maxLen)
    (ho : w1.ownsRow w.heap.size 55 4 (.slice a m c) m (recsCells l))
    (hn : w2.ownsRow w.heap.size 55 4 (.slice a' (m + m2) c') (m + m2) (recsCells (l ++ (lateV s i).2))) (hg : w1.grownBy w2 (Value.slice a m c).ownBlock) :
    FillA w w2 g F s0 (lateV s i).1 (i + 1) (l ++ (lateV s i).2) a' (m + m2) c' := by
  obtain ⟨y1, y2, y3, y4, y5⟩ := lateV_mild h.clu.fit (client := (i : Int)) (by omega) (by omega)
  obtain ⟨z1, z2⟩ := clu_grown hc (h.kept.trans hk (fun _ _ hf => hf)) hF ho hg
  refine ⟨z1, z2, by rw [List.length_append, h.len, hl], ?_, hn, ?_, h.mild.trans y1, y3.trans h.credit, ?_, recs_all h.all y5⟩
  · intro r hr
    rcases List.mem_append.1 hr with hr | hr
    · exact h.small r hr
    · exact hs r hr
  · rw [h.left, show s0.conf.clients.toNat - i = (s0.conf.clients.toNat - (i + 1)) + 1 by omega, late_step]
  · rw [List.length_append]
    have := h.wait
    omega

/-- Where Fill stands among those that are visited. -/
structure FillB (w wr : World) (g : Nat) (F : Nat → Prop) (s0 s1 s : CluV) (l1 : List RecV) (i : Nat) (room : Int) (l : List RecV) (a : Option Addr) (m c : Nat) : Prop where
  clu : CluAt wr g F s
  kept : Kept F w wr
  len : l.length = m
  small : ∀ r ∈ l, r.t.size ≤ maxLen
  own : wr.ownsRow w.heap.size 55 4 (.slice a m c) m (recsCells l)
  left : visitFrom s0.conf.clients.toNat 0 s1 s0.conf.room l1 = visitFrom (s0.conf.clients.toNat - i) i s room l
  mild : Mild s0 s
  credit : ∀ j : Nat, i ≤ j → (j : Int) < s0.conf.clients → s.credit.getD ((s0.first + j) % s0.conf.clients).toNat 0 ≤ 8 * (s0.epochs.length : Int)
  wait : l.length + waiting s = waiting s0
  all : (recs l).all Dk.recOk = true
  room0 : 0 ≤ room
  room1 : room ≤ 64

theorem fillB_step {w wr w1 w2 : World} {g : Nat} {F : Nat → Prop} {s0 s1 s : CluV} {l1 : List RecV} {i : Nat} {room : Int} {l : List RecV} {a a' : Option Addr} {m c c' m2 client : Nat} (h : FillB w wr g F s0 s1 s l1 i room l a m c) (hF : ∀ k, F k → k < w.heap.size) (hi : (i : Int) < s0.conf.clients) (hcl : client = ((s0.first + i) % s0.conf.clients).toNat)
    (hc : CluAt w1 g F (visitV s client room).1) (hk : Kept F wr w1) (hl : (visitV s client room).2.1.length = m2) (hs : ∀ r ∈ (visitV s client room).2.1, r.t.size ≤ maxLen)
    (ho : w1.ownsRow w.heap.size 55 4 (.slice a m c) m (recsCells l))
    (hn : w2.ownsRow w.heap.size 55 4 (.slice a' (m + m2) c') (m + m2) (recsCells (l ++ (visitV s client room).2.1))) (hg : w1.grownBy w2 (Value.slice a m c).ownBlock) :
    FillB w w2 g F s0 s1 (visitV s client room).1 l1 (i + 1) (visitV s client room).2.2 (l ++ (visitV s client room).2.1) a' (m + m2) c' := by
  have hf := h.clu.fit
  have hcf := hf.conf
  unfold confOk at hcf
  simp only [Bool.and_eq_true, decide_eq_true_eq] at hcf
  rw [h.mild.conf] at hcf
  have f0 := hf.first0
  have f1 := hf.first1
  rw [h.mild.first] at f0
  rw [h.mild.first, h.mild.conf] at f1
  obtain ⟨t1, t2, t3⟩ := turn_lt (f := s0.first) (i := i) (by omega : 0 < s0.conf.clients) (by omega)
  obtain ⟨y1, y2, y3, y4, y5, y6, y7⟩ := visitV_mild hf (client := client) (by rw [hcl]; exact t1) h.room0 (by rw [h.mild.epochs, hcl]; exact h.credit i (Nat.le_refl _) hi)
  obtain ⟨z1, z2⟩ := clu_grown hc (h.kept.trans hk (fun _ _ hf => hf)) hF ho hg
  refine ⟨z1, z2, by rw [List.length_append, h.len, hl], ?_, hn, ?_, h.mild.trans y1, ?_, ?_, recs_all h.all y4, y6, Int.le_trans y7 h.room1⟩
  · intro r hr
    rcases List.mem_append.1 hr with hr | hr
    · exact h.small r hr
    · exact hs r hr
  · rw [h.left, show s0.conf.clients.toNat - i = (s0.conf.clients.toNat - (i + 1)) + 1 by omega, visitFrom, h.mild.conf, h.mild.first, ← hcl]
  · intro j hj hjn
    have hne := turn_ne f0 f1 hjn hi (by omega : j ≠ i)
    rw [← hcl] at hne
    rw [List.getD_eq_getElem?_getD, y5 _ hne, ← List.getD_eq_getElem?_getD]
    exact h.credit j (by omega) hjn
  · rw [List.length_append]
    have := h.wait
    omega

end Go.Proofs.YtccckonckddadabGreat
