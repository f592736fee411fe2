import Derived.Test.YtccckonckddadabGreatJ27
import Derived.Test.YtccckonckddadabGreatJ18
import Derived.OwnWalk
import Derived.Deep.RegionHeld3
namespace Go.Proofs.YtccckonckddadabGreat
open Go.RowKit
set_option linter.unusedVariables false

/-! ### Submit -/
def submitV (s : CluV) (client id : Int) (t : ByteArray) (d : Int) : CluV × Int :=
  if ¬ (0 ≤ client ∧ client ≤ s.conf.clients - 1) then (s, 4)
  else if ¬ (0 ≤ id ∧ id ≤ 999999) then (s, 5)
  else if Dk.parseOk t.data.toList = false then (s, 1)
  else if 0 ≤ findV s.txs id then (s, 6)
  else if d < (s.epochs.length : Int) then (s, 7)
  else if s.conf.queue ≤ ((queueV s.txs client).length : Int) then (s, 8)
  else ({ s with txs := s.txs ++ [⟨client, id, t, d, 0, 0⟩] }, 0)

/-- What a call that changes a cluster leaves. -/
def CluPost (g : Nat) (F : Nat → Prop) (s' : CluV) (w w' : World) : Prop := ∃ F' : Nat → Prop, CluAt w' g F' s' ∧ Kept F w w' ∧ (∀ k, F' k → F k ∨ w.heap.size ≤ k)
theorem CluPost.same {g : Nat} {F : Nat → Prop} {s : CluV} {w w' : World} (h : CluAt w g F s) (hb : Below w.heap.size w w') : CluPost g F s w w' := ⟨F, h.below hb, Kept.of hb, fun k hk => .inl hk⟩

theorem info_tx : (Tryz.prog.info? 140).map (fun i => (i.zero, i.size, i.bytes)) = some (some (.agg #[.int .i64 0, .int .i64 0, .string ⟨#[]⟩, .int .i64 0, .int .i64 0, .int .i64 0]), 6, 56) := by kernel_rfl

theorem fit_submit {s : CluV} (h : CluFit s) {t : TxV} (ht : Dk.parseOk t.t.data.toList = true ∧ 0 ≤ t.c ∧ t.c < s.conf.clients ∧ 0 ≤ t.i ∧ t.i ≤ 999999) (hn : ∀ x ∈ s.txs, x.i ≠ t.i) : CluFit { s with txs := s.txs ++ [t] } := by
  have hmem : ∀ x ∈ s.txs ++ [t], Dk.parseOk x.t.data.toList = true ∧ 0 ≤ x.c ∧ x.c < s.conf.clients ∧ 0 ≤ x.i ∧ x.i ≤ 999999 := by
    intro x hx
    rcases List.mem_append.1 hx with hx | hx
    · exact h.tx x hx
    · have : x = t := by simpa using hx
      subst this
      exact ht
  have honce : ∀ (i j : Nat) (x y : TxV), (s.txs ++ [t])[i]? = some x → (s.txs ++ [t])[j]? = some y → x.i = y.i → i = j := by
    intro i j x y hx hy he
    by_cases hi : i < s.txs.length
    · rw [List.getElem?_append_left hi] at hx
      by_cases hj : j < s.txs.length
      · rw [List.getElem?_append_left hj] at hy
        exact h.once i j x y hx hy he
      · rw [List.getElem?_append_right (by omega)] at hy
        have hj0 : j - s.txs.length = 0 := by
          have := (List.getElem?_eq_some_iff.1 hy).1
          simp at this
          omega
        rw [hj0] at hy
        have : t = y := by simpa using hy
        subst this
        exact absurd he (hn x (List.mem_of_getElem? hx))
    · rw [List.getElem?_append_right (by omega)] at hx
      have hi0 : i - s.txs.length = 0 := by
        have := (List.getElem?_eq_some_iff.1 hx).1
        simp at this
        omega
      rw [hi0] at hx
      have hxt : t = x := by simpa using hx
      subst hxt
      by_cases hj : j < s.txs.length
      · rw [List.getElem?_append_left hj] at hy
        exact absurd he.symm (hn y (List.mem_of_getElem? hy))
      · have hj0 : j - s.txs.length = 0 := by
          have := (List.getElem?_eq_some_iff.1 hy).1
          simp at this
          omega
        omega
  exact ⟨h.conf, h.credit, h.cells, h.reps, h.many, h.first0, h.first1, txs_few (fun x hx => (hmem x hx).2.2.2) honce, hmem, honce, h.ep, h.c16, h.cr⟩

/-- The list of all that was taken in has grown by one. -/
theorem clu_submit {w wX wY : World} {g : Nat} {F : Nat → Prop} {s : CluV} {t : TxV} {aT aE : Option Addr} {cT cE : Nat} {eas : List (Option Addr × Nat)} (hF : F g) (hown : ∀ k, F k → k < w.heap.size)
    (h1 : w.heap[g]? = some (.cells (cluCells s (.slice aT s.txs.length cT) (.slice aE s.epochs.length cE)).toArray 115))
    (h3 : ∀ k, (Value.slice aT s.txs.length cT).ownBlock = some k → F k ∧ k ≠ g)
    (h4 : w.ownsRow 0 38 1 (.slice aE s.epochs.length cE) s.epochs.length (List.zipWith (fun (a : Option Addr × Nat) (rs : List RecV) => Value.slice a.1 rs.length a.2) eas s.epochs))
    (h5 : ∀ k, (Value.slice aE s.epochs.length cE).ownBlock = some k → F k ∧ k ≠ g ∧ (Value.slice aT s.txs.length cT).ownBlock ≠ some k)
    (h6 : eas.length = s.epochs.length)
    (h7 : ∀ (i : Nat) (a : Option Addr × Nat) (rs : List RecV), eas[i]? = some a → s.epochs[i]? = some rs → RecRow w a.1 rs.length rs ∧
      (∀ ad, a.1 = some ad → F ad.block ∧ ad.block ≠ g ∧ (Value.slice aT s.txs.length cT).ownBlock ≠ some ad.block ∧ (Value.slice aE s.epochs.length cE).ownBlock ≠ some ad.block))
    (hfit : CluFit { s with txs := s.txs ++ [t] }) (hX : Below w.heap.size w wX) (hgr : wX.grownBy wY (Value.slice aT s.txs.length cT).ownBlock) {gN cap : Nat}
    (ho : wY.ownsRow 0 140 6 (.slice (some ⟨gN, 0, none⟩) (s.txs.length + 1) cap) (s.txs.length + 1) (txsCells s.txs ++ txCells t))
    (hat : (Value.slice aT s.txs.length cT).ownBlock = some gN ∨ gN = wX.heap.size) :
    CluPost g F { s with txs := s.txs ++ [t] } w (wY.setCell ⟨g, 5, none⟩ (.slice (some ⟨gN, 0, none⟩) (s.txs.length + 1) cap)) := by
  have hsz := hX.size
  have hzY : w.heap.size ≤ wY.heap.size := Nat.le_trans hX.size hgr.size
  have hset : ∀ v, (wY.setCell ⟨g, 5, none⟩ v).heap.size = wY.heap.size := fun v => by simp [World.setCell]
  have hold : ∀ k, k < w.heap.size → (Value.slice aT s.txs.length cT).ownBlock ≠ some k → wY.heap[k]? = w.heap[k]? := fun k hk hne => (hgr.block k (by omega) (fun h => hne h.symm)).trans (hX.block k hk)
  have hgT : (Value.slice aT s.txs.length cT).ownBlock ≠ some g := fun h => (h3 g h).2 rfl
  have hgN : gN < wY.heap.size ∧ gN ≠ g := by
    have hlt : gN < wY.heap.size := by
      rcases ho.2 with ⟨hx, _⟩ | ⟨g', _, _, hv, _, hg', _⟩
      · cases hx
      · obtain ⟨rfl, _⟩ : gN = g' ∧ _ := by simpa using hv
        exact (heap_cells hg').2.2
    refine ⟨hlt, ?_⟩
    rcases hat with h | h
    · exact (h3 gN h).2
    · have := hown g hF; omega
  have hnew : ∀ k, F k → (Value.slice aT s.txs.length cT).ownBlock ≠ some k → gN ≠ k := by
    intro k hk hne e
    rcases hat with h | h
    · exact hne (by rw [← e]; exact h)
    · have := hown k hk; omega
  refine ⟨fun k => F k ∨ k = gN, ⟨hfit, .inl hF, ?_, some ⟨gN, 0, none⟩, aE, cap, cE, eas, ?_, ?_, ?_, ?_, ?_, h6, ?_⟩, ?_, ?_⟩
  · intro k hk
    rw [hset]
    rcases hk with hk | rfl
    · have := hown k hk; omega
    · exact hgN.1
  · have hb : wY.heap[g]? = _ := (hold g (hown g hF) hgT).trans h1
    rw [heap_set hb]
    congr 2
    rw [List.setIfInBounds_toArray, clu_set_txs]
    show (cluCells s (.slice (some ⟨gN, 0, none⟩) (s.txs.length + 1) cap) _).toArray = (cluCells { s with txs := s.txs ++ [t] } (.slice (some ⟨gN, 0, none⟩) (s.txs ++ [t]).length cap) _).toArray
    rw [List.length_append]
    rfl
  · show World.ownsRow _ 0 _ 6 (.slice (some ⟨gN, 0, none⟩) (s.txs ++ [t]).length cap) (s.txs ++ [t]).length (txsCells (s.txs ++ [t]))
    rw [txsCells_snoc, List.length_append]
    refine own_same ho (fun k hk => ?_)
    have : gN = k := by simpa [Value.ownBlock] using hk
    subst this
    exact Below.heap_setCell _ _ _ _ (by exact hgN.2)
  · intro k hk
    have : gN = k := by simpa [Value.ownBlock] using hk
    subst this
    exact ⟨.inr rfl, hgN.2⟩
  · refine own_same h4 (fun k hk => ?_)
    obtain ⟨q1, q2, q3⟩ := h5 k hk
    rw [Below.heap_setCell _ _ _ _ (by exact q2)]
    exact hold k (hown k q1) q3
  · intro k hk
    obtain ⟨q1, q2, q3⟩ := h5 k hk
    refine ⟨.inl q1, q2, fun h => ?_⟩
    have : gN = k := by simpa [Value.ownBlock] using h
    exact hnew k q1 q3 this
  · intro i a rs ha hr
    obtain ⟨r1, r2⟩ := h7 i a rs ha hr
    refine ⟨r1.same (by rw [hset]; exact hzY) (fun ad had => ?_), fun ad had => ?_⟩
    · obtain ⟨q1, q2, q3, q4⟩ := r2 ad had
      rw [Below.heap_setCell _ _ _ _ (by exact q2)]
      exact hold _ (hown _ q1) q3
    · obtain ⟨q1, q2, q3, q4⟩ := r2 ad had
      refine ⟨.inl q1, q2, fun h => ?_, q4⟩
      have : gN = ad.block := by simpa [Value.ownBlock] using h
      exact hnew _ q1 q3 this
  · refine Kept.set (Kept.grown (Kept.of hX) hgr (fun k hk => .inl (h3 k hk).1)) (.inl hF) _
  · intro k hk
    rcases hk with hk | rfl
    · exact .inl hk
    · rcases hat with h | h
      · exact .inl (h3 k h).1
      · exact .inr (by omega)

end Go.Proofs.YtccckonckddadabGreat
namespace Go.Proofs.YtccckonckddadabGreat
open Go.RowKit
set_option linter.unusedVariables false

/-! ### Reply -/
def replyV (s : CluV) (id : Int) : Int × Int × Int :=
  if findV s.txs id < 0 then (0, 0, 10) else match s.txs[(findV s.txs id).toNat]? with
    | none => (0, 0, 10)
    | some t => (t.s, t.e, 0)

set_option maxHeartbeats 1000000 in
theorem refreply_any (g : Nat) (F : Nat → Prop) (s : CluV) (id : Int) (w : World) (h : CluAt w g F s) :
    Calls Tryz.prog 38 #[.pointer (some ⟨g, 0, none⟩), .int .i64 id] w fun e w' => e = .returned (.tuple #[.int .i64 (replyV s id).1, .int .i64 (replyV s id).2.1, .int .i64 (replyV s id).2.2]) ∧ Below w.heap.size w w' := by
  have hg := h.block
  have hfew := h.fit.few
  obtain ⟨aT, aE, cT, cE, eas, hblk, htx, _⟩ := h.mem
  have c5 : w.cell? ⟨g, 5, none⟩ = some (.slice aT s.txs.length cT) := by rw [(heap_cells hblk).1]; rfl
  have H : Hid _ := h
  have HT : Hid _ := htx
  clear h hblk htx
  go_enter Tryz.func38, Tryz.ntmps38
  go_wp2_with fail
  refine (find_any g F s id _ H.out).mono ?_
  rintro e w1 ⟨rfl, rfl⟩
  by_cases hf : findV s.txs id < 0
  · have HR : Hid (replyV s id = (0, 0, 10)) := by
      show _ = _
      unfold replyV
      rw [if_pos hf]
    generalize findV s.txs id = fi at *
    go_wp2
    go_ret3
    exact ⟨by rw [HR.out]; rfl, Below.refl _ _⟩
  · obtain ⟨i, t, h1, h2, h3⟩ := find_some id s.txs 0 (by unfold findV at hf; omega)
    have hfi : findV s.txs id = (i : Int) := by unfold findV; rw [h1, Nat.zero_add]
    have HR : Hid (replyV s id = (t.s, t.e, 0)) := by
      show _ = _
      unfold replyV
      rw [if_neg hf, hfi, Int.toNat_natCast, h2]
    rewrite [hfi]
    have hil : i < s.txs.length := (List.getElem?_eq_some_iff.1 h2).1
    obtain ⟨gT, rfl, hgT, _, _, _, _, d4, d5, _⟩ := own_tx HT.out h2 hil
    have hi1 : (i : Int) < (s.txs.length : Int) := by omega
    have hi0 : (0 : Int) ≤ (i : Int) := by omega
    clear hf h1 h2 h3 hfi
    generalize s.txs.length = n at *
    go_wp2
    go_quiet (fail)
    go_wp2
    go_ret3
    exact ⟨by rw [HR.out]; rfl, below_drewN (Below.refl _ _) nq⟩

end Go.Proofs.YtccckonckddadabGreat
namespace Go.Proofs.YtccckonckddadabGreat
open Go.RowKit
set_option linter.unusedVariables false

/-! ### ends -/
def endsV (s : CluV) (i : Nat) (st : Int) : CluV := { s with txs := s.txs.modify i fun t => { t with s := st, e := s.epochs.length } }

theorem txs_modify : ∀ (ts : List TxV) (i : Nat) (t : TxV) (x y : Int), ts[i]? = some t → ((txsCells ts).set (i * 6 + 4) (.int .i64 x)).set (i * 6 + 5) (.int .i64 y) = txsCells (ts.modify i fun t => { t with s := x, e := y })
  | [], i, t, x, y, h => by simp at h
  | z :: ts, 0, t, x, y, h => rfl
  | z :: ts, i + 1, t, x, y, h => by
    have ih := txs_modify ts i t x y (by simpa using h)
    have e : txsCells (z :: ts) = txCells z ++ txsCells ts := rfl
    have hl : (txCells z).length = 6 := rfl
    rw [e, List.set_append_right _ _ (by omega), List.set_append_right _ _ (by omega), hl, show (i + 1) * 6 + 4 - 6 = i * 6 + 4 from by omega, show (i + 1) * 6 + 5 - 6 = i * 6 + 5 from by omega, ih]
    rfl

theorem modify_get (ts : List TxV) (i k : Nat) (f : TxV → TxV) : (ts.modify i f)[k]? = if i = k then ts[k]?.map f else ts[k]? := by
  rw [List.getElem?_modify]
  split <;> simp

theorem fit_ends {s : CluV} (h : CluFit s) (i : Nat) (st : Int) : CluFit (endsV s i st) := by
  have hg : ∀ (k : Nat) (y : TxV), (endsV s i st).txs[k]? = some y → ∃ x, s.txs[k]? = some x ∧ y.c = x.c ∧ y.i = x.i ∧ y.t = x.t := by
    intro k y hy
    have hy' : (s.txs.modify i fun t => { t with s := st, e := s.epochs.length })[k]? = some y := hy
    rw [modify_get] at hy'
    split at hy'
    · cases hx : s.txs[k]? with
      | none => rw [hx] at hy'; cases hy'
      | some x =>
        rw [hx] at hy'
        have : y = { x with s := st, e := s.epochs.length } := by simpa using hy'.symm
        subst this
        exact ⟨x, rfl, rfl, rfl, rfl⟩
    · exact ⟨y, hy', rfl, rfl, rfl⟩
  refine ⟨h.conf, h.credit, h.cells, h.reps, h.many, h.first0, h.first1, ?_, ?_, ?_, h.ep, h.c16, h.cr⟩
  · show (s.txs.modify i _).length ≤ _
    rw [List.length_modify]; exact h.few
  · intro y hy
    obtain ⟨k, hk⟩ := List.getElem?_of_mem hy
    obtain ⟨x, hx, e1, e2, e3⟩ := hg k y hk
    have := h.tx x (List.mem_of_getElem? hx)
    rw [e1, e2, e3]
    exact this
  · intro a b x y hx hy he
    obtain ⟨x', hx', _, e2, _⟩ := hg a x hx
    obtain ⟨y', hy', _, f2, _⟩ := hg b y hy
    exact h.once a b x' y' hx' hy' (by rw [← e2, ← f2]; exact he)

/-- Two cells of one transaction are written. -/
theorem clu_ends {w : World} {g : Nat} {F : Nat → Prop} {s : CluV} (h : CluAt w g F s) {i : Nat} {t : TxV} (hi : s.txs[i]? = some t) (st : Int) {gT cX : Nat} (hgT : w.cell? ⟨g, 5, none⟩ = some (.slice (some ⟨gT, 0, none⟩) s.txs.length cX)) :
    CluAt ((w.setCell ⟨gT, i * 6 + 4, none⟩ (.int .i64 st)).setCell ⟨gT, i * 6 + 5, none⟩ (.int .i64 (s.epochs.length : Int))) g F (endsV s i st) ∧ Kept F w ((w.setCell ⟨gT, i * 6 + 4, none⟩ (.int .i64 st)).setCell ⟨gT, i * 6 + 5, none⟩ (.int .i64 (s.epochs.length : Int))) := by
  obtain ⟨aT, aE, cT, cE, eas, h1, h2, h3, h4, h5, h6, h7⟩ := h.mem
  have ha : aT = some ⟨gT, 0, none⟩ := by
    have e : w.cell? ⟨g, 5, none⟩ = some (.slice aT s.txs.length cT) := by rw [(heap_cells h1).1]; rfl
    rw [e] at hgT
    have := Option.some.inj hgT
    injection this
  subst ha
  have hil : i < s.txs.length := (List.getElem?_eq_some_iff.1 hi).1
  obtain ⟨hFT, hneT⟩ := h3 gT rfl
  have hl : (endsV s i st).txs.length = s.txs.length := by show (s.txs.modify i _).length = _; rw [List.length_modify]
  have hother : ∀ k, k ≠ gT → ((w.setCell ⟨gT, i * 6 + 4, none⟩ (.int .i64 st)).setCell ⟨gT, i * 6 + 5, none⟩ (.int .i64 (s.epochs.length : Int))).heap[k]? = w.heap[k]? := fun k hk => by
    rw [Below.heap_setCell _ _ _ _ (by exact hk), Below.heap_setCell _ _ _ _ (by exact hk)]
  have hsz : ((w.setCell ⟨gT, i * 6 + 4, none⟩ (.int .i64 st)).setCell ⟨gT, i * 6 + 5, none⟩ (.int .i64 (s.epochs.length : Int))).heap.size = w.heap.size := by simp [World.setCell]
  refine ⟨⟨fit_ends h.fit i st, h.gF, fun k hk => by rw [hsz]; exact h.own k hk, some ⟨gT, 0, none⟩, aE, cT, cE, eas, ?_, ?_, ?_, ?_, ?_, h6, ?_⟩, ?_⟩
  · rw [hother g (fun e => hneT e.symm), hl]
    exact h1
  · rw [hl]
    rcases h2.2 with ⟨hx, _⟩ | ⟨g', cap, cur, hv, _, hg', q1, q2, q3, q4⟩
    · cases hx
    · obtain ⟨rfl, rfl⟩ : gT = g' ∧ cT = cap := by simpa using hv
      refine ⟨by rw [txsCells_len, hl], .inr ⟨gT, cT, (cur.setIfInBounds (i * 6 + 4) (.int .i64 st)).setIfInBounds (i * 6 + 5) (.int .i64 (s.epochs.length : Int)), rfl, Nat.zero_le _, heap_set (heap_set hg' _) _, q1, q2, by simp [q3], ?_⟩⟩
      rw [Array.toList_setIfInBounds, Array.toList_setIfInBounds, List.take_set, List.take_set, q4]
      exact txs_modify s.txs i t st _ hi
  · rw [hl]; exact h3
  · exact own_same h4 (fun k hk => hother k (fun e => by subst e; exact (h5 k hk).2.2 rfl))
  · rw [hl]; exact h5
  · intro j a rs ha hr
    obtain ⟨r1, r2⟩ := h7 j a rs ha hr
    rw [hl]
    exact ⟨r1.same (by rw [hsz]; exact Nat.le_refl _) (fun ad had => hother _ (fun e => (r2 ad had).2.2.1 (by rw [← e]; rfl))), r2⟩
  · exact ((Kept.refl F w).set (.inl hFT) _).set (.inl hFT) _

set_option maxRecDepth 100000 in
set_option maxHeartbeats 2000000 in
theorem ends_any (g : Nat) (F : Nat → Prop) (s : CluV) (i : Nat) (t : TxV) (st : Int) (w : World) (h : CluAt w g F s) (hi : s.txs[i]? = some t) :
    Calls Tryz.prog 97 #[.pointer (some ⟨g, 0, none⟩), .int .i64 i, .int .i64 st] w fun e w' => e = .returned (.tuple #[]) ∧ CluAt w' g F (endsV s i st) ∧ Kept F w w' := by
  have hg := h.block
  have hfew := h.fit.few
  obtain ⟨aT, aE, cT, cE, eas, m1, m2, m3, _⟩ := h.mem
  have c5 : w.cell? ⟨g, 5, none⟩ = some (.slice aT s.txs.length cT) := by rw [(heap_cells m1).1]; rfl
  have c15 : w.cell? ⟨g, 15, none⟩ = some (.slice aE s.epochs.length cE) := by
    rw [(heap_cells m1).1, List.getElem?_toArray]
    exact clu_epochs h.fit.credit
  have hil : i < s.txs.length := (List.getElem?_eq_some_iff.1 hi).1
  obtain ⟨gT, rfl, hgT, _, _, _, _, d4, d5, fT⟩ := own_tx m2 hi hil
  have hne : g ≠ gT := fun e => (m3 gT rfl).2 e.symm
  have HC : Hid (CluAt ((w.setCell ⟨gT, i * 6 + 4, none⟩ (.int .i64 st)).setCell ⟨gT, i * 6 + 5, none⟩ (.int .i64 (s.epochs.length : Int))) g F (endsV s i st) ∧ Kept F w ((w.setCell ⟨gT, i * 6 + 4, none⟩ (.int .i64 st)).setCell ⟨gT, i * 6 + 5, none⟩ (.int .i64 (s.epochs.length : Int)))) := clu_ends h hi st c5
  have i1 : (i : Int) < (s.txs.length : Int) := by omega
  have i0 : (0 : Int) ≤ (i : Int) := by omega
  clear m1 m2 m3 h hi
  generalize s.txs.length = n at *
  generalize s.epochs.length = ne at *
  go_enter Tryz.func97, Tryz.ntmps97
  go_wp2
  have hsz : (w.setCell ⟨gT, i * 6 + 4, none⟩ (.int .i64 st)).heap.size = w.heap.size := by simp [World.setCell]
  have e5 : (w.setCell ⟨gT, i * 6 + 4, none⟩ (.int .i64 st)).cell? ⟨g, 5, none⟩ = some (.slice (some ⟨gT, 0, none⟩) n cT) := (World.cell?_of_block (a := ⟨g, 5, none⟩) (Below.heap_setCell _ _ _ _ hne)).trans c5
  have e15 : (w.setCell ⟨gT, i * 6 + 4, none⟩ (.int .i64 st)).cell? ⟨g, 15, none⟩ = some (.slice aE ne cE) := (World.cell?_of_block (a := ⟨g, 15, none⟩) (Below.heap_setCell _ _ _ _ hne)).trans c15
  have d5' : (w.setCell ⟨gT, i * 6 + 4, none⟩ (.int .i64 st)).cell? ⟨gT, i * 6 + 5, none⟩ = some (.int .i64 t.e) := by
    have hne5 : (⟨gT, i * 6 + 4, none⟩ : Addr) ≠ ⟨gT, i * 6 + 5, none⟩ := by simp
    first | exact (World.cell?_setCell_other hne5).trans d5 | exact (World.cell?_setCell_other w _ _ _ hne5).trans d5 | exact (World.cell?_setCell_other _ _ _ _ hne5).trans d5
  have f5' : ∀ x, (w.setCell ⟨gT, i * 6 + 4, none⟩ (.int .i64 st)).frozen? ⟨gT, x, none⟩ = false := fun x => by rw [World.frozen?_setCell]; exact fT x
  generalize w.setCell ⟨gT, i * 6 + 4, none⟩ (.int .i64 st) = W1 at *
  clear c5 c15 d4 d5 fT
  go_region_held3 (fun W => W.cell? ⟨g, 5, none⟩ = some (.slice (some ⟨gT, 0, none⟩) n cT) ∧ W.cell? ⟨g, 15, none⟩ = some (.slice aE ne cE))
    (first | exact ⟨e5, e15⟩ | exact ⟨(World.cell?_of_block (a := ⟨g, 5, none⟩) (Below.heap_setCell W1 ⟨gT, i * 6 + 5, none⟩ _ g hne)).trans e5, (World.cell?_of_block (a := ⟨g, 15, none⟩) (Below.heap_setCell W1 ⟨gT, i * 6 + 5, none⟩ _ g hne)).trans e15⟩) (fail)
  go_end0
  exact ⟨rfl, HC.out.1.below (Below.refl _ _).drew, HC.out.2.trans (G := fun _ => False) (Kept.of (Below.refl _ _).drew) (fun _ _ hh => hh.elim)⟩

end Go.Proofs.YtccckonckddadabGreat
namespace Go.Proofs.YtccckonckddadabGreat
open Go.RowKit
set_option linter.unusedVariables false

/-! ### late -/
def lateGo (client : Int) : List Nat → CluV → List RecV → CluV × List RecV
  | [], s, l => (s, l)
  | q :: qs, s, l => match s.txs[q]? with
    | none => lateGo client qs s l
    | some t => if t.d < (s.epochs.length : Int) then lateGo client qs (endsV s q 3) (l ++ [⟨client, t.i, true, ⟨#[]⟩⟩]) else lateGo client qs s l
def lateV (s : CluV) (client : Int) : CluV × List RecV := lateGo client (queueV s.txs client) s []

theorem queue_lt (client : Int) : ∀ (l : List TxV) (k : Nat) (q : Nat), q ∈ queueFrom client k l → k ≤ q ∧ q < k + l.length
  | [], k, q, h => by simp [queueFrom] at h
  | t :: l, k, q, h => by
    rw [queueFrom] at h
    split at h
    · rcases List.mem_cons.1 h with rfl | h
      · simp
      · have := queue_lt client l (k + 1) q h
        rw [List.length_cons]; omega
    · have := queue_lt client l (k + 1) q h
      rw [List.length_cons]; omega

theorem queue_len (client : Int) : ∀ (l : List TxV) (k : Nat), (queueFrom client k l).length ≤ l.length
  | [], _ => Nat.le_refl _
  | t :: l, k => by
    have := queue_len client l (k + 1)
    rw [queueFrom]
    split
    · rw [List.length_cons, List.length_cons]; omega
    · rw [List.length_cons]; omega

theorem late_no {client : Int} {q : List Nat} {k x : Nat} {s : CluV} {l : List RecV} {t : TxV} (hk : q[k]? = some x) (hx : s.txs[x]? = some t) (hd : ¬ t.d < (s.epochs.length : Int)) : lateGo client (q.drop k) s l = lateGo client (q.drop (k + 1)) s l := by
  obtain ⟨hkl, rfl⟩ := List.getElem?_eq_some_iff.1 hk
  rw [List.drop_eq_getElem_cons hkl, lateGo, hx]
  simp only
  rw [if_neg hd]
theorem late_yes {client : Int} {q : List Nat} {k x : Nat} {s : CluV} {l : List RecV} {t : TxV} (hk : q[k]? = some x) (hx : s.txs[x]? = some t) (hd : t.d < (s.epochs.length : Int)) : lateGo client (q.drop k) s l = lateGo client (q.drop (k + 1)) (endsV s x 3) (l ++ [⟨client, t.i, true, ⟨#[]⟩⟩]) := by
  obtain ⟨hkl, rfl⟩ := List.getElem?_eq_some_iff.1 hk
  rw [List.drop_eq_getElem_cons hkl, lateGo, hx]
  simp only
  rw [if_pos hd]

/-- Where a round of late stands. -/
structure LateAt (w wr : World) (g : Nat) (F : Nat → Prop) (s0 s : CluV) (client : Int) (q : List Nat) (aQ : Option Addr) (cQ k : Nat) (l : List RecV) (a : Option Addr) (m c : Nat) : Prop where
  clu : CluAt wr g F s
  kept : Kept F w wr
  len : l.length = m
  small : ∀ r ∈ l, r.t.size ≤ maxLen
  own : wr.ownsRow w.heap.size 55 4 (.slice a m c) m (recsCells l)
  qown : wr.ownsRow w.heap.size 3 1 (.slice aQ q.length cQ) q.length (natCells q)
  left : lateGo client q s0 [] = lateGo client (q.drop k) s l
  same : s.txs.length = s0.txs.length ∧ s.epochs.length = s0.epochs.length
  apart : ∀ x, (Value.slice a m c).ownBlock = some x → (Value.slice aQ q.length cQ).ownBlock ≠ some x

theorem nat_cell {w : World} {B n c : Nat} {a : Option Addr} {q : List Nat} (h : w.ownsRow B 3 1 (.slice a n c) n (natCells q)) {k x : Nat} (hk : q[k]? = some x) (hn : k < n) : ∃ g, a = some ⟨g, 0, none⟩ ∧ g < w.heap.size ∧ w.cell? ⟨g, k, none⟩ = some (.int .i64 (x : Int)) := by
  obtain ⟨g, rfl, hg, hc, _⟩ := own_cell h (by omega)
  refine ⟨g, rfl, hg, hc k _ ?_⟩
  unfold natCells
  rw [List.getElem?_map, hk]; rfl

theorem own_kept {F : Nat → Prop} {w wr wr' : World} {e size n : Nat} {v : Value} {xs : List Value} (h : wr.ownsRow w.heap.size e size v n xs) (hk : Kept F wr wr') (hF : ∀ k, F k → k < w.heap.size) : wr'.ownsRow w.heap.size e size v n xs :=
  own_same h (fun k hk' => hk.block k (h.lt k hk').2 (fun hf => by have := hF k hf; have := (h.lt k hk').1; omega))

def LatePost (g : Nat) (F : Nat → Prop) (x : CluV × List RecV) (w : World) (e : Ending) (w' : World) : Prop :=
  ∃ (a : Option Addr) (m c : Nat), e = .returned (.slice a m c) ∧ CluAt w' g F x.1 ∧ Kept F w w' ∧ x.2.length = m ∧ (∀ r ∈ x.2, r.t.size ≤ maxLen) ∧ w'.ownsRow w.heap.size 55 4 (.slice a m c) m (recsCells x.2)

set_option maxRecDepth 100000 in
set_option maxHeartbeats 4000000 in
theorem late_any (g : Nat) (F : Nat → Prop) (s : CluV) (client : Int) (w : World) (h : CluAt w g F s) :
    Calls Tryz.prog 64 #[.pointer (some ⟨g, 0, none⟩), .int .i64 client] w (LatePost g F (lateV s client) w) := by
  obtain ⟨ti, hi, hz0, hz1, hz2⟩ := info_parts info_rec
  have HI : Hid (_ ∧ _ ∧ _ ∧ _) := ⟨hi, hz0, hz1, hz2⟩
  clear hi hz0 hz1 hz2
  have hFw := h.own
  have HFw : Hid _ := hFw
  have hfew := h.fit.few
  have H : Hid _ := h
  clear h hFw
  go_enter Tryz.func64, Tryz.ntmps64
  go_wp2_with fail
  refine (queue_any g F s client _ H.out).mono ?_
  rintro e w1 ⟨aQ, cQ, rfl, hQ⟩
  have HV : Hid (lateV s client = lateGo client (queueV s.txs client) s []) := rfl
  have HQM : Hid ((queueV s.txs client).length ≤ 1000000) := Nat.le_trans (queue_len client s.txs 0) hfew
  have HLt : Hid (∀ x ∈ queueV s.txs client, x < s.txs.length) := fun x hx => by have := queue_lt client s.txs 0 x hx; omega
  generalize queueV s.txs client = q at *
  have H0 : Hid (LateAt w w1 g F s s client q aQ cQ 0 [] none 0 0) := ⟨H.out.below hQ.bel, Kept.of hQ.bel, rfl, by simp, World.ownsRow_nil _ _ _ _, hQ.own, rfl, ⟨rfl, rfl⟩, (fun x hx => by cases hx)⟩
  clear hQ
  go_wp2
  go_loopw [5, 7] (fun v5 v7 wr => ∃ (k m c : Nat) (a : Option Addr) (s' : CluV) (l : List RecV), v5 = .slice a m c ∧ v7 = .int .i64 k ∧ k ≤ q.length ∧ m ≤ k ∧ Hid (LateAt w wr g F s s' client q aQ cQ k l a m c)) (fun _ v7 _ => q.length - (intOf v7).toNat)
  case atStart => exact ⟨0, 0, 0, none, s, [], rfl, rfl, Nat.zero_le _, Nat.le_refl _, H0⟩
  case round =>
    obtain ⟨k, m, c, a, s', l, rfl, rfl, hk, hmk, HL⟩ := hrel
    have hqM : q.length ≤ 1000000 := HQM.out
    by_cases hlt : k < q.length
    · have hqk := List.getElem?_eq_getElem hlt
      obtain ⟨gQ, rfl, hgQ, d0⟩ := nat_cell HL.out.qown hqk hlt
      have hxl : q[k] < s'.txs.length := by rw [HL.out.same.1]; exact HLt.out _ (List.getElem_mem hlt)
      have htx := List.getElem?_eq_getElem hxl
      obtain ⟨aT, aE, cT, cE, eas, m1, m2, m3, _⟩ := HL.out.clu.mem
      obtain ⟨gT, rfl, hgT, t0, t1, t2, t3, t4, t5, _⟩ := own_tx m2 htx hxl
      have c5 : wr.cell? ⟨g, 5, none⟩ = some (.slice (some ⟨gT, 0, none⟩) s'.txs.length cT) := by rw [(heap_cells m1).1]; rfl
      have c15 : wr.cell? ⟨g, 15, none⟩ = some (.slice aE s'.epochs.length cE) := by
        rw [(heap_cells m1).1, List.getElem?_toArray]
        exact clu_epochs HL.out.clu.fit.credit
      have hg := HL.out.clu.block
      have HTx : Hid _ := htx
      have HQk : Hid _ := hqk
      have HPt : Hid (s'.txs[q[k]].t.size ≤ 60) := by
        have := HL.out.clu.fit.tx _ (List.mem_of_getElem? htx)
        have h2 := parse_len this.1
        rw [len_list] at h2
        exact h2
      clear m1 m2 m3 htx hqk
      generalize s'.txs[q[k]] = t at *
      generalize q[k] = x at *
      have x1 : (x : Int) < (s'.txs.length : Int) := by omega
      have x0 : (0 : Int) ≤ (x : Int) := by omega
      have k1 : (k : Int) < (q.length : Int) := by omega
      have k0 : (0 : Int) ≤ (k : Int) := by omega
      obtain ⟨tc, tid, tt, td, ts, te⟩ := t
      simp only at t0 t1 t2 t3 t4 t5
      go_wp2
      go_region_held3 (fun W => Below wr.heap.size wr W ∧ (∀ b x, b < wr.heap.size → W.cell? ⟨b, x, none⟩ = wr.cell? ⟨b, x, none⟩))
        (first | (with_reducible exact doS_0) | (with_reducible exact doS_1)) (fail)
      have HX : Hid ((wr.alloc (.cells #[.int .i64 tc, .int .i64 tid, .string tt, .int .i64 td, .int .i64 ts, .int .i64 te] 140)).drew.heap[wr.heap.size]? = some (.cells #[.int .i64 tc, .int .i64 tid, .string tt, .int .i64 td, .int .i64 ts, .int .i64 te] 140) ∧ Below wr.heap.size wr (wr.alloc (.cells #[.int .i64 tc, .int .i64 tid, .string tt, .int .i64 td, .int .i64 ts, .int .i64 te] 140)).drew) :=
        ⟨heap_at rfl, ((Below.refl _ _).alloc (Nat.le_refl _) _).drew⟩
      generalize (wr.alloc (.cells #[.int .i64 tc, .int .i64 tid, .string tt, .int .i64 td, .int .i64 ts, .int .i64 te] 140)).drew = W2 at *
      have v15 := (HX.out.2.cell (p := ⟨g, 15, none⟩) hg).trans c15
      have vq := (HX.out.2.cell (p := ⟨gQ, k, none⟩) hgQ).trans d0
      have hgW : g < W2.heap.size := Nat.lt_of_lt_of_le hg HX.out.2.size
      have hgQW : gQ < W2.heap.size := Nat.lt_of_lt_of_le hgQ HX.out.2.size
      have HCl : Hid (CluAt W2 g F s') := HL.out.clu.below HX.out.2
      have HKw : Hid (Kept F w W2) := HL.out.kept.trans (G := fun _ => False) (Kept.of HX.out.2) (fun _ _ hh => hh.elim)
      have hzr : w.heap.size ≤ wr.heap.size := HL.out.kept.size
      have hgxF : Hid (¬ F wr.heap.size) := fun hf => by have := HFw.out _ hf; omega
      obtain ⟨b0, bf, bz⟩ := heap_cells HX.out.1
      have HO2 : Hid (W2.ownsRow w.heap.size 55 4 (.slice a m c) m (recsCells l)) := own_below HL.out.own HX.out.2
      have HQ2 : Hid (W2.ownsRow w.heap.size 3 1 (.slice (some ⟨gQ, 0, none⟩) q.length cQ) q.length (natCells q)) := own_below HL.out.qown HX.out.2
      generalize hgx : wr.heap.size = gx at *
      clear t0 t1 t2 t3 t4 t5 c5 c15 d0
      obtain ⟨ne, hne⟩ : ∃ x, s'.epochs.length = x := ⟨_, rfl⟩
      rw [hne] at v15
      have HNe : Hid _ := hne
      clear hne
      by_cases hd : td < (ne : Int)
      · have HS : Hid _ := late_yes (client := client) (l := l) HQk.out HTx.out (by rw [HNe.out]; exact hd)
        have b3 : W2.cell? ⟨gx, 3, none⟩ = some (.int .i64 td) := by rw [b0]; rfl
        go_wp2
        go_region_held3 (fun W => W.cell? ⟨g, 15, none⟩ = some (.slice aE ne cE) ∧ W.cell? ⟨gx, 3, none⟩ = some (.int .i64 td)) (exact ⟨v15, b3⟩) (fail)
        have HB3 : Hid (Below W2.heap.size W2 W2.drew) := (Below.refl _ _).drew
        have HC3 : Hid (CluAt W2.drew g F s') := HCl.out.below HB3.out
        have HK3 : Hid (Kept F w W2.drew) := HKw.out.trans (G := fun _ => False) (Kept.of HB3.out) (fun _ _ hh => hh.elim)
        have HO3 : Hid (W2.drew.ownsRow w.heap.size 55 4 (.slice a m c) m (recsCells l)) := own_below HO2.out HB3.out
        have HQ3 : Hid (W2.drew.ownsRow w.heap.size 3 1 (.slice (some ⟨gQ, 0, none⟩) q.length cQ) q.length (natCells q)) := own_below HQ2.out HB3.out
        have HX3 : Hid (W2.drew.heap[gx]? = some (.cells #[.int .i64 tc, .int .i64 tid, .string tt, .int .i64 td, .int .i64 ts, .int .i64 te] 140)) := HX.out.1
        have vq3 : W2.drew.cell? ⟨gQ, k, none⟩ = some (.int .i64 (x : Int)) := vq
        have hgQ3 : gQ < W2.drew.heap.size := hgQW
        have hgx3 : gx < W2.drew.heap.size := bz
        have hz3 : w.heap.size ≤ W2.drew.heap.size := HK3.out.size
        generalize W2.drew = W3 at *
        clear v15 vq b0 bf b3 HB3 HCl HKw HO2 HQ2 HX hgW hgQW bz
        go_wp2_with fail
        refine (ends_any g F s' x ⟨tc, tid, tt, td, ts, te⟩ 3 _ HC3.out HTx.out).mono ?_
        rintro e w4 ⟨rfl, hC4, hK4⟩
        have hb4 : w4.heap[gx]? = _ := (hK4.block gx hgx3 hgxF.out).trans HX3.out
        obtain ⟨y0, yf, yz⟩ := heap_cells hb4
        have y1 : w4.cell? ⟨gx, 1, none⟩ = some (.int .i64 tid) := by rw [y0]; rfl
        have HC4 : Hid _ := hC4
        have HK4 : Hid (Kept F w w4) := HK3.out.trans hK4 (fun _ _ hf => hf)
        have HO4 : Hid (w4.ownsRow w.heap.size 55 4 (.slice a m c) m (recsCells l)) := own_kept HO3.out hK4 HFw.out
        have HQ4 : Hid (w4.ownsRow w.heap.size 3 1 (.slice (some ⟨gQ, 0, none⟩) q.length cQ) q.length (natCells q)) := own_kept HQ3.out hK4 HFw.out
        have hz4 : w.heap.size ≤ w4.heap.size := HK4.out.size
        clear hC4 hK4 hb4 y0 vq3
        go_wp2_with (at_builtin; refine wpList_append_lies _ rfl (.tmp 42) (.tmp 47) 38 rfl w.heap.size 55 ti (.agg #[.int .i64 0, .int .i64 0, .bool false, .string ⟨#[]⟩]) 4 40 Tryz.underlying38 HI.out.1 HI.out.2.1 HI.out.2.2.1 HI.out.2.2.2 rfl (by decide) (.slice a m c) m (recsCells l) rfl (HO4.out.alloc _) ⟨w4.heap.size, 0, none⟩ 1 1 [.int .i64 client, .int .i64 tid, .bool true, .string ⟨#[]⟩] rfl rfl ?c1 ?c2 ?c3 ?c4 ?c5 ?c6 _ rfl ?_)
        try (case c1 => exact cells_new _ _ rfl [.int .i64 client, .int .i64 tid, .bool true, .string ⟨#[]⟩] _)
        try (case c2 => intro u hu; simp at hu; rcases hu with rfl | rfl | rfl | rfl <;> rfl)
        try (case c3 => decide)
        try (case c4 => unfold maxLen; omega)
        try (case c5 => omega)
        try (case c6 => first | omega | (simp; omega))
        intro gN cap w7 hown7 hgr7 hat7 hlt7
        have hzx : (w4.alloc (.cells #[.int .i64 client, .int .i64 tid, .bool true, .string ⟨#[]⟩] 55)).heap.size = w4.heap.size + 1 := by simp
        have hrow : ∀ y, (Value.slice a m c).ownBlock = some y → w.heap.size ≤ y ∧ y < w4.heap.size := HO4.out.lt
        have hsame7 : ∀ y, y < w4.heap.size → (Value.slice a m c).ownBlock ≠ some y → w7.heap[y]? = w4.heap[y]? := fun y hy hne => (hgr7.block y (by rw [hzx]; omega) (fun hh => hne hh.symm)).trans (heap_old hy)
        have HC7 : Hid (CluAt w7 g F (endsV s' x 3)) := HC4.out.same (by have := hgr7.size; rw [hzx] at this; omega) (fun y hy => hsame7 y (HC4.out.own y hy) (fun hh => by have := (hrow y hh).1; have := HFw.out y hy; omega))
        have HK7 : Hid (Kept F w w7) := (HK4.out.trans (G := fun _ => False) (Kept.of ((Below.refl _ _).alloc (Nat.le_refl _) _)) (fun _ _ hh => hh.elim)).grown hgr7 (fun y hy => .inr (hrow y hy).1)
        have HQ7 : Hid (w7.ownsRow w.heap.size 3 1 (.slice (some ⟨gQ, 0, none⟩) q.length cQ) q.length (natCells q)) := own_same HQ4.out (fun y hy => hsame7 y (HQ4.out.lt y hy).2 (fun hh => HL.out.apart y hh hy))
        have HAp : Hid (∀ y, (Value.slice (some ⟨gN, 0, none⟩) (m + 1) cap).ownBlock = some y → (Value.slice (some ⟨gQ, 0, none⟩) q.length cQ).ownBlock ≠ some y) := by
          intro y hy hh
          have e1 : gN = y := by simpa [Value.ownBlock] using hy
          subst e1
          rcases hat7 with h8 | h8
          · exact HL.out.apart _ h8 hh
          · have := (HQ4.out.lt gN hh).2
            first | omega | (rw [hzx] at h8; omega) | (simp at h8; omega)
        have HN : Hid (LateAt w w7 g F s (endsV s' x 3) client q (some ⟨gQ, 0, none⟩) cQ (k + 1) (l ++ [⟨client, tid, true, ⟨#[]⟩⟩]) (some ⟨gN, 0, none⟩) (m + 1) cap) := by
          refine ⟨HC7.out, HK7.out, by rw [List.length_append, HL.out.len]; rfl, ?_, ?_, HQ7.out, HL.out.left.trans HS.out, ?_, HAp.out⟩
          · intro r hr
            rcases List.mem_append.1 hr with hr | hr
            · exact HL.out.small r hr
            · have : r = ⟨client, tid, true, ⟨#[]⟩⟩ := by simpa using hr
              subst this
              exact Nat.zero_le _
          · rw [recsCells_snoc]; exact hown7
          · refine ⟨?_, HL.out.same.2⟩
            show (s'.txs.modify x _).length = _
            rw [List.length_modify]; exact HL.out.same.1
        clear hown7 hgr7 hat7 hlt7 hrow hsame7 y1 yf yz
        go_wp2
        go_roundw
        case rel => exact ⟨k + 1, m + 1, cap, some ⟨gN, 0, none⟩, _, _, rfl, by go_num, by omega, by omega, HN⟩
        case measure => simp [intOf]; omega
      · have HS : Hid _ := late_no (client := client) (l := l) HQk.out HTx.out (by rw [HNe.out]; exact hd)
        have b3 : W2.cell? ⟨gx, 3, none⟩ = some (.int .i64 td) := by rw [b0]; rfl
        go_wp2
        go_region_held3 (fun W => W.cell? ⟨g, 15, none⟩ = some (.slice aE ne cE) ∧ W.cell? ⟨gx, 3, none⟩ = some (.int .i64 td)) (exact ⟨v15, b3⟩) (fail)
        have HB3 : Hid (Below W2.heap.size W2 W2.drew) := (Below.refl _ _).drew
        have HN : Hid (LateAt w W2.drew g F s s' client q (some ⟨gQ, 0, none⟩) cQ (k + 1) l a m c) :=
          ⟨HCl.out.below HB3.out, HKw.out.trans (G := fun _ => False) (Kept.of HB3.out) (fun _ _ hh => hh.elim), HL.out.len, HL.out.small, own_below HO2.out HB3.out, own_below HQ2.out HB3.out, HL.out.left.trans HS.out, HL.out.same, HL.out.apart⟩
        generalize W2.drew = W3 at *
        clear v15 vq b0 bf b3
        go_wp2
        go_roundw
        case rel => exact ⟨k + 1, m, c, a, s', l, rfl, by go_num, by omega, by omega, HN⟩
        case measure => simp [intOf]; omega
    · have HE : Hid (lateV s client = (s', l)) := by
        show _ = _
        rw [HV.out, HL.out.left, List.drop_of_length_le (by omega)]
        rfl
      have hkq : k = q.length := by omega
      subst hkq
      go_wp2
      go_ret
      exact ⟨a, m, c, rfl, by rw [HE.out]; exact HL.out.clu, HL.out.kept, by rw [HE.out]; exact HL.out.len, by rw [HE.out]; exact HL.out.small, by rw [HE.out]; exact HL.out.own⟩

end Go.Proofs.YtccckonckddadabGreat
namespace Go.Proofs.YtccckonckddadabGreat
open Go.RowKit
set_option linter.unusedVariables false

/-! ### Cost, front -/
def costV (t : ByteArray) : Nat := (Dk.splitAll 59 (Dk.cutAt 124 t.data.toList).2.1).length

theorem cost_any (t : ByteArray) (w : World) (ht : t.size ≤ maxLen) (hok : Dk.parseOk t.data.toList = true) :
    Calls Tryz.prog 99 #[.string t] w fun e w' => e = .returned (.int .i64 (costV t : Int)) ∧ Below w.heap.size w w' := by
  have HK : Hid _ := hok
  clear hok
  go_enter Tryz.func99, Tryz.ntmps99
  go_wp2_with fail
  refine (parts_any t _ ht).mono ?_
  rintro e w1 ⟨mk, a, n, c, ps, rfl, hy, _, hB⟩
  have HN : Hid (n = costV t) := by
    show _ = _
    obtain ⟨_, h2, h3, _⟩ := hy HK.out
    unfold costV
    rw [← h3, h2]
    unfold lists
    rw [List.length_map]
  have HB : Hid _ := hB
  clear hy hB
  go_wp2
  go_ret
  exact ⟨by rw [← HN.out]; rfl, HB.out⟩

theorem split_pos (l : List UInt8) : 1 ≤ (Dk.splitAll 59 l).length := by
  rw [Dk.splitAll_cut 59 l]
  simp
theorem cost_le {t : ByteArray} (hok : Dk.parseOk t.data.toList = true) : 1 ≤ costV t ∧ costV t ≤ 8 := by
  refine ⟨split_pos _, ?_⟩
  unfold Dk.parseOk at hok
  rw [Bool.and_eq_true] at hok
  have h := hok.2
  unfold Dk.opsOk at h
  rw [Bool.and_eq_true, decide_eq_true_eq] at h
  exact h.1

def frontV (s : CluV) (client : Nat) (room : Int) : Int :=
  match queueV s.txs client with
  | [] => -1
  | q :: _ => match s.txs[q]? with
    | none => -1
    | some t => if s.credit.getD client 0 < (costV t.t : Int) ∨ room < (costV t.t : Int) then (-1 : Int) else (q : Int)

set_option maxRecDepth 100000 in
set_option maxHeartbeats 4000000 in
theorem front_any (g : Nat) (F : Nat → Prop) (s : CluV) (client : Nat) (room : Int) (w : World) (h : CluAt w g F s) (hc : client < 8) :
    Calls Tryz.prog 98 #[.pointer (some ⟨g, 0, none⟩), .int .i64 client, .int .i64 room] w fun e w' => e = .returned (.int .i64 (frontV s client room)) ∧ Below w.heap.size w w' := by
  have hg := h.block
  have hfew := h.fit.few
  have H : Hid _ := h
  clear h
  go_enter Tryz.func98, Tryz.ntmps98
  go_wp2_with fail
  refine (queue_any g F s client _ H.out).mono ?_
  rintro e w1 ⟨aQ, cQ, rfl, hQ⟩
  have HV : Hid (frontV s client room = match queueV s.txs client with | [] => -1 | q :: _ => match s.txs[q]? with | none => -1 | some t => if s.credit.getD client 0 < (costV t.t : Int) ∨ room < (costV t.t : Int) then (-1 : Int) else (q : Int)) := rfl
  have HQM : Hid ((queueV s.txs client).length ≤ 1000000) := Nat.le_trans (queue_len client s.txs 0) hfew
  have HLt : Hid (∀ x ∈ queueV s.txs client, x < s.txs.length) := fun x hx => by have := queue_lt client s.txs 0 x hx; omega
  generalize queueV s.txs client = q at *
  have hqM := HQM.out
  have HQ : Hid _ := hQ
  clear hQ
  cases q with
  | nil =>
    have HF : Hid (frontV s client room = -1) := HV.out
    clear HV HLt
    go_wp2
    go_ret
    exact ⟨by rw [HF.out]; rfl, HQ.out.bel⟩
  | cons x qs =>
    have hxl : x < s.txs.length := HLt.out x (by simp)
    have htx := List.getElem?_eq_getElem hxl
    obtain ⟨gQ, rfl, hgQ, d0⟩ := nat_cell (k := 0) (x := x) HQ.out.own rfl (by simp)
    have hB := HQ.out.bel
    obtain ⟨aT, aE, cT, cE, eas, m1, m2, m3, _⟩ := (H.out.below hB).mem
    obtain ⟨gT, rfl, hgT, _, _, t2, _⟩ := own_tx m2 htx hxl
    have c5 : w1.cell? ⟨g, 5, none⟩ = some (.slice (some ⟨gT, 0, none⟩) s.txs.length cT) := by rw [(heap_cells m1).1]; rfl
    have hcl : client < s.credit.length := by rw [H.out.fit.credit]; exact hc
    have hcr := List.getElem?_eq_getElem hcl
    have ccr : w1.cell? ⟨g, 6 + client, none⟩ = some (.int .i64 s.credit[client]) := by
      rw [(heap_cells m1).1, List.getElem?_toArray]
      exact clu_credit H.out.fit.credit hcr
    have hpt := (H.out.fit.tx _ (List.mem_of_getElem? htx)).1
    have hsz : s.txs[x].t.size ≤ maxLen := by
      have h2 := parse_len hpt
      rw [len_list] at h2
      unfold maxLen; omega
    have HV2 : Hid (frontV s client room = if s.credit[client] < (costV s.txs[x].t : Int) ∨ room < (costV s.txs[x].t : Int) then (-1 : Int) else (x : Int)) := by
      show _ = _
      rw [HV.out]
      simp only [htx]
      rw [List.getD_eq_getElem?_getD, hcr]; rfl
    have hg1 : g < w1.heap.size := Nat.lt_of_lt_of_le hg hB.size
    have HB : Hid _ := hB
    have HPt : Hid (_ ∧ _) := ⟨hpt, hsz⟩
    have HQ2 : Hid (Dk.parseOk s.txs[x].t.data.toList = true → True) := fun _ => trivial
    clear m1 m2 m3 htx hcr hpt hsz HV HLt hB HQ2
    generalize s.credit[client] = cr at *
    generalize s.txs[x].t = t at *
    have x1 : (x : Int) < (s.txs.length : Int) := by omega
    have x0 : (0 : Int) ≤ (x : Int) := by omega
    have hcI : (client : Int) < 8 := by omega
    have hcI0 : (0 : Int) ≤ (client : Int) := by omega
    have hql : 0 < (x :: qs).length := by simp
    generalize (x :: qs).length = ql at *
    have hqb : ((ql : Int) == 0) = false := by rw [beq_eq_false_iff_ne]; omega
    have hqI : (0 : Int) < (ql : Int) := by omega
    go_wp2
    go_region_held3 (fun W => Below w1.heap.size w1 W ∧ (∀ b x, b < w1.heap.size → W.cell? ⟨b, x, none⟩ = w1.cell? ⟨b, x, none⟩))
      (first | (with_reducible exact doS_0) | (with_reducible exact doS_2 ‹_›))
      (first | (go_at_call 99; refine (cost_any t _ HPt.out.2 HPt.out.1).mono ?_; rintro e w9 ⟨rfl, hB9⟩))
    have hB10 := (doS_2 hB9).1
    have f0 := (hB10.cell (p := ⟨gQ, 0, none⟩) hgQ).trans d0
    have fcr := (hB10.cell (p := ⟨g, 6 + client, none⟩) hg1).trans ccr
    have hg9 : g < w9.heap.size := Nat.lt_of_lt_of_le hg1 hB10.size
    have hgQ9 : gQ < w9.heap.size := Nat.lt_of_lt_of_le hgQ hB10.size
    have HB9 : Hid (Below w.heap.size w w9) := HB.out.trans (hB10.mono HB.out.size)
    clear hB9 hB10 c5 t2
    generalize costV t = co at *
    by_cases h1 : cr < (co : Int)
    · have HF : Hid (frontV s client room = -1) := by
        show _ = _
        rw [HV2.out, if_pos (.inl h1)]
      clear HV2
      go_wp2
      go_ret
      exact ⟨by rw [HF.out]; rfl, HB9.out⟩
    · have h1' : (co : Int) ≤ cr := by omega
      by_cases h2 : room < (co : Int)
      · have HF : Hid (frontV s client room = -1) := by
          show _ = _
          rw [HV2.out, if_pos (.inr h2)]
        clear HV2
        go_wp2
        go_ret
        exact ⟨by rw [HF.out]; rfl, HB9.out⟩
      · have h2' : (co : Int) ≤ room := by omega
        have HF : Hid (frontV s client room = (x : Int)) := by
          show _ = _
          rw [HV2.out, if_neg (by omega)]
        clear HV2
        go_wp2
        go_ret
        exact ⟨by rw [HF.out]; rfl, HB9.out⟩

end Go.Proofs.YtccckonckddadabGreat
