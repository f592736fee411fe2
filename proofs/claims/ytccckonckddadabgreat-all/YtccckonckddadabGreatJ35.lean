import Derived.Test.YtccckonckddadabGreatJ34
import Derived.Test.YtccckonckddadabGreatJ16
namespace Go.Proofs.YtccckonckddadabGreat
open Go.RowKit
set_option linter.unusedVariables false

/-! ### Do, Cost -/
def EDoPost (r : RecV) (cs : List Int) (w : World) (e : Ending) (w' : World) : Prop :=
  ∃ (y0 y1 y2 y3 y4 y5 y6 y7 : Int), e = .returned (.tuple #[.agg #[.int .i16 y0, .int .i16 y1, .int .i16 y2, .int .i16 y3, .int .i16 y4, .int .i16 y5, .int .i16 y6, .int .i16 y7], .int .u8 (doRec r cs).2]) ∧
    [y0, y1, y2, y3, y4, y5, y6, y7] = (doRec r cs).1 ∧ Below w.heap.size w w'

set_option maxHeartbeats 2000000 in
theorem edo_any (c i : Int) (l : Bool) (t : ByteArray) (x0 x1 x2 x3 x4 x5 x6 x7 : Int) (w : World) (ht : t.size ≤ maxLen) :
    Calls Tryz.prog 118 #[.agg #[.int .i64 c, .int .i64 i, .bool l, .string t], .agg #[.int .i16 x0, .int .i16 x1, .int .i16 x2, .int .i16 x3, .int .i16 x4, .int .i16 x5, .int .i16 x6, .int .i16 x7]] w (EDoPost ⟨c, i, l, t⟩ [x0, x1, x2, x3, x4, x5, x6, x7] w) := by
  cases l
  case true =>
    have HD : Hid (doRec ⟨c, i, true, t⟩ [x0, x1, x2, x3, x4, x5, x6, x7] = ([x0, x1, x2, x3, x4, x5, x6, x7], 3)) := rfl
    go_enter Tryz.func118, Tryz.ntmps118
    go_wp2
    refine bodyPost_ret (v := .tuple #[.agg #[.int .i16 x0, .int .i16 x1, .int .i16 x2, .int .i16 x3, .int .i16 x4, .int .i16 x5, .int .i16 x6, .int .i16 x7], .int .u8 3]) (by simp [results, Tryz.results118, go_sem]) rfl ?_
    refine ⟨x0, x1, x2, x3, x4, x5, x6, x7, by rw [HD.out], by rw [HD.out], ?_⟩
    first
      | exact (((Below.refl _ _).alloc (Nat.le_refl _) _).alloc (by simp) _).alloc (by simp; omega) _
      | (iterate 8 refine Below.setCell ?_ (by simp) _
         exact (((Below.refl _ _).alloc (Nat.le_refl _) _).alloc (by simp) _).alloc (by simp; omega) _)
  case false =>
    go_enter Tryz.func118, Tryz.ntmps118
    go_wp2_with fail
    refine (parse_any t _ ht).mono ?_
    rintro e w1 ⟨b0, b1, b2, b3, b4, b5, b6, b7, a, n, c', rfl, hp, hb⟩
    have HP : Hid _ := hp
    clear hp
    obtain ⟨g0, g1, g2, hb1⟩ := below_three hb
    obtain ⟨c0, f0, z0⟩ := heap_cells g0
    obtain ⟨c1, f1, z1⟩ := heap_cells g1
    obtain ⟨c2, f2, z2⟩ := heap_cells g2
    have HB : Hid (Below w.heap.size w w1) := hb1
    have HG : Hid (_ ∧ _) := ⟨g1, g2⟩
    clear hb hb1 g0 g1 g2
    cases hok : Dk.parseOk t.data.toList
    · have HD : Hid (doRec ⟨c, i, false, t⟩ [x0, x1, x2, x3, x4, x5, x6, x7] = ([x0, x1, x2, x3, x4, x5, x6, x7], 2)) := by
        show _ = _
        unfold doRec
        rw [if_neg (by simp), if_neg (by rw [hok]; simp)]
      clear hok
      go_wp2
      refine bodyPost_ret (v := .tuple #[.agg #[.int .i16 x0, .int .i16 x1, .int .i16 x2, .int .i16 x3, .int .i16 x4, .int .i16 x5, .int .i16 x6, .int .i16 x7], .int .u8 2]) (by simp [results, Tryz.results118, go_sem, c2, z2]) rfl ?_
      refine ⟨x0, x1, x2, x3, x4, x5, x6, x7, by rw [HD.out], by rw [HD.out], ?_⟩
      refine Below.alloc ?_ (by simp; omega) _
      iterate 8 refine Below.setCell ?_ (by show w.heap.size ≤ w.heap.size + 2; omega) _
      exact HB.out
    · have HD : Hid (doRec ⟨c, i, false, t⟩ [x0, x1, x2, x3, x4, x5, x6, x7] = ((Dk.doV t.data.toList [x0, x1, x2, x3, x4, x5, x6, x7]).1, if (Dk.doV t.data.toList [x0, x1, x2, x3, x4, x5, x6, x7]).2 then 1 else 2)) := by
        show _ = _
        unfold doRec
        rw [if_neg (by simp), if_pos (by exact hok)]
      obtain ⟨hk, hn, hown⟩ := HP.out hok
      have hl := Dk.opsOf_len hok
      have HK : Hid (_ ∧ _ ∧ _ ∧ _) := ⟨hk, hn, own_base (B' := w.heap.size) hown (by simp; omega), hl⟩
      clear HP hok hk hn hown hl
      go_wp2_with fail
      have hd := do_any b0 b1 b2 b3 b4 b5 b6 b7 a n c' w.heap.size (Dk.opsOf t.data.toList) x0 x1 x2 x3 x4 x5 x6 x7 (w1.alloc (.cells #[.bool b0, .bool b1, .bool b2, .bool b3, .bool b4, .bool b5, .bool b6, .bool b7, .slice a n c'] 119)) HK.out.2.1 (by have := HK.out; omega) (HK.out.2.2.1.alloc _) (Dk.opsOf_bd _)
      refine hd.mono ?_
      rintro e w2 ⟨y0, y1, y2, y3, y4, y5, y6, y7, d, rfl, hy, hb⟩
      have HY : Hid (([y0, y1, y2, y3, y4, y5, y6, y7], d) = Dk.doV t.data.toList [x0, x1, x2, x3, x4, x5, x6, x7]) := by
        show _ = _
        rw [hy]
        unfold Dk.doV
        rw [← HK.out.1]
        cases Dk.runV [b0, b1, b2, b3, b4, b5, b6, b7] (Dk.opsOf t.data.toList) [x0, x1, x2, x3, x4, x5, x6, x7] <;> rfl
      have HB2 := below_of_new hb
      obtain ⟨d1, e1, u1⟩ := heap_cells ((HB2.block _ z1).trans HG.out.1)
      obtain ⟨d2, e2, u2⟩ := heap_cells ((HB2.block _ z2).trans HG.out.2)
      have HB3 : Hid (Below w.heap.size w w2) := HB.out.trans (HB2.mono HB.out.size)
      clear hy hb hd HB2 c0 c1 c2 f0 f1 f2 z0 z1 z2
      rw [← HY.out] at HD
      cases d
      · have hx : [y0, y1, y2, y3, y4, y5, y6, y7] = [x0, x1, x2, x3, x4, x5, x6, x7] := by
          have h1 := HY.out
          unfold Dk.doV at h1
          split at h1
          · cases h1
          · injection h1
        have HXX : Hid _ := hx
        clear hx
        go_wp2
        refine bodyPost_ret (v := .tuple #[.agg #[.int .i16 x0, .int .i16 x1, .int .i16 x2, .int .i16 x3, .int .i16 x4, .int .i16 x5, .int .i16 x6, .int .i16 x7], .int .u8 2]) (by simp [results, Tryz.results118, go_sem, d2, u2]) rfl ?_
        refine ⟨x0, x1, x2, x3, x4, x5, x6, x7, by rw [HD.out]; rfl, by rw [HD.out]; exact HXX.out.symm, ?_⟩
        refine Below.alloc ?_ (by simp; omega) _
        iterate 8 refine Below.setCell ?_ (by show w.heap.size ≤ w.heap.size + 2; omega) _
        exact HB3.out
      · go_wp2
        refine bodyPost_ret (v := .tuple #[.agg #[.int .i16 y0, .int .i16 y1, .int .i16 y2, .int .i16 y3, .int .i16 y4, .int .i16 y5, .int .i16 y6, .int .i16 y7], .int .u8 1]) (by simp [results, Tryz.results118, go_sem, d2, u2]) rfl ?_
        refine ⟨y0, y1, y2, y3, y4, y5, y6, y7, by rw [HD.out]; rfl, by rw [HD.out], ?_⟩
        refine Below.alloc ?_ (by simp; omega) _
        iterate 8 refine Below.setCell ?_ (by show w.heap.size ≤ w.heap.size + 2; omega) _
        exact HB3.out

theorem pcost_any (b0 b1 b2 b3 b4 b5 b6 b7 : Bool) (a : Option Addr) (n c : Nat) (w : World) :
    Calls Tryz.prog 92 #[.agg #[.bool b0, .bool b1, .bool b2, .bool b3, .bool b4, .bool b5, .bool b6, .bool b7, .slice a n c]] w fun e w' => e = .returned (.int .i64 (n : Int)) ∧ Below w.heap.size w w' := by
  go_enter Tryz.func92, Tryz.ntmps92
  go_wp2
  go_ret
  exact ⟨rfl, (Below.refl _ _).alloc (Nat.le_refl _) _⟩

theorem opsOf_cost {t : ByteArray} : (Dk.opsOf t.data.toList).length = costV t := by
  unfold Dk.opsOf Dk.opsV costV
  rw [List.length_map]

end Go.Proofs.YtccckonckddadabGreat
namespace Go.Proofs.YtccckonckddadabGreat
open Go.RowKit
set_option linter.unusedVariables false

/-! ### The program's cluster in memory -/
def waitCells (x : WaitV) : List Value := [.int .i64 x.i, .string x.t, .int .i64 x.c, .int .i64 x.d]
def waitsCells (q : List WaitV) : List Value := q.flatMap waitCells
def outCells (x : OutV) : List Value := [.int .i64 x.i, .int .u8 x.s, .int .i64 x.e]
def outsCells (l : List OutV) : List Value := l.flatMap outCells
def sixCells (l : List Int) : List Value := l.map (.int .i16 ·)
/-- Where the epochs' texts and the replicas lie. -/
structure TailV where
  aE : Option Addr
  cE : Nat
  gR : Nat
def prepCells (x : RepV) : List Value := .string x.disk :: .int .i64 x.safe :: .int .i64 x.count :: sixCells x.cells
def prepsCells (l : List RepV) : List Value := l.flatMap prepCells
def seqCells (p : SeqV) (vA : Value) (lb : TailV) (vS : Value) : List Value :=
  .int .i64 p.queue :: .int .i64 p.quantum :: .int .i64 p.room :: vA :: .int .i64 p.first :: .slice lb.aE p.eps.length lb.cE :: (sixCells p.cells ++ [vS, .slice (some ⟨lb.gR, 0, none⟩) p.reps.length p.reps.length])

theorem waitsCells_len : ∀ q : List WaitV, (waitsCells q).length = q.length * 4
  | [] => rfl
  | x :: q => by
    show (waitCells x ++ waitsCells q).length = _
    rw [List.length_append, waitsCells_len q, List.length_cons]; simp [waitCells]; omega
theorem waitsCells_at : ∀ (q : List WaitV) (k j : Nat) (x : WaitV), q[k]? = some x → j < 4 → (waitsCells q)[k * 4 + j]? = (waitCells x)[j]?
  | [], k, j, x, h, _ => by simp at h
  | y :: q, 0, j, x, h, hj => by
    have : y = x := by simpa using h
    subst this
    show (waitCells y ++ waitsCells q)[0 * 4 + j]? = _
    rw [List.getElem?_append_left (by simp [waitCells]; omega)]; simp
  | y :: q, k + 1, j, x, h, hj => by
    show (waitCells y ++ waitsCells q)[(k + 1) * 4 + j]? = _
    rw [List.getElem?_append_right (by simp [waitCells]; omega)]
    have e : (k + 1) * 4 + j - (waitCells y).length = k * 4 + j := by simp [waitCells]; omega
    rw [e, waitsCells_at q k j x (by simpa using h) hj]
theorem waitsCells_append (a b : List WaitV) : waitsCells (a ++ b) = waitsCells a ++ waitsCells b := by
  unfold waitsCells; rw [List.flatMap_append]
theorem waitsCells_snoc (q : List WaitV) (x : WaitV) : waitsCells (q ++ [x]) = waitsCells q ++ waitCells x := by
  rw [waitsCells_append]; simp [waitsCells]
theorem outsCells_len : ∀ l : List OutV, (outsCells l).length = l.length * 3
  | [] => rfl
  | x :: l => by
    show (outCells x ++ outsCells l).length = _
    rw [List.length_append, outsCells_len l, List.length_cons]; simp [outCells]; omega
theorem outsCells_at : ∀ (l : List OutV) (k j : Nat) (x : OutV), l[k]? = some x → j < 3 → (outsCells l)[k * 3 + j]? = (outCells x)[j]?
  | [], k, j, x, h, _ => by simp at h
  | y :: q, 0, j, x, h, hj => by
    have : y = x := by simpa using h
    subst this
    show (outCells y ++ outsCells q)[0 * 3 + j]? = _
    rw [List.getElem?_append_left (by simp [outCells]; omega)]; simp
  | y :: q, k + 1, j, x, h, hj => by
    show (outCells y ++ outsCells q)[(k + 1) * 3 + j]? = _
    rw [List.getElem?_append_right (by simp [outCells]; omega)]
    have e : (k + 1) * 3 + j - (outCells y).length = k * 3 + j := by simp [outCells]; omega
    rw [e, outsCells_at q k j x (by simpa using h) hj]
theorem outsCells_snoc (l : List OutV) (x : OutV) : outsCells (l ++ [x]) = outsCells l ++ outCells x := by
  unfold outsCells; rw [List.flatMap_append]; simp

/-- A waiting transaction in its row. -/
theorem wait_cell {w : World} {B n c : Nat} {a : Option Addr} {q : List WaitV} (h : w.ownsRow B 178 4 (.slice a n c) n (waitsCells q)) {k : Nat} {x : WaitV} (hk : q[k]? = some x) (hn : k < n) :
    ∃ g, a = some ⟨g, 0, none⟩ ∧ g < w.heap.size ∧ w.cell? ⟨g, k * 4, none⟩ = some (.int .i64 x.i) ∧ w.cell? ⟨g, k * 4 + 1, none⟩ = some (.string x.t) ∧ w.cell? ⟨g, k * 4 + 2, none⟩ = some (.int .i64 x.c) ∧ w.cell? ⟨g, k * 4 + 3, none⟩ = some (.int .i64 x.d) := by
  obtain ⟨g, rfl, hg, hc, _⟩ := own_cell h (by omega)
  have hx : ∀ j, j < 4 → ∀ v, (waitCells x)[j]? = some v → w.cell? ⟨g, k * 4 + j, none⟩ = some v := fun j hj v hv => hc _ _ (by rw [waitsCells_at q k j x hk hj]; exact hv)
  exact ⟨g, rfl, hg, hx 0 (by omega) _ rfl, hx 1 (by omega) _ rfl, hx 2 (by omega) _ rfl, hx 3 (by omega) _ rfl⟩
theorem out_cell {w : World} {B n c : Nat} {a : Option Addr} {l : List OutV} (h : w.ownsRow B 185 3 (.slice a n c) n (outsCells l)) {k : Nat} {x : OutV} (hk : l[k]? = some x) (hn : k < n) :
    ∃ g, a = some ⟨g, 0, none⟩ ∧ g < w.heap.size ∧ w.cell? ⟨g, k * 3, none⟩ = some (.int .i64 x.i) ∧ w.cell? ⟨g, k * 3 + 1, none⟩ = some (.int .u8 x.s) ∧ w.cell? ⟨g, k * 3 + 2, none⟩ = some (.int .i64 x.e) := by
  obtain ⟨g, rfl, hg, hc, _⟩ := own_cell h (by omega)
  have hx : ∀ j, j < 3 → ∀ v, (outCells x)[j]? = some v → w.cell? ⟨g, k * 3 + j, none⟩ = some v := fun j hj v hv => hc _ _ (by rw [outsCells_at l k j x hk hj]; exact hv)
  exact ⟨g, rfl, hg, hx 0 (by omega) _ rfl, hx 1 (by omega) _ rfl, hx 2 (by omega) _ rfl⟩

/-- An account: two cells, and its queue's row in block b. -/
def AccAt (w : World) (gA i : Nat) (b : Option Nat) (a : AccV) : Prop :=
  ∃ ad c, w.cell? ⟨gA, i * 2, none⟩ = some (.slice ad a.q.length c) ∧ w.cell? ⟨gA, i * 2 + 1, none⟩ = some (.int .i64 a.cr) ∧
    w.ownsRow 0 178 4 (.slice ad a.q.length c) a.q.length (waitsCells a.q) ∧ (Value.slice ad a.q.length c).ownBlock = b
theorem AccAt.same {w W : World} {gA i : Nat} {b : Option Nat} {a : AccV} (h : AccAt w gA i b a) (hA0 : W.cell? ⟨gA, i * 2, none⟩ = w.cell? ⟨gA, i * 2, none⟩) (hA1 : W.cell? ⟨gA, i * 2 + 1, none⟩ = w.cell? ⟨gA, i * 2 + 1, none⟩) (hb : ∀ k, b = some k → W.heap[k]? = w.heap[k]?) : AccAt W gA i b a := by
  obtain ⟨ad, c, h1, h2, h3, h4⟩ := h
  exact ⟨ad, c, hA0.trans h1, hA1.trans h2, own_same h3 (fun k hk => hb k (by rw [← h4]; exact hk)), h4⟩

/-- What is always true of its numbers. -/
structure SeqFit (p : SeqV) : Prop where
  n0 : 1 ≤ p.accs.length
  n8 : p.accs.length ≤ 8
  qu : 1 ≤ p.queue ∧ p.queue ≤ 8
  qt : 1 ≤ p.quantum ∧ p.quantum ≤ 8
  ro : 8 ≤ p.room ∧ p.room ≤ 64
  first : p.first < p.accs.length
  many : p.epochs ≤ 200
  cells : p.cells.length = 8
  long : p.log.length ≤ 2000000
  outs : p.outs.length ≤ 1000000
  acc : ∀ a ∈ p.accs, a.q.length ≤ 8 ∧ 0 ≤ a.cr ∧ a.cr ≤ 100000 ∧ ∀ x ∈ a.q, Dk.parseOk x.t.data.toList = true ∧ x.c = costV x.t ∧ 0 ≤ x.i ∧ x.i ≤ 999999

def RepOk (x : RepV) : Prop := x.cells.length = 8 ∧ x.disk.size ≤ 2000000 ∧ x.safe ≤ 2000000 ∧ x.count ≤ 200
structure TailAt (w : World) (g : Nat) (F : Nat → Prop) (p : SeqV) (gA : Nat) (qb : Nat → Option Nat) (vS : Value) (lb : TailV) : Prop where
  eplen : p.eps.length = p.epochs
  eplog : p.log = p.eps.flatMap (fun b => b.data.toList)
  epfit : ∀ b ∈ p.eps, 0 < b.size ∧ b.size ≤ 4232
  row : w.ownsRow 0 9 1 (.slice lb.aE p.eps.length lb.cE) p.eps.length (p.eps.map (Value.string ·))
  eF : ∀ k, (Value.slice lb.aE p.eps.length lb.cE).ownBlock = some k → F k ∧ k ≠ g ∧ k ≠ gA ∧ k ≠ lb.gR ∧ vS.ownBlock ≠ some k ∧ ∀ i, qb i ≠ some k
  reps : w.heap[lb.gR]? = some (.cells (prepsCells p.reps).toArray 147)
  rF : F lb.gR ∧ lb.gR ≠ g ∧ lb.gR ≠ gA ∧ vS.ownBlock ≠ some lb.gR ∧ ∀ i, qb i ≠ some lb.gR
  rfit : p.reps.length ≤ 4 ∧ ∀ x ∈ p.reps, RepOk x
theorem TailAt.move {w W : World} {g : Nat} {F F' : Nat → Prop} {p p' : SeqV} {gA : Nat} {qb qb' : Nat → Option Nat} {vS vS' : Value} {lb : TailV} (t : TailAt w g F p gA qb vS lb) (h1 : p'.eps = p.eps) (h2 : p'.reps = p.reps) (h3 : p'.epochs = p.epochs) (h4 : p'.log = p.log)
    (hF : ∀ k, F k → F' k) (hk : ∀ k, F k → k ≠ g → k ≠ gA → vS.ownBlock ≠ some k → (∀ i, qb i ≠ some k) → W.heap[k]? = w.heap[k]?)
    (hq : ∀ i k, F k → qb' i = some k → qb i = some k) (hS : ∀ k, F k → vS'.ownBlock = some k → vS.ownBlock = some k) : TailAt W g F' p' gA qb' vS' lb := by
  obtain ⟨t1, t2, t2b, t3, t4, t5, t6, t7⟩ := t
  refine ⟨by rw [h1, h3]; exact t1, by rw [h1, h4]; exact t2, by rw [h1]; exact t2b, ?_, ?_, ?_, ?_, by rw [h2]; exact t7⟩
  · rw [h1]; exact own_same t3 (fun k hk' => by obtain ⟨a, b, c, d, e, f⟩ := t4 k hk'; exact hk k a b c e f)
  · rw [h1]; intro k hk'; obtain ⟨a, b, c, d, e, f⟩ := t4 k hk'; exact ⟨hF k a, b, c, d, fun x => e (hS k a x), fun i x => f i (hq i k a x)⟩
  · rw [h2, hk _ t6.1 t6.2.1 t6.2.2.1 t6.2.2.2.1 t6.2.2.2.2]; exact t5
  · exact ⟨hF _ t6.1, t6.2.1, t6.2.2.1, fun x => t6.2.2.2.1 (hS _ t6.1 x), fun i x => t6.2.2.2.2 i (hq i _ t6.1 x)⟩

structure SeqMem (w : World) (g : Nat) (F : Nat → Prop) (p : SeqV) (gA : Nat) (qb : Nat → Option Nat) (aS : Option Addr) (cS : Nat) (lb : TailV) : Prop where
  blk : w.heap[g]? = some (.cells (seqCells p (.slice (some ⟨gA, 0, none⟩) p.accs.length p.accs.length) lb (.slice aS p.outs.length cS)).toArray 106)
  log : TailAt w g F p gA qb (.slice aS p.outs.length cS) lb
  row : ∃ arr, w.heap[gA]? = some (.cells arr 175)
  acc : ∀ i a, p.accs[i]? = some a → AccAt w gA i (qb i) a
  aF : F gA ∧ gA ≠ g
  qF : ∀ i k, qb i = some k → F k ∧ k ≠ g ∧ k ≠ gA ∧ (Value.slice aS p.outs.length cS).ownBlock ≠ some k
  qone : ∀ i j k, qb i = some k → qb j = some k → i = j
  outs : w.ownsRow 0 185 3 (.slice aS p.outs.length cS) p.outs.length (outsCells p.outs)
  sF : ∀ k, (Value.slice aS p.outs.length cS).ownBlock = some k → F k ∧ k ≠ g ∧ k ≠ gA

structure SeqAt (w : World) (g : Nat) (F : Nat → Prop) (p : SeqV) : Prop where
  fit : SeqFit p
  gF : F g
  own : ∀ k, F k → k < w.heap.size
  mem : ∃ gA qb aS cS lb, SeqMem w g F p gA qb aS cS lb

theorem SeqAt.block {w : World} {g : Nat} {F : Nat → Prop} {p : SeqV} (h : SeqAt w g F p) : g < w.heap.size := h.own g h.gF
theorem SeqAt.same {w W : World} {g : Nat} {F : Nat → Prop} {p : SeqV} (h : SeqAt w g F p) (hs : w.heap.size ≤ W.heap.size) (hb : ∀ k, F k → W.heap[k]? = w.heap[k]?) : SeqAt W g F p := by
  obtain ⟨gA, qb, aS, cS, lb, m⟩ := h.mem
  have hA : ∀ x, W.cell? ⟨gA, x, none⟩ = w.cell? ⟨gA, x, none⟩ := fun x => World.cell?_of_block (a := ⟨gA, x, none⟩) (hb gA m.aF.1)
  refine ⟨h.fit, h.gF, fun k hk => Nat.lt_of_lt_of_le (h.own k hk) hs, gA, qb, aS, cS, lb, (hb g h.gF).trans m.blk, m.log.move rfl rfl rfl rfl (fun _ hk => hk) (fun k hk _ _ _ _ => hb k hk) (fun _ _ _ hh => hh) (fun _ _ hh => hh), ?_, ?_, m.aF, m.qF, m.qone, own_same m.outs (fun k hk => hb k (m.sF k hk).1), m.sF⟩
  · obtain ⟨arr, h1⟩ := m.row
    exact ⟨arr, (hb gA m.aF.1).trans h1⟩
  · intro i a ha
    exact (m.acc i a ha).same (hA _) (hA _) (fun k hk => hb k (m.qF i k hk).1)
theorem SeqAt.below {w W : World} {g : Nat} {F : Nat → Prop} {p : SeqV} (h : SeqAt w g F p) (hb : Below w.heap.size w W) : SeqAt W g F p := h.same hb.size (fun k hk => hb.block k (h.own k hk))
/-- What a call that changes the program's cluster leaves. -/
def SeqPost (g : Nat) (F : Nat → Prop) (p' : SeqV) (w w' : World) : Prop := ∃ F' : Nat → Prop, SeqAt w' g F' p' ∧ Kept F w w' ∧ (∀ k, F' k → F k ∨ w.heap.size ≤ k)
theorem SeqPost.same {g : Nat} {F : Nat → Prop} {p : SeqV} {w w' : World} (h : SeqAt w g F p) (hb : Below w.heap.size w w') : SeqPost g F p w w' := ⟨F, h.below hb, Kept.of hb, fun k hk => .inl hk⟩
theorem SeqPost.trans {g : Nat} {F F' : Nat → Prop} {p : SeqV} {w w' w'' : World} (hk : Kept F w w') (hF : ∀ k, F' k → F k ∨ w.heap.size ≤ k) (h : SeqPost g F' p w' w'') : SeqPost g F p w w'' := by
  obtain ⟨F2, h1, h2, h3⟩ := h
  refine ⟨F2, h1, hk.trans h2 (fun i hi hf => ?_), fun k hk2 => ?_⟩
  · rcases hF i hf with h | h
    · exact h
    · omega
  · rcases h3 k hk2 with h | h
    · exact hF k h
    · exact .inr (Nat.le_trans hk.size h)

/-- What a call on an account leaves: its two cells and its row. -/
structure AccPost (w w' : World) (gA i : Nat) (b b' : Option Nat) (a' : AccV) : Prop where
  kept : Kept (fun k => k = gA ∨ b = some k) w w'
  side : ∃ arr', w'.heap[gA]? = some (.cells arr' 175) ∧ ∀ x, x ≠ i * 2 → x ≠ i * 2 + 1 → w'.cell? ⟨gA, x, none⟩ = w.cell? ⟨gA, x, none⟩
  acc : AccAt w' gA i b' a'
  new : ∀ k, b' = some k → (b = some k ∨ w.heap.size ≤ k) ∧ k < w'.heap.size
  ne : b' ≠ some gA
theorem AccPost.trans {w w1 w2 : World} {gA i : Nat} {b b1 b2 : Option Nat} {a1 a2 : AccV} (h : AccPost w w1 gA i b b1 a1) (k : AccPost w1 w2 gA i b1 b2 a2) : AccPost w w2 gA i b b2 a2 := by
  refine ⟨h.kept.trans k.kept (fun x hx hh => ?_), ?_, k.acc, fun x hx => ?_, k.ne⟩
  · rcases hh with hh | hh
    · exact .inl hh
    · rcases (h.new x hh).1 with h1 | h1
      · exact .inr h1
      · omega
  · obtain ⟨r, r1, r2⟩ := k.side
    obtain ⟨_, _, r3⟩ := h.side
    exact ⟨r, r1, fun x h1 h2 => (r2 x h1 h2).trans (r3 x h1 h2)⟩
  · obtain ⟨h1, h2⟩ := k.new x hx
    refine ⟨?_, h2⟩
    rcases h1 with h1 | h1
    · exact (h.new x h1).1
    · exact .inr (Nat.le_trans h.kept.size h1)
/-- Nothing of it changes. -/
theorem AccPost.below {w w' : World} {gA i : Nat} {b : Option Nat} {a : AccV} (hA : ∃ arr, w.heap[gA]? = some (.cells arr 175)) (h : AccAt w gA i b a) (hn : b ≠ some gA) (hb : Below w.heap.size w w') : AccPost w w' gA i b b a := by
  obtain ⟨arr, hA⟩ := hA
  have hg := (heap_cells hA).2.2
  have hc : ∀ x, w'.cell? ⟨gA, x, none⟩ = w.cell? ⟨gA, x, none⟩ := fun x => hb.cell (p := ⟨gA, x, none⟩) hg
  have hlt : ∀ k, b = some k → k < w.heap.size := fun k hk => by
    obtain ⟨_, _, _, _, h3, h4⟩ := h
    exact (h3.lt k (h4.trans hk)).2
  exact ⟨Kept.of hb, ⟨arr, (hb.block gA hg).trans hA, fun x _ _ => hc x⟩, h.same (hc _) (hc _) (fun k hk => hb.block k (hlt k hk)), fun k hk => ⟨.inl hk, Nat.lt_of_lt_of_le (hlt k hk) hb.size⟩, hn⟩
/-- The credit is written. -/
theorem AccPost.credit {w : World} {gA i : Nat} {b : Option Nat} {q : List WaitV} {cr : Int} (hA : ∃ arr, w.heap[gA]? = some (.cells arr 175)) (h : AccAt w gA i b ⟨q, cr⟩) (hn : b ≠ some gA) (x : Int) : AccPost w (w.setCell ⟨gA, i * 2 + 1, none⟩ (.int .i64 x)) gA i b b ⟨q, x⟩ := by
  obtain ⟨arr, hA⟩ := hA
  have hg := (heap_cells hA).2.2
  obtain ⟨ad, c, h1, h2, h3, h4⟩ := h
  have hset := heap_set hA (x := i * 2 + 1) (v := .int .i64 x)
  have hsz : (w.setCell ⟨gA, i * 2 + 1, none⟩ (.int .i64 x)).heap.size = w.heap.size := by simp [World.setCell]
  have hother : ∀ y, y ≠ i * 2 + 1 → (w.setCell ⟨gA, i * 2 + 1, none⟩ (.int .i64 x)).cell? ⟨gA, y, none⟩ = w.cell? ⟨gA, y, none⟩ := fun y hy => by
    rw [(heap_cells hset).1, (heap_cells hA).1, Array.getElem?_setIfInBounds_ne (fun e => hy e.symm)]
  have hin : i * 2 + 1 < arr.size := by
    rw [(heap_cells hA).1] at h2
    exact (Array.getElem?_eq_some_iff.1 h2).1
  have hne : ∀ k, b = some k → k ≠ gA := fun k hk e => hn (by rw [hk, e])
  refine ⟨Kept.set (Kept.refl _ _) (.inl (.inl rfl)) _, ⟨_, hset, fun y _ hy => hother y hy⟩, ⟨ad, c, (hother _ (by omega)).trans h1, ?_, own_same h3 (fun k hk => Below.heap_setCell _ _ _ _ (by exact hne k (h4.symm.trans hk))), h4⟩, fun k hk => ⟨.inl hk, ?_⟩, hn⟩
  · rw [(heap_cells hset).1, Array.getElem?_setIfInBounds_self_of_lt hin]
  · rw [hsz]; exact (h3.lt k (h4.trans hk)).2
/-- The queue is written: a row that lies elsewhere. -/
theorem AccPost.queue {w : World} {gA i : Nat} {b b' : Option Nat} {q q' : List WaitV} {cr : Int} {ad : Option Addr} {c B : Nat} (hA : ∃ arr, w.heap[gA]? = some (.cells arr 175)) (h : AccAt w gA i b ⟨q, cr⟩)
    (hr : w.ownsRow B 178 4 (.slice ad q'.length c) q'.length (waitsCells q')) (hb : (Value.slice ad q'.length c).ownBlock = b') (hn : b' ≠ some gA) : 
    Kept (fun k => k = gA) w (w.setCell ⟨gA, i * 2, none⟩ (.slice ad q'.length c)) ∧ (∃ arr', (w.setCell ⟨gA, i * 2, none⟩ (.slice ad q'.length c)).heap[gA]? = some (.cells arr' 175) ∧ ∀ x, x ≠ i * 2 → (w.setCell ⟨gA, i * 2, none⟩ (.slice ad q'.length c)).cell? ⟨gA, x, none⟩ = w.cell? ⟨gA, x, none⟩) ∧ AccAt (w.setCell ⟨gA, i * 2, none⟩ (.slice ad q'.length c)) gA i b' ⟨q', cr⟩ := by
  obtain ⟨arr, hA⟩ := hA
  obtain ⟨ad0, c0, h1, h2, h3, h4⟩ := h
  have hset := heap_set hA (x := i * 2) (v := .slice ad q'.length c)
  have hother : ∀ y, y ≠ i * 2 → (w.setCell ⟨gA, i * 2, none⟩ (.slice ad q'.length c)).cell? ⟨gA, y, none⟩ = w.cell? ⟨gA, y, none⟩ := fun y hy => by
    rw [(heap_cells hset).1, (heap_cells hA).1, Array.getElem?_setIfInBounds_ne (fun e => hy e.symm)]
  have hin : i * 2 < arr.size := by
    rw [(heap_cells hA).1] at h1
    exact (Array.getElem?_eq_some_iff.1 h1).1
  have hne : ∀ k, b' = some k → k ≠ gA := fun k hk e => hn (by rw [hk, e])
  refine ⟨Kept.set (F := fun k => k = gA) (Kept.refl _ _) (.inl rfl) _, ⟨_, hset, fun y hy => hother y hy⟩, ⟨ad, c, ?_, (hother _ (by omega)).trans h2, ?_, hb⟩⟩
  · rw [(heap_cells hset).1, Array.getElem?_setIfInBounds_self_of_lt hin]
  · exact own_base (own_same hr (fun k hk => Below.heap_setCell _ _ _ _ (by exact hne k (hb.symm.trans hk)))) (Nat.zero_le _)

/-- One account changed. -/
theorem seq_put {w w' : World} {g : Nat} {F : Nat → Prop} {p : SeqV} (hF : F g) (hown : ∀ k, F k → k < w.heap.size) {gA : Nat} {qb : Nat → Option Nat} {aS : Option Addr} {cS : Nat} {lb : TailV} (m : SeqMem w g F p gA qb aS cS lb) {i : Nat} {a' : AccV} (hi : i < p.accs.length) (hfit : SeqFit (putA p i a')) {b' : Option Nat} (h : AccPost w w' gA i (qb i) b' a') :
    SeqPost g F (putA p i a') w w' := by
  have hb1 := h.acc
  have hb2 := h.new
  have hb3 := h.ne
  obtain ⟨arr', r1, r2⟩ := h.side
  have hlen : (p.accs.set i a').length = p.accs.length := List.length_set
  have hkeep : ∀ k, F k → k ≠ gA → qb i ≠ some k → w'.heap[k]? = w.heap[k]? := fun k hk h1 h2 => h.kept.block k (hown k hk) (fun hh => by rcases hh with hh | hh; exact h1 hh; exact h2 hh)
  refine ⟨fun k => F k ∨ b' = some k, ⟨hfit, .inl hF, ?_, gA, fun j => if j = i then b' else qb j, aS, cS, lb, ?_, ?_, ⟨arr', r1⟩, ?_, ⟨.inl m.aF.1, m.aF.2⟩, ?_, ?_, ?_, ?_⟩, ?_, ?_⟩
  · intro k hk
    rcases hk with hk | hk
    · exact Nat.lt_of_lt_of_le (hown k hk) h.kept.size
    · exact (hb2 k hk).2
  · rw [hkeep g hF (fun e => m.aF.2 e.symm) (fun e => (m.qF i g e).2.1 rfl), m.blk]
    unfold seqCells putA
    simp only [hlen]
  · refine m.log.move rfl rfl rfl rfl (fun k hk => .inl hk) (fun k hk _ h1 _ h2 => hkeep k hk h1 (h2 i)) (fun j k hk hj => ?_) (fun _ _ hh => hh)
    by_cases hji : j = i
    · rw [if_pos hji] at hj
      rcases (hb2 k hj).1 with h1 | h1
      · rw [hji]; exact h1
      · have := hown k hk; omega
    · rw [if_neg hji] at hj
      exact hj
  · intro j a ha
    by_cases hj : j = i
    · subst hj
      have : (p.accs.set j a')[j]? = some a := ha
      rw [List.getElem?_set_self hi] at this
      cases this
      rw [if_pos rfl]
      exact hb1
    · have : (p.accs.set i a')[j]? = some a := ha
      rw [List.getElem?_set_ne (fun e => hj e.symm)] at this
      rw [if_neg hj]
      exact (m.acc j a this).same (r2 _ (by omega) (by omega)) (r2 _ (by omega) (by omega)) (fun k hk => hkeep k (m.qF j k hk).1 (m.qF j k hk).2.2.1 (fun e => hj (m.qone j i k hk e)))
  · intro j k hk
    by_cases hj : j = i
    · rw [if_pos hj] at hk
      rcases (hb2 k hk).1 with h1 | h1
      · have := m.qF i k h1
        exact ⟨.inl this.1, this.2⟩
      · refine ⟨.inr hk, ?_, fun e => hb3 (e ▸ hk), fun e => ?_⟩
        · have := hown g hF; omega
        · have := hown k (m.sF k e).1; omega
    · rw [if_neg hj] at hk
      have := m.qF j k hk
      exact ⟨.inl this.1, this.2⟩
  · have hdis : ∀ j k, j ≠ i → qb j = some k → b' = some k → False := fun j k hj hq hb => by
      rcases (hb2 k hb).1 with h1 | h1
      · exact hj (m.qone j i k hq h1)
      · have := hown k (m.qF j k hq).1; omega
    intro j j' k hj hj'
    by_cases h1 : j = i
    · by_cases h2 : j' = i
      · rw [h1, h2]
      · rw [if_pos h1] at hj; rw [if_neg h2] at hj'
        exact (hdis j' k h2 hj' hj).elim
    · by_cases h2 : j' = i
      · rw [if_neg h1] at hj; rw [if_pos h2] at hj'
        exact (hdis j k h1 hj hj').elim
      · rw [if_neg h1] at hj; rw [if_neg h2] at hj'
        exact m.qone j j' k hj hj'
  · exact own_same m.outs (fun k hk => hkeep k (m.sF k hk).1 (m.sF k hk).2.2 (fun e => (m.qF i k e).2.2.2 hk))
  · intro k hk
    have := m.sF k hk
    exact ⟨.inl this.1, this.2⟩
  · refine ⟨h.kept.os, h.kept.tape, h.kept.output, h.kept.size, fun k hk hF' => h.kept.block k hk (fun hh => ?_)⟩
    rcases hh with rfl | hh
    · exact hF' m.aF.1
    · exact hF' (m.qF i k hh).1
  · intro k hk
    rcases hk with hk | hk
    · exact .inl hk
    · rcases (hb2 k hk).1 with h1 | h1
      · exact .inl (m.qF i k h1).1
      · exact .inr h1

end Go.Proofs.YtccckonckddadabGreat
namespace Go.Proofs.YtccckonckddadabGreat
open Go.RowKit
set_option linter.unusedVariables false

theorem info_wait : (Tryz.prog.info? 178).map (fun i => (i.zero, i.size, i.bytes)) = some (some (.agg #[.int .i64 0, .string ⟨#[]⟩, .int .i64 0, .int .i64 0]), 4, 40) := by kernel_rfl
theorem info_out : (Tryz.prog.info? 185).map (fun i => (i.zero, i.size, i.bytes)) = some (some (.agg #[.int .i64 0, .int .u8 0, .int .i64 0]), 3, 24) := by kernel_rfl

/-! ### awaits -/
set_option maxHeartbeats 1000000 in
theorem awaits_any (gA i : Nat) (b : Option Nat) (a : AccV) (id : Int) (w : World) (h : AccAt w gA i b a) (hg : gA < w.heap.size) (hq : a.q.length ≤ 8) :
    Calls Tryz.prog 103 #[.pointer (some ⟨gA, i * 2, none⟩), .int .i64 id] w fun e w' => e = .returned (.bool (awaits id a)) ∧ w' = w := by
  obtain ⟨ad, c, c0, _, ho, _⟩ := h
  have HO : Hid _ := ho
  have HV : Hid (awaits id a = a.q.any (fun x => decide (x.i = id))) := rfl
  clear ho
  obtain ⟨q, cr⟩ := a
  simp only at c0 hq HO HV
  obtain ⟨n, hn⟩ : ∃ n, q.length = n := ⟨_, rfl⟩
  rw [hn] at c0 hq HO
  go_enter Tryz.func103, Tryz.ntmps103
  go_wp2
  go_loop [5] (fun v => ∃ k : Nat, k ≤ n ∧ v = .int .i64 k ∧ Hid ((q.take k).any (fun x => decide (x.i = id)) = false)) (fun v => n - (intOf v).toNat)
  case atStart => exact ⟨0, Nat.zero_le _, rfl, rfl⟩
  case round =>
    obtain ⟨k, hk, rfl, HF⟩ := hrel
    by_cases hlt : k < n
    · have hkl : k < q.length := by omega
      obtain ⟨gQ, rfl, hgQ, d0, _⟩ := wait_cell HO.out (List.getElem?_eq_getElem hkl) hlt
      have HT : Hid ((q.take (k + 1)).any (fun x => decide (x.i = id)) = decide (q[k].i = id)) := by
        show _ = _
        rw [List.take_succ_eq_append_getElem hkl, List.any_append, HF.out]
        simp
      have HM : Hid (q[k] ∈ q) := List.getElem_mem hkl
      generalize q[k] = x at *
      by_cases he : x.i = id
      · have heb : (x.i == id) = true := by rw [beq_iff_eq]; exact he
        have HX : Hid (awaits id ⟨q, cr⟩ = true) := by
          show _ = _
          rw [HV.out, List.any_eq_true]
          exact ⟨x, HM.out, decide_eq_true he⟩
        clear HT he
        go_wp2
        go_ret
        exact ⟨by rw [HX.out]; rfl, rfl⟩
      · have heb : (x.i == id) = false := by rw [beq_eq_false_iff_ne]; exact he
        have HT' : Hid ((q.take (k + 1)).any (fun x => decide (x.i = id)) = false) := by
          show _ = _
          rw [HT.out]; exact decide_eq_false he
        clear HT
        go_wp2
        go_round
        case rel => exact ⟨k + 1, by omega, by go_num, HT'⟩
        case measure => simp [intOf]; omega
    · have hkn : k = n := by omega
      subst hkn
      have HX : Hid (awaits id ⟨q, cr⟩ = false) := by
        show _ = _
        have := HF.out
        rw [List.take_of_length_le (by omega)] at this
        rw [HV.out]; exact this
      go_wp2
      go_ret
      exact ⟨by rw [HX.out]; rfl, rfl⟩

/-! ### Two rows -/
structure TwoAt (w wr : World) (l1 l2 : List WaitV) (a1 : Option Addr) (m1 c1 : Nat) (a2 : Option Addr) (m2 c2 : Nat) : Prop where
  n1 : l1.length = m1
  n2 : l2.length = m2
  o1 : wr.ownsRow w.heap.size 178 4 (.slice a1 m1 c1) m1 (waitsCells l1)
  o2 : wr.ownsRow w.heap.size 178 4 (.slice a2 m2 c2) m2 (waitsCells l2)
  ap : ∀ x, (Value.slice a1 m1 c1).ownBlock = some x → (Value.slice a2 m2 c2).ownBlock ≠ some x
  bel : Below w.heap.size w wr

theorem TwoAt.left {w wr : World} {l1 l2 : List WaitV} {a1 a2 : Option Addr} {m1 c1 m2 c2 : Nat} (h : TwoAt w wr l1 l2 a1 m1 c1 a2 m2 c2) {x : WaitV} {gN cap : Nat} {w7 : World} {o : Obj}
    (hown : w7.ownsRow w.heap.size 178 4 (.slice (some ⟨gN, 0, none⟩) (m1 + 1) cap) (m1 + 1) (waitsCells l1 ++ waitCells x)) (hgr : (wr.alloc o).grownBy w7 (Value.slice a1 m1 c1).ownBlock) (hat : (Value.slice a1 m1 c1).ownBlock = some gN ∨ gN = (wr.alloc o).heap.size) :
    TwoAt w w7 (l1 ++ [x]) l2 (some ⟨gN, 0, none⟩) (m1 + 1) cap a2 m2 c2 := by
  have hz : (wr.alloc o).heap.size = wr.heap.size + 1 := by simp
  have hsame : ∀ y, y < wr.heap.size → (Value.slice a1 m1 c1).ownBlock ≠ some y → w7.heap[y]? = wr.heap[y]? := fun y hy hne => (hgr.block y (by rw [hz]; omega) (fun hh => hne hh.symm)).trans (heap_old hy)
  have hlt : ∀ y, (Value.slice a2 m2 c2).ownBlock = some y → y < wr.heap.size := fun y hy => (h.o2.lt y hy).2
  refine ⟨by rw [List.length_append, h.n1]; rfl, h.n2, ?_, own_same h.o2 (fun y hy => hsame y (hlt y hy) (fun hh => h.ap y hh hy)), ?_, (h.bel.alloc h.bel.size _).grown hgr (by rw [hz]; have := h.bel.size; omega) (fun k hk => (h.o1.lt k hk).1)⟩
  · rw [waitsCells_snoc]; exact hown
  · intro y hy hy2
    have e : gN = y := by simpa [Value.ownBlock] using hy
    subst e
    rcases hat with h1 | h1
    · exact h.ap _ h1 hy2
    · have := hlt gN hy2; omega
theorem TwoAt.right {w wr : World} {l1 l2 : List WaitV} {a1 a2 : Option Addr} {m1 c1 m2 c2 : Nat} (h : TwoAt w wr l1 l2 a1 m1 c1 a2 m2 c2) {x : WaitV} {gN cap : Nat} {w7 : World} {o : Obj}
    (hown : w7.ownsRow w.heap.size 178 4 (.slice (some ⟨gN, 0, none⟩) (m2 + 1) cap) (m2 + 1) (waitsCells l2 ++ waitCells x)) (hgr : (wr.alloc o).grownBy w7 (Value.slice a2 m2 c2).ownBlock) (hat : (Value.slice a2 m2 c2).ownBlock = some gN ∨ gN = (wr.alloc o).heap.size) :
    TwoAt w w7 l1 (l2 ++ [x]) a1 m1 c1 (some ⟨gN, 0, none⟩) (m2 + 1) cap := by
  have hz : (wr.alloc o).heap.size = wr.heap.size + 1 := by simp
  have hsame : ∀ y, y < wr.heap.size → (Value.slice a2 m2 c2).ownBlock ≠ some y → w7.heap[y]? = wr.heap[y]? := fun y hy hne => (hgr.block y (by rw [hz]; omega) (fun hh => hne hh.symm)).trans (heap_old hy)
  have hlt : ∀ y, (Value.slice a1 m1 c1).ownBlock = some y → y < wr.heap.size := fun y hy => (h.o1.lt y hy).2
  refine ⟨h.n1, by rw [List.length_append, h.n2]; rfl, own_same h.o1 (fun y hy => hsame y (hlt y hy) (fun hh => h.ap y hy hh)), ?_, ?_, (h.bel.alloc h.bel.size _).grown hgr (by rw [hz]; have := h.bel.size; omega) (fun k hk => (h.o2.lt k hk).1)⟩
  · rw [waitsCells_snoc]; exact hown
  · intro y hy hy2
    have e : gN = y := by simpa [Value.ownBlock] using hy2
    subst e
    rcases hat with h1 | h1
    · exact h.ap _ hy h1
    · have := hlt gN hy; omega

def TakePost (gA i : Nat) (b : Option Nat) (a' : AccV) (l : List WaitV) (w : World) (e : Ending) (w' : World) : Prop :=
  ∃ (ad : Option Addr) (m c : Nat) (b' : Option Nat), e = .returned (.slice ad m c) ∧ l.length = m ∧ AccPost w w' gA i b b' a' ∧ w'.ownsRow w.heap.size 178 4 (.slice ad m c) m (waitsCells l)

/-- The queue is the second row now. -/
theorem TwoAt.fin {w wr : World} {l1 l2 : List WaitV} {a1 a2 : Option Addr} {m1 c1 m2 c2 : Nat} (h : TwoAt w wr l1 l2 a1 m1 c1 a2 m2 c2) {gA i : Nat} {b : Option Nat} {q : List WaitV} {cr : Int} (hA : ∃ arr, w.heap[gA]? = some (.cells arr 175)) (ha : AccAt w gA i b ⟨q, cr⟩) (hn : b ≠ some gA) :
    TakePost gA i b ⟨l2, cr⟩ l1 w (.returned (.slice a1 m1 c1)) (wr.setCell ⟨gA, i * 2, none⟩ (.slice a2 m2 c2)) := by
  have h1 := AccPost.below hA ha hn h.bel
  obtain ⟨arr0, hA0⟩ := hA
  have hg := (heap_cells hA0).2.2
  obtain ⟨arr, r1, r2⟩ := h1.side
  have hne : (Value.slice a2 m2 c2).ownBlock ≠ some gA := fun e => by have := (h.o2.lt gA e).1; omega
  have e2 := h.n2
  subst e2
  obtain ⟨k1, ⟨arr', k2, k3⟩, k4⟩ := AccPost.queue (q' := l2) (ad := a2) (c := c2) ⟨arr, r1⟩ h1.acc h.o2 rfl hne
  refine ⟨a1, m1, c1, _, rfl, h.n1, ⟨?_, ⟨arr', k2, fun x hx hy => (k3 x hx).trans (r2 x hx hy)⟩, k4, fun k hk => ?_, hne⟩, ?_⟩
  · exact h1.kept.trans k1 (fun x _ hx => .inl hx)
  · have := h.o2.lt k hk
    refine ⟨.inr this.1, ?_⟩
    rw [show (wr.setCell ⟨gA, i * 2, none⟩ (.slice a2 l2.length c2)).heap.size = wr.heap.size from by simp [World.setCell]]
    exact this.2
  · exact own_same h.o1 (fun k hk => Below.heap_setCell _ _ _ _ (by have := (h.o1.lt k hk).1; show k ≠ gA; omega))

end Go.Proofs.YtccckonckddadabGreat
namespace Go.Proofs.YtccckonckddadabGreat
set_option linter.unusedVariables false

theorem putA_self {p : SeqV} {i : Nat} {a : AccV} (h : p.accs[i]? = some a) : putA p i a = p := by
  obtain ⟨hi, rfl⟩ := List.getElem?_eq_some_iff.1 h
  unfold putA
  rw [List.set_getElem_self]
theorem credV_self {s : CluV} {c : Nat} (h : c < s.credit.length) : credV s c (s.credit.getD c 0) = s := by
  have e : s.credit.set c (s.credit.getD c 0) = s.credit := by
    rw [List.getD_eq_getElem?_getD, List.getElem?_eq_getElem h]
    exact List.set_getElem_self h
  show { s with credit := s.credit.set c (s.credit.getD c 0) } = s
  rw [e]
theorem filter_yes {f : WaitV → Bool} {x : WaitV} {l : List WaitV} (h : f x = true) : (x :: l).filter f = x :: l.filter f := List.filter_cons_of_pos h
theorem filter_no {f : WaitV → Bool} {x : WaitV} {l : List WaitV} (h : f x = false) : (x :: l).filter f = l.filter f := List.filter_cons_of_neg (by rw [h]; simp)
theorem settle1_put (p : SeqV) (i : Nat) (a : AccV) (r : RecV) : settle1 (putA p i a) r = putA (settle1 p r) i a := rfl

/-- late, client by client. -/
theorem late_sim (c : Nat) (hc8 : c < 8) : ∀ (ts pre : List TxV) (s : CluV) (p : SeqV) (l : List RecV), Sim p s → s.txs = pre ++ ts → c < p.accs.length → s.credit.length = 8 →
    (lateGo (c : Int) (queueFrom (c : Int) pre.length ts) s l).2 = l ++ ((qOf c ts).filter (isLate p.epochs)).map (lateRec c) ∧
    Sim (settleV (putA p c ⟨qOf c pre ++ (qOf c ts).filter (fun x => !isLate p.epochs x), s.credit.getD c 0⟩) (((qOf c ts).filter (isLate p.epochs)).map (lateRec c))) (lateGo (c : Int) (queueFrom (c : Int) pre.length ts) s l).1
  | [], pre, s, p, l, h, htx, hc, h8 => by
    refine ⟨by show l = l ++ []; rw [List.append_nil], ?_⟩
    show Sim (settleV (putA p c ⟨qOf c pre ++ [], s.credit.getD c 0⟩) []) s
    rw [List.append_nil] at htx ⊢
    have := h.acc c hc
    rw [htx] at this
    rw [putA_self this]
    exact h
  | t :: ts, pre, s, p, l, h, htx, hc, h8 => by
    have hget : s.txs[pre.length]? = some t := by rw [htx, List.getElem?_append_right (Nat.le_refl _), Nat.sub_self]; rfl
    cases hw : waits (c : Int) t with
    | false =>
      have ih := late_sim c hc8 ts (pre ++ [t]) s p l h (by rw [htx]; simp) hc h8
      rw [List.length_append, List.length_singleton, qOf_append, qOf_no hw, show qOf c [] = [] from rfl, List.append_nil] at ih
      rw [queueFrom, if_neg (by rw [hw]; simp), qOf_no hw]
      exact ih
    | true =>
      rw [queueFrom, if_pos hw, qOf_yes hw, lateGo, hget]
      simp only
      have hep := h.epochs
      by_cases hd : t.d < (s.epochs.length : Int)
      · have hl : isLate p.epochs (waitOf t) = true := by unfold isLate; rw [hep]; exact decide_eq_true hd
        have h1 := h.ended hc h8 hc8 htx hw (st := 3) (by decide) (s.credit.getD c 0) s.cells
        rw [credV_self (by omega)] at h1
        have hs' : endsV (cellsV s s.cells) pre.length 3 = endsV s pre.length 3 := rfl
        rw [hs'] at h1
        have htx' : (endsV s pre.length 3).txs = (pre ++ [{ t with s := 3, e := (s.epochs.length : Int) }]) ++ ts := by
          show s.txs.modify pre.length _ = _
          rw [htx, modify_mid]; simp
        have ep : ({ putA p c ⟨qOf c (pre ++ ts), s.credit.getD c 0⟩ with cells := s.cells, outs := p.outs ++ [⟨t.i, 3, p.epochs⟩] } : SeqV) = settle1 (putA p c ⟨qOf c (pre ++ ts), s.credit.getD c 0⟩) (lateRec c (waitOf t)) := by
          unfold settle1
          show _ = ({ putA p c ⟨qOf c (pre ++ ts), s.credit.getD c 0⟩ with cells := p.cells, outs := p.outs ++ [⟨t.i, 3, p.epochs⟩] } : SeqV)
          rw [h.cells]
        rw [ep] at h1
        obtain ⟨i1, i2⟩ := late_sim c hc8 ts (pre ++ [{ t with s := 3, e := (s.epochs.length : Int) }]) _ _ (l ++ [⟨(c : Int), t.i, true, ⟨#[]⟩⟩]) h1 htx' (by show c < (p.accs.set c _).length; rw [List.length_set]; exact hc) h8
        rw [List.length_append, List.length_singleton] at i1 i2
        rw [if_pos hd, filter_yes hl, filter_no (by rw [hl]; rfl)]
        have hE : (settle1 (putA p c ⟨qOf c (pre ++ ts), s.credit.getD c 0⟩) (lateRec c (waitOf t))).epochs = p.epochs := rfl
        rw [hE] at i1 i2
        refine ⟨?_, ?_⟩
        · rw [i1, List.map_cons, List.append_assoc]; rfl
        · rw [← settle1_put, putA_putA, qOf_append, qOf_no (t := { t with s := 3, e := (s.epochs.length : Int) }) (waits_ended (show (3 : Int) ≠ 0 by decide)), show qOf c [] = [] from rfl, List.append_nil] at i2
          exact i2
      · have hl : isLate p.epochs (waitOf t) = false := by unfold isLate; rw [hep]; exact decide_eq_false hd
        have ih := late_sim c hc8 ts (pre ++ [t]) s p l h (by rw [htx]; simp) hc h8
        rw [List.length_append, List.length_singleton, qOf_append, qOf_yes hw, show qOf c [] = [] from rfl] at ih
        rw [if_neg hd, filter_no hl, filter_yes (by rw [hl]; rfl)]
        refine ⟨ih.1, ?_⟩
        have h2 := ih.2
        rw [List.append_assoc] at h2
        exact h2

theorem lateV_sim {p : SeqV} {s : CluV} (h : Sim p s) {c : Nat} (hc : c < p.accs.length) (hc8 : c < 8) (h8 : s.credit.length = 8) :
    (lateV s c).2 = (lateL (accV p c) p.epochs).map (lateRec c) ∧ Sim (settleV (putA p c (lateA (accV p c) p.epochs)) ((lateL (accV p c) p.epochs).map (lateRec c))) (lateV s c).1 := by
  have := late_sim c hc8 s.txs [] s p [] h rfl hc h8
  unfold lateA lateL
  rw [h.accV hc]
  exact this

/-! ### visit -/
theorem Sim.cred {p : SeqV} {s : CluV} (h : Sim p s) {c : Nat} (hc : c < s.credit.length) (cr : Int) : Sim (putA p c ⟨qOf c s.txs, cr⟩) (credV s c cr) := by
  refine ⟨h.queue, h.quantum, h.room, h.first, h.epochs, h.log, h.cells, ?_, ?_, h.outs, h.few, h.e0⟩
  · show ((p.accs.set c _).length : Int) = _
    rw [List.length_set]; exact h.many
  · intro i hi
    have hi' : i < p.accs.length := by
      have : i < (p.accs.set c ⟨qOf c s.txs, cr⟩).length := hi
      rwa [List.length_set] at this
    show (p.accs.set c ⟨qOf c s.txs, cr⟩)[i]? = some ⟨qOf i s.txs, (s.credit.set c cr).getD i 0⟩
    by_cases hic : c = i
    · subst hic
      rw [List.getElem?_set_self hi', List.getD_eq_getElem?_getD, List.getElem?_set_self hc]
      rfl
    · rw [List.getElem?_set_ne hic, h.acc i hi', List.getD_eq_getElem?_getD, List.getD_eq_getElem?_getD, List.getElem?_set_ne hic]

theorem qOf_split (c : Nat) : ∀ (l : List TxV) (x : WaitV) (q : List WaitV), qOf c l = x :: q → ∃ pre t post, l = pre ++ t :: post ∧ qOf c pre = [] ∧ waits (c : Int) t = true ∧ waitOf t = x ∧ qOf c post = q
  | [], x, q, h => by cases h
  | t :: l, x, q, h => by
    cases hw : waits (c : Int) t with
    | true =>
      rw [qOf_yes hw] at h
      injection h with h1 h2
      exact ⟨[], t, l, rfl, rfl, hw, h1, h2⟩
    | false =>
      rw [qOf_no hw] at h
      obtain ⟨pre, t', post, h1, h2, h3⟩ := qOf_split c l x q h
      exact ⟨t :: pre, t', post, by rw [h1]; rfl, by rw [qOf_no hw]; exact h2, h3⟩
theorem queue_len_of (c : Nat) (l : List TxV) (k : Nat) : (queueFrom (c : Int) k l).length = (qOf c l).length := by
  rw [queue_count]; unfold qOf; rw [List.length_map, List.countP_eq_length_filter]
theorem queue_nil {c : Nat} {l : List TxV} (h : qOf c l = []) (k : Nat) : queueFrom (c : Int) k l = [] := by
  apply List.eq_nil_of_length_eq_zero
  rw [queue_len_of, h]; rfl
theorem queue_nil_iff (c : Nat) (l : List TxV) : queueV l c = [] ↔ qOf c l = [] := by
  constructor
  · intro h
    apply List.eq_nil_of_length_eq_zero
    rw [← queue_len_of c l 0]
    show (queueV l c).length = 0
    rw [h]; rfl
  · exact fun h => queue_nil h 0
theorem front_split {s : CluV} {c : Nat} {room : Int} {pre post : List TxV} {t : TxV} (htx : s.txs = pre ++ t :: post) (hp : qOf c pre = []) (hw : waits (c : Int) t = true) :
    frontV s c room = if s.credit.getD c 0 < (costV t.t : Int) ∨ room < (costV t.t : Int) then (-1 : Int) else (pre.length : Int) := by
  have hq : queueV s.txs c = pre.length :: queueFrom (c : Int) (pre.length + 1) post := by
    unfold queueV
    rw [htx, queueFrom_append, queue_nil hp, List.nil_append, Nat.zero_add, queueFrom, if_pos hw]
  have hget : s.txs[pre.length]? = some t := by rw [htx, List.getElem?_append_right (Nat.le_refl _), Nat.sub_self]; rfl
  unfold frontV
  rw [hq]
  simp only
  rw [hget]
theorem front_empty {s : CluV} {c : Nat} {room : Int} (h : qOf c s.txs = []) : frontV s c room = -1 := by
  unfold frontV
  rw [(queue_nil_iff c s.txs).2 h]

theorem costs_cons (x : WaitV) (l : List WaitV) : costs (x :: l) = x.c + costs l := rfl

theorem visit_sim (c : Nat) (hc8 : c < 8) : ∀ (k : Nat) (q : List WaitV) (s : CluV) (p : SeqV) (room : Int) (l : List RecV), Sim p s → c < p.accs.length → s.credit.length = 8 → (∀ t ∈ s.txs, Dk.parseOk t.t.data.toList = true) → qOf c s.txs = q → q.length < k →
    (visitGo c k s room l).2.1 = l ++ (q.take (takeN q (s.credit.getD c 0) room)).map (textRec c) ∧ (visitGo c k s room l).2.2 = room - costs (q.take (takeN q (s.credit.getD c 0) room)) ∧
    Sim (settleV (putA p c ⟨q.drop (takeN q (s.credit.getD c 0) room), s.credit.getD c 0 - costs (q.take (takeN q (s.credit.getD c 0) room))⟩) ((q.take (takeN q (s.credit.getD c 0) room)).map (textRec c))) (visitGo c k s room l).1 ∧
    (visitGo c k s room l).1.credit.length = 8
  | 0, q, s, p, room, l, h, hc, h8, hpa, hq, hk => absurd hk (by omega)
  | k + 1, [], s, p, room, l, h, hc, h8, hpa, hq, hk => by
    rw [visit_stop (by rw [front_empty hq]; omega)]
    refine ⟨by show l = l ++ []; rw [List.append_nil], by show room = room - 0; omega, ?_, h8⟩
    show Sim (putA p c ⟨[], s.credit.getD c 0 - 0⟩) s
    have := h.acc c hc
    rw [hq] at this
    rw [Int.sub_zero, putA_self this]
    exact h
  | k + 1, x :: q, s, p, room, l, h, hc, h8, hpa, hq, hk => by
    obtain ⟨pre, t, post, htx, hpre, hw, rfl, hpost⟩ := qOf_split c s.txs x q hq
    have hfr := front_split (room := room) htx hpre hw
    have hget : s.txs[pre.length]? = some t := by rw [htx, List.getElem?_append_right (Nat.le_refl _), Nat.sub_self]; rfl
    have hok := hpa t (List.mem_of_getElem? hget)
    by_cases hg : (costV t.t : Int) ≤ s.credit.getD c 0 ∧ (costV t.t : Int) ≤ room
    · rw [if_neg (by omega)] at hfr
      have hT : takeN (waitOf t :: q) (s.credit.getD c 0) room = takeN q (s.credit.getD c 0 - costV t.t) (room - costV t.t) + 1 := by
        rw [takeN, if_pos (show (waitOf t).c ≤ s.credit.getD c 0 ∧ (waitOf t).c ≤ room from hg)]; rfl
      rw [visit_go hfr hget, hT, List.take_succ_cons, List.drop_succ_cons, costs_cons, List.map_cons]
      have h1 := h.ended hc h8 hc8 htx hw (st := if (Dk.doV t.t.data.toList s.cells).2 then 1 else 2) (by split <;> decide) (s.credit.getD c 0 - costV t.t) (Dk.doV t.t.data.toList s.cells).1
      have ep : ({ putA p c ⟨qOf c (pre ++ post), s.credit.getD c 0 - costV t.t⟩ with cells := (Dk.doV t.t.data.toList s.cells).1, outs := p.outs ++ [⟨t.i, if (Dk.doV t.t.data.toList s.cells).2 then 1 else 2, p.epochs⟩] } : SeqV) = settle1 (putA p c ⟨qOf c (pre ++ post), s.credit.getD c 0 - costV t.t⟩) (textRec c (waitOf t)) := by
        unfold settle1
        have hdo : doRec (textRec c (waitOf t)) p.cells = ((Dk.doV t.t.data.toList s.cells).1, if (Dk.doV t.t.data.toList s.cells).2 then 1 else 2) := by
          unfold doRec
          rw [if_neg (by show ¬ false = true; simp), if_pos (by exact hok), h.cells]
          rfl
        show _ = ({ putA p c ⟨qOf c (pre ++ post), s.credit.getD c 0 - costV t.t⟩ with cells := (doRec (textRec c (waitOf t)) p.cells).1, outs := p.outs ++ [⟨t.i, (doRec (textRec c (waitOf t)) p.cells).2, p.epochs⟩] } : SeqV)
        rw [hdo]
      rw [ep] at h1
      have hrd : endsV (cellsV (credV s c (s.credit.getD c 0 - costV t.t)) (Dk.doV t.t.data.toList s.cells).1) pre.length (if (Dk.doV t.t.data.toList s.cells).2 then 1 else 2) = roundV s c pre.length t := rfl
      rw [hrd] at h1
      have htx' : (roundV s c pre.length t).txs = pre ++ { t with s := (if (Dk.doV t.t.data.toList s.cells).2 then 1 else 2), e := (s.epochs.length : Int) } :: post := by
        show s.txs.modify pre.length _ = _
        rw [htx, modify_mid]; rfl
      have hq' : qOf c (roundV s c pre.length t).txs = q := by
        rw [htx', qOf_append, hpre, List.nil_append, qOf_no (t := { t with s := (if (Dk.doV t.t.data.toList s.cells).2 then 1 else 2), e := (s.epochs.length : Int) }) (waits_ended (by show (if (Dk.doV t.t.data.toList s.cells).2 = true then (1 : Int) else 2) ≠ 0; split <;> decide))]
        exact hpost
      have hcr' : (roundV s c pre.length t).credit.getD c 0 = s.credit.getD c 0 - costV t.t := by
        show (s.credit.set c _).getD c 0 = _
        rw [List.getD_eq_getElem?_getD, List.getElem?_set_self (by omega)]; rfl
      have hpa' : ∀ u ∈ (roundV s c pre.length t).txs, Dk.parseOk u.t.data.toList = true := by
        intro u hu
        rw [htx'] at hu
        have hu2 : u ∈ pre ∨ u = { t with s := (if (Dk.doV t.t.data.toList s.cells).2 then 1 else 2), e := (s.epochs.length : Int) } ∨ u ∈ post := by simpa using hu
        rcases hu2 with h1 | h1 | h1
        · exact hpa u (by rw [htx]; simp [h1])
        · rw [h1]; exact hok
        · exact hpa u (by rw [htx]; simp [h1])
      obtain ⟨i1, i2, i3, i4⟩ := visit_sim c hc8 k q _ _ (room - costV t.t) (l ++ [⟨(c : Int), t.i, false, t.t⟩]) h1 (by show c < (p.accs.set c _).length; rw [List.length_set]; exact hc) (by show (s.credit.set c _).length = 8; rw [List.length_set]; exact h8) hpa' hq' (by rw [List.length_cons] at hk; omega)
      rw [hcr'] at i1 i2 i3
      refine ⟨?_, ?_, ?_, i4⟩
      · rw [i1, List.append_assoc]; rfl
      · rw [i2]
        show _ = room - ((costV t.t : Int) + _)
        omega
      · rw [← settle1_put, putA_putA] at i3
        have e : s.credit.getD c 0 - ((waitOf t).c + costs (q.take (takeN q (s.credit.getD c 0 - costV t.t) (room - costV t.t)))) = s.credit.getD c 0 - costV t.t - costs (q.take (takeN q (s.credit.getD c 0 - costV t.t) (room - costV t.t))) := by
          show _ - ((costV t.t : Int) + _) = _
          omega
        rw [e]
        exact i3
    · rw [if_pos (by omega)] at hfr
      rw [visit_stop (by rw [hfr]; omega)]
      have hT : takeN (waitOf t :: q) (s.credit.getD c 0) room = 0 := by
        rw [takeN, if_neg (by exact hg)]
      rw [hT]
      refine ⟨by show l = l ++ []; rw [List.append_nil], by show room = room - 0; omega, ?_, h8⟩
      show Sim (putA p c ⟨waitOf t :: q, s.credit.getD c 0 - 0⟩) s
      have := h.acc c hc
      rw [hq] at this
      rw [Int.sub_zero, putA_self this]
      exact h

theorem visitV_sim {p : SeqV} {s : CluV} (h : Sim p s) {c : Nat} (hc : c < p.accs.length) (hc8 : c < 8) (h8 : s.credit.length = 8) (hpa : ∀ t ∈ s.txs, Dk.parseOk t.t.data.toList = true) (hq : (qOf c s.txs).length ≤ 64) (room : Int) :
    (visitV s c room).2.1 = (visitL (accV p c) p.quantum room).map (textRec c) ∧ (visitV s c room).2.2 = room - costs (visitL (accV p c) p.quantum room) ∧
    Sim (settleV (putA p c (visitA (accV p c) p.quantum room)) ((visitL (accV p c) p.quantum room).map (textRec c))) (visitV s c room).1 := by
  have ha := h.accV hc
  have h1 := h.cred (c := c) (by omega) (s.credit.getD c 0 + s.conf.quantum)
  have hcr1 : (credV s c (s.credit.getD c 0 + s.conf.quantum)).credit.getD c 0 = s.credit.getD c 0 + s.conf.quantum := by
    show (s.credit.set c _).getD c 0 = _
    rw [List.getD_eq_getElem?_getD, List.getElem?_set_self (by omega)]; rfl
  have h18 : (credV s c (s.credit.getD c 0 + s.conf.quantum)).credit.length = 8 := by show (s.credit.set c _).length = 8; rw [List.length_set]; exact h8
  obtain ⟨i1, i2, i3, i4⟩ := visit_sim c hc8 65 (qOf c s.txs) (credV s c (s.credit.getD c 0 + s.conf.quantum)) _ room [] h1 (by show c < (p.accs.set c _).length; rw [List.length_set]; exact hc) h18 hpa rfl (by omega)
  rw [hcr1] at i1 i2 i3
  rw [putA_putA] at i3
  have hgiven : qOf c s.txs ≠ [] → given (accV p c) p.quantum = s.credit.getD c 0 + s.conf.quantum := by
    intro hne
    unfold given
    rw [ha, if_neg hne, h.quantum]
  have hqx : qOf c (visitGo c 65 (credV s c (s.credit.getD c 0 + s.conf.quantum)) room []).1.txs = (qOf c s.txs).drop (takeN (qOf c s.txs) (s.credit.getD c 0 + s.conf.quantum) room) := by
    have hcl : c < (settleV (putA p c ⟨(qOf c s.txs).drop (takeN (qOf c s.txs) (s.credit.getD c 0 + s.conf.quantum) room), s.credit.getD c 0 + s.conf.quantum - costs ((qOf c s.txs).take (takeN (qOf c s.txs) (s.credit.getD c 0 + s.conf.quantum) room))⟩) (((qOf c s.txs).take (takeN (qOf c s.txs) (s.credit.getD c 0 + s.conf.quantum) room)).map (textRec c))).accs.length := by
      rw [(settle_accs _ _).1]
      show c < (p.accs.set c _).length
      rw [List.length_set]; exact hc
    have := i3.acc c hcl
    rw [(settle_accs _ _).1] at this
    have h2 : (p.accs.set c ⟨(qOf c s.txs).drop (takeN (qOf c s.txs) (s.credit.getD c 0 + s.conf.quantum) room), s.credit.getD c 0 + s.conf.quantum - costs ((qOf c s.txs).take (takeN (qOf c s.txs) (s.credit.getD c 0 + s.conf.quantum) room))⟩)[c]? = _ := this
    rw [List.getElem?_set_self hc] at h2
    injection h2 with h2
    injection h2 with h2 h3
    exact h2.symm
  by_cases hne : qOf c s.txs = []
  · -- nobody waits
    rw [hne] at hqx i1 i2 i3
    have e0 : visitL (accV p c) p.quantum room = [] := by unfold visitL; rw [ha, hne]; rfl
    have e1 : visitA (accV p c) p.quantum room = ⟨[], 0⟩ := by unfold visitA; rw [ha, hne]; rfl
    rw [e0, e1]
    unfold visitV
    simp only
    rw [if_pos ((queue_nil_iff c _).2 hqx)]
    refine ⟨i1, i2, ?_⟩
    have h5 := i3.cred (c := c) (by omega) 0
    rw [hqx] at h5
    have h6 : Sim (putA (putA p c ⟨[], _⟩) c ⟨[], 0⟩) _ := h5
    rw [putA_putA] at h6
    exact h6
  · have hg := hgiven hne
    have e0 : visitL (accV p c) p.quantum room = (qOf c s.txs).take (takeN (qOf c s.txs) (s.credit.getD c 0 + s.conf.quantum) room) := by unfold visitL; rw [hg, ha]
    have e1 : visitA (accV p c) p.quantum room = ⟨(qOf c s.txs).drop (takeN (qOf c s.txs) (s.credit.getD c 0 + s.conf.quantum) room), if (qOf c s.txs).drop (takeN (qOf c s.txs) (s.credit.getD c 0 + s.conf.quantum) room) = [] then 0 else s.credit.getD c 0 + s.conf.quantum - costs ((qOf c s.txs).take (takeN (qOf c s.txs) (s.credit.getD c 0 + s.conf.quantum) room))⟩ := by unfold visitA; rw [hg, ha]
    rw [e0, e1]
    unfold visitV
    simp only
    by_cases hx : (qOf c s.txs).drop (takeN (qOf c s.txs) (s.credit.getD c 0 + s.conf.quantum) room) = []
    · rw [if_pos ((queue_nil_iff c _).2 (hqx.trans hx)), if_pos hx]
      refine ⟨i1, i2, ?_⟩
      have h5 := i3.cred (c := c) (by omega) 0
      rw [hqx, ← settle_put, putA_putA] at h5
      exact h5
    · rw [if_neg (fun hh => hx (hqx.symm.trans ((queue_nil_iff c _).1 hh))), if_neg hx]
      exact ⟨i1, i2, i3⟩

end Go.Proofs.YtccckonckddadabGreat
namespace Go.Proofs.YtccckonckddadabGreat
set_option linter.unusedVariables false

theorem accV_settle (p : SeqV) (l : List RecV) (i : Nat) : accV (settleV p l) i = accV p i := by
  unfold accV; rw [(settle_accs l p).1]

theorem pLate_step (r i : Nat) (p : SeqV) (l : List RecV) : pLateFrom (r + 1) i p l = pLateFrom r (i + 1) (putA p i (lateA (accV p i) p.epochs)) (l ++ (lateL (accV p i) p.epochs).map (lateRec i)) := rfl
theorem pVisit_step (r i : Nat) (p : SeqV) (room : Int) (l : List RecV) : pVisitFrom (r + 1) i p room l = pVisitFrom r (behindV p.accs.length i) (putA p i (visitA (accV p i) p.quantum room)) (room - costs (visitL (accV p i) p.quantum room)) (l ++ (visitL (accV p i) p.quantum room).map (textRec i)) := rfl

theorem lateFrom_sim : ∀ (r i : Nat) (s : CluV) (p : SeqV) (l : List RecV), Sim (settleV p l) s → CluFit s → i + r = p.accs.length →
    (lateFrom r i s l).2 = (pLateFrom r i p l).2 ∧ Sim (settleV (pLateFrom r i p l).1 (pLateFrom r i p l).2) (lateFrom r i s l).1 ∧ (pLateFrom r i p l).1.accs.length = p.accs.length ∧ (pLateFrom r i p l).1.first = p.first ∧ (pLateFrom r i p l).1.epochs = p.epochs ∧ (pLateFrom r i p l).1.log = p.log
  | 0, i, s, p, l, h, hf, hi => ⟨rfl, h, rfl, rfl, rfl, rfl⟩
  | r + 1, i, s, p, l, h, hf, hi => by
    have hcl : (p.accs.length : Int) = s.conf.clients := by have := h.many; rw [(settle_accs l p).1] at this; exact this
    obtain ⟨c1, c2, _, _⟩ := conf_edges hf.conf
    have hi8 : i < 8 := by omega
    obtain ⟨e1, e2⟩ := lateV_sim h (c := i) (by rw [(settle_accs l p).1]; omega) hi8 hf.credit
    rw [accV_settle, (settle_accs l p).2.1] at e1 e2
    rw [← settle_put, ← settleV_append] at e2
    obtain ⟨y1, y2, _⟩ := lateV_mild hf (client := (i : Int)) (by omega) (by omega)
    obtain ⟨i1, i2, i3, i4, i5, i6⟩ := lateFrom_sim r (i + 1) (lateV s i).1 (putA p i (lateA (accV p i) p.epochs)) (l ++ (lateL (accV p i) p.epochs).map (lateRec i)) e2 y2 (by show _ = (p.accs.set i _).length; rw [List.length_set]; omega)
    rw [late_step, pLate_step, e1]
    refine ⟨i1, i2, ?_, i4, i5, i6⟩
    rw [i3]
    show (p.accs.set i _).length = _
    rw [List.length_set]

theorem behind_mod {f n : Int} {i m : Nat} (hm : (m : Int) = n) (hn : 0 < n) (h : (i : Int) < n) (h0 : 0 ≤ f) (hf : f < n) : behindV m ((f + i) % n).toNat = ((f + ((i + 1 : Nat) : Int)) % n).toNat := by
  have r1 : f + i < n ∧ (f + i) % n = f + i ∨ n ≤ f + i ∧ (f + i) % n = f + i - n := by
    by_cases h1 : f + i < n
    · exact .inl ⟨h1, Int.emod_eq_of_lt (by omega) h1⟩
    · exact .inr ⟨by omega, emod_over (by omega) (by omega)⟩
  have r2 : f + ((i + 1 : Nat) : Int) < n ∧ (f + ((i + 1 : Nat) : Int)) % n = f + i + 1 ∨ n ≤ f + ((i + 1 : Nat) : Int) ∧ f + ((i + 1 : Nat) : Int) < n + n ∧ (f + ((i + 1 : Nat) : Int)) % n = f + i + 1 - n ∨ f + ((i + 1 : Nat) : Int) = n + n ∧ False := by
    by_cases h1 : f + ((i + 1 : Nat) : Int) < n
    · exact .inl ⟨h1, (Int.emod_eq_of_lt (by omega) h1).trans (by omega)⟩
    · exact .inr (.inl ⟨by omega, by omega, (emod_over (by omega) (by omega)).trans (by omega)⟩)
  unfold behindV
  rcases r1 with ⟨a1, a2⟩ | ⟨a1, a2⟩ <;> rcases r2 with ⟨b1, b2⟩ | ⟨b1, b2, b3⟩ | ⟨_, b3⟩
  · rw [a2, b2, if_pos (by omega)]; omega
  · rw [a2, b3, if_neg (by omega)]; omega
  · exact b3.elim
  · omega
  · rw [a2, b3, if_pos (by omega)]; omega
  · exact b3.elim

theorem visitFrom_step (r i : Nat) (s : CluV) (room : Int) (l : List RecV) : visitFrom (r + 1) i s room l = visitFrom r (i + 1) (visitV s ((s.first + i) % s.conf.clients).toNat room).1 (visitV s ((s.first + i) % s.conf.clients).toNat room).2.2 (l ++ (visitV s ((s.first + i) % s.conf.clients).toNat room).2.1) := rfl

theorem visitFrom_sim (l0 : List RecV) : ∀ (r i : Nat) (s : CluV) (p : SeqV) (room : Int) (l : List RecV), Sim (settleV p (l0 ++ l)) s → CluFit s → (i : Int) + r ≤ s.conf.clients → 0 ≤ room → (∀ j : Nat, i ≤ j → (j : Int) < s.conf.clients → s.credit.getD ((s.first + j) % s.conf.clients).toNat 0 ≤ 8 * (s.epochs.length : Int)) → (∀ c : Nat, (queueV s.txs c).length ≤ 64) →
    (visitFrom r i s room (l0 ++ l)).2 = l0 ++ (pVisitFrom r ((s.first + i) % s.conf.clients).toNat p room l).2 ∧
    Sim (settleV (pVisitFrom r ((s.first + i) % s.conf.clients).toNat p room l).1 (l0 ++ (pVisitFrom r ((s.first + i) % s.conf.clients).toNat p room l).2)) (visitFrom r i s room (l0 ++ l)).1 ∧ (pVisitFrom r ((s.first + i) % s.conf.clients).toNat p room l).1.accs.length = p.accs.length ∧ (pVisitFrom r ((s.first + i) % s.conf.clients).toNat p room l).1.first = p.first ∧ (pVisitFrom r ((s.first + i) % s.conf.clients).toNat p room l).1.epochs = p.epochs ∧ (pVisitFrom r ((s.first + i) % s.conf.clients).toNat p room l).1.log = p.log
  | 0, i, s, p, room, l, h, hf, _, _, _, _ => ⟨rfl, h, rfl, rfl, rfl, rfl⟩
  | r + 1, i, s, p, room, l, h, hf, hn, hr, hc, hq => by
    obtain ⟨e1, e2, _, _⟩ := conf_edges hf.conf
    have hcl : (p.accs.length : Int) = s.conf.clients := by have := h.many; rw [(settle_accs _ p).1] at this; exact this
    obtain ⟨t1, t2, t3⟩ := turn_lt (f := s.first) (i := i) (by omega : 0 < s.conf.clients) e2
    obtain ⟨y1, y2, y3, y4, y5, y6, y7⟩ := visitV_mild hf t1 hr (hc i (Nat.le_refl _) (by omega))
    have hnext := behind_mod (f := s.first) (i := i) hcl (by omega) (by omega) hf.first0 hf.first1
    have hqc : (qOf ((s.first + i) % s.conf.clients).toNat s.txs).length ≤ 64 := by
      have := hq ((s.first + i) % s.conf.clients).toNat
      unfold queueV at this
      rw [queue_len_of] at this
      exact this
    obtain ⟨v1, v2, v3⟩ := visitV_sim h (c := ((s.first + i) % s.conf.clients).toNat) (by rw [(settle_accs _ p).1]; omega) t1 hf.credit (fun t ht => (hf.tx t ht).1) hqc room
    rw [accV_settle, (settle_accs _ p).2.2.1] at v1 v2 v3
    rw [← settle_put, ← settleV_append, List.append_assoc] at v3
    have ih := visitFrom_sim l0 r (i + 1) _ (putA p ((s.first + i) % s.conf.clients).toNat (visitA (accV p ((s.first + i) % s.conf.clients).toNat) p.quantum room)) (visitV s ((s.first + i) % s.conf.clients).toNat room).2.2 (l ++ (visitL (accV p ((s.first + i) % s.conf.clients).toNat) p.quantum room).map (textRec ((s.first + i) % s.conf.clients).toNat)) v3 y2 (by rw [y1.conf]; omega) y6 (fun j hj hjn => by
      rw [y1.conf] at hjn
      rw [y1.conf, y1.first, y1.epochs]
      have hne := turn_ne hf.first0 hf.first1 hjn (by omega : (i : Int) < s.conf.clients) (by omega : j ≠ i)
      rw [List.getD_eq_getElem?_getD, y5 _ hne, ← List.getD_eq_getElem?_getD]
      exact hc j (by omega) hjn) (fun c => Nat.le_trans (y1.queue (c : Int)) (hq c))
    rw [y1.conf, y1.first] at ih
    rw [visitFrom_step, pVisit_step, hnext, v1, List.append_assoc, ← v2]
    obtain ⟨j1, j2, j3, j4, j5, j6⟩ := ih
    refine ⟨j1, j2, ?_, j4, j5, j6⟩
    rw [j3]
    show (p.accs.set _ _).length = _
    rw [List.length_set]

theorem mod_first {f n : Int} (h0 : 0 ≤ f) (hf : f < n) : ((f + (0 : Nat)) % n).toNat = f.toNat := by
  rw [show f + ((0 : Nat) : Int) = f from by omega, Int.emod_eq_of_lt h0 hf]

theorem fill_sim {p : SeqV} {s : CluV} (h : Sim p s) (hf : CluFit s) (hr : Rest s) : (pFillV p).2 = (fillV s).2 ∧ Sim (pFillV p).1 (fillV s).1 := by
  unfold pFillV fillV
  rw [h.epochs]
  by_cases he : 200 ≤ s.epochs.length
  · rw [if_pos he, if_pos he]
    exact ⟨rfl, h⟩
  · rw [if_neg he, if_neg he]
    obtain ⟨e1, e2, e3, _⟩ := conf_edges hf.conf
    have hcl := h.many
    have hcn : s.conf.clients.toNat = p.accs.length := by omega
    rw [hcn]
    obtain ⟨l1, l2, l3, l4, l5, l6⟩ := lateFrom_sim p.accs.length 0 s p [] h hf (by omega)
    obtain ⟨y1, y2, y3⟩ := lateFrom_mild p.accs.length 0 s [] hf (by omega)
    have hv := visitFrom_sim (pLateFrom p.accs.length 0 p []).2 p.accs.length 0 (lateFrom p.accs.length 0 s []).1 (pLateFrom p.accs.length 0 p []).1 s.conf.room [] (by rw [List.append_nil]; exact l2) y2 (by rw [y1.conf]; omega) e3 (fun j _ _ => by rw [y3, y1.epochs]; exact hr.credit _) (fun c => by
      have h1 := y1.queue (c : Int)
      have h2 := hr.queue c
      obtain ⟨_, _, _, _⟩ := conf_edges hf.conf
      have h3 := hf.conf
      unfold confOk at h3
      simp only [Bool.and_eq_true, decide_eq_true_eq] at h3
      omega)
    rw [y1.first, y1.conf, mod_first hf.first0 hf.first1, List.append_nil, show s.first.toNat = p.first from by have := h.first; omega] at hv
    obtain ⟨v1, v2, v3, v4, v5, v6⟩ := hv
    obtain ⟨z1, z2⟩ := visitFrom_mild p.accs.length 0 (lateFrom p.accs.length 0 s []).1 s.conf.room (pLateFrom p.accs.length 0 p []).2 y2 (by rw [y1.conf]; omega) e3 (fun j _ _ => by rw [y3, y1.epochs]; exact hr.credit _)
    have hM := y1.trans z1
    simp only
    rw [← h.room] at v1 v2 v3 v4 v5 v6 z1 z2 hM
    rw [l1, ← h.room]
    rw [v1, settle_first]
    refine ⟨rfl, ?_⟩
    have hsp := v2.epochs
    have hfi := h.first
    have hb := behind_mod (f := s.first) (i := 0) hcl (by omega) (by omega) hf.first0 hf.first1
    rw [mod_first hf.first0 hf.first1, show s.first.toNat = p.first from by omega] at hb
    refine ⟨v2.queue, v2.quantum, v2.room, ?_, ?_, ?_, v2.cells, v2.many, v2.acc, v2.outs, v2.few, v2.e0⟩
    · show ((behindV p.accs.length p.first : Nat) : Int) = ((visitFrom p.accs.length 0 (lateFrom p.accs.length 0 s []).1 p.room (pLateFrom p.accs.length 0 p []).2).1.first + 1) % s.conf.clients
      rw [hM.first, hb]
      have := Int.emod_nonneg (s.first + 1) (by omega : s.conf.clients ≠ 0)
      show ((((s.first + ((0 + 1 : Nat) : Int)) % s.conf.clients).toNat : Nat) : Int) = _
      rw [show s.first + ((0 + 1 : Nat) : Int) = s.first + 1 from by omega]
      omega
    · show s.epochs.length + 1 = ((visitFrom p.accs.length 0 (lateFrom p.accs.length 0 s []).1 p.room (pLateFrom p.accs.length 0 p []).2).1.epochs ++ [_]).length
      rw [List.length_append, hM.epochs]; rfl
    · refine ⟨?_, ?_⟩
      rotate_left
      · show ((settleV (pVisitFrom p.accs.length p.first (pLateFrom p.accs.length 0 p []).1 p.room []).1 _).eps ++ [_]).map _ = ((visitFrom p.accs.length 0 (lateFrom p.accs.length 0 s []).1 p.room (pLateFrom p.accs.length 0 p []).2).1.epochs ++ [_]).mapIdx _
        rw [List.map_append, v2.log.2, epsL, List.mapIdx_append, hM.epochs]
        simp only [List.map_cons, List.map_nil, List.mapIdx_cons, List.mapIdx_nil, Nat.zero_add]
      show (settleV (pVisitFrom p.accs.length p.first (pLateFrom p.accs.length 0 p []).1 p.room []).1 _).log ++ Dk.epoch s.epochs.length _ = _
      have hlog := v2.log.1
      rw [hlog]
      have hge : ({ (visitFrom p.accs.length 0 (lateFrom p.accs.length 0 s []).1 p.room (pLateFrom p.accs.length 0 p []).2).1 with first := ((visitFrom p.accs.length 0 (lateFrom p.accs.length 0 s []).1 p.room (pLateFrom p.accs.length 0 p []).2).1.first + 1) % s.conf.clients, epochs := (visitFrom p.accs.length 0 (lateFrom p.accs.length 0 s []).1 p.room (pLateFrom p.accs.length 0 p []).2).1.epochs ++ [(pLateFrom p.accs.length 0 p []).2 ++ (pVisitFrom p.accs.length p.first (pLateFrom p.accs.length 0 p []).1 p.room []).2] } : CluV).epochs[s.epochs.length]? = some ((pLateFrom p.accs.length 0 p []).2 ++ (pVisitFrom p.accs.length p.first (pLateFrom p.accs.length 0 p []).1 p.room []).2) := by
        show ((visitFrom p.accs.length 0 (lateFrom p.accs.length 0 s []).1 p.room (pLateFrom p.accs.length 0 p []).2).1.epochs ++ [_])[s.epochs.length]? = _
        rw [hM.epochs, List.getElem?_append_right (Nat.le_refl _), Nat.sub_self]; rfl
      have hs := log_snoc hge
      rw [show ({ (visitFrom p.accs.length 0 (lateFrom p.accs.length 0 s []).1 p.room (pLateFrom p.accs.length 0 p []).2).1 with first := ((visitFrom p.accs.length 0 (lateFrom p.accs.length 0 s []).1 p.room (pLateFrom p.accs.length 0 p []).2).1.first + 1) % s.conf.clients, epochs := (visitFrom p.accs.length 0 (lateFrom p.accs.length 0 s []).1 p.room (pLateFrom p.accs.length 0 p []).2).1.epochs ++ [(pLateFrom p.accs.length 0 p []).2 ++ (pVisitFrom p.accs.length p.first (pLateFrom p.accs.length 0 p []).1 p.room []).2] } : CluV).epochs.length = s.epochs.length + 1 from by
        show ((visitFrom p.accs.length 0 (lateFrom p.accs.length 0 s []).1 p.room (pLateFrom p.accs.length 0 p []).2).1.epochs ++ [_]).length = _
        rw [List.length_append, hM.epochs]; rfl, hs]
      congr 1
      unfold logV
      congr 2
      show _ = List.take s.epochs.length ((visitFrom p.accs.length 0 (lateFrom p.accs.length 0 s []).1 p.room (pLateFrom p.accs.length 0 p []).2).1.epochs ++ [_])
      rw [hM.epochs, List.take_append_of_le_length (Nat.le_refl _)]

end Go.Proofs.YtccckonckddadabGreat
