import Derived.Test.YtccckonckddadabGreatJ21
import Derived.Test.YtccckonckddadabGreatJ24
import Derived.Test.YtccckonckddadabGreatJ18
import Derived.Laws.CopyOwn
import Derived.Laws.StructEq
import Derived.OwnWalk
import Derived.Deep.AppendLies
namespace Go.Proofs.YtccckonckddadabGreat
open Go.RowKit
set_option linter.unusedVariables false

/-! ### A row of records that is known whole -/
def AllAt (w : World) (g : Nat) (rs : List RecV) : Prop := w.heap[g]? = some (.cells (recsCells rs).toArray 55)

theorem recsCells_len : ∀ rs : List RecV, (recsCells rs).length = rs.length * 4
  | [] => rfl
  | r :: rs => by
    show (recCells r ++ recsCells rs).length = _
    rw [List.length_append, recsCells_len rs, List.length_cons]
    simp [recCells]; omega

theorem AllAt.cell {w : World} {g : Nat} {rs : List RecV} (h : AllAt w g rs) {k : Nat} {r : RecV} (hr : rs[k]? = some r) :
    w.cell? ⟨g, k * 4, none⟩ = some (.int .i64 r.c) ∧ w.cell? ⟨g, k * 4 + 1, none⟩ = some (.int .i64 r.i) ∧ w.cell? ⟨g, k * 4 + 2, none⟩ = some (.bool r.l) ∧ w.cell? ⟨g, k * 4 + 3, none⟩ = some (.string r.t) := by
  obtain ⟨hk, rfl⟩ := List.getElem?_eq_some_iff.1 hr
  have hx : ∀ j, j < 4 → w.cell? ⟨g, k * 4 + j, none⟩ = (recCells rs[k])[j]? := fun j hj => by
    rw [(heap_cells h).1, ← recsCells_at rs k j hk hj]; simp
  exact ⟨hx 0 (by omega), hx 1 (by omega), hx 2 (by omega), hx 3 (by omega)⟩

theorem AllAt.row {w : World} {g : Nat} {rs : List RecV} (h : AllAt w g rs) (n : Nat) (hn : n ≤ rs.length) (hs : ∀ r ∈ rs, r.t.size ≤ maxLen) : RecRow w (some ⟨g, 0, none⟩) n (rs.take n) := by
  refine ⟨by rw [List.length_take]; omega, fun r hr => hs r (List.mem_of_mem_take hr), .inr ⟨g, 0, rfl, (heap_cells h).2.2, fun k r hr => ?_⟩⟩
  have hr' : rs[k]? = some r := by
    rw [List.getElem?_take] at hr
    split at hr
    · exact hr
    · cases hr
  rw [Nat.zero_add]
  exact h.cell hr'

theorem AllAt.kept {w W : World} {g : Nat} {rs : List RecV} (h : AllAt w g rs) (hb : Below w.heap.size w W) : AllAt W g rs := (hb.block g (heap_cells h).2.2).trans h

theorem set4_list : ∀ (rs : List RecV) (k : Nat) (r : RecV), k < rs.length →
    ((((recsCells rs).set (k * 4) (.int .i64 r.c)).set (k * 4 + 1) (.int .i64 r.i)).set (k * 4 + 2) (.bool r.l)).set (k * 4 + 3) (.string r.t) = recsCells (rs.set k r)
  | [], k, r, h => absurd h (by simp)
  | x :: rs, 0, r, _ => rfl
  | x :: rs, k + 1, r, h => by
    have ih := set4_list rs k r (by simpa using h)
    show (((((recCells x ++ recsCells rs).set ((k + 1) * 4) _).set ((k + 1) * 4 + 1) _).set ((k + 1) * 4 + 2) _).set ((k + 1) * 4 + 3) _) = recCells x ++ recsCells (rs.set k r)
    have hl : (recCells x).length = 4 := rfl
    rw [List.set_append_right _ _ (by omega), List.set_append_right _ _ (by omega), List.set_append_right _ _ (by omega), List.set_append_right _ _ (by omega), hl]
    rw [show (k + 1) * 4 - 4 = k * 4 from by omega, show (k + 1) * 4 + 1 - 4 = k * 4 + 1 from by omega, show (k + 1) * 4 + 2 - 4 = k * 4 + 2 from by omega, show (k + 1) * 4 + 3 - 4 = k * 4 + 3 from by omega, ih]

theorem heap_set {w : World} {g x : Nat} {cs : Array Value} {t : TypeId} (h : w.heap[g]? = some (.cells cs t)) (v : Value) : (w.setCell ⟨g, x, none⟩ v).heap[g]? = some (.cells (cs.setIfInBounds x v) t) := by
  rw [setCell_eq_setRow w g x cs t (0, 0) v h]
  exact setRow_heap w g cs _ t _ h

theorem AllAt.put {w : World} {g : Nat} {rs : List RecV} (h : AllAt w g rs) {k : Nat} (hk : k < rs.length) (r : RecV) :
    AllAt ((((w.setCell ⟨g, k * 4, none⟩ (.int .i64 r.c)).setCell ⟨g, k * 4 + 1, none⟩ (.int .i64 r.i)).setCell ⟨g, k * 4 + 2, none⟩ (.bool r.l)).setCell ⟨g, k * 4 + 3, none⟩ (.string r.t)) g (rs.set k r) := by
  unfold AllAt
  rw [heap_set (heap_set (heap_set (heap_set h _) _) _) _, ← set4_list rs k r hk]
  simp

theorem put_below {w0 w : World} {B g : Nat} (h : Below B w0 w) (hg : B ≤ g) (k : Nat) (z0 z1 z2 z3 : Value) :
    Below B w0 ((((w.setCell ⟨g, k * 4, none⟩ z0).setCell ⟨g, k * 4 + 1, none⟩ z1).setCell ⟨g, k * 4 + 2, none⟩ z2).setCell ⟨g, k * 4 + 3, none⟩ z3) := by
  iterate 4 refine Below.setCell ?_ hg _
  exact h

/-! ### make -/
def zeroRec : RecV := ⟨0, 0, false, ⟨#[]⟩⟩
theorem made_rec (n : Nat) : (madeCells (Value.cells (.agg #[.int .i64 0, .int .i64 0, .bool false, .string ⟨#[]⟩])) (n * 4)).toList = recsCells (List.replicate n zeroRec) := by
  apply List.ext_getElem?
  intro j
  by_cases hj : j < n * 4
  · have h1 : j = (j / 4) * 4 + j % 4 := by omega
    have h2 : j / 4 < (List.replicate n zeroRec).length := by rw [List.length_replicate]; omega
    rw [h1, recsCells_at _ _ _ h2 (by omega)]
    rw [List.getElem_replicate, ← h1]
    unfold madeCells
    rw [Array.getElem?_toList, Array.getElem?_map, Array.getElem?_range, if_pos hj]
    have h3 : j % 4 = 0 ∨ j % 4 = 1 ∨ j % 4 = 2 ∨ j % 4 = 3 := by omega
    show some ((Value.cells (.agg #[.int .i64 0, .int .i64 0, .bool false, .string ⟨#[]⟩]))[j % 4]!) = _
    rcases h3 with h | h | h | h <;> rw [h] <;> rfl
  · rw [List.getElem?_eq_none (by rw [Array.length_toList, size_madeCells]; omega), List.getElem?_eq_none (by rw [recsCells_len, List.length_replicate]; omega)]

/-! ### copy of records -/
theorem copy_row4 {P : Program} (w : World) (dT sT ty elem : TypeId) (g dLen dCap : Nat) (a : Addr) (sLen sCap : Nat) (cur : Array Value) (t : TypeId) (cs : List Value)
    (hu : P.underlying dT = some (.slice elem)) (hs : (P.info? elem).map (·.size) = some 4)
    (hg : w.heap[g]? = some (.cells cur t (0, 0))) (hn : cs.length = Nat.min sLen dLen * 4)
    (hsrc : ∀ j v, cs[j]? = some v → w.cell? (a.add j) = some v) (hfit : cs.length ≤ cur.size) (h1 : ∀ v ∈ cs, v.oneCell' = true) :
    (Builtin.copy_ #[dT, sT] ty #[.slice (some ⟨g, 0, none⟩) dLen dCap, .slice (some a) sLen sCap]).run P w =
      .ok (goInt (Nat.min sLen dLen)) (w.setRow g (cs ++ cur.toList.drop cs.length).toArray) := by
  have hl := run_loadCells_list (P := P) w a cs hsrc
  have hst := run_storeCells_at P g 0 t cs 0 cur w hg (by simpa using hfit) h1
  cases hq : P.info? elem with
  | none => simp [hq] at hs
  | some i =>
    have hi : i.size = 4 := by simpa [hq] using hs
    simp [Builtin.copy_, run_underlying hu, Builtin.lenOf, Builtin.firstCells, sizeOf, typeInfo, hq, hi, ← hn, hl, hst]
theorem copy_none4 {P : Program} (w : World) (dT sT ty elem : TypeId) (d a : Option Addr) (dLen dCap sLen sCap : Nat) (hu : P.underlying dT = some (.slice elem)) (hs : (P.info? elem).map (·.size) = some 4) (hn : Nat.min sLen dLen = 0) :
    (Builtin.copy_ #[dT, sT] ty #[.slice d dLen dCap, .slice a sLen sCap]).run P w = .ok (goInt 0) w := by
  cases hq : P.info? elem with
  | none => simp [hq] at hs
  | some i =>
    have hl : ∀ (x : Addr), (loadCells x 0).run P w = .ok #[] w := fun x => by simpa using run_loadCells_list (P := P) w x [] (by simp)
    cases d <;> cases a <;> simp [Builtin.copy_, run_underlying hu, Builtin.lenOf, Builtin.firstCells, sizeOf, typeInfo, hq, hn, storeCells, hl]

theorem recs_src {w : World} {a : Option Addr} {m : Nat} {rs : List RecV} (h : RecRow w a m rs) (hm : 0 < m) : ∃ ad, a = some ad ∧ ∀ j v, (recsCells rs)[j]? = some v → w.cell? (ad.add j) = some v := by
  obtain ⟨g, off, rfl, hg, hc⟩ := h.cells.resolve_left (by omega)
  refine ⟨⟨g, off, none⟩, rfl, fun j v hv => ?_⟩
  have hadd : (⟨g, off, none⟩ : Addr).add j = ⟨g, off + j, none⟩ := by unfold Addr.add; split <;> simp_all
  rw [hadd]
  have hj : j < rs.length * 4 := by
    have := (List.getElem?_eq_some_iff.1 hv).1
    rw [recsCells_len] at this
    exact this
  have h1 : j = (j / 4) * 4 + j % 4 := by omega
  have h2 : j / 4 < rs.length := by omega
  rw [h1, recsCells_at _ _ _ h2 (by omega)] at hv
  obtain ⟨c0, c1, c2, c3⟩ := hc (j / 4) rs[j / 4] (List.getElem?_eq_getElem h2)
  have h3 : j % 4 = 0 ∨ j % 4 = 1 ∨ j % 4 = 2 ∨ j % 4 = 3 := by omega
  rw [h1, ← Nat.add_assoc]
  rcases h3 with h | h | h | h <;> rw [h] at hv ⊢
  · rw [Nat.add_zero, c0]; exact hv
  · rw [c1]; exact hv
  · rw [c2]; exact hv
  · rw [c3]; exact hv

theorem recs_one (rs : List RecV) : ∀ v ∈ recsCells rs, v.oneCell' = true := by
  intro v hv
  obtain ⟨r, _, hr⟩ := List.mem_flatMap.1 hv
  simp only [recCells, List.mem_cons, List.not_mem_nil, or_false] at hr
  rcases hr with rfl | rfl | rfl | rfl <;> rfl

theorem recsCells_append (l r : List RecV) : recsCells (l ++ r) = recsCells l ++ recsCells r := by unfold recsCells; rw [List.flatMap_append]

/-- 'copy(all, records)': a law at the call. -/
theorem wpList_copy_recs {w : World} {ops : Array Oper} {rest : List Oper} {o : Oper} {a : Act} {Q : Exit → Act → World → Prop} (hgd : o.guard = none) (d s : Operand)
    (ho : o.op = .call { callee := .builtin .copy, args := #[d, s], argTypes := #[38, 38] })
    (g m c : Nat) (sp : Option Addr) (rs : List RecV) (hd : a.eval d = .slice (some ⟨g, 0, none⟩) (m + 2) (m + 2)) (hs : a.eval s = .slice sp m c) (hrow : RecRow w sp m rs) (hg : AllAt w g (List.replicate (m + 2) zeroRec)) (B : Nat) (w0 : World) (hb : Below B w0 w) (hBg : B ≤ g)
    (h : ∀ w', Hid (AllAt w' g (rs ++ List.replicate 2 zeroRec)) → Hid (Below B w0 w') → Hid (w'.heap.size = w.heap.size) → wpList Tryz.prog ops Q rest (a.put o.dst (goInt m)) w') : wpList Tryz.prog ops Q (o :: rest) a w := by
  have hu : Tryz.prog.underlying 38 = some (.slice 55) := Tryz.underlying38
  have hsz : (Tryz.prog.info? 55).map (·.size) = some 4 := by kernel_rfl
  have hmin : Nat.min m (m + 2) = m := Nat.min_eq_left (by omega)
  refine wpList_plain hgd fun K hK => ?_
  by_cases h0 : m = 0
  · subst h0
    have hrun := copy_none4 (P := Tryz.prog) w 38 38 o.type 55 (some ⟨g, 0, none⟩) sp (0 + 2) (0 + 2) 0 c hu hsz (by simp)
    unfold Oper.wp
    simp [execOp, ho, resolve, invoke, builtin, hd, hs, Result.andThen]
    simp only [Nat.zero_add] at hrun
    rw [hrun]
    have hrs : rs = [] := List.eq_nil_of_length_eq_zero hrow.len
    subst hrs
    exact hK _ _ (h w hg hb rfl)
  · obtain ⟨ad, rfl, hsrc⟩ := recs_src hrow (by omega)
    have hlen : (recsCells rs).length = m * 4 := by rw [recsCells_len, hrow.len]
    have hrun := copy_row4 (P := Tryz.prog) w 38 38 o.type 55 g (m + 2) (m + 2) ad m c _ _ (recsCells rs) hu hsz hg (by rw [hmin, hlen]) hsrc (by rw [List.size_toArray, hlen, recsCells_len, List.length_replicate]; omega) (recs_one rs)
    rw [hmin] at hrun
    unfold Oper.wp
    simp [execOp, ho, resolve, invoke, builtin, hd, hs, hrun, Result.andThen]
    have e : recsCells rs ++ (recsCells (List.replicate (m + 2) zeroRec)).toArray.toList.drop (recsCells rs).length = recsCells (rs ++ List.replicate 2 zeroRec) := by
      rw [recsCells_append, hlen, ← List.replicate_append_replicate, recsCells_append]
      have h4 : (recsCells (List.replicate m zeroRec)).length = m * 4 := by rw [recsCells_len, List.length_replicate]
      show recsCells rs ++ (recsCells (List.replicate m zeroRec) ++ recsCells (List.replicate 2 zeroRec)).drop (m * 4) = _
      rw [← h4, List.drop_left]
    refine hK _ _ (h _ ?_ (below_setRow hb hBg _) ?_)
    · show (w.setRow g _).heap[g]? = _
      rw [setRow_heap w g _ _ _ _ hg]
      rw [← e]
    · show (w.setRow g _).heap.size = _
      simp [World.setRow]

/-! ### Equal records -/
theorem fields_rec : (Tryz.prog.fieldsOf 55).toList = [{ name := "Client", type := 3, offset := 0, embedded := false, tag := "", pkgPath := "", byteOffset := 0 }, { name := "ID", type := 3, offset := 1, embedded := false, tag := "", pkgPath := "", byteOffset := 8 }, { name := "Expired", type := 4, offset := 2, embedded := false, tag := "", pkgPath := "", byteOffset := 16 }, { name := "Text", type := 9, offset := 3, embedded := false, tag := "", pkgPath := "", byteOffset := 24 }] := by
  rw [Program.fieldsOf, Tryz.underlying55]
theorem struct_rec : Tryz.prog.underlying 55 = some (.struct (Tryz.prog.fieldsOf 55)) := by
  rw [Program.fieldsOf, Tryz.underlying55]
theorem guard_rec : Tryz.prog.eqGuardType Tryz.prog.depth 55 = false := by kernel_rfl
theorem equal_rec (c i : Int) (l : Bool) (t : ByteArray) (W : World) :
    (Op.equalIn 10000 55 (.agg #[.int .i64 c, .int .i64 i, .bool l, .string t]) (.agg #[.int .i64 c, .int .i64 i, .bool l, .string t])).run Tryz.prog W = .ok true W := by
  rw [run_equalIn_struct W 9999 _ _ _ struct_rec (by kernel_rfl), fields_rec]
  simp [Op.eqFields, go_sem]

/-! ### marked -/
def markText : ByteArray := ⟨#[109, 97, 114, 107]⟩
def mark (n : Int) : RecV := ⟨-n, n, true, ⟨#[109, 97, 114, 107]⟩⟩
set_option maxHeartbeats 1000000 in
theorem marked_any (n : Int) (w : World) (h0 : 0 ≤ n) (h1 : n < 1000) :
    Calls Tryz.prog 15 #[.int .i64 n] w fun e w' => e = .returned (.agg #[.int .i64 (-n), .int .i64 n, .bool true, .string ⟨#[109, 97, 114, 107]⟩]) ∧ Below w.heap.size w w' := by
  go_enter Tryz.func15, Tryz.ntmps15
  go_wp2
  refine bodyPost_ret (v := .agg #[.int .i64 (-n), .int .i64 n, .bool true, .string ⟨#[109, 97, 114, 107]⟩]) (by simp [results, Tryz.results15, go_sem]) rfl ?_
  exact ⟨rfl, (Below.refl _ _).alloc (Nat.le_refl _) _⟩

end Go.Proofs.YtccckonckddadabGreat
namespace Go.Proofs.YtccckonckddadabGreat
open Go.RowKit
set_option linter.unusedVariables false

/-! ### The plain state of a cluster, as the document's answer keeps it -/
structure TxV where
  c : Int
  i : Int
  t : ByteArray
  d : Int
  s : Int
  e : Int
structure ConfV where
  clients : Int
  queue : Int
  quantum : Int
  room : Int
  reps : Int
structure CluV where
  conf : ConfV
  txs : List TxV
  credit : List Int
  first : Int
  epochs : List (List RecV)
  cells : List Int
  reps : List (Int × Int)

def confOk (c : ConfV) : Bool := decide (1 ≤ c.clients ∧ c.clients ≤ 8) && decide (1 ≤ c.queue ∧ c.queue ≤ 8) && decide (1 ≤ c.quantum ∧ c.quantum ≤ 8) && decide (8 ≤ c.room ∧ c.room ≤ 64) && decide (1 ≤ c.reps ∧ c.reps ≤ 4)
def newV (c : ConfV) : CluV := ⟨c, [], [0, 0, 0, 0, 0, 0, 0, 0], 0, [], [0, 0, 0, 0, 0, 0, 0, 0], [(0, 0), (0, 0), (0, 0), (0, 0)]⟩

/-- Which was taken in with this number: from the k-th on. -/
def findFrom (id : Int) : Nat → List TxV → Int
  | _, [] => -1
  | k, t :: ts => if t.i = id then k else findFrom id (k + 1) ts
def findV (txs : List TxV) (id : Int) : Int := findFrom id 0 txs
/-- Which wait in a client's queue, in their order. -/
def waits (client : Int) (t : TxV) : Bool := decide (t.c = client) && decide (t.s = 0)
def queueFrom (client : Int) : Nat → List TxV → List Nat
  | _, [] => []
  | k, t :: ts => if waits client t then k :: queueFrom client (k + 1) ts else queueFrom client (k + 1) ts
def queueV (txs : List TxV) (client : Int) : List Nat := queueFrom client 0 txs

theorem findFrom_append (id : Int) : ∀ (k : Nat) (l r : List TxV), findFrom id k l = -1 → findFrom id k (l ++ r) = findFrom id (k + l.length) r
  | k, [], r, _ => rfl
  | k, t :: ts, r, h => by
    rw [findFrom] at h
    split at h
    · omega
    · rename_i hne
      show findFrom id k (t :: (ts ++ r)) = _
      rw [findFrom, if_neg hne, findFrom_append id (k + 1) ts r h, List.length_cons]
      congr 1
      omega
theorem queueFrom_append (client : Int) : ∀ (k : Nat) (l r : List TxV), queueFrom client k (l ++ r) = queueFrom client k l ++ queueFrom client (k + l.length) r
  | k, [], r => rfl
  | k, t :: ts, r => by
    show queueFrom client k (t :: (ts ++ r)) = queueFrom client k (t :: ts) ++ _
    rw [queueFrom, queueFrom, queueFrom_append client (k + 1) ts r, List.length_cons, show k + 1 + ts.length = k + (ts.length + 1) from by omega]
    split <;> rfl

/-! ### Memory that is kept, but for some blocks -/
structure Kept (F : Nat → Prop) (w w' : World) : Prop where
  os : w'.os = w.os
  tape : w'.tape = w.tape
  output : w'.output = w.output
  size : w.heap.size ≤ w'.heap.size
  block : ∀ k, k < w.heap.size → ¬ F k → w'.heap[k]? = w.heap[k]?
theorem Kept.refl (F : Nat → Prop) (w : World) : Kept F w w := ⟨rfl, rfl, rfl, Nat.le_refl _, fun _ _ _ => rfl⟩
theorem Kept.of {F : Nat → Prop} {w w' : World} (h : Below w.heap.size w w') : Kept F w w' := ⟨h.os, h.tape, h.output, h.size, fun k hk _ => h.block k hk⟩
theorem Kept.trans {F G : Nat → Prop} {a b c : World} (h : Kept F a b) (k : Kept G b c) (hG : ∀ i, i < a.heap.size → G i → F i) : Kept F a c :=
  ⟨k.os.trans h.os, k.tape.trans h.tape, k.output.trans h.output, Nat.le_trans h.size k.size, fun i hi hF => (k.block i (Nat.lt_of_lt_of_le hi h.size) (fun hg => hF (hG i hi hg))).trans (h.block i hi hF)⟩
theorem Kept.below {F : Nat → Prop} {w w' : World} {B : Nat} (h : Kept F w w') (hB : B ≤ w.heap.size) (hF : ∀ k, F k → B ≤ k) : Below B w w' :=
  ⟨h.os, h.tape, h.output, h.size, fun k hk => h.block k (Nat.lt_of_lt_of_le hk hB) (fun hf => absurd (hF k hf) (by omega))⟩
theorem Kept.set {F : Nat → Prop} {a w : World} (h : Kept F a w) {p : Addr} (hp : F p.block ∨ a.heap.size ≤ p.block) (u : Value) : Kept F a (w.setCell p u) := by
  refine ⟨h.os, h.tape, h.output, ?_, fun k hk hF => ?_⟩
  · simp [World.setCell]; exact h.size
  · rw [Below.heap_setCell _ _ _ _ (fun e => by subst e; rcases hp with hp | hp; exact hF hp; omega)]
    exact h.block k hk hF
theorem Kept.grown {F : Nat → Prop} {a w w' : World} {row : Option Nat} (h : Kept F a w) (hg : w.grownBy w' row) (hr : ∀ k, row = some k → F k ∨ a.heap.size ≤ k) : Kept F a w' :=
  ⟨hg.os.trans h.os, hg.tape.trans h.tape, hg.output.trans h.output, Nat.le_trans h.size hg.size, fun k hk hF => (hg.block k (Nat.lt_of_lt_of_le hk h.size) (fun e => by rcases hr k e.symm with hp | hp; exact hF hp; omega)).trans (h.block k hk hF)⟩

/-! ### A cluster in memory -/
def txCells (t : TxV) : List Value := [.int .i64 t.c, .int .i64 t.i, .string t.t, .int .i64 t.d, .int .i64 t.s, .int .i64 t.e]
def txsCells (ts : List TxV) : List Value := ts.flatMap txCells
def confCells (c : ConfV) : List Value := [.int .i64 c.clients, .int .i64 c.queue, .int .i64 c.quantum, .int .i64 c.room, .int .i64 c.reps]
def intCells (l : List Int) : List Value := l.map (.int .i64 ·)
def repCells (l : List (Int × Int)) : List Value := l.flatMap fun x => [.int .i64 x.1, .int .i64 x.2]
def cluCells (s : CluV) (vT vE : Value) : List Value :=
  confCells s.conf ++ (vT :: (intCells s.credit ++ (.int .i64 s.first :: vE :: (intCells s.cells ++ repCells s.reps))))

/-- What is true of a cluster's numbers. -/
structure CluFit (s : CluV) : Prop where
  conf : confOk s.conf = true
  credit : s.credit.length = 8
  cells : s.cells.length = 8
  reps : s.reps.length = 4
  many : s.epochs.length ≤ 200
  first0 : 0 ≤ s.first
  first1 : s.first < s.conf.clients
  few : s.txs.length ≤ 1000000
  tx : ∀ t ∈ s.txs, Dk.parseOk t.t.data.toList = true ∧ 0 ≤ t.c ∧ t.c < s.conf.clients ∧ 0 ≤ t.i ∧ t.i ≤ 999999
  once : ∀ (i j : Nat) (x y : TxV), s.txs[i]? = some x → s.txs[j]? = some y → x.i = y.i → i = j
  ep : ∀ rs ∈ s.epochs, rs.length ≤ 64 ∧ (recs rs).all Dk.recOk = true
  c16 : Dk.All16 s.cells
  cr : ∀ x ∈ s.credit, 0 ≤ x ∧ x ≤ 8 * ((s.epochs.length : Int) + 1)

/-- A cluster lies at block g; F are the blocks that are its own. -/
structure CluAt (w : World) (g : Nat) (F : Nat → Prop) (s : CluV) : Prop where
  fit : CluFit s
  gF : F g
  own : ∀ k, F k → k < w.heap.size
  mem : ∃ (aT aE : Option Addr) (cT cE : Nat) (eas : List (Option Addr × Nat)),
    w.heap[g]? = some (.cells (cluCells s (.slice aT s.txs.length cT) (.slice aE s.epochs.length cE)).toArray 115) ∧
    w.ownsRow 0 140 6 (.slice aT s.txs.length cT) s.txs.length (txsCells s.txs) ∧
    (∀ k, (Value.slice aT s.txs.length cT).ownBlock = some k → F k ∧ k ≠ g) ∧
    w.ownsRow 0 38 1 (.slice aE s.epochs.length cE) s.epochs.length (List.zipWith (fun (a : Option Addr × Nat) (rs : List RecV) => Value.slice a.1 rs.length a.2) eas s.epochs) ∧
    (∀ k, (Value.slice aE s.epochs.length cE).ownBlock = some k → F k ∧ k ≠ g ∧ (Value.slice aT s.txs.length cT).ownBlock ≠ some k) ∧
    eas.length = s.epochs.length ∧
    (∀ (i : Nat) (a : Option Addr × Nat) (rs : List RecV), eas[i]? = some a → s.epochs[i]? = some rs → RecRow w a.1 rs.length rs ∧
      (∀ ad, a.1 = some ad → F ad.block ∧ ad.block ≠ g ∧ (Value.slice aT s.txs.length cT).ownBlock ≠ some ad.block ∧ (Value.slice aE s.epochs.length cE).ownBlock ≠ some ad.block))

/-! ### The cells of a cluster -/
theorem confCells_len (c : ConfV) : (confCells c).length = 5 := rfl
theorem intCells_len (l : List Int) : (intCells l).length = l.length := by simp [intCells]
theorem repCells_len : ∀ l : List (Int × Int), (repCells l).length = l.length * 2
  | [] => rfl
  | x :: l => by
    show (([.int .i64 x.1, .int .i64 x.2] : List Value) ++ repCells l).length = _
    rw [List.length_append, repCells_len l]; simp; omega
theorem repCells_at : ∀ (l : List (Int × Int)) (k : Nat) (x : Int × Int), l[k]? = some x → (repCells l)[k * 2]? = some (.int .i64 x.1) ∧ (repCells l)[k * 2 + 1]? = some (.int .i64 x.2)
  | [], k, x, h => by simp at h
  | y :: l, 0, x, h => by
    have : y = x := by simpa using h
    subst this
    exact ⟨rfl, rfl⟩
  | y :: l, k + 1, x, h => by
    have ih := repCells_at l k x (by simpa using h)
    have e : repCells (y :: l) = .int .i64 y.1 :: .int .i64 y.2 :: repCells l := rfl
    rw [e, show (k + 1) * 2 = k * 2 + 2 from by omega, show k * 2 + 2 + 1 = k * 2 + 1 + 2 from by omega]
    exact ih

section
variable {s : CluV} {vT vE : Value}
theorem clu_credit (h : s.credit.length = 8) {k : Nat} {x : Int} (hk : s.credit[k]? = some x) : (cluCells s vT vE)[6 + k]? = some (.int .i64 x) := by
  have hk8 : k < 8 := by have := (List.getElem?_eq_some_iff.1 hk).1; omega
  unfold cluCells
  rw [List.getElem?_append_right (by rw [confCells_len]; omega), confCells_len, show 6 + k - 5 = k + 1 from by omega, List.getElem?_cons_succ, List.getElem?_append_left (by rw [intCells_len]; omega)]
  unfold intCells
  rw [List.getElem?_map, hk]; rfl
theorem clu_after (h : s.credit.length = 8) (j : Nat) : (cluCells s vT vE)[14 + j]? = (.int .i64 s.first :: vE :: (intCells s.cells ++ repCells s.reps))[j]? := by
  unfold cluCells
  rw [List.getElem?_append_right (by rw [confCells_len]; omega), confCells_len, show 14 + j - 5 = (8 + j) + 1 from by omega, List.getElem?_cons_succ, List.getElem?_append_right (by rw [intCells_len]; omega), intCells_len, h, show 8 + j - 8 = j from by omega]
theorem clu_first (h : s.credit.length = 8) : (cluCells s vT vE)[14]? = some (.int .i64 s.first) := clu_after h 0
theorem clu_epochs (h : s.credit.length = 8) : (cluCells s vT vE)[15]? = some vE := clu_after h 1
theorem clu_cells (h : s.credit.length = 8) {k : Nat} {x : Int} (h8 : s.cells.length = 8) (hk : s.cells[k]? = some x) : (cluCells s vT vE)[16 + k]? = some (.int .i64 x) := by
  have hk8 : k < 8 := by have := (List.getElem?_eq_some_iff.1 hk).1; omega
  have := clu_after (vT := vT) (vE := vE) h (2 + k)
  rw [show 14 + (2 + k) = 16 + k from by omega, show 2 + k = k + 1 + 1 from by omega, List.getElem?_cons_succ, List.getElem?_cons_succ, List.getElem?_append_left (by rw [intCells_len]; omega)] at this
  rw [this]
  unfold intCells
  rw [List.getElem?_map, hk]; rfl
theorem clu_reps (h : s.credit.length = 8) (h8 : s.cells.length = 8) {k : Nat} {x : Int × Int} (hk : s.reps[k]? = some x) : (cluCells s vT vE)[24 + k * 2]? = some (.int .i64 x.1) ∧ (cluCells s vT vE)[24 + k * 2 + 1]? = some (.int .i64 x.2) := by
  obtain ⟨r0, r1⟩ := repCells_at s.reps k x hk
  have e : ∀ j, (cluCells s vT vE)[24 + j]? = (repCells s.reps)[j]? := fun j => by
    have := clu_after (vT := vT) (vE := vE) h (10 + j)
    rw [show 14 + (10 + j) = 24 + j from by omega, show 10 + j = (8 + j) + 1 + 1 from by omega, List.getElem?_cons_succ, List.getElem?_cons_succ, List.getElem?_append_right (by rw [intCells_len]; omega), intCells_len, h8, show 8 + j - 8 = j from by omega] at this
    exact this
  exact ⟨by rw [e]; exact r0, by rw [Nat.add_assoc, e]; exact r1⟩
theorem clu_len (h : s.credit.length = 8) (h8 : s.cells.length = 8) (hr : s.reps.length = 4) : (cluCells s vT vE).length = 32 := by
  unfold cluCells
  simp only [List.length_append, List.length_cons, confCells_len, intCells_len, repCells_len, h, h8, hr]
theorem clu_set_txs (v : Value) : (cluCells s vT vE).set 5 v = cluCells s v vE := rfl
theorem clu_set_credit (h : s.credit.length = 8) {k : Nat} (hk : k < 8) (x : Int) : (cluCells s vT vE).set (6 + k) (.int .i64 x) = cluCells { s with credit := s.credit.set k x } vT vE := by
  unfold cluCells
  rw [List.set_append_right _ _ (by rw [confCells_len]; omega), confCells_len, show 6 + k - 5 = k + 1 from by omega, List.set_cons_succ, List.set_append_left _ _ (by rw [intCells_len]; omega)]
  unfold intCells
  rw [List.map_set]
theorem clu_set_after (h : s.credit.length = 8) (j : Nat) (v : Value) : (cluCells s vT vE).set (14 + j) v = confCells s.conf ++ (vT :: (intCells s.credit ++ (.int .i64 s.first :: vE :: (intCells s.cells ++ repCells s.reps)).set j v)) := by
  unfold cluCells
  rw [List.set_append_right _ _ (by rw [confCells_len]; omega), confCells_len, show 14 + j - 5 = (8 + j) + 1 from by omega, List.set_cons_succ, List.set_append_right _ _ (by rw [intCells_len]; omega), intCells_len, h, show 8 + j - 8 = j from by omega]
theorem clu_set_first (h : s.credit.length = 8) (x : Int) : (cluCells s vT vE).set 14 (.int .i64 x) = cluCells { s with first := x } vT vE := clu_set_after h 0 _
theorem clu_set_epochs (h : s.credit.length = 8) (v : Value) : (cluCells s vT vE).set 15 v = cluCells s vT v := clu_set_after h 1 _
theorem repCells_set : ∀ (l : List (Int × Int)) (k : Nat) (x y : Int × Int), l[k]? = some x → ((repCells l).set (k * 2) (.int .i64 y.1)).set (k * 2 + 1) (.int .i64 y.2) = repCells (l.set k y)
  | [], k, x, y, h => by simp at h
  | z :: l, 0, x, y, h => rfl
  | z :: l, k + 1, x, y, h => by
    have ih := repCells_set l k x y (by simpa using h)
    have e : repCells (z :: l) = .int .i64 z.1 :: .int .i64 z.2 :: repCells l := rfl
    rw [e, show (k + 1) * 2 = k * 2 + 1 + 1 from by omega, show k * 2 + 1 + 1 + 1 = (k * 2 + 1) + 1 + 1 from by omega, List.set_cons_succ, List.set_cons_succ, List.set_cons_succ, List.set_cons_succ, ih]
    rfl
theorem clu_set_reps (h : s.credit.length = 8) (h8 : s.cells.length = 8) (j : Nat) (v : Value) : (cluCells s vT vE).set (24 + j) v = confCells s.conf ++ (vT :: (intCells s.credit ++ (.int .i64 s.first :: vE :: (intCells s.cells ++ (repCells s.reps).set j v)))) := by
  have := clu_set_after (vT := vT) (vE := vE) h (10 + j) v
  rw [show 14 + (10 + j) = 24 + j from by omega, show 10 + j = (8 + j) + 1 + 1 from by omega, List.set_cons_succ, List.set_cons_succ, List.set_append_right _ _ (by rw [intCells_len]; omega), intCells_len, h8, show 8 + j - 8 = j from by omega] at this
  exact this
end

theorem txsCells_len : ∀ ts : List TxV, (txsCells ts).length = ts.length * 6
  | [] => rfl
  | t :: ts => by
    show (txCells t ++ txsCells ts).length = _
    rw [List.length_append, txsCells_len ts, List.length_cons]; simp [txCells]; omega
theorem txsCells_at : ∀ (ts : List TxV) (k j : Nat) (t : TxV), ts[k]? = some t → j < 6 → (txsCells ts)[k * 6 + j]? = (txCells t)[j]?
  | [], k, j, t, h, _ => by simp at h
  | x :: ts, 0, j, t, h, hj => by
    have : x = t := by simpa using h
    subst this
    show (txCells x ++ txsCells ts)[0 * 6 + j]? = _
    rw [List.getElem?_append_left (by simp [txCells]; omega)]; simp
  | x :: ts, k + 1, j, t, h, hj => by
    show (txCells x ++ txsCells ts)[(k + 1) * 6 + j]? = _
    rw [List.getElem?_append_right (by simp [txCells]; omega)]
    have e : (k + 1) * 6 + j - (txCells x).length = k * 6 + j := by simp [txCells]; omega
    rw [e, txsCells_at ts k j t (by simpa using h) hj]
theorem txsCells_snoc (ts : List TxV) (t : TxV) : txsCells (ts ++ [t]) = txsCells ts ++ txCells t := by
  unfold txsCells
  rw [List.flatMap_append]
  simp

/-- A cell of a row that is owned. -/
theorem own_cell {w : World} {B e size n c : Nat} {a : Option Addr} {xs : List Value} (h : w.ownsRow B e size (.slice a n c) n xs) (hn : 0 < n) : ∃ g, a = some ⟨g, 0, none⟩ ∧ g < w.heap.size ∧ (∀ j v, xs[j]? = some v → w.cell? ⟨g, j, none⟩ = some v) ∧ (∀ x, w.frozen? ⟨g, x, none⟩ = false) := by
  rcases h.2 with ⟨_, h0⟩ | ⟨g, cap, cur, hv, _, hg, _, _, hcs, ht⟩
  · omega
  · obtain ⟨rfl, _⟩ : a = some ⟨g, 0, none⟩ ∧ c = cap := by simpa using hv
    refine ⟨g, rfl, (heap_cells hg).2.2, fun j v hj => ?_, (heap_cells hg).2.1⟩
    have hl : j < n * size := by
      have := (List.getElem?_eq_some_iff.1 hj).1
      rw [h.1] at this
      exact this
    rw [(heap_cells hg).1, ← hj, ← ht, ← Array.getElem?_toList, List.getElem?_take_of_lt hl]

theorem own_tx {w : World} {B n c : Nat} {a : Option Addr} {ts : List TxV} (h : w.ownsRow B 140 6 (.slice a n c) n (txsCells ts)) {k : Nat} {t : TxV} (hk : ts[k]? = some t) (hn : k < n) :
    ∃ g, a = some ⟨g, 0, none⟩ ∧ g < w.heap.size ∧ w.cell? ⟨g, k * 6, none⟩ = some (.int .i64 t.c) ∧ w.cell? ⟨g, k * 6 + 1, none⟩ = some (.int .i64 t.i) ∧ w.cell? ⟨g, k * 6 + 2, none⟩ = some (.string t.t) ∧ w.cell? ⟨g, k * 6 + 3, none⟩ = some (.int .i64 t.d) ∧ w.cell? ⟨g, k * 6 + 4, none⟩ = some (.int .i64 t.s) ∧ w.cell? ⟨g, k * 6 + 5, none⟩ = some (.int .i64 t.e) ∧ (∀ x, w.frozen? ⟨g, x, none⟩ = false) := by
  obtain ⟨g, rfl, hg, hc, hf⟩ := own_cell h (by omega)
  have hx : ∀ j, j < 6 → ∀ v, (txCells t)[j]? = some v → w.cell? ⟨g, k * 6 + j, none⟩ = some v := fun j hj v hv => hc _ _ (by rw [txsCells_at ts k j t hk hj]; exact hv)
  exact ⟨g, rfl, hg, hx 0 (by omega) _ rfl, hx 1 (by omega) _ rfl, hx 2 (by omega) _ rfl, hx 3 (by omega) _ rfl, hx 4 (by omega) _ rfl, hx 5 (by omega) _ rfl, hf⟩

end Go.Proofs.YtccckonckddadabGreat
namespace Go.Proofs.YtccckonckddadabGreat
open Go.RowKit
set_option linter.unusedVariables false

theorem off_yes {n lo hi : Int} (w : World) (h : ¬ (lo ≤ n ∧ n ≤ hi)) : Calls Tryz.prog 46 #[.int .i64 n, .int .i64 lo, .int .i64 hi] w fun e w' => e = .returned (.bool true) ∧ w' = w := by
  by_cases h1 : n < lo
  · clear h
    go_enter Tryz.func46, Tryz.ntmps46
    go_wp2
    go_ret
    exact ⟨rfl, rfl⟩
  · have h2 : hi < n := by omega
    clear h
    go_enter Tryz.func46, Tryz.ntmps46
    go_wp2
    go_ret
    exact ⟨rfl, rfl⟩
theorem off_no {n lo hi : Int} (w : World) (h : lo ≤ n ∧ n ≤ hi) : Calls Tryz.prog 46 #[.int .i64 n, .int .i64 lo, .int .i64 hi] w fun e w' => e = .returned (.bool false) ∧ w' = w := by
  have h1 : ¬ n < lo := by omega
  have h2 : ¬ hi < n := by omega
  clear h
  go_enter Tryz.func46, Tryz.ntmps46
  go_wp2
  go_ret
  exact ⟨rfl, rfl⟩

/-! ### find -/
theorem CluAt.block {w : World} {g : Nat} {F : Nat → Prop} {s : CluV} (h : CluAt w g F s) : g < w.heap.size := h.own g h.gF

set_option maxHeartbeats 1000000 in
theorem find_any (g : Nat) (F : Nat → Prop) (s : CluV) (id : Int) (w : World) (h : CluAt w g F s) :
    Calls Tryz.prog 61 #[.pointer (some ⟨g, 0, none⟩), .int .i64 id] w fun e w' => e = .returned (.int .i64 (findV s.txs id)) ∧ w' = w := by
  have hg := h.block
  have hfew := h.fit.few
  obtain ⟨aT, aE, cT, cE, eas, hblk, htx, _⟩ := h.mem
  have c5 : w.cell? ⟨g, 5, none⟩ = some (.slice aT s.txs.length cT) := by rw [(heap_cells hblk).1]; rfl
  have HT : Hid _ := htx
  clear h hblk htx
  obtain ⟨n, hn⟩ : ∃ n, s.txs.length = n := ⟨_, rfl⟩
  rw [hn] at c5 hfew HT
  go_enter Tryz.func61, Tryz.ntmps61
  go_wp2
  go_loop [5] (fun i => ∃ k : Nat, k ≤ n ∧ i = .int .i64 k ∧ Hid (findFrom id 0 (s.txs.take k) = -1)) (fun i => n - (intOf i).toNat)
  case atStart => exact ⟨0, Nat.zero_le _, rfl, rfl⟩
  case round =>
    obtain ⟨k, hk, rfl, HF⟩ := hrel
    by_cases hlt : k < n
    · have hkl : k < s.txs.length := by omega
      obtain ⟨gT, rfl, hgT, d0, d1, _⟩ := own_tx HT.out (List.getElem?_eq_getElem hkl) hlt
      have HE : Hid (∀ r, s.txs = s.txs.take k ++ s.txs[k] :: r → True) := fun _ _ => trivial
      have hsp : s.txs = s.txs.take k ++ s.txs[k] :: s.txs.drop (k + 1) := by rw [← List.drop_eq_getElem_cons hkl, List.take_append_drop]
      have hs1 : findV s.txs id = findFrom id k (s.txs[k] :: s.txs.drop (k + 1)) := by
        unfold findV
        conv => lhs; rw [hsp]
        rw [findFrom_append id 0 _ _ HF.out, List.length_take, Nat.min_eq_left (by omega), Nat.zero_add]
      have HN : Hid (s.txs[k].i ≠ id → findFrom id 0 (s.txs.take (k + 1)) = -1) := by
        intro hne
        rw [List.take_succ_eq_append_getElem hkl, findFrom_append id 0 _ _ HF.out, findFrom, if_neg hne]
        rfl
      have HS : Hid _ := hs1
      clear hsp hs1 HE
      generalize s.txs[k] = t at *
      by_cases he : t.i = id
      · have heb : (t.i == id) = true := by rw [beq_iff_eq]; exact he
        have HX : Hid (findV s.txs id = k) := by
          show _ = _
          rw [HS.out, findFrom, if_pos he]
        clear HS HN he
        go_wp2
        go_ret
        exact ⟨by rw [HX.out]; rfl, rfl⟩
      · have heb : (t.i == id) = false := by rw [beq_eq_false_iff_ne]; exact he
        have HM := HN.out he
        have HM' : Hid _ := HM
        clear HS HN HM
        go_wp2
        go_round
        case rel => exact ⟨k + 1, by omega, by go_num, HM'⟩
        case measure => simp [intOf]; omega
    · have HX : Hid (findV s.txs id = -1) := by
        show _ = _
        have := HF.out
        rw [List.take_of_length_le (by omega)] at this
        exact this
      have hkn : k = n := by omega
      subst hkn
      go_wp2
      go_ret
      exact ⟨by rw [HX.out]; rfl, rfl⟩

end Go.Proofs.YtccckonckddadabGreat
namespace Go.Proofs.YtccckonckddadabGreat
set_option linter.unusedVariables false

/-! ### As many numbers as there are places -/
theorem len_of_nodup : ∀ (N : Nat) (l : List Nat), l.Nodup → (∀ x ∈ l, x < N) → l.length ≤ N
  | 0, l, _, h => by
    cases l with
    | nil => exact Nat.le_refl _
    | cons x l => exact absurd (h x (by simp)) (by omega)
  | N + 1, l, hn, h => by
    by_cases hm : N ∈ l
    · have h1 := len_of_nodup N (l.erase N) (hn.erase N) (fun x hx => by
        have h2 := h x (List.mem_of_mem_erase hx)
        have h3 : x ≠ N := fun e => by
          subst e
          exact absurd hx (by rw [hn.mem_erase_iff]; simp)
        omega)
      rw [List.length_erase_of_mem hm] at h1
      omega
    · have h1 := len_of_nodup N l hn (fun x hx => by
        have h2 := h x hx
        have h3 : x ≠ N := fun e => hm (e ▸ hx)
        omega)
      omega

theorem txs_few {l : List TxV} (hid : ∀ t ∈ l, 0 ≤ t.i ∧ t.i ≤ 999999) (once : ∀ (i j : Nat) (x y : TxV), l[i]? = some x → l[j]? = some y → x.i = y.i → i = j) : l.length ≤ 1000000 := by
  have h := len_of_nodup 1000000 (l.map (fun t => t.i.toNat)) ?_ ?_
  · rw [List.length_map] at h; exact h
  · refine List.pairwise_iff_getElem.2 (fun i j hi hj hij he => ?_)
    rw [List.length_map] at hi hj
    rw [List.getElem_map, List.getElem_map] at he
    have b1 := hid l[i] (List.getElem_mem hi)
    have b2 := hid l[j] (List.getElem_mem hj)
    have := once i j l[i] l[j] (List.getElem?_eq_getElem hi) (List.getElem?_eq_getElem hj) (by omega)
    omega
  · intro x hx
    obtain ⟨t, ht, rfl⟩ := List.mem_map.1 hx
    have := hid t ht
    omega

/-- What is not found is not there. -/
theorem find_none (id : Int) : ∀ (l : List TxV) (k : Nat), findFrom id k l < 0 → ∀ t ∈ l, t.i ≠ id
  | [], _, _, t, ht => by simp at ht
  | x :: l, k, h, t, ht => by
    rw [findFrom] at h
    split at h
    · omega
    · rename_i hne
      rcases List.mem_cons.1 ht with rfl | ht
      · exact hne
      · exact find_none id l (k + 1) h t ht
/-- What is found is there. -/
theorem find_some (id : Int) : ∀ (l : List TxV) (k : Nat), 0 ≤ findFrom id k l → ∃ (i : Nat) (t : TxV), findFrom id k l = ((k + i : Nat) : Int) ∧ l[i]? = some t ∧ t.i = id
  | [], k, h => absurd h (by rw [findFrom]; omega)
  | x :: l, k, h => by
    rw [findFrom] at h ⊢
    split at h
    · rename_i he
      rw [if_pos he]
      exact ⟨0, x, by simp, rfl, he⟩
    · rename_i hne
      rw [if_neg hne]
      obtain ⟨i, t, h1, h2, h3⟩ := find_some id l (k + 1) h
      exact ⟨i + 1, t, by rw [h1]; congr 1; omega, by simpa using h2, h3⟩

end Go.Proofs.YtccckonckddadabGreat
namespace Go.Proofs.YtccckonckddadabGreat
open Go.RowKit
set_option linter.unusedVariables false

/-! ### queue -/
def natCells (l : List Nat) : List Value := l.map fun (k : Nat) => .int .i64 (k : Int)
theorem info_num : (Tryz.prog.info? 3).map (fun i => (i.zero, i.size, i.bytes)) = some (some (.int .i64 0), 1, 8) := by kernel_rfl

structure QAt (w wr : World) (a : Option Addr) (m c : Nat) (q : List Nat) : Prop where
  len : q.length = m
  own : wr.ownsRow w.heap.size 3 1 (.slice a m c) m (natCells q)
  bel : Below w.heap.size w wr

def QueuePost (q : List Nat) (w : World) (e : Ending) (w' : World) : Prop := ∃ a c, e = .returned (.slice a q.length c) ∧ QAt w w' a q.length c q

set_option maxHeartbeats 2000000 in
theorem queue_any (g : Nat) (F : Nat → Prop) (s : CluV) (client : Int) (w : World) (h : CluAt w g F s) :
    Calls Tryz.prog 62 #[.pointer (some ⟨g, 0, none⟩), .int .i64 client] w (QueuePost (queueV s.txs client) w) := by
  obtain ⟨ti, hi, hz0, hz1, hz2⟩ := info_parts info_num
  have HI : Hid (_ ∧ _ ∧ _ ∧ _) := ⟨hi, hz0, hz1, hz2⟩
  clear hi hz0 hz1 hz2
  have hg := h.block
  have hfew := h.fit.few
  obtain ⟨aT, aE, cT, cE, eas, hblk, htx, _⟩ := h.mem
  have c5 : w.cell? ⟨g, 5, none⟩ = some (.slice aT s.txs.length cT) := by rw [(heap_cells hblk).1]; rfl
  have HT : Hid _ := htx
  clear h hblk htx
  obtain ⟨n, hn⟩ : ∃ n, s.txs.length = n := ⟨_, rfl⟩
  rw [hn] at c5 hfew HT
  have C5 : Hid _ := c5
  clear c5
  go_enter Tryz.func62, Tryz.ntmps62
  go_wp2
  go_loopw [5, 6] (fun v i wr => ∃ (a : Option Addr) (m c k : Nat), v = .slice a m c ∧ i = .int .i64 k ∧ k ≤ n ∧ m ≤ k ∧ Hid (QAt w wr a m c (queueFrom client 0 (s.txs.take k)))) (fun _ i _ => n - (intOf i).toNat)
  case atStart => exact ⟨none, 0, 0, 0, rfl, rfl, by omega, by omega, ⟨rfl, World.ownsRow_nil _ _ _ _, Below.refl _ _⟩⟩
  case round =>
    obtain ⟨a, m, c, k, rfl, rfl, hk, hmk, HQ⟩ := hrel
    have c5 : wr.cell? ⟨g, 5, none⟩ = some (.slice aT n cT) := (HQ.out.bel.cell (p := ⟨g, 5, none⟩) hg).trans C5.out
    have hgr : g < wr.heap.size := Nat.lt_of_lt_of_le hg HQ.out.bel.size
    have hwz : w.heap.size ≤ wr.heap.size := HQ.out.bel.size
    by_cases hlt : k < n
    · have hkl : k < s.txs.length := by omega
      obtain ⟨gT, rfl, hgT, d0, _, _, _, d4, _⟩ := own_tx HT.out (List.getElem?_eq_getElem hkl) hlt
      have e0 := (HQ.out.bel.cell (p := ⟨gT, k * 6, none⟩) hgT).trans d0
      have e4 := (HQ.out.bel.cell (p := ⟨gT, k * 6 + 4, none⟩) hgT).trans d4
      have hgTr : gT < wr.heap.size := Nat.lt_of_lt_of_le hgT hwz
      have HE : Hid (queueFrom client 0 (s.txs.take (k + 1)) = queueFrom client 0 (s.txs.take k) ++ (if waits client s.txs[k] then [k] else [])) := by
        show _ = _
        rw [List.take_succ_eq_append_getElem hkl, queueFrom_append, List.length_take, Nat.min_eq_left (by omega), Nat.zero_add]
        rfl
      clear d0 d4
      generalize s.txs[k] = t at *
      by_cases h1 : t.c = client
      · have h1b : (t.c == client) = true := by rw [beq_iff_eq]; exact h1
        by_cases h2 : t.s = 0
        · have h2b : (t.s == 0) = true := by rw [beq_iff_eq]; exact h2
          have HE2 : Hid (queueFrom client 0 (s.txs.take (k + 1)) = queueFrom client 0 (s.txs.take k) ++ [k]) := by
            show _ = _
            rw [HE.out, if_pos (by unfold waits; rw [decide_eq_true h1, decide_eq_true h2]; rfl)]
          clear HE h1 h2
          go_wp2_with (at_builtin; refine wpList_append_own _ rfl (.tmp 37) (.tmp 39) 137 rfl w.heap.size 3 ti (.int .i64 0) 1 8 Tryz.underlying137 HI.out.1 HI.out.2.1 HI.out.2.2.1 HI.out.2.2.2 rfl (by decide) (.slice a m c) m (natCells (queueFrom client 0 (s.txs.take k))) rfl (HQ.out.own.alloc _) ⟨wr.heap.size, 0, none⟩ 1 1 [.int .i64 (k : Int)] rfl rfl ?c1 ?c2 ?c3 ?c4 ?c5 ?_)
          try (case c1 => exact cells_new _ _ rfl [.int .i64 (k : Int)] _)
          try (case c2 => first | rfl | (intro u hu; simp at hu; subst hu; rfl))
          try (case c3 => unfold maxLen; omega)
          try (case c4 => omega)
          try (case c5 => first | omega | (simp; omega))
          intro v' w3 hown hgr2 _
          have HW : Hid (Below w.heap.size w w3) := (HQ.out.bel.alloc hwz _).grown hgr2 (by simp; omega) (fun k hk => (HQ.out.own.lt k hk).1)
          obtain ⟨a2, c2, rfl⟩ : ∃ a' c', v' = .slice a' (m + 1) c' := by
            rcases hown.2 with ⟨_, h⟩ | ⟨g, cap, _, h, _⟩
            · omega
            · exact ⟨_, _, h⟩
          have HN : Hid (QAt w w3 a2 (m + 1) c2 (queueFrom client 0 (s.txs.take (k + 1)))) := by
            refine ⟨by rw [HE2.out, List.length_append, HQ.out.len]; rfl, ?_, HW.out⟩
            have e : natCells (queueFrom client 0 (s.txs.take (k + 1))) = natCells (queueFrom client 0 (s.txs.take k)) ++ [.int .i64 (k : Int)] := by
              rw [HE2.out]; unfold natCells; rw [List.map_append]; rfl
            rw [e]
            exact hown
          clear hown hgr2
          go_wp2
          go_roundw
          case rel => exact ⟨a2, m + 1, c2, k + 1, rfl, by go_num, by omega, by omega, HN⟩
          case measure => simp [intOf]; omega
        · have h2b : (t.s == 0) = false := by rw [beq_eq_false_iff_ne]; exact h2
          have HN : Hid (QAt w wr a m c (queueFrom client 0 (s.txs.take (k + 1)))) := by
            have := HQ.out
            show QAt _ _ _ _ _ _
            rw [HE.out, if_neg (by unfold waits; rw [decide_eq_false h2]; simp), List.append_nil]
            exact this
          clear HE h1 h2
          go_wp2
          go_roundw
          case rel => exact ⟨a, m, c, k + 1, rfl, by go_num, by omega, by omega, HN⟩
          case measure => simp [intOf]; omega
      · have h1b : (t.c == client) = false := by rw [beq_eq_false_iff_ne]; exact h1
        have HN : Hid (QAt w wr a m c (queueFrom client 0 (s.txs.take (k + 1)))) := by
          have := HQ.out
          show QAt _ _ _ _ _ _
          rw [HE.out, if_neg (by unfold waits; rw [decide_eq_false h1]; simp), List.append_nil]
          exact this
        clear HE h1
        go_wp2
        go_roundw
        case rel => exact ⟨a, m, c, k + 1, rfl, by go_num, by omega, by omega, HN⟩
        case measure => simp [intOf]; omega
    · have hkn : k = n := by omega
      subst hkn
      have HN : Hid (QAt w wr a m c (queueV s.txs client)) := by
        have := HQ.out
        rw [List.take_of_length_le (by omega)] at this
        exact this
      clear HQ
      go_wp2
      go_ret
      have hm := HN.out.len
      refine ⟨a, c, by rw [hm]; rfl, ?_⟩
      rw [hm]
      exact HN.out

/-! ### A cluster is kept -/
theorem RecRow.same {w W : World} {a : Option Addr} {n : Nat} {rs : List RecV} (h : RecRow w a n rs) (hs : w.heap.size ≤ W.heap.size) (hb : ∀ ad, a = some ad → W.heap[ad.block]? = w.heap[ad.block]?) : RecRow W a n rs := by
  refine ⟨h.len, h.small, ?_⟩
  rcases h.cells with h0 | ⟨g, off, rfl, hg, hc⟩
  · exact .inl h0
  · have e : ∀ x, W.cell? ⟨g, x, none⟩ = w.cell? ⟨g, x, none⟩ := fun x => World.cell?_of_block (a := ⟨g, x, none⟩) (hb ⟨g, off, none⟩ rfl)
    refine .inr ⟨g, off, rfl, Nat.lt_of_lt_of_le hg hs, fun k r hr => ?_⟩
    obtain ⟨c1, c2, c3, c4⟩ := hc k r hr
    exact ⟨(e _).trans c1, (e _).trans c2, (e _).trans c3, (e _).trans c4⟩
theorem own_same {w W : World} {B e size n : Nat} {v : Value} {xs : List Value} (h : w.ownsRow B e size v n xs) (hb : ∀ k, v.ownBlock = some k → W.heap[k]? = w.heap[k]?) : W.ownsRow B e size v n xs := by
  refine ⟨h.1, ?_⟩
  rcases h.2 with h0 | ⟨g, cap, cur, hv, hB, hg, r⟩
  · exact .inl h0
  · refine .inr ⟨g, cap, cur, hv, hB, ?_, r⟩
    rw [hb g (by rw [hv]; rfl)]
    exact hg
theorem CluAt.same {w W : World} {g : Nat} {F : Nat → Prop} {s : CluV} (h : CluAt w g F s) (hs : w.heap.size ≤ W.heap.size) (hb : ∀ k, F k → W.heap[k]? = w.heap[k]?) : CluAt W g F s := by
  obtain ⟨aT, aE, cT, cE, eas, h1, h2, h3, h4, h5, h6, h7⟩ := h.mem
  refine ⟨h.fit, h.gF, fun k hk => Nat.lt_of_lt_of_le (h.own k hk) hs, aT, aE, cT, cE, eas, (hb g h.gF).trans h1, own_same h2 (fun k hk => hb k (h3 k hk).1), h3, own_same h4 (fun k hk => hb k (h5 k hk).1), h5, h6, fun i a rs ha hr => ?_⟩
  obtain ⟨r1, r2⟩ := h7 i a rs ha hr
  exact ⟨r1.same hs (fun ad had => hb _ (r2 ad had).1), r2⟩
theorem CluAt.below {w W : World} {g : Nat} {F : Nat → Prop} {s : CluV} (h : CluAt w g F s) (hb : Below w.heap.size w W) : CluAt W g F s := h.same hb.size (fun k hk => hb.block k (h.own k hk))

end Go.Proofs.YtccckonckddadabGreat
