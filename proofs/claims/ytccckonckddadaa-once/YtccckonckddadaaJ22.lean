import Derived.Test.YtccckonckddadaaJ17
import Derived.Test.YtccckonckddadaaJ20
import Derived.Test.YtccckonckddadaaJ15
import Derived.Laws.CopyOwn
import Derived.Laws.StructEq
import Derived.OwnWalk
import Derived.Deep.AppendLies
import Derived.Deep.RegionHeld3
namespace Go.Proofs.Ytccckonckddadaa
open Go.RowKit
set_option linter.unusedVariables false

/-! ### A row of records that is known whole -/
def AllAt (w : World) (g : Nat) (rs : List RecV) : Prop := w.heap[g]? = some (.cells (recsCells rs).toArray 49)

theorem recsCells_len : ∀ rs : List RecV, (recsCells rs).length = rs.length * 4
  | [] => rfl
  | r :: rs => by
    show (recCells r ++ recsCells rs).length = _
    rw [List.length_append, recsCells_len rs, List.length_cons]
    simp [recCells]; omega

theorem AllAt.cell {w : World} {g : Nat} {rs : List RecV} (h : AllAt w g rs) {k : Nat} {r : RecV} (hr : rs[k]? = some r) :
    w.cell? ⟨g, k * 4, none⟩ = some (.int .i64 r.c) ∧ w.cell? ⟨g, k * 4 + 1, none⟩ = some (.int .i64 r.i) ∧ w.cell? ⟨g, k * 4 + 2, none⟩ = some (.bool r.l) ∧ w.cell? ⟨g, k * 4 + 3, none⟩ = some (.string r.t) := by
  obtain ⟨hk, rfl⟩ := List.getElem?_eq_some_iff.1 hr
  have hx : ∀ j, j < 4 → w.cell? ⟨g, k * 4 + j, none⟩ = (recCells rs[k])[j]? := fun j hj => by
    rw [(heap_cells h).1, ← recsCells_at rs k j hk hj]; simp
  exact ⟨hx 0 (by omega), hx 1 (by omega), hx 2 (by omega), hx 3 (by omega)⟩

theorem AllAt.row {w : World} {g : Nat} {rs : List RecV} (h : AllAt w g rs) (n : Nat) (hn : n ≤ rs.length) (hs : ∀ r ∈ rs, r.t.size ≤ maxLen) : RecRow w (some ⟨g, 0, none⟩) n (rs.take n) := by
  refine ⟨by rw [List.length_take]; omega, fun r hr => hs r (List.mem_of_mem_take hr), .inr ⟨g, 0, rfl, (heap_cells h).2.2, fun k r hr => ?_⟩⟩
  have hr' : rs[k]? = some r := by
    rw [List.getElem?_take] at hr
    split at hr
    · exact hr
    · cases hr
  rw [Nat.zero_add]
  exact h.cell hr'

theorem AllAt.kept {w W : World} {g : Nat} {rs : List RecV} (h : AllAt w g rs) (hb : Below w.heap.size w W) : AllAt W g rs := (hb.block g (heap_cells h).2.2).trans h

theorem set4_list : ∀ (rs : List RecV) (k : Nat) (r : RecV), k < rs.length →
    ((((recsCells rs).set (k * 4) (.int .i64 r.c)).set (k * 4 + 1) (.int .i64 r.i)).set (k * 4 + 2) (.bool r.l)).set (k * 4 + 3) (.string r.t) = recsCells (rs.set k r)
  | [], k, r, h => absurd h (by simp)
  | x :: rs, 0, r, _ => rfl
  | x :: rs, k + 1, r, h => by
    have ih := set4_list rs k r (by simpa using h)
    show (((((recCells x ++ recsCells rs).set ((k + 1) * 4) _).set ((k + 1) * 4 + 1) _).set ((k + 1) * 4 + 2) _).set ((k + 1) * 4 + 3) _) = recCells x ++ recsCells (rs.set k r)
    have hl : (recCells x).length = 4 := rfl
    rw [List.set_append_right _ _ (by omega), List.set_append_right _ _ (by omega), List.set_append_right _ _ (by omega), List.set_append_right _ _ (by omega), hl]
    rw [show (k + 1) * 4 - 4 = k * 4 from by omega, show (k + 1) * 4 + 1 - 4 = k * 4 + 1 from by omega, show (k + 1) * 4 + 2 - 4 = k * 4 + 2 from by omega, show (k + 1) * 4 + 3 - 4 = k * 4 + 3 from by omega, ih]

theorem heap_set {w : World} {g x : Nat} {cs : Array Value} {t : TypeId} (h : w.heap[g]? = some (.cells cs t)) (v : Value) : (w.setCell ⟨g, x, none⟩ v).heap[g]? = some (.cells (cs.setIfInBounds x v) t) := by
  rw [setCell_eq_setRow w g x cs t (0, 0) v h]
  exact setRow_heap w g cs _ t _ h

theorem AllAt.put {w : World} {g : Nat} {rs : List RecV} (h : AllAt w g rs) {k : Nat} (hk : k < rs.length) (r : RecV) :
    AllAt ((((w.setCell ⟨g, k * 4, none⟩ (.int .i64 r.c)).setCell ⟨g, k * 4 + 1, none⟩ (.int .i64 r.i)).setCell ⟨g, k * 4 + 2, none⟩ (.bool r.l)).setCell ⟨g, k * 4 + 3, none⟩ (.string r.t)) g (rs.set k r) := by
  unfold AllAt
  rw [heap_set (heap_set (heap_set (heap_set h _) _) _) _, ← set4_list rs k r hk]
  simp

theorem put_below {w0 w : World} {B g : Nat} (h : Below B w0 w) (hg : B ≤ g) (k : Nat) (z0 z1 z2 z3 : Value) :
    Below B w0 ((((w.setCell ⟨g, k * 4, none⟩ z0).setCell ⟨g, k * 4 + 1, none⟩ z1).setCell ⟨g, k * 4 + 2, none⟩ z2).setCell ⟨g, k * 4 + 3, none⟩ z3) := by
  iterate 4 refine Below.setCell ?_ hg _
  exact h

/-! ### make -/
def zeroRec : RecV := ⟨0, 0, false, ⟨#[]⟩⟩
theorem made_rec (n : Nat) : (madeCells (Value.cells (.agg #[.int .i64 0, .int .i64 0, .bool false, .string ⟨#[]⟩])) (n * 4)).toList = recsCells (List.replicate n zeroRec) := by
  apply List.ext_getElem?
  intro j
  by_cases hj : j < n * 4
  · have h1 : j = (j / 4) * 4 + j % 4 := by omega
    have h2 : j / 4 < (List.replicate n zeroRec).length := by rw [List.length_replicate]; omega
    rw [h1, recsCells_at _ _ _ h2 (by omega)]
    rw [List.getElem_replicate, ← h1]
    unfold madeCells
    rw [Array.getElem?_toList, Array.getElem?_map, Array.getElem?_range, if_pos hj]
    have h3 : j % 4 = 0 ∨ j % 4 = 1 ∨ j % 4 = 2 ∨ j % 4 = 3 := by omega
    show some ((Value.cells (.agg #[.int .i64 0, .int .i64 0, .bool false, .string ⟨#[]⟩]))[j % 4]!) = _
    rcases h3 with h | h | h | h <;> rw [h] <;> rfl
  · rw [List.getElem?_eq_none (by rw [Array.length_toList, size_madeCells]; omega), List.getElem?_eq_none (by rw [recsCells_len, List.length_replicate]; omega)]

/-! ### copy of records -/
theorem copy_row4 {P : Program} (w : World) (dT sT ty elem : TypeId) (g dLen dCap : Nat) (a : Addr) (sLen sCap : Nat) (cur : Array Value) (t : TypeId) (cs : List Value)
    (hu : P.underlying dT = some (.slice elem)) (hs : (P.info? elem).map (·.size) = some 4)
    (hg : w.heap[g]? = some (.cells cur t (0, 0))) (hn : cs.length = Nat.min sLen dLen * 4)
    (hsrc : ∀ j v, cs[j]? = some v → w.cell? (a.add j) = some v) (hfit : cs.length ≤ cur.size) (h1 : ∀ v ∈ cs, v.oneCell' = true) :
    (Builtin.copy_ #[dT, sT] ty #[.slice (some ⟨g, 0, none⟩) dLen dCap, .slice (some a) sLen sCap]).run P w =
      .ok (goInt (Nat.min sLen dLen)) (w.setRow g (cs ++ cur.toList.drop cs.length).toArray) := by
  have hl := run_loadCells_list (P := P) w a cs hsrc
  have hst := run_storeCells_at P g 0 t cs 0 cur w hg (by simpa using hfit) h1
  cases hq : P.info? elem with
  | none => simp [hq] at hs
  | some i =>
    have hi : i.size = 4 := by simpa [hq] using hs
    simp [Builtin.copy_, run_underlying hu, Builtin.lenOf, Builtin.firstCells, sizeOf, typeInfo, hq, hi, ← hn, hl, hst]
theorem copy_none4 {P : Program} (w : World) (dT sT ty elem : TypeId) (d a : Option Addr) (dLen dCap sLen sCap : Nat) (hu : P.underlying dT = some (.slice elem)) (hs : (P.info? elem).map (·.size) = some 4) (hn : Nat.min sLen dLen = 0) :
    (Builtin.copy_ #[dT, sT] ty #[.slice d dLen dCap, .slice a sLen sCap]).run P w = .ok (goInt 0) w := by
  cases hq : P.info? elem with
  | none => simp [hq] at hs
  | some i =>
    have hl : ∀ (x : Addr), (loadCells x 0).run P w = .ok #[] w := fun x => by simpa using run_loadCells_list (P := P) w x [] (by simp)
    cases d <;> cases a <;> simp [Builtin.copy_, run_underlying hu, Builtin.lenOf, Builtin.firstCells, sizeOf, typeInfo, hq, hn, storeCells, hl]

theorem recs_src {w : World} {a : Option Addr} {m : Nat} {rs : List RecV} (h : RecRow w a m rs) (hm : 0 < m) : ∃ ad, a = some ad ∧ ∀ j v, (recsCells rs)[j]? = some v → w.cell? (ad.add j) = some v := by
  obtain ⟨g, off, rfl, hg, hc⟩ := h.cells.resolve_left (by omega)
  refine ⟨⟨g, off, none⟩, rfl, fun j v hv => ?_⟩
  have hadd : (⟨g, off, none⟩ : Addr).add j = ⟨g, off + j, none⟩ := by unfold Addr.add; split <;> simp_all
  rw [hadd]
  have hj : j < rs.length * 4 := by
    have := (List.getElem?_eq_some_iff.1 hv).1
    rw [recsCells_len] at this
    exact this
  have h1 : j = (j / 4) * 4 + j % 4 := by omega
  have h2 : j / 4 < rs.length := by omega
  rw [h1, recsCells_at _ _ _ h2 (by omega)] at hv
  obtain ⟨c0, c1, c2, c3⟩ := hc (j / 4) rs[j / 4] (List.getElem?_eq_getElem h2)
  have h3 : j % 4 = 0 ∨ j % 4 = 1 ∨ j % 4 = 2 ∨ j % 4 = 3 := by omega
  rw [h1, ← Nat.add_assoc]
  rcases h3 with h | h | h | h <;> rw [h] at hv ⊢
  · rw [Nat.add_zero, c0]; exact hv
  · rw [c1]; exact hv
  · rw [c2]; exact hv
  · rw [c3]; exact hv

theorem recs_one (rs : List RecV) : ∀ v ∈ recsCells rs, v.oneCell' = true := by
  intro v hv
  obtain ⟨r, _, hr⟩ := List.mem_flatMap.1 hv
  simp only [recCells, List.mem_cons, List.not_mem_nil, or_false] at hr
  rcases hr with rfl | rfl | rfl | rfl <;> rfl

theorem recsCells_append (l r : List RecV) : recsCells (l ++ r) = recsCells l ++ recsCells r := by unfold recsCells; rw [List.flatMap_append]

/-- 'copy(all, records)': a law at the call. -/
theorem wpList_copy_recs {w : World} {ops : Array Oper} {rest : List Oper} {o : Oper} {a : Act} {Q : Exit → Act → World → Prop} (hgd : o.guard = none) (d s : Operand)
    (ho : o.op = .call { callee := .builtin .copy, args := #[d, s], argTypes := #[34, 34] })
    (g m c : Nat) (sp : Option Addr) (rs : List RecV) (hd : a.eval d = .slice (some ⟨g, 0, none⟩) (m + 2) (m + 2)) (hs : a.eval s = .slice sp m c) (hrow : RecRow w sp m rs) (hg : AllAt w g (List.replicate (m + 2) zeroRec)) (B : Nat) (w0 : World) (hb : Below B w0 w) (hBg : B ≤ g)
    (h : ∀ w', Hid (AllAt w' g (rs ++ List.replicate 2 zeroRec)) → Hid (Below B w0 w') → Hid (w'.heap.size = w.heap.size) → wpList Try.prog ops Q rest (a.put o.dst (goInt m)) w') : wpList Try.prog ops Q (o :: rest) a w := by
  have hu : Try.prog.underlying 34 = some (.slice 49) := Try.underlying34
  have hsz : (Try.prog.info? 49).map (·.size) = some 4 := by kernel_rfl
  have hmin : Nat.min m (m + 2) = m := Nat.min_eq_left (by omega)
  refine wpList_plain hgd fun K hK => ?_
  by_cases h0 : m = 0
  · subst h0
    have hrun := copy_none4 (P := Try.prog) w 34 34 o.type 49 (some ⟨g, 0, none⟩) sp (0 + 2) (0 + 2) 0 c hu hsz (by simp)
    unfold Oper.wp
    simp [execOp, ho, resolve, invoke, builtin, hd, hs, Result.andThen]
    simp only [Nat.zero_add] at hrun
    rw [hrun]
    have hrs : rs = [] := List.eq_nil_of_length_eq_zero hrow.len
    subst hrs
    exact hK _ _ (h w hg hb rfl)
  · obtain ⟨ad, rfl, hsrc⟩ := recs_src hrow (by omega)
    have hlen : (recsCells rs).length = m * 4 := by rw [recsCells_len, hrow.len]
    have hrun := copy_row4 (P := Try.prog) w 34 34 o.type 49 g (m + 2) (m + 2) ad m c _ _ (recsCells rs) hu hsz hg (by rw [hmin, hlen]) hsrc (by rw [List.size_toArray, hlen, recsCells_len, List.length_replicate]; omega) (recs_one rs)
    rw [hmin] at hrun
    unfold Oper.wp
    simp [execOp, ho, resolve, invoke, builtin, hd, hs, hrun, Result.andThen]
    have e : recsCells rs ++ (recsCells (List.replicate (m + 2) zeroRec)).toArray.toList.drop (recsCells rs).length = recsCells (rs ++ List.replicate 2 zeroRec) := by
      rw [recsCells_append, hlen, ← List.replicate_append_replicate, recsCells_append]
      have h4 : (recsCells (List.replicate m zeroRec)).length = m * 4 := by rw [recsCells_len, List.length_replicate]
      show recsCells rs ++ (recsCells (List.replicate m zeroRec) ++ recsCells (List.replicate 2 zeroRec)).drop (m * 4) = _
      rw [← h4, List.drop_left]
    refine hK _ _ (h _ ?_ (below_setRow hb hBg _) ?_)
    · show (w.setRow g _).heap[g]? = _
      rw [setRow_heap w g _ _ _ _ hg]
      rw [← e]
    · show (w.setRow g _).heap.size = _
      simp [World.setRow]

/-! ### Equal records -/
theorem fields_rec : (Try.prog.fieldsOf 49).toList = [{ name := "Client", type := 3, offset := 0, embedded := false, tag := "", pkgPath := "", byteOffset := 0 }, { name := "ID", type := 3, offset := 1, embedded := false, tag := "", pkgPath := "", byteOffset := 8 }, { name := "Expired", type := 4, offset := 2, embedded := false, tag := "", pkgPath := "", byteOffset := 16 }, { name := "Text", type := 9, offset := 3, embedded := false, tag := "", pkgPath := "", byteOffset := 24 }] := by
  rw [Program.fieldsOf, Try.underlying49]
theorem struct_rec : Try.prog.underlying 49 = some (.struct (Try.prog.fieldsOf 49)) := by
  rw [Program.fieldsOf, Try.underlying49]
theorem guard_rec : Try.prog.eqGuardType Try.prog.depth 49 = false := by kernel_rfl
theorem equal_rec (c i : Int) (l : Bool) (t : ByteArray) (W : World) :
    (Op.equalIn 10000 49 (.agg #[.int .i64 c, .int .i64 i, .bool l, .string t]) (.agg #[.int .i64 c, .int .i64 i, .bool l, .string t])).run Try.prog W = .ok true W := by
  rw [run_equalIn_struct W 9999 _ _ _ struct_rec (by kernel_rfl), fields_rec]
  simp [Op.eqFields, go_sem]

/-! ### marked -/
def markText : ByteArray := ⟨#[109, 97, 114, 107]⟩
def mark (n : Int) : RecV := ⟨-n, n, true, ⟨#[109, 97, 114, 107]⟩⟩
set_option maxHeartbeats 1000000 in
theorem marked_any (n : Int) (w : World) (h0 : 0 ≤ n) (h1 : n < 1000) :
    Calls Try.prog 42 #[.int .i64 n] w fun e w' => e = .returned (.agg #[.int .i64 (-n), .int .i64 n, .bool true, .string ⟨#[109, 97, 114, 107]⟩]) ∧ Below w.heap.size w w' := by
  go_enter Try.func42, Try.ntmps42
  go_wp2
  refine bodyPost_ret (v := .agg #[.int .i64 (-n), .int .i64 n, .bool true, .string ⟨#[109, 97, 114, 107]⟩]) (by simp [results, Try.results42, go_sem]) rfl ?_
  exact ⟨rfl, (Below.refl _ _).alloc (Nat.le_refl _) _⟩

end Go.Proofs.Ytccckonckddadaa
namespace Go.Proofs.Ytccckonckddadaa
open Go.RowKit
set_option linter.unusedVariables false

/-! ### The plain state of a cluster, as the document's answer keeps it -/
structure TxV where
  c : Int
  i : Int
  t : ByteArray
  d : Int
  s : Int
  e : Int
structure ConfV where
  clients : Int
  queue : Int
  quantum : Int
  room : Int
  reps : Int
structure CluV where
  conf : ConfV
  txs : List TxV
  credit : List Int
  first : Int
  epochs : List (List RecV)
  cells : List Int
  reps : List (Int × Int)

def confOk (c : ConfV) : Bool := decide (1 ≤ c.clients ∧ c.clients ≤ 8) && decide (1 ≤ c.queue ∧ c.queue ≤ 8) && decide (1 ≤ c.quantum ∧ c.quantum ≤ 8) && decide (8 ≤ c.room ∧ c.room ≤ 64) && decide (1 ≤ c.reps ∧ c.reps ≤ 4)
def newV (c : ConfV) : CluV := ⟨c, [], [0, 0, 0, 0, 0, 0, 0, 0], 0, [], [0, 0, 0, 0, 0, 0, 0, 0], [(0, 0), (0, 0), (0, 0), (0, 0)]⟩

/-- Which was taken in with this number: from the k-th on. -/
def findFrom (id : Int) : Nat → List TxV → Int
  | _, [] => -1
  | k, t :: ts => if t.i = id then k else findFrom id (k + 1) ts
def findV (txs : List TxV) (id : Int) : Int := findFrom id 0 txs
/-- Which wait in a client's queue, in their order. -/
def waits (client : Int) (t : TxV) : Bool := decide (t.c = client) && decide (t.s = 0)
def queueFrom (client : Int) : Nat → List TxV → List Nat
  | _, [] => []
  | k, t :: ts => if waits client t then k :: queueFrom client (k + 1) ts else queueFrom client (k + 1) ts
def queueV (txs : List TxV) (client : Int) : List Nat := queueFrom client 0 txs

theorem findFrom_append (id : Int) : ∀ (k : Nat) (l r : List TxV), findFrom id k l = -1 → findFrom id k (l ++ r) = findFrom id (k + l.length) r
  | k, [], r, _ => rfl
  | k, t :: ts, r, h => by
    rw [findFrom] at h
    split at h
    · omega
    · rename_i hne
      show findFrom id k (t :: (ts ++ r)) = _
      rw [findFrom, if_neg hne, findFrom_append id (k + 1) ts r h, List.length_cons]
      congr 1
      omega
theorem queueFrom_append (client : Int) : ∀ (k : Nat) (l r : List TxV), queueFrom client k (l ++ r) = queueFrom client k l ++ queueFrom client (k + l.length) r
  | k, [], r => rfl
  | k, t :: ts, r => by
    show queueFrom client k (t :: (ts ++ r)) = queueFrom client k (t :: ts) ++ _
    rw [queueFrom, queueFrom, queueFrom_append client (k + 1) ts r, List.length_cons, show k + 1 + ts.length = k + (ts.length + 1) from by omega]
    split <;> rfl

/-! ### Memory that is kept, but for some blocks -/
structure Kept (F : Nat → Prop) (w w' : World) : Prop where
  os : w'.os = w.os
  tape : w'.tape = w.tape
  output : w'.output = w.output
  size : w.heap.size ≤ w'.heap.size
  block : ∀ k, k < w.heap.size → ¬ F k → w'.heap[k]? = w.heap[k]?
theorem Kept.refl (F : Nat → Prop) (w : World) : Kept F w w := ⟨rfl, rfl, rfl, Nat.le_refl _, fun _ _ _ => rfl⟩
theorem Kept.of {F : Nat → Prop} {w w' : World} (h : Below w.heap.size w w') : Kept F w w' := ⟨h.os, h.tape, h.output, h.size, fun k hk _ => h.block k hk⟩
theorem Kept.trans {F G : Nat → Prop} {a b c : World} (h : Kept F a b) (k : Kept G b c) (hG : ∀ i, i < a.heap.size → G i → F i) : Kept F a c :=
  ⟨k.os.trans h.os, k.tape.trans h.tape, k.output.trans h.output, Nat.le_trans h.size k.size, fun i hi hF => (k.block i (Nat.lt_of_lt_of_le hi h.size) (fun hg => hF (hG i hi hg))).trans (h.block i hi hF)⟩
theorem Kept.below {F : Nat → Prop} {w w' : World} {B : Nat} (h : Kept F w w') (hB : B ≤ w.heap.size) (hF : ∀ k, F k → B ≤ k) : Below B w w' :=
  ⟨h.os, h.tape, h.output, h.size, fun k hk => h.block k (Nat.lt_of_lt_of_le hk hB) (fun hf => absurd (hF k hf) (by omega))⟩
theorem Kept.set {F : Nat → Prop} {a w : World} (h : Kept F a w) {p : Addr} (hp : F p.block ∨ a.heap.size ≤ p.block) (u : Value) : Kept F a (w.setCell p u) := by
  refine ⟨h.os, h.tape, h.output, ?_, fun k hk hF => ?_⟩
  · simp [World.setCell]; exact h.size
  · rw [Below.heap_setCell _ _ _ _ (fun e => by subst e; rcases hp with hp | hp; exact hF hp; omega)]
    exact h.block k hk hF
theorem Kept.grown {F : Nat → Prop} {a w w' : World} {row : Option Nat} (h : Kept F a w) (hg : w.grownBy w' row) (hr : ∀ k, row = some k → F k ∨ a.heap.size ≤ k) : Kept F a w' :=
  ⟨hg.os.trans h.os, hg.tape.trans h.tape, hg.output.trans h.output, Nat.le_trans h.size hg.size, fun k hk hF => (hg.block k (Nat.lt_of_lt_of_le hk h.size) (fun e => by rcases hr k e.symm with hp | hp; exact hF hp; omega)).trans (h.block k hk hF)⟩

/-! ### A cluster in memory -/
def txCells (t : TxV) : List Value := [.int .i64 t.c, .int .i64 t.i, .string t.t, .int .i64 t.d, .int .i64 t.s, .int .i64 t.e]
def txsCells (ts : List TxV) : List Value := ts.flatMap txCells
def confCells (c : ConfV) : List Value := [.int .i64 c.clients, .int .i64 c.queue, .int .i64 c.quantum, .int .i64 c.room, .int .i64 c.reps]
def intCells (l : List Int) : List Value := l.map (.int .i64 ·)
def repCells (l : List (Int × Int)) : List Value := l.flatMap fun x => [.int .i64 x.1, .int .i64 x.2]
def cluCells (s : CluV) (vT vE : Value) : List Value :=
  confCells s.conf ++ (vT :: (intCells s.credit ++ (.int .i64 s.first :: vE :: (intCells s.cells ++ repCells s.reps))))

/-- What is true of a cluster's numbers. -/
structure CluFit (s : CluV) : Prop where
  conf : confOk s.conf = true
  credit : s.credit.length = 8
  cells : s.cells.length = 8
  reps : s.reps.length = 4
  many : s.epochs.length ≤ 200
  first0 : 0 ≤ s.first
  first1 : s.first < s.conf.clients
  few : s.txs.length ≤ 1000000
  tx : ∀ t ∈ s.txs, Dk.parseOk t.t.data.toList = true ∧ 0 ≤ t.c ∧ t.c < s.conf.clients ∧ 0 ≤ t.i ∧ t.i ≤ 999999
  once : ∀ (i j : Nat) (x y : TxV), s.txs[i]? = some x → s.txs[j]? = some y → x.i = y.i → i = j
  ep : ∀ rs ∈ s.epochs, rs.length ≤ 64 ∧ (recs rs).all Dk.recOk = true
  c16 : Dk.All16 s.cells
  cr : ∀ x ∈ s.credit, 0 ≤ x ∧ x ≤ 8 * ((s.epochs.length : Int) + 1)

/-! ### The cells of a cluster -/
theorem confCells_len (c : ConfV) : (confCells c).length = 5 := rfl
theorem intCells_len (l : List Int) : (intCells l).length = l.length := by simp [intCells]
theorem repCells_len : ∀ l : List (Int × Int), (repCells l).length = l.length * 2
  | [] => rfl
  | x :: l => by
    show (([.int .i64 x.1, .int .i64 x.2] : List Value) ++ repCells l).length = _
    rw [List.length_append, repCells_len l]; simp; omega
theorem repCells_at : ∀ (l : List (Int × Int)) (k : Nat) (x : Int × Int), l[k]? = some x → (repCells l)[k * 2]? = some (.int .i64 x.1) ∧ (repCells l)[k * 2 + 1]? = some (.int .i64 x.2)
  | [], k, x, h => by simp at h
  | y :: l, 0, x, h => by
    have : y = x := by simpa using h
    subst this
    exact ⟨rfl, rfl⟩
  | y :: l, k + 1, x, h => by
    have ih := repCells_at l k x (by simpa using h)
    have e : repCells (y :: l) = .int .i64 y.1 :: .int .i64 y.2 :: repCells l := rfl
    rw [e, show (k + 1) * 2 = k * 2 + 2 from by omega, show k * 2 + 2 + 1 = k * 2 + 1 + 2 from by omega]
    exact ih

section
variable {s : CluV} {vT vE : Value}
theorem clu_credit (h : s.credit.length = 8) {k : Nat} {x : Int} (hk : s.credit[k]? = some x) : (cluCells s vT vE)[6 + k]? = some (.int .i64 x) := by
  have hk8 : k < 8 := by have := (List.getElem?_eq_some_iff.1 hk).1; omega
  unfold cluCells
  rw [List.getElem?_append_right (by rw [confCells_len]; omega), confCells_len, show 6 + k - 5 = k + 1 from by omega, List.getElem?_cons_succ, List.getElem?_append_left (by rw [intCells_len]; omega)]
  unfold intCells
  rw [List.getElem?_map, hk]; rfl
theorem clu_after (h : s.credit.length = 8) (j : Nat) : (cluCells s vT vE)[14 + j]? = (.int .i64 s.first :: vE :: (intCells s.cells ++ repCells s.reps))[j]? := by
  unfold cluCells
  rw [List.getElem?_append_right (by rw [confCells_len]; omega), confCells_len, show 14 + j - 5 = (8 + j) + 1 from by omega, List.getElem?_cons_succ, List.getElem?_append_right (by rw [intCells_len]; omega), intCells_len, h, show 8 + j - 8 = j from by omega]
theorem clu_first (h : s.credit.length = 8) : (cluCells s vT vE)[14]? = some (.int .i64 s.first) := clu_after h 0
theorem clu_epochs (h : s.credit.length = 8) : (cluCells s vT vE)[15]? = some vE := clu_after h 1
theorem clu_cells (h : s.credit.length = 8) {k : Nat} {x : Int} (h8 : s.cells.length = 8) (hk : s.cells[k]? = some x) : (cluCells s vT vE)[16 + k]? = some (.int .i64 x) := by
  have hk8 : k < 8 := by have := (List.getElem?_eq_some_iff.1 hk).1; omega
  have := clu_after (vT := vT) (vE := vE) h (2 + k)
  rw [show 14 + (2 + k) = 16 + k from by omega, show 2 + k = k + 1 + 1 from by omega, List.getElem?_cons_succ, List.getElem?_cons_succ, List.getElem?_append_left (by rw [intCells_len]; omega)] at this
  rw [this]
  unfold intCells
  rw [List.getElem?_map, hk]; rfl
theorem clu_reps (h : s.credit.length = 8) (h8 : s.cells.length = 8) {k : Nat} {x : Int × Int} (hk : s.reps[k]? = some x) : (cluCells s vT vE)[24 + k * 2]? = some (.int .i64 x.1) ∧ (cluCells s vT vE)[24 + k * 2 + 1]? = some (.int .i64 x.2) := by
  obtain ⟨r0, r1⟩ := repCells_at s.reps k x hk
  have e : ∀ j, (cluCells s vT vE)[24 + j]? = (repCells s.reps)[j]? := fun j => by
    have := clu_after (vT := vT) (vE := vE) h (10 + j)
    rw [show 14 + (10 + j) = 24 + j from by omega, show 10 + j = (8 + j) + 1 + 1 from by omega, List.getElem?_cons_succ, List.getElem?_cons_succ, List.getElem?_append_right (by rw [intCells_len]; omega), intCells_len, h8, show 8 + j - 8 = j from by omega] at this
    exact this
  exact ⟨by rw [e]; exact r0, by rw [Nat.add_assoc, e]; exact r1⟩
theorem clu_len (h : s.credit.length = 8) (h8 : s.cells.length = 8) (hr : s.reps.length = 4) : (cluCells s vT vE).length = 32 := by
  unfold cluCells
  simp only [List.length_append, List.length_cons, confCells_len, intCells_len, repCells_len, h, h8, hr]
theorem clu_set_txs (v : Value) : (cluCells s vT vE).set 5 v = cluCells s v vE := rfl
theorem clu_set_credit (h : s.credit.length = 8) {k : Nat} (hk : k < 8) (x : Int) : (cluCells s vT vE).set (6 + k) (.int .i64 x) = cluCells { s with credit := s.credit.set k x } vT vE := by
  unfold cluCells
  rw [List.set_append_right _ _ (by rw [confCells_len]; omega), confCells_len, show 6 + k - 5 = k + 1 from by omega, List.set_cons_succ, List.set_append_left _ _ (by rw [intCells_len]; omega)]
  unfold intCells
  rw [List.map_set]
theorem clu_set_after (h : s.credit.length = 8) (j : Nat) (v : Value) : (cluCells s vT vE).set (14 + j) v = confCells s.conf ++ (vT :: (intCells s.credit ++ (.int .i64 s.first :: vE :: (intCells s.cells ++ repCells s.reps)).set j v)) := by
  unfold cluCells
  rw [List.set_append_right _ _ (by rw [confCells_len]; omega), confCells_len, show 14 + j - 5 = (8 + j) + 1 from by omega, List.set_cons_succ, List.set_append_right _ _ (by rw [intCells_len]; omega), intCells_len, h, show 8 + j - 8 = j from by omega]
theorem clu_set_first (h : s.credit.length = 8) (x : Int) : (cluCells s vT vE).set 14 (.int .i64 x) = cluCells { s with first := x } vT vE := clu_set_after h 0 _
theorem clu_set_epochs (h : s.credit.length = 8) (v : Value) : (cluCells s vT vE).set 15 v = cluCells s vT v := clu_set_after h 1 _
theorem repCells_set : ∀ (l : List (Int × Int)) (k : Nat) (x y : Int × Int), l[k]? = some x → ((repCells l).set (k * 2) (.int .i64 y.1)).set (k * 2 + 1) (.int .i64 y.2) = repCells (l.set k y)
  | [], k, x, y, h => by simp at h
  | z :: l, 0, x, y, h => rfl
  | z :: l, k + 1, x, y, h => by
    have ih := repCells_set l k x y (by simpa using h)
    have e : repCells (z :: l) = .int .i64 z.1 :: .int .i64 z.2 :: repCells l := rfl
    rw [e, show (k + 1) * 2 = k * 2 + 1 + 1 from by omega, show k * 2 + 1 + 1 + 1 = (k * 2 + 1) + 1 + 1 from by omega, List.set_cons_succ, List.set_cons_succ, List.set_cons_succ, List.set_cons_succ, ih]
    rfl
theorem clu_set_reps (h : s.credit.length = 8) (h8 : s.cells.length = 8) (j : Nat) (v : Value) : (cluCells s vT vE).set (24 + j) v = confCells s.conf ++ (vT :: (intCells s.credit ++ (.int .i64 s.first :: vE :: (intCells s.cells ++ (repCells s.reps).set j v)))) := by
  have := clu_set_after (vT := vT) (vE := vE) h (10 + j) v
  rw [show 14 + (10 + j) = 24 + j from by omega, show 10 + j = (8 + j) + 1 + 1 from by omega, List.set_cons_succ, List.set_cons_succ, List.set_append_right _ _ (by rw [intCells_len]; omega), intCells_len, h8, show 8 + j - 8 = j from by omega] at this
  exact this
end

theorem txsCells_len : ∀ ts : List TxV, (txsCells ts).length = ts.length * 6
  | [] => rfl
  | t :: ts => by
    show (txCells t ++ txsCells ts).length = _
    rw [List.length_append, txsCells_len ts, List.length_cons]; simp [txCells]; omega
theorem txsCells_at : ∀ (ts : List TxV) (k j : Nat) (t : TxV), ts[k]? = some t → j < 6 → (txsCells ts)[k * 6 + j]? = (txCells t)[j]?
  | [], k, j, t, h, _ => by simp at h
  | x :: ts, 0, j, t, h, hj => by
    have : x = t := by simpa using h
    subst this
    show (txCells x ++ txsCells ts)[0 * 6 + j]? = _
    rw [List.getElem?_append_left (by simp [txCells]; omega)]; simp
  | x :: ts, k + 1, j, t, h, hj => by
    show (txCells x ++ txsCells ts)[(k + 1) * 6 + j]? = _
    rw [List.getElem?_append_right (by simp [txCells]; omega)]
    have e : (k + 1) * 6 + j - (txCells x).length = k * 6 + j := by simp [txCells]; omega
    rw [e, txsCells_at ts k j t (by simpa using h) hj]
theorem txsCells_snoc (ts : List TxV) (t : TxV) : txsCells (ts ++ [t]) = txsCells ts ++ txCells t := by
  unfold txsCells
  rw [List.flatMap_append]
  simp

/-- A cell of a row that is owned. -/
theorem own_cell {w : World} {B e size n c : Nat} {a : Option Addr} {xs : List Value} (h : w.ownsRow B e size (.slice a n c) n xs) (hn : 0 < n) : ∃ g, a = some ⟨g, 0, none⟩ ∧ g < w.heap.size ∧ (∀ j v, xs[j]? = some v → w.cell? ⟨g, j, none⟩ = some v) ∧ (∀ x, w.frozen? ⟨g, x, none⟩ = false) := by
  rcases h.2 with ⟨_, h0⟩ | ⟨g, cap, cur, hv, _, hg, _, _, hcs, ht⟩
  · omega
  · obtain ⟨rfl, _⟩ : a = some ⟨g, 0, none⟩ ∧ c = cap := by simpa using hv
    refine ⟨g, rfl, (heap_cells hg).2.2, fun j v hj => ?_, (heap_cells hg).2.1⟩
    have hl : j < n * size := by
      have := (List.getElem?_eq_some_iff.1 hj).1
      rw [h.1] at this
      exact this
    rw [(heap_cells hg).1, ← hj, ← ht, ← Array.getElem?_toList, List.getElem?_take_of_lt hl]

end Go.Proofs.Ytccckonckddadaa
namespace Go.Proofs.Ytccckonckddadaa
open Go.RowKit
set_option linter.unusedVariables false

/-! ### find -/
end Go.Proofs.Ytccckonckddadaa
namespace Go.Proofs.Ytccckonckddadaa
set_option linter.unusedVariables false

/-! ### As many numbers as there are places -/
theorem len_of_nodup : ∀ (N : Nat) (l : List Nat), l.Nodup → (∀ x ∈ l, x < N) → l.length ≤ N
  | 0, l, _, h => by
    cases l with
    | nil => exact Nat.le_refl _
    | cons x l => exact absurd (h x (by simp)) (by omega)
  | N + 1, l, hn, h => by
    by_cases hm : N ∈ l
    · have h1 := len_of_nodup N (l.erase N) (hn.erase N) (fun x hx => by
        have h2 := h x (List.mem_of_mem_erase hx)
        have h3 : x ≠ N := fun e => by
          subst e
          exact absurd hx (by rw [hn.mem_erase_iff]; simp)
        omega)
      rw [List.length_erase_of_mem hm] at h1
      omega
    · have h1 := len_of_nodup N l hn (fun x hx => by
        have h2 := h x hx
        have h3 : x ≠ N := fun e => hm (e ▸ hx)
        omega)
      omega

theorem txs_few {l : List TxV} (hid : ∀ t ∈ l, 0 ≤ t.i ∧ t.i ≤ 999999) (once : ∀ (i j : Nat) (x y : TxV), l[i]? = some x → l[j]? = some y → x.i = y.i → i = j) : l.length ≤ 1000000 := by
  have h := len_of_nodup 1000000 (l.map (fun t => t.i.toNat)) ?_ ?_
  · rw [List.length_map] at h; exact h
  · refine List.pairwise_iff_getElem.2 (fun i j hi hj hij he => ?_)
    rw [List.length_map] at hi hj
    rw [List.getElem_map, List.getElem_map] at he
    have b1 := hid l[i] (List.getElem_mem hi)
    have b2 := hid l[j] (List.getElem_mem hj)
    have := once i j l[i] l[j] (List.getElem?_eq_getElem hi) (List.getElem?_eq_getElem hj) (by omega)
    omega
  · intro x hx
    obtain ⟨t, ht, rfl⟩ := List.mem_map.1 hx
    have := hid t ht
    omega

/-- What is not found is not there. -/
theorem find_none (id : Int) : ∀ (l : List TxV) (k : Nat), findFrom id k l < 0 → ∀ t ∈ l, t.i ≠ id
  | [], _, _, t, ht => by simp at ht
  | x :: l, k, h, t, ht => by
    rw [findFrom] at h
    split at h
    · omega
    · rename_i hne
      rcases List.mem_cons.1 ht with rfl | ht
      · exact hne
      · exact find_none id l (k + 1) h t ht
/-- What is found is there. -/
theorem find_some (id : Int) : ∀ (l : List TxV) (k : Nat), 0 ≤ findFrom id k l → ∃ (i : Nat) (t : TxV), findFrom id k l = ((k + i : Nat) : Int) ∧ l[i]? = some t ∧ t.i = id
  | [], k, h => absurd h (by rw [findFrom]; omega)
  | x :: l, k, h => by
    rw [findFrom] at h ⊢
    split at h
    · rename_i he
      rw [if_pos he]
      exact ⟨0, x, by simp, rfl, he⟩
    · rename_i hne
      rw [if_neg hne]
      obtain ⟨i, t, h1, h2, h3⟩ := find_some id l (k + 1) h
      exact ⟨i + 1, t, by rw [h1]; congr 1; omega, by simpa using h2, h3⟩

end Go.Proofs.Ytccckonckddadaa
namespace Go.Proofs.Ytccckonckddadaa
open Go.RowKit
set_option linter.unusedVariables false

/-! ### queue -/
def natCells (l : List Nat) : List Value := l.map fun (k : Nat) => .int .i64 (k : Int)
theorem info_num : (Try.prog.info? 3).map (fun i => (i.zero, i.size, i.bytes)) = some (some (.int .i64 0), 1, 8) := by kernel_rfl

structure QAt (w wr : World) (a : Option Addr) (m c : Nat) (q : List Nat) : Prop where
  len : q.length = m
  own : wr.ownsRow w.heap.size 3 1 (.slice a m c) m (natCells q)
  bel : Below w.heap.size w wr

def QueuePost (q : List Nat) (w : World) (e : Ending) (w' : World) : Prop := ∃ a c, e = .returned (.slice a q.length c) ∧ QAt w w' a q.length c q

/-! ### A cluster is kept -/
theorem RecRow.same {w W : World} {a : Option Addr} {n : Nat} {rs : List RecV} (h : RecRow w a n rs) (hs : w.heap.size ≤ W.heap.size) (hb : ∀ ad, a = some ad → W.heap[ad.block]? = w.heap[ad.block]?) : RecRow W a n rs := by
  refine ⟨h.len, h.small, ?_⟩
  rcases h.cells with h0 | ⟨g, off, rfl, hg, hc⟩
  · exact .inl h0
  · have e : ∀ x, W.cell? ⟨g, x, none⟩ = w.cell? ⟨g, x, none⟩ := fun x => World.cell?_of_block (a := ⟨g, x, none⟩) (hb ⟨g, off, none⟩ rfl)
    refine .inr ⟨g, off, rfl, Nat.lt_of_lt_of_le hg hs, fun k r hr => ?_⟩
    obtain ⟨c1, c2, c3, c4⟩ := hc k r hr
    exact ⟨(e _).trans c1, (e _).trans c2, (e _).trans c3, (e _).trans c4⟩
theorem own_same {w W : World} {B e size n : Nat} {v : Value} {xs : List Value} (h : w.ownsRow B e size v n xs) (hb : ∀ k, v.ownBlock = some k → W.heap[k]? = w.heap[k]?) : W.ownsRow B e size v n xs := by
  refine ⟨h.1, ?_⟩
  rcases h.2 with h0 | ⟨g, cap, cur, hv, hB, hg, r⟩
  · exact .inl h0
  · refine .inr ⟨g, cap, cur, hv, hB, ?_, r⟩
    rw [hb g (by rw [hv]; rfl)]
    exact hg
end Go.Proofs.Ytccckonckddadaa
namespace Go.Proofs.Ytccckonckddadaa
open Go.RowKit
set_option linter.unusedVariables false

/-! ### Submit -/
def submitV (s : CluV) (client id : Int) (t : ByteArray) (d : Int) : CluV × Int :=
  if ¬ (0 ≤ client ∧ client ≤ s.conf.clients - 1) then (s, 4)
  else if ¬ (0 ≤ id ∧ id ≤ 999999) then (s, 5)
  else if Dk.parseOk t.data.toList = false then (s, 1)
  else if 0 ≤ findV s.txs id then (s, 6)
  else if d < (s.epochs.length : Int) then (s, 7)
  else if s.conf.queue ≤ ((queueV s.txs client).length : Int) then (s, 8)
  else ({ s with txs := s.txs ++ [⟨client, id, t, d, 0, 0⟩] }, 0)

theorem fit_submit {s : CluV} (h : CluFit s) {t : TxV} (ht : Dk.parseOk t.t.data.toList = true ∧ 0 ≤ t.c ∧ t.c < s.conf.clients ∧ 0 ≤ t.i ∧ t.i ≤ 999999) (hn : ∀ x ∈ s.txs, x.i ≠ t.i) : CluFit { s with txs := s.txs ++ [t] } := by
  have hmem : ∀ x ∈ s.txs ++ [t], Dk.parseOk x.t.data.toList = true ∧ 0 ≤ x.c ∧ x.c < s.conf.clients ∧ 0 ≤ x.i ∧ x.i ≤ 999999 := by
    intro x hx
    rcases List.mem_append.1 hx with hx | hx
    · exact h.tx x hx
    · have : x = t := by simpa using hx
      subst this
      exact ht
  have honce : ∀ (i j : Nat) (x y : TxV), (s.txs ++ [t])[i]? = some x → (s.txs ++ [t])[j]? = some y → x.i = y.i → i = j := by
    intro i j x y hx hy he
    by_cases hi : i < s.txs.length
    · rw [List.getElem?_append_left hi] at hx
      by_cases hj : j < s.txs.length
      · rw [List.getElem?_append_left hj] at hy
        exact h.once i j x y hx hy he
      · rw [List.getElem?_append_right (by omega)] at hy
        have hj0 : j - s.txs.length = 0 := by
          have := (List.getElem?_eq_some_iff.1 hy).1
          simp at this
          omega
        rw [hj0] at hy
        have : t = y := by simpa using hy
        subst this
        exact absurd he (hn x (List.mem_of_getElem? hx))
    · rw [List.getElem?_append_right (by omega)] at hx
      have hi0 : i - s.txs.length = 0 := by
        have := (List.getElem?_eq_some_iff.1 hx).1
        simp at this
        omega
      rw [hi0] at hx
      have hxt : t = x := by simpa using hx
      subst hxt
      by_cases hj : j < s.txs.length
      · rw [List.getElem?_append_left hj] at hy
        exact absurd he.symm (hn y (List.mem_of_getElem? hy))
      · have hj0 : j - s.txs.length = 0 := by
          have := (List.getElem?_eq_some_iff.1 hy).1
          simp at this
          omega
        omega
  exact ⟨h.conf, h.credit, h.cells, h.reps, h.many, h.first0, h.first1, txs_few (fun x hx => (hmem x hx).2.2.2) honce, hmem, honce, h.ep, h.c16, h.cr⟩

end Go.Proofs.Ytccckonckddadaa
namespace Go.Proofs.Ytccckonckddadaa
open Go.RowKit
set_option linter.unusedVariables false

/-! ### Reply -/
def replyV (s : CluV) (id : Int) : Int × Int × Int :=
  if findV s.txs id < 0 then (0, 0, 10) else match s.txs[(findV s.txs id).toNat]? with
    | none => (0, 0, 10)
    | some t => (t.s, t.e, 0)

end Go.Proofs.Ytccckonckddadaa
namespace Go.Proofs.Ytccckonckddadaa
open Go.RowKit
set_option linter.unusedVariables false

/-! ### ends -/
def endsV (s : CluV) (i : Nat) (st : Int) : CluV := { s with txs := s.txs.modify i fun t => { t with s := st, e := s.epochs.length } }

theorem txs_modify : ∀ (ts : List TxV) (i : Nat) (t : TxV) (x y : Int), ts[i]? = some t → ((txsCells ts).set (i * 6 + 4) (.int .i64 x)).set (i * 6 + 5) (.int .i64 y) = txsCells (ts.modify i fun t => { t with s := x, e := y })
  | [], i, t, x, y, h => by simp at h
  | z :: ts, 0, t, x, y, h => rfl
  | z :: ts, i + 1, t, x, y, h => by
    have ih := txs_modify ts i t x y (by simpa using h)
    have e : txsCells (z :: ts) = txCells z ++ txsCells ts := rfl
    have hl : (txCells z).length = 6 := rfl
    rw [e, List.set_append_right _ _ (by omega), List.set_append_right _ _ (by omega), hl, show (i + 1) * 6 + 4 - 6 = i * 6 + 4 from by omega, show (i + 1) * 6 + 5 - 6 = i * 6 + 5 from by omega, ih]
    rfl

theorem modify_get (ts : List TxV) (i k : Nat) (f : TxV → TxV) : (ts.modify i f)[k]? = if i = k then ts[k]?.map f else ts[k]? := by
  rw [List.getElem?_modify]
  split <;> simp

theorem fit_ends {s : CluV} (h : CluFit s) (i : Nat) (st : Int) : CluFit (endsV s i st) := by
  have hg : ∀ (k : Nat) (y : TxV), (endsV s i st).txs[k]? = some y → ∃ x, s.txs[k]? = some x ∧ y.c = x.c ∧ y.i = x.i ∧ y.t = x.t := by
    intro k y hy
    have hy' : (s.txs.modify i fun t => { t with s := st, e := s.epochs.length })[k]? = some y := hy
    rw [modify_get] at hy'
    split at hy'
    · cases hx : s.txs[k]? with
      | none => rw [hx] at hy'; cases hy'
      | some x =>
        rw [hx] at hy'
        have : y = { x with s := st, e := s.epochs.length } := by simpa using hy'.symm
        subst this
        exact ⟨x, rfl, rfl, rfl, rfl⟩
    · exact ⟨y, hy', rfl, rfl, rfl⟩
  refine ⟨h.conf, h.credit, h.cells, h.reps, h.many, h.first0, h.first1, ?_, ?_, ?_, h.ep, h.c16, h.cr⟩
  · show (s.txs.modify i _).length ≤ _
    rw [List.length_modify]; exact h.few
  · intro y hy
    obtain ⟨k, hk⟩ := List.getElem?_of_mem hy
    obtain ⟨x, hx, e1, e2, e3⟩ := hg k y hk
    have := h.tx x (List.mem_of_getElem? hx)
    rw [e1, e2, e3]
    exact this
  · intro a b x y hx hy he
    obtain ⟨x', hx', _, e2, _⟩ := hg a x hx
    obtain ⟨y', hy', _, f2, _⟩ := hg b y hy
    exact h.once a b x' y' hx' hy' (by rw [← e2, ← f2]; exact he)

end Go.Proofs.Ytccckonckddadaa
namespace Go.Proofs.Ytccckonckddadaa
open Go.RowKit
set_option linter.unusedVariables false

/-! ### late -/
def lateGo (client : Int) : List Nat → CluV → List RecV → CluV × List RecV
  | [], s, l => (s, l)
  | q :: qs, s, l => match s.txs[q]? with
    | none => lateGo client qs s l
    | some t => if t.d < (s.epochs.length : Int) then lateGo client qs (endsV s q 3) (l ++ [⟨client, t.i, true, ⟨#[]⟩⟩]) else lateGo client qs s l
def lateV (s : CluV) (client : Int) : CluV × List RecV := lateGo client (queueV s.txs client) s []

theorem queue_lt (client : Int) : ∀ (l : List TxV) (k : Nat) (q : Nat), q ∈ queueFrom client k l → k ≤ q ∧ q < k + l.length
  | [], k, q, h => by simp [queueFrom] at h
  | t :: l, k, q, h => by
    rw [queueFrom] at h
    split at h
    · rcases List.mem_cons.1 h with rfl | h
      · simp
      · have := queue_lt client l (k + 1) q h
        rw [List.length_cons]; omega
    · have := queue_lt client l (k + 1) q h
      rw [List.length_cons]; omega

theorem queue_len (client : Int) : ∀ (l : List TxV) (k : Nat), (queueFrom client k l).length ≤ l.length
  | [], _ => Nat.le_refl _
  | t :: l, k => by
    have := queue_len client l (k + 1)
    rw [queueFrom]
    split
    · rw [List.length_cons, List.length_cons]; omega
    · rw [List.length_cons]; omega

theorem late_no {client : Int} {q : List Nat} {k x : Nat} {s : CluV} {l : List RecV} {t : TxV} (hk : q[k]? = some x) (hx : s.txs[x]? = some t) (hd : ¬ t.d < (s.epochs.length : Int)) : lateGo client (q.drop k) s l = lateGo client (q.drop (k + 1)) s l := by
  obtain ⟨hkl, rfl⟩ := List.getElem?_eq_some_iff.1 hk
  rw [List.drop_eq_getElem_cons hkl, lateGo, hx]
  simp only
  rw [if_neg hd]
theorem late_yes {client : Int} {q : List Nat} {k x : Nat} {s : CluV} {l : List RecV} {t : TxV} (hk : q[k]? = some x) (hx : s.txs[x]? = some t) (hd : t.d < (s.epochs.length : Int)) : lateGo client (q.drop k) s l = lateGo client (q.drop (k + 1)) (endsV s x 3) (l ++ [⟨client, t.i, true, ⟨#[]⟩⟩]) := by
  obtain ⟨hkl, rfl⟩ := List.getElem?_eq_some_iff.1 hk
  rw [List.drop_eq_getElem_cons hkl, lateGo, hx]
  simp only
  rw [if_pos hd]

theorem nat_cell {w : World} {B n c : Nat} {a : Option Addr} {q : List Nat} (h : w.ownsRow B 3 1 (.slice a n c) n (natCells q)) {k x : Nat} (hk : q[k]? = some x) (hn : k < n) : ∃ g, a = some ⟨g, 0, none⟩ ∧ g < w.heap.size ∧ w.cell? ⟨g, k, none⟩ = some (.int .i64 (x : Int)) := by
  obtain ⟨g, rfl, hg, hc, _⟩ := own_cell h (by omega)
  refine ⟨g, rfl, hg, hc k _ ?_⟩
  unfold natCells
  rw [List.getElem?_map, hk]; rfl

theorem own_kept {F : Nat → Prop} {w wr wr' : World} {e size n : Nat} {v : Value} {xs : List Value} (h : wr.ownsRow w.heap.size e size v n xs) (hk : Kept F wr wr') (hF : ∀ k, F k → k < w.heap.size) : wr'.ownsRow w.heap.size e size v n xs :=
  own_same h (fun k hk' => hk.block k (h.lt k hk').2 (fun hf => by have := hF k hf; have := (h.lt k hk').1; omega))

end Go.Proofs.Ytccckonckddadaa
namespace Go.Proofs.Ytccckonckddadaa
open Go.RowKit
set_option linter.unusedVariables false

/-! ### Cost, front -/
def costV (t : ByteArray) : Nat := (Dk.splitAll 59 (Dk.cutAt 124 t.data.toList).2.1).length

theorem split_pos (l : List UInt8) : 1 ≤ (Dk.splitAll 59 l).length := by
  rw [Dk.splitAll_cut 59 l]
  simp
theorem cost_le {t : ByteArray} (hok : Dk.parseOk t.data.toList = true) : 1 ≤ costV t ∧ costV t ≤ 8 := by
  refine ⟨split_pos _, ?_⟩
  unfold Dk.parseOk at hok
  rw [Bool.and_eq_true] at hok
  have h := hok.2
  unfold Dk.opsOk at h
  rw [Bool.and_eq_true, decide_eq_true_eq] at h
  exact h.1

def frontV (s : CluV) (client : Nat) (room : Int) : Int :=
  match queueV s.txs client with
  | [] => -1
  | q :: _ => match s.txs[q]? with
    | none => -1
    | some t => if s.credit.getD client 0 < (costV t.t : Int) ∨ room < (costV t.t : Int) then (-1 : Int) else (q : Int)

end Go.Proofs.Ytccckonckddadaa
namespace Go.Proofs.Ytccckonckddadaa
open Go.RowKit
set_option linter.unusedVariables false

/-! ### A cluster's own block is written -/
/-! ### A client's credit -/
def credV (s : CluV) (c : Nat) (x : Int) : CluV := { s with credit := s.credit.set c x }
theorem fit_cred {s : CluV} (h : CluFit s) {c : Nat} {x : Int} (hx : 0 ≤ x ∧ x ≤ 8 * ((s.epochs.length : Int) + 1)) : CluFit (credV s c x) := by
  refine ⟨h.conf, ?_, h.cells, h.reps, h.many, h.first0, h.first1, h.few, h.tx, h.once, h.ep, h.c16, ?_⟩
  · show (s.credit.set c x).length = 8
    rw [List.length_set]; exact h.credit
  · intro y hy
    rcases List.mem_or_eq_of_mem_set hy with hy | rfl
    · exact h.cr y hy
    · exact hx
/-! ### The sequencer's cells -/
def cellsV (s : CluV) (l : List Int) : CluV := { s with cells := l }
theorem fit_cells {s : CluV} (h : CluFit s) {l : List Int} (hl : l.length = 8) (h16 : Dk.All16 l) : CluFit (cellsV s l) :=
  ⟨h.conf, h.credit, hl, h.reps, h.many, h.first0, h.first1, h.few, h.tx, h.once, h.ep, h16, h.cr⟩

theorem list8' {α : Type} (l : List α) (h : l.length = 8) : ∃ a0 a1 a2 a3 a4 a5 a6 a7, l = [a0, a1, a2, a3, a4, a5, a6, a7] := by
  match l, h with
  | [a0, a1, a2, a3, a4, a5, a6, a7], _ => exact ⟨a0, a1, a2, a3, a4, a5, a6, a7, rfl⟩

end Go.Proofs.Ytccckonckddadaa
