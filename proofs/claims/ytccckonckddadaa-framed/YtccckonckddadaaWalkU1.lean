import Derived.Test.YtccckonckddadaaWalkT3
import Derived.Test.YtccckonckddadaaWalkS4
import Derived.Laws.CopyOwn
import Derived.Laws.StructEq
import Derived.OwnWalk
namespace Go.Proofs.Ytccckonckddadaa
open Go.RowKit
set_option linter.unusedVariables false

/-! ### A row of records that is known whole -/
def AllAt (w : World) (g : Nat) (rs : List RecV) : Prop := w.heap[g]? = some (.cells (recsCells rs).toArray 49)

theorem recsCells_len : ∀ rs : List RecV, (recsCells rs).length = rs.length * 4
  | [] => rfl
  | r :: rs => by
    show (recCells r ++ recsCells rs).length = _
    rw [List.length_append, recsCells_len rs, List.length_cons]
    simp [recCells]; omega

theorem AllAt.cell {w : World} {g : Nat} {rs : List RecV} (h : AllAt w g rs) {k : Nat} {r : RecV} (hr : rs[k]? = some r) :
    w.cell? ⟨g, k * 4, none⟩ = some (.int .i64 r.c) ∧ w.cell? ⟨g, k * 4 + 1, none⟩ = some (.int .i64 r.i) ∧ w.cell? ⟨g, k * 4 + 2, none⟩ = some (.bool r.l) ∧ w.cell? ⟨g, k * 4 + 3, none⟩ = some (.string r.t) := by
  obtain ⟨hk, rfl⟩ := List.getElem?_eq_some_iff.1 hr
  have hx : ∀ j, j < 4 → w.cell? ⟨g, k * 4 + j, none⟩ = (recCells rs[k])[j]? := fun j hj => by
    rw [(heap_cells h).1, ← recsCells_at rs k j hk hj]; simp
  exact ⟨hx 0 (by omega), hx 1 (by omega), hx 2 (by omega), hx 3 (by omega)⟩

theorem AllAt.row {w : World} {g : Nat} {rs : List RecV} (h : AllAt w g rs) (n : Nat) (hn : n ≤ rs.length) (hs : ∀ r ∈ rs, r.t.size ≤ maxLen) : RecRow w (some ⟨g, 0, none⟩) n (rs.take n) := by
  refine ⟨by rw [List.length_take]; omega, fun r hr => hs r (List.mem_of_mem_take hr), .inr ⟨g, 0, rfl, (heap_cells h).2.2, fun k r hr => ?_⟩⟩
  have hr' : rs[k]? = some r := by
    rw [List.getElem?_take] at hr
    split at hr
    · exact hr
    · cases hr
  rw [Nat.zero_add]
  exact h.cell hr'

theorem AllAt.kept {w W : World} {g : Nat} {rs : List RecV} (h : AllAt w g rs) (hb : Below w.heap.size w W) : AllAt W g rs := (hb.block g (heap_cells h).2.2).trans h

theorem set4_list : ∀ (rs : List RecV) (k : Nat) (r : RecV), k < rs.length →
    ((((recsCells rs).set (k * 4) (.int .i64 r.c)).set (k * 4 + 1) (.int .i64 r.i)).set (k * 4 + 2) (.bool r.l)).set (k * 4 + 3) (.string r.t) = recsCells (rs.set k r)
  | [], k, r, h => absurd h (by simp)
  | x :: rs, 0, r, _ => rfl
  | x :: rs, k + 1, r, h => by
    have ih := set4_list rs k r (by simpa using h)
    show (((((recCells x ++ recsCells rs).set ((k + 1) * 4) _).set ((k + 1) * 4 + 1) _).set ((k + 1) * 4 + 2) _).set ((k + 1) * 4 + 3) _) = recCells x ++ recsCells (rs.set k r)
    have hl : (recCells x).length = 4 := rfl
    rw [List.set_append_right _ _ (by omega), List.set_append_right _ _ (by omega), List.set_append_right _ _ (by omega), List.set_append_right _ _ (by omega), hl]
    rw [show (k + 1) * 4 - 4 = k * 4 from by omega, show (k + 1) * 4 + 1 - 4 = k * 4 + 1 from by omega, show (k + 1) * 4 + 2 - 4 = k * 4 + 2 from by omega, show (k + 1) * 4 + 3 - 4 = k * 4 + 3 from by omega, ih]

theorem heap_set {w : World} {g x : Nat} {cs : Array Value} {t : TypeId} (h : w.heap[g]? = some (.cells cs t)) (v : Value) : (w.setCell ⟨g, x, none⟩ v).heap[g]? = some (.cells (cs.setIfInBounds x v) t) := by
  rw [setCell_eq_setRow w g x cs t (0, 0) v h]
  exact setRow_heap w g cs _ t _ h

theorem AllAt.put {w : World} {g : Nat} {rs : List RecV} (h : AllAt w g rs) {k : Nat} (hk : k < rs.length) (r : RecV) :
    AllAt ((((w.setCell ⟨g, k * 4, none⟩ (.int .i64 r.c)).setCell ⟨g, k * 4 + 1, none⟩ (.int .i64 r.i)).setCell ⟨g, k * 4 + 2, none⟩ (.bool r.l)).setCell ⟨g, k * 4 + 3, none⟩ (.string r.t)) g (rs.set k r) := by
  unfold AllAt
  rw [heap_set (heap_set (heap_set (heap_set h _) _) _) _, ← set4_list rs k r hk]
  simp

theorem put_below {w0 w : World} {B g : Nat} (h : Below B w0 w) (hg : B ≤ g) (k : Nat) (z0 z1 z2 z3 : Value) :
    Below B w0 ((((w.setCell ⟨g, k * 4, none⟩ z0).setCell ⟨g, k * 4 + 1, none⟩ z1).setCell ⟨g, k * 4 + 2, none⟩ z2).setCell ⟨g, k * 4 + 3, none⟩ z3) := by
  iterate 4 refine Below.setCell ?_ hg _
  exact h

/-! ### make -/
def zeroRec : RecV := ⟨0, 0, false, ⟨#[]⟩⟩
theorem made_rec (n : Nat) : (madeCells (Value.cells (.agg #[.int .i64 0, .int .i64 0, .bool false, .string ⟨#[]⟩])) (n * 4)).toList = recsCells (List.replicate n zeroRec) := by
  apply List.ext_getElem?
  intro j
  by_cases hj : j < n * 4
  · have h1 : j = (j / 4) * 4 + j % 4 := by omega
    have h2 : j / 4 < (List.replicate n zeroRec).length := by rw [List.length_replicate]; omega
    rw [h1, recsCells_at _ _ _ h2 (by omega)]
    rw [List.getElem_replicate, ← h1]
    unfold madeCells
    rw [Array.getElem?_toList, Array.getElem?_map, Array.getElem?_range, if_pos hj]
    have h3 : j % 4 = 0 ∨ j % 4 = 1 ∨ j % 4 = 2 ∨ j % 4 = 3 := by omega
    show some ((Value.cells (.agg #[.int .i64 0, .int .i64 0, .bool false, .string ⟨#[]⟩]))[j % 4]!) = _
    rcases h3 with h | h | h | h <;> rw [h] <;> rfl
  · rw [List.getElem?_eq_none (by rw [Array.length_toList, size_madeCells]; omega), List.getElem?_eq_none (by rw [recsCells_len, List.length_replicate]; omega)]

/-! ### copy of records -/
theorem copy_row4 {P : Program} (w : World) (dT sT ty elem : TypeId) (g dLen dCap : Nat) (a : Addr) (sLen sCap : Nat) (cur : Array Value) (t : TypeId) (cs : List Value)
    (hu : P.underlying dT = some (.slice elem)) (hs : (P.info? elem).map (·.size) = some 4)
    (hg : w.heap[g]? = some (.cells cur t (0, 0))) (hn : cs.length = Nat.min sLen dLen * 4)
    (hsrc : ∀ j v, cs[j]? = some v → w.cell? (a.add j) = some v) (hfit : cs.length ≤ cur.size) (h1 : ∀ v ∈ cs, v.oneCell' = true) :
    (Builtin.copy_ #[dT, sT] ty #[.slice (some ⟨g, 0, none⟩) dLen dCap, .slice (some a) sLen sCap]).run P w =
      .ok (goInt (Nat.min sLen dLen)) (w.setRow g (cs ++ cur.toList.drop cs.length).toArray) := by
  have hl := run_loadCells_list (P := P) w a cs hsrc
  have hst := run_storeCells_at P g 0 t cs 0 cur w hg (by simpa using hfit) h1
  cases hq : P.info? elem with
  | none => simp [hq] at hs
  | some i =>
    have hi : i.size = 4 := by simpa [hq] using hs
    simp [Builtin.copy_, run_underlying hu, Builtin.lenOf, Builtin.firstCells, sizeOf, typeInfo, hq, hi, ← hn, hl, hst]
theorem copy_none4 {P : Program} (w : World) (dT sT ty elem : TypeId) (d a : Option Addr) (dLen dCap sLen sCap : Nat) (hu : P.underlying dT = some (.slice elem)) (hs : (P.info? elem).map (·.size) = some 4) (hn : Nat.min sLen dLen = 0) :
    (Builtin.copy_ #[dT, sT] ty #[.slice d dLen dCap, .slice a sLen sCap]).run P w = .ok (goInt 0) w := by
  cases hq : P.info? elem with
  | none => simp [hq] at hs
  | some i =>
    have hl : ∀ (x : Addr), (loadCells x 0).run P w = .ok #[] w := fun x => by simpa using run_loadCells_list (P := P) w x [] (by simp)
    cases d <;> cases a <;> simp [Builtin.copy_, run_underlying hu, Builtin.lenOf, Builtin.firstCells, sizeOf, typeInfo, hq, hn, storeCells, hl]

theorem recs_src {w : World} {a : Option Addr} {m : Nat} {rs : List RecV} (h : RecRow w a m rs) (hm : 0 < m) : ∃ ad, a = some ad ∧ ∀ j v, (recsCells rs)[j]? = some v → w.cell? (ad.add j) = some v := by
  obtain ⟨g, off, rfl, hg, hc⟩ := h.cells.resolve_left (by omega)
  refine ⟨⟨g, off, none⟩, rfl, fun j v hv => ?_⟩
  have hadd : (⟨g, off, none⟩ : Addr).add j = ⟨g, off + j, none⟩ := by unfold Addr.add; split <;> simp_all
  rw [hadd]
  have hj : j < rs.length * 4 := by
    have := (List.getElem?_eq_some_iff.1 hv).1
    rw [recsCells_len] at this
    exact this
  have h1 : j = (j / 4) * 4 + j % 4 := by omega
  have h2 : j / 4 < rs.length := by omega
  rw [h1, recsCells_at _ _ _ h2 (by omega)] at hv
  obtain ⟨c0, c1, c2, c3⟩ := hc (j / 4) rs[j / 4] (List.getElem?_eq_getElem h2)
  have h3 : j % 4 = 0 ∨ j % 4 = 1 ∨ j % 4 = 2 ∨ j % 4 = 3 := by omega
  rw [h1, ← Nat.add_assoc]
  rcases h3 with h | h | h | h <;> rw [h] at hv ⊢
  · rw [Nat.add_zero, c0]; exact hv
  · rw [c1]; exact hv
  · rw [c2]; exact hv
  · rw [c3]; exact hv

theorem recs_one (rs : List RecV) : ∀ v ∈ recsCells rs, v.oneCell' = true := by
  intro v hv
  obtain ⟨r, _, hr⟩ := List.mem_flatMap.1 hv
  simp only [recCells, List.mem_cons, List.not_mem_nil, or_false] at hr
  rcases hr with rfl | rfl | rfl | rfl <;> rfl

theorem recsCells_append (l r : List RecV) : recsCells (l ++ r) = recsCells l ++ recsCells r := by unfold recsCells; rw [List.flatMap_append]

/-- 'copy(all, records)': a law at the call. -/
theorem wpList_copy_recs {w : World} {ops : Array Oper} {rest : List Oper} {o : Oper} {a : Act} {Q : Exit → Act → World → Prop} (hgd : o.guard = none) (d s : Operand)
    (ho : o.op = .call { callee := .builtin .copy, args := #[d, s], argTypes := #[34, 34] })
    (g m c : Nat) (sp : Option Addr) (rs : List RecV) (hd : a.eval d = .slice (some ⟨g, 0, none⟩) (m + 2) (m + 2)) (hs : a.eval s = .slice sp m c) (hrow : RecRow w sp m rs) (hg : AllAt w g (List.replicate (m + 2) zeroRec)) (B : Nat) (w0 : World) (hb : Below B w0 w) (hBg : B ≤ g)
    (h : ∀ w', Hid (AllAt w' g (rs ++ List.replicate 2 zeroRec)) → Hid (Below B w0 w') → Hid (w'.heap.size = w.heap.size) → wpList Try.prog ops Q rest (a.put o.dst (goInt m)) w') : wpList Try.prog ops Q (o :: rest) a w := by
  have hu : Try.prog.underlying 34 = some (.slice 49) := Try.underlying34
  have hsz : (Try.prog.info? 49).map (·.size) = some 4 := by kernel_rfl
  have hmin : Nat.min m (m + 2) = m := Nat.min_eq_left (by omega)
  refine wpList_plain hgd fun K hK => ?_
  by_cases h0 : m = 0
  · subst h0
    have hrun := copy_none4 (P := Try.prog) w 34 34 o.type 49 (some ⟨g, 0, none⟩) sp (0 + 2) (0 + 2) 0 c hu hsz (by simp)
    unfold Oper.wp
    simp [execOp, ho, resolve, invoke, builtin, hd, hs, Result.andThen]
    simp only [Nat.zero_add] at hrun
    rw [hrun]
    have hrs : rs = [] := List.eq_nil_of_length_eq_zero hrow.len
    subst hrs
    exact hK _ _ (h w hg hb rfl)
  · obtain ⟨ad, rfl, hsrc⟩ := recs_src hrow (by omega)
    have hlen : (recsCells rs).length = m * 4 := by rw [recsCells_len, hrow.len]
    have hrun := copy_row4 (P := Try.prog) w 34 34 o.type 49 g (m + 2) (m + 2) ad m c _ _ (recsCells rs) hu hsz hg (by rw [hmin, hlen]) hsrc (by rw [List.size_toArray, hlen, recsCells_len, List.length_replicate]; omega) (recs_one rs)
    rw [hmin] at hrun
    unfold Oper.wp
    simp [execOp, ho, resolve, invoke, builtin, hd, hs, hrun, Result.andThen]
    have e : recsCells rs ++ (recsCells (List.replicate (m + 2) zeroRec)).toArray.toList.drop (recsCells rs).length = recsCells (rs ++ List.replicate 2 zeroRec) := by
      rw [recsCells_append, hlen, ← List.replicate_append_replicate, recsCells_append]
      have h4 : (recsCells (List.replicate m zeroRec)).length = m * 4 := by rw [recsCells_len, List.length_replicate]
      show recsCells rs ++ (recsCells (List.replicate m zeroRec) ++ recsCells (List.replicate 2 zeroRec)).drop (m * 4) = _
      rw [← h4, List.drop_left]
    refine hK _ _ (h _ ?_ (below_setRow hb hBg _) ?_)
    · show (w.setRow g _).heap[g]? = _
      rw [setRow_heap w g _ _ _ _ hg]
      rw [← e]
    · show (w.setRow g _).heap.size = _
      simp [World.setRow]

/-! ### Equal records -/
theorem fields_rec : (Try.prog.fieldsOf 49).toList = [{ name := "Client", type := 3, offset := 0, embedded := false, tag := "", pkgPath := "", byteOffset := 0 }, { name := "ID", type := 3, offset := 1, embedded := false, tag := "", pkgPath := "", byteOffset := 8 }, { name := "Expired", type := 4, offset := 2, embedded := false, tag := "", pkgPath := "", byteOffset := 16 }, { name := "Text", type := 9, offset := 3, embedded := false, tag := "", pkgPath := "", byteOffset := 24 }] := by
  rw [Program.fieldsOf, Try.underlying49]
theorem struct_rec : Try.prog.underlying 49 = some (.struct (Try.prog.fieldsOf 49)) := by
  rw [Program.fieldsOf, Try.underlying49]
theorem guard_rec : Try.prog.eqGuardType Try.prog.depth 49 = false := by kernel_rfl
theorem equal_rec (c i : Int) (l : Bool) (t : ByteArray) (W : World) :
    (Op.equalIn 10000 49 (.agg #[.int .i64 c, .int .i64 i, .bool l, .string t]) (.agg #[.int .i64 c, .int .i64 i, .bool l, .string t])).run Try.prog W = .ok true W := by
  rw [run_equalIn_struct W 9999 _ _ _ struct_rec (by kernel_rfl), fields_rec]
  simp [Op.eqFields, go_sem]

/-! ### marked -/
def markText : ByteArray := ⟨#[109, 97, 114, 107]⟩
def mark (n : Int) : RecV := ⟨-n, n, true, ⟨#[109, 97, 114, 107]⟩⟩
set_option maxHeartbeats 1000000 in
theorem marked_any (n : Int) (w : World) (h0 : 0 ≤ n) (h1 : n < 1000) :
    Calls Try.prog 42 #[.int .i64 n] w fun e w' => e = .returned (.agg #[.int .i64 (-n), .int .i64 n, .bool true, .string ⟨#[109, 97, 114, 107]⟩]) ∧ Below w.heap.size w w' := by
  go_enter Try.func42, Try.ntmps42
  go_wp2
  refine bodyPost_ret (v := .agg #[.int .i64 (-n), .int .i64 n, .bool true, .string ⟨#[109, 97, 114, 107]⟩]) (by simp [results, Try.results42, go_sem]) rfl ?_
  exact ⟨rfl, (Below.refl _ _).alloc (Nat.le_refl _) _⟩

end Go.Proofs.Ytccckonckddadaa
