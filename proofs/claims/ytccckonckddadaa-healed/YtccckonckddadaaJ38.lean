import Derived.Test.YtccckonckddadaaJ33
import Derived.Test.YtccckonckddadaaJ37
namespace Go.Proofs.Ytccckonckddadaa
open Go.ChangeShapes Go.WideShapes Go.ChangeAt Go.RowKit
set_option linter.unusedVariables false

theorem cells_conf5 : Try.prog.cellsOf 55 = 5 := by kernel_rfl
theorem cells_act : Try.prog.cellsOf 85 = 4 := by kernel_rfl
theorem list5a {α : Type} (l : List α) (h : (⟨l⟩ : Array α).size = 5) : ∃ a0 a1 a2 a3 a4, l = [a0, a1, a2, a3, a4] := by
  match l, h with
  | [a0, a1, a2, a3, a4], _ => exact ⟨a0, a1, a2, a3, a4, rfl⟩

set_option maxRecDepth 8000 in
/-- A configuration that came in. -/
theorem open_conf {H : Type} {enc : TypeId × Value → H} {W : World} {base : Nat} {v : Value} {d : DataW H} {p : List MemPlace} (hv : Value.okWide Try.prog W .any base 55 v)
    (h : DataW.Trod enc Try.prog W 0 (fun _ => true) true 55 v d p) : ∃ c : ConfV, v = .agg #[.int .i64 c.clients, .int .i64 c.queue, .int .i64 c.quantum, .int .i64 c.room, .int .i64 c.reps] ∧ In64 c.clients ∧ In64 c.queue ∧ In64 c.quantum ∧ In64 c.room ∧ In64 c.reps := by
  obtain ⟨cs, rfl, hsz, _⟩ : ∃ cs, v = .agg cs ∧ cs.size = Try.prog.cellsOf 55 ∧ Row.okWide Try.prog W .any base 55 cs := by
    simpa [Value.okWide, Try.underlying55] using hv
  rw [cells_conf5] at hsz
  obtain ⟨l⟩ := cs
  obtain ⟨c0, c1, c2, c3, c4, rfl⟩ := list5a l hsz
  obtain ⟨fuel, hf0⟩ := h
  obtain ⟨xs, n, _, _, hl, hxl, hf⟩ := DataW.trod_struct Try.underlying55 hf0
  have hxl' : xs.length = 5 := hxl
  have h0 : DataW.trod enc Try.prog W 0 (fun _ => true) true n 3 ((([c0, c1, c2, c3, c4] : List Value).drop 0).take (Try.prog.cellsOf 3)) = xs[0]? := hf 0 _ rfl
  rw [cells_int, List.getElem?_eq_getElem (by omega)] at h0
  obtain ⟨n0, e0, _, w0⟩ := DataW.trod_int Try.underlying3 h0
  have e0' : c0 = .int .i64 n0 := by simpa using e0
  have h1 : DataW.trod enc Try.prog W 0 (fun _ => true) true n 3 ((([c0, c1, c2, c3, c4] : List Value).drop 1).take (Try.prog.cellsOf 3)) = xs[1]? := hf 1 _ rfl
  rw [cells_int, List.getElem?_eq_getElem (by omega)] at h1
  obtain ⟨n1, e1, _, w1⟩ := DataW.trod_int Try.underlying3 h1
  have e1' : c1 = .int .i64 n1 := by simpa using e1
  have h2 : DataW.trod enc Try.prog W 0 (fun _ => true) true n 3 ((([c0, c1, c2, c3, c4] : List Value).drop 2).take (Try.prog.cellsOf 3)) = xs[2]? := hf 2 _ rfl
  rw [cells_int, List.getElem?_eq_getElem (by omega)] at h2
  obtain ⟨n2, e2, _, w2⟩ := DataW.trod_int Try.underlying3 h2
  have e2' : c2 = .int .i64 n2 := by simpa using e2
  have h3 : DataW.trod enc Try.prog W 0 (fun _ => true) true n 3 ((([c0, c1, c2, c3, c4] : List Value).drop 3).take (Try.prog.cellsOf 3)) = xs[3]? := hf 3 _ rfl
  rw [cells_int, List.getElem?_eq_getElem (by omega)] at h3
  obtain ⟨n3, e3, _, w3⟩ := DataW.trod_int Try.underlying3 h3
  have e3' : c3 = .int .i64 n3 := by simpa using e3
  have h4 : DataW.trod enc Try.prog W 0 (fun _ => true) true n 3 ((([c0, c1, c2, c3, c4] : List Value).drop 4).take (Try.prog.cellsOf 3)) = xs[4]? := hf 4 _ rfl
  rw [cells_int, List.getElem?_eq_getElem (by omega)] at h4
  obtain ⟨n4, e4, _, w4⟩ := DataW.trod_int Try.underlying3 h4
  have e4' : c4 = .int .i64 n4 := by simpa using e4
  subst e0' e1' e2' e3' e4'
  exact ⟨⟨n0, n1, n2, n3, n4⟩, rfl, wide_i64 w0, wide_i64 w1, wide_i64 w2, wide_i64 w3, wide_i64 w4⟩

theorem act_of_trod {H : Type} {enc : TypeId × Value → H} {W : World} {base fuel : Nat} {sp : Nat → Bool} {held : Bool} {cs : List Value} {x : DataW H × List MemPlace} (h : DataW.trod enc Try.prog W base sp held fuel 85 cs = some x) :
    ∃ x0 x1 x2 x3 : Int, cs = rawCells x0 x1 x2 x3 ∧ In64 x0 ∧ In64 x1 ∧ In64 x2 ∧ In64 x3 := by
  obtain ⟨xs, n, _, _, hl, hxl, hf⟩ := DataW.trod_struct Try.underlying85 h
  rw [cells_act] at hl
  obtain ⟨c0, c1, c2, c3, rfl⟩ := list4 cs hl
  have hxl' : xs.length = 4 := hxl
  have h0 : DataW.trod enc Try.prog W base sp held n 3 ((([c0, c1, c2, c3] : List Value).drop 0).take (Try.prog.cellsOf 3)) = xs[0]? := hf 0 _ rfl
  rw [cells_int, List.getElem?_eq_getElem (by omega)] at h0
  obtain ⟨n0, e0, _, w0⟩ := DataW.trod_int Try.underlying3 h0
  have e0' : c0 = .int .i64 n0 := by simpa using e0
  have h1 : DataW.trod enc Try.prog W base sp held n 3 ((([c0, c1, c2, c3] : List Value).drop 1).take (Try.prog.cellsOf 3)) = xs[1]? := hf 1 _ rfl
  rw [cells_int, List.getElem?_eq_getElem (by omega)] at h1
  obtain ⟨n1, e1, _, w1⟩ := DataW.trod_int Try.underlying3 h1
  have e1' : c1 = .int .i64 n1 := by simpa using e1
  have h2 : DataW.trod enc Try.prog W base sp held n 3 ((([c0, c1, c2, c3] : List Value).drop 2).take (Try.prog.cellsOf 3)) = xs[2]? := hf 2 _ rfl
  rw [cells_int, List.getElem?_eq_getElem (by omega)] at h2
  obtain ⟨n2, e2, _, w2⟩ := DataW.trod_int Try.underlying3 h2
  have e2' : c2 = .int .i64 n2 := by simpa using e2
  have h3 : DataW.trod enc Try.prog W base sp held n 3 ((([c0, c1, c2, c3] : List Value).drop 3).take (Try.prog.cellsOf 3)) = xs[3]? := hf 3 _ rfl
  rw [cells_int, List.getElem?_eq_getElem (by omega)] at h3
  obtain ⟨n3, e3, _, w3⟩ := DataW.trod_int Try.underlying3 h3
  have e3' : c3 = .int .i64 n3 := by simpa using e3
  subst e0' e1' e2' e3'
  exact ⟨n0, n1, n2, n3, rfl, wide_i64 w0, wide_i64 w1, wide_i64 w2, wide_i64 w3⟩

set_option maxRecDepth 8000 in
/-- Acts that came in. -/
theorem open_acts {H : Type} {enc : TypeId × Value → H} {W : World} {base : Nat} {v : Value} {d : DataW H} {p : List MemPlace} (hv : Value.okWide Try.prog W .any base 56 v)
    (h : DataW.Trod enc Try.prog W 0 (fun _ => true) true 56 v d p) :
    ∃ (a : Option Addr) (m c : Nat), v = .slice a m c ∧ RawRow W a m ∧ (m = 0 ∨ ∃ es ss, d = .slice es ss ∧ es.length = m) := by
  obtain ⟨a, m, c, rfl⟩ := okWide_slice Try.underlying56 hv
  obtain ⟨fuel, hf⟩ := h
  rcases DataW.trod_slice Try.underlying56 hf with ⟨h0, _⟩ | ⟨ad, len, cap, elems, rest, n, _, hcs, hx, hb, hl, hm, hlen, hel, _, _⟩
  · have h0' : Value.slice a m c = .slice none 0 0 := by simpa [Value.cells] using h0
    cases h0'
    exact ⟨none, 0, 0, rfl, ⟨Nat.zero_le _, .inl rfl⟩, .inl rfl⟩
  · have hcs' : Value.slice a m c = .slice (some ad) len cap := by simpa [Value.cells] using hcs
    cases hcs'
    rw [cells_act] at hel
    have each : ∀ i, i < m → ∃ x0 x1 x2 x3 : Int, (∀ j, j < 4 → W.cell? ((ad.add (i * 4)).add j) = (rawCells x0 x1 x2 x3)[j]?) ∧ In64 x0 ∧ In64 x1 ∧ In64 x2 ∧ In64 x3 := by
      intro i hi
      have h1 := hel i hi
      rw [List.getElem?_eq_getElem (by omega), Option.bind_eq_some_iff] at h1
      obtain ⟨cs, hc, hy⟩ := h1
      obtain ⟨x0, x1, x2, x3, rfl, hbd⟩ := act_of_trod hy
      obtain ⟨_, _, hcell⟩ := World.cells?_some hc
      exact ⟨x0, x1, x2, x3, fun j hj => hcell j hj, hbd⟩
    refine ⟨some ad, m, c, rfl, ⟨Nat.le_trans hl hm, ?_⟩, .inr ⟨elems.map (·.1), rest.map (·.1), by simpa using congrArg Prod.fst hx, by rw [List.length_map]; exact hlen⟩⟩
    by_cases h0 : m = 0
    · exact .inl h0
    · obtain ⟨x0, x1, x2, x3, hc, _⟩ := each 0 (by omega)
      have hc0 : W.cell? ad = some (.int .i64 x0) := hc 0 (by omega)
      have hsp := World.cell?_spot hc0
      have hg := World.block_lt_of_cell? W _ hc0
      obtain ⟨g, off, spot⟩ := ad
      simp only at hsp
      subst hsp
      refine .inr ⟨g, off, rfl, hg, fun k hk => ?_⟩
      obtain ⟨y0, y1, y2, y3, hcy, hbd⟩ := each k hk
      have hx : ∀ j, j < 4 → W.cell? ⟨g, off + k * 4 + j, none⟩ = (rawCells y0 y1 y2 y3)[j]? := fun j hj => by
        have := hcy j hj
        rw [add_off, add_off] at this
        exact this
      exact ⟨y0, y1, y2, y3, ⟨hx 0 (by omega), hx 1 (by omega), hx 2 (by omega), hx 3 (by omega)⟩, hbd⟩

end Go.Proofs.Ytccckonckddadaa
