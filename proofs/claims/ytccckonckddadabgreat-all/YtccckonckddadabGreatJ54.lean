import Derived.Test.YtccckonckddadabGreatJ45
import Derived.Test.YtccckonckddadabGreatJ50
import Derived.Test.YtccckonckddadabGreatJ53
namespace Go.Proofs.YtccckonckddadabGreat
open Go.ChangeShapes Go.WideShapes Go.ChangeAt Go.RowKit
set_option linter.unusedVariables false

theorem cells_conf : Tryz.prog.cellsOf 34 = 5 := by kernel_rfl
theorem cells_rows : Tryz.prog.cellsOf 38 = 1 := by kernel_rfl
theorem cells_op : Tryz.prog.cellsOf 40 = 20 := by kernel_rfl

theorem list5 {α : Type} (l : List α) (h : l.length = 5) : ∃ a0 a1 a2 a3 a4, l = [a0, a1, a2, a3, a4] := by
  match l, h with
  | [a0, a1, a2, a3, a4], _ => exact ⟨a0, a1, a2, a3, a4, rfl⟩
theorem list20 {α : Type} (l : List α) (h : l.length = 20) : ∃ c0 c1 c2 c3 c4 c5 c6 c7 c8 c9 c10 c11 c12 c13 c14 c15 c16 c17 c18 c19, l = [c0, c1, c2, c3, c4, c5, c6, c7, c8, c9, c10, c11, c12, c13, c14, c15, c16, c17, c18, c19] := by
  match l, h with
  | [c0, c1, c2, c3, c4, c5, c6, c7, c8, c9, c10, c11, c12, c13, c14, c15, c16, c17, c18, c19], _ => exact ⟨c0, c1, c2, c3, c4, c5, c6, c7, c8, c9, c10, c11, c12, c13, c14, c15, c16, c17, c18, c19, rfl⟩

theorem conf_of_trod {H : Type} {enc : TypeId × Value → H} {W : World} {base fuel : Nat} {sp : Nat → Bool} {held : Bool} {cs : List Value} {x : DataW H × List MemPlace} (h : DataW.trod enc Tryz.prog W base sp held fuel 34 cs = some x) :
    ∃ x1 x2 x3 x4 x5 : Int, cs = [.int .i64 x1, .int .i64 x2, .int .i64 x3, .int .i64 x4, .int .i64 x5] := by
  obtain ⟨xs, n, _, _, hl, hxl, hf⟩ := DataW.trod_struct Tryz.underlying34 h
  rw [cells_conf] at hl
  obtain ⟨c0, c1, c2, c3, c4, rfl⟩ := list5 cs hl
  have hxl' : xs.length = 5 := hxl
  have h0 : DataW.trod enc Tryz.prog W base sp held n 3 ((([c0, c1, c2, c3, c4] : List Value).drop 0).take (Tryz.prog.cellsOf 3)) = xs[0]? := hf 0 _ rfl
  rw [cells_int, List.getElem?_eq_getElem (by omega)] at h0
  obtain ⟨n0, e0, _, _⟩ := DataW.trod_int Tryz.underlying3 h0
  have e0' : c0 = .int .i64 n0 := by simpa using e0
  have h1 : DataW.trod enc Tryz.prog W base sp held n 3 ((([c0, c1, c2, c3, c4] : List Value).drop 1).take (Tryz.prog.cellsOf 3)) = xs[1]? := hf 1 _ rfl
  rw [cells_int, List.getElem?_eq_getElem (by omega)] at h1
  obtain ⟨n1, e1, _, _⟩ := DataW.trod_int Tryz.underlying3 h1
  have e1' : c1 = .int .i64 n1 := by simpa using e1
  have h2 : DataW.trod enc Tryz.prog W base sp held n 3 ((([c0, c1, c2, c3, c4] : List Value).drop 2).take (Tryz.prog.cellsOf 3)) = xs[2]? := hf 2 _ rfl
  rw [cells_int, List.getElem?_eq_getElem (by omega)] at h2
  obtain ⟨n2, e2, _, _⟩ := DataW.trod_int Tryz.underlying3 h2
  have e2' : c2 = .int .i64 n2 := by simpa using e2
  have h3 : DataW.trod enc Tryz.prog W base sp held n 3 ((([c0, c1, c2, c3, c4] : List Value).drop 3).take (Tryz.prog.cellsOf 3)) = xs[3]? := hf 3 _ rfl
  rw [cells_int, List.getElem?_eq_getElem (by omega)] at h3
  obtain ⟨n3, e3, _, _⟩ := DataW.trod_int Tryz.underlying3 h3
  have e3' : c3 = .int .i64 n3 := by simpa using e3
  have h4 : DataW.trod enc Tryz.prog W base sp held n 3 ((([c0, c1, c2, c3, c4] : List Value).drop 4).take (Tryz.prog.cellsOf 3)) = xs[4]? := hf 4 _ rfl
  rw [cells_int, List.getElem?_eq_getElem (by omega)] at h4
  obtain ⟨n4, e4, _, _⟩ := DataW.trod_int Tryz.underlying3 h4
  have e4' : c4 = .int .i64 n4 := by simpa using e4
  subst e0' e1' e2' e3' e4'
  exact ⟨n0, n1, n2, n3, n4, rfl⟩

theorem eight_of_trod {H : Type} {enc : TypeId × Value → H} {W : World} {base fuel : Nat} {sp : Nat → Bool} {held : Bool} {cs : List Value} {x : DataW H × List MemPlace} (h : DataW.trod enc Tryz.prog W base sp held fuel 37 cs = some x) :
    ∃ z0 z1 z2 z3 z4 z5 z6 z7 : Int, cs = [.int .i16 z0, .int .i16 z1, .int .i16 z2, .int .i16 z3, .int .i16 z4, .int .i16 z5, .int .i16 z6, .int .i16 z7] := by
  obtain ⟨xs, n, _, _, hl, hxl, hel⟩ := DataW.trod_array Tryz.underlying37 h
  rw [cells_cells] at hl
  obtain ⟨c0, c1, c2, c3, c4, c5, c6, c7, rfl⟩ := list8' cs hl
  have one : ∀ (i : Nat) (hi : i < 8) (c : Value), (([c0, c1, c2, c3, c4, c5, c6, c7] : List Value).drop (i * 1)).take 1 = [c] → ∃ x : Int, c = .int .i16 x := by
    intro i hi c hc
    have h1 := hel i hi
    rw [cells_int16, List.getElem?_eq_getElem (by omega)] at h1
    obtain ⟨x, e, _, _⟩ := DataW.trod_int Tryz.underlying35 h1
    have e2 : (([c0, c1, c2, c3, c4, c5, c6, c7] : List Value).drop (i * 1)).take 1 = [.int .i16 x] := e
    rw [hc] at e2
    simp only [List.cons.injEq, and_true] at e2
    exact ⟨x, e2⟩
  obtain ⟨z0, rfl⟩ := one 0 (by omega) _ rfl
  obtain ⟨z1, rfl⟩ := one 1 (by omega) _ rfl
  obtain ⟨z2, rfl⟩ := one 2 (by omega) _ rfl
  obtain ⟨z3, rfl⟩ := one 3 (by omega) _ rfl
  obtain ⟨z4, rfl⟩ := one 4 (by omega) _ rfl
  obtain ⟨z5, rfl⟩ := one 5 (by omega) _ rfl
  obtain ⟨z6, rfl⟩ := one 6 (by omega) _ rfl
  obtain ⟨z7, rfl⟩ := one 7 (by omega) _ rfl
  exact ⟨z0, z1, z2, z3, z4, z5, z6, z7, rfl⟩

theorem slice_of_trod {H : Type} {enc : TypeId × Value → H} {W : World} {base fuel : Nat} {sp : Nat → Bool} {held : Bool} {cs : List Value} {x : DataW H × List MemPlace} (h : DataW.trod enc Tryz.prog W base sp held fuel 38 cs = some x) :
    ∃ (a : Option Addr) (m c : Nat), cs = [.slice a m c] := by
  rcases DataW.trod_slice Tryz.underlying38 h with ⟨h0, _⟩ | ⟨ad, len, cap, _, _, _, _, hcs, _⟩
  · exact ⟨none, 0, 0, h0⟩
  · exact ⟨some ad, len, cap, hcs⟩

set_option maxRecDepth 8000 in
theorem op_of_trod {H : Type} {enc : TypeId × Value → H} {W : World} {base fuel : Nat} {sp : Nat → Bool} {held : Bool} {cs : List Value} {x : DataW H × List MemPlace} (h : DataW.trod enc Tryz.prog W base sp held fuel 40 cs = some x) :
    ∃ o : OpV, cs = o.arr.toList ∧ o.s.size ≤ maxLen ∧ -9223372036854775808 ≤ o.k ∧ o.k < 9223372036854775808 := by
  obtain ⟨xs, n, _, _, hl, hxl, hf⟩ := DataW.trod_struct Tryz.underlying40 h
  rw [cells_op] at hl
  obtain ⟨c0, c1, c2, c3, c4, c5, c6, c7, c8, c9, c10, c11, c12, c13, c14, c15, c16, c17, c18, c19, rfl⟩ := list20 cs hl
  have hxl' : xs.length = 9 := hxl
  have h0 : DataW.trod enc Tryz.prog W base sp held n 3 ((([c0, c1, c2, c3, c4, c5, c6, c7, c8, c9, c10, c11, c12, c13, c14, c15, c16, c17, c18, c19] : List Value).drop 0).take (Tryz.prog.cellsOf 3)) = xs[0]? := hf 0 _ rfl
  rw [cells_int, List.getElem?_eq_getElem (by omega)] at h0
  have h1 : DataW.trod enc Tryz.prog W base sp held n 3 ((([c0, c1, c2, c3, c4, c5, c6, c7, c8, c9, c10, c11, c12, c13, c14, c15, c16, c17, c18, c19] : List Value).drop 1).take (Tryz.prog.cellsOf 3)) = xs[1]? := hf 1 _ rfl
  rw [cells_int, List.getElem?_eq_getElem (by omega)] at h1
  have h2 : DataW.trod enc Tryz.prog W base sp held n 3 ((([c0, c1, c2, c3, c4, c5, c6, c7, c8, c9, c10, c11, c12, c13, c14, c15, c16, c17, c18, c19] : List Value).drop 2).take (Tryz.prog.cellsOf 3)) = xs[2]? := hf 2 _ rfl
  rw [cells_int, List.getElem?_eq_getElem (by omega)] at h2
  have h3 : DataW.trod enc Tryz.prog W base sp held n 3 ((([c0, c1, c2, c3, c4, c5, c6, c7, c8, c9, c10, c11, c12, c13, c14, c15, c16, c17, c18, c19] : List Value).drop 3).take (Tryz.prog.cellsOf 3)) = xs[3]? := hf 3 _ rfl
  rw [cells_int, List.getElem?_eq_getElem (by omega)] at h3
  have h4 : DataW.trod enc Tryz.prog W base sp held n 3 ((([c0, c1, c2, c3, c4, c5, c6, c7, c8, c9, c10, c11, c12, c13, c14, c15, c16, c17, c18, c19] : List Value).drop 4).take (Tryz.prog.cellsOf 3)) = xs[4]? := hf 4 _ rfl
  rw [cells_int, List.getElem?_eq_getElem (by omega)] at h4
  have h5 : DataW.trod enc Tryz.prog W base sp held n 9 ((([c0, c1, c2, c3, c4, c5, c6, c7, c8, c9, c10, c11, c12, c13, c14, c15, c16, c17, c18, c19] : List Value).drop 5).take (Tryz.prog.cellsOf 9)) = xs[5]? := hf 5 _ rfl
  rw [cells_str, List.getElem?_eq_getElem (by omega)] at h5
  have h6 : DataW.trod enc Tryz.prog W base sp held n 34 ((([c0, c1, c2, c3, c4, c5, c6, c7, c8, c9, c10, c11, c12, c13, c14, c15, c16, c17, c18, c19] : List Value).drop 6).take (Tryz.prog.cellsOf 34)) = xs[6]? := hf 6 _ rfl
  rw [cells_conf, List.getElem?_eq_getElem (by omega)] at h6
  have h7 : DataW.trod enc Tryz.prog W base sp held n 37 ((([c0, c1, c2, c3, c4, c5, c6, c7, c8, c9, c10, c11, c12, c13, c14, c15, c16, c17, c18, c19] : List Value).drop 11).take (Tryz.prog.cellsOf 37)) = xs[7]? := hf 7 _ rfl
  rw [cells_cells, List.getElem?_eq_getElem (by omega)] at h7
  have h8 : DataW.trod enc Tryz.prog W base sp held n 38 ((([c0, c1, c2, c3, c4, c5, c6, c7, c8, c9, c10, c11, c12, c13, c14, c15, c16, c17, c18, c19] : List Value).drop 19).take (Tryz.prog.cellsOf 38)) = xs[8]? := hf 8 _ rfl
  rw [cells_rows, List.getElem?_eq_getElem (by omega)] at h8
  obtain ⟨n0, e0, _, w0⟩ := DataW.trod_int Tryz.underlying3 h0
  have e0' : c0 = .int .i64 n0 := by simpa using e0
  obtain ⟨n1, e1, _, w1⟩ := DataW.trod_int Tryz.underlying3 h1
  have e1' : c1 = .int .i64 n1 := by simpa using e1
  obtain ⟨n2, e2, _, w2⟩ := DataW.trod_int Tryz.underlying3 h2
  have e2' : c2 = .int .i64 n2 := by simpa using e2
  obtain ⟨n3, e3, _, w3⟩ := DataW.trod_int Tryz.underlying3 h3
  have e3' : c3 = .int .i64 n3 := by simpa using e3
  obtain ⟨n4, e4, _, w4⟩ := DataW.trod_int Tryz.underlying3 h4
  have e4' : c4 = .int .i64 n4 := by simpa using e4
  obtain ⟨s5, e5, _, hs⟩ := DataW.trod_string Tryz.underlying9 h5
  have e5' : c5 = .string s5 := by simpa using e5
  obtain ⟨x1, x2, x3, x4, x5, e6⟩ := conf_of_trod h6
  have e6' : [c6, c7, c8, c9, c10] = [.int .i64 x1, .int .i64 x2, .int .i64 x3, .int .i64 x4, .int .i64 x5] := e6
  obtain ⟨z0, z1, z2, z3, z4, z5, z6, z7, e7⟩ := eight_of_trod h7
  have e7' : [c11, c12, c13, c14, c15, c16, c17, c18] = [.int .i16 z0, .int .i16 z1, .int .i16 z2, .int .i16 z3, .int .i16 z4, .int .i16 z5, .int .i16 z6, .int .i16 z7] := e7
  obtain ⟨ra, rm, rc, e8⟩ := slice_of_trod h8
  have e8' : [c19] = [.slice ra rm rc] := e8
  simp only [List.cons.injEq, and_true] at e6' e7' e8'
  obtain ⟨rfl, rfl, rfl, rfl, rfl⟩ := e6'
  obtain ⟨rfl, rfl, rfl, rfl, rfl, rfl, rfl, rfl⟩ := e7'
  subst e0' e1' e2' e3' e4' e5' e8'
  exact ⟨⟨n0, n1, n2, n3, n4, s5, ⟨x1, x2, x3, x4, x5⟩, z0, z1, z2, z3, z4, z5, z6, z7, ra, rm, rc⟩, rfl, hs, wide_i64' w4⟩

set_option maxRecDepth 8000 in
/-- A script that came in. -/
theorem open_ops {H : Type} {enc : TypeId × Value → H} {W : World} {base : Nat} {v : Value} {d : DataW H} {p : List MemPlace} (hv : Value.okWide Tryz.prog W .any base 22 v)
    (h : DataW.Trod enc Tryz.prog W 0 (fun _ => true) true 22 v d p) :
    ∃ (a : Option Addr) (m c : Nat) (ops : List OpV), v = .slice a m c ∧ OpsRow W a m ops ∧ (m = 0 ∨ ∃ es ss, d = .slice es ss ∧ es.length = m) := by
  obtain ⟨a, m, c, rfl⟩ := okWide_slice Tryz.underlying22 hv
  obtain ⟨fuel, hf⟩ := h
  rcases DataW.trod_slice Tryz.underlying22 hf with ⟨h0, _⟩ | ⟨ad, len, cap, elems, rest, n, _, hcs, hx, hb, hl, hm, hlen, hel, _, _⟩
  · have h0' : Value.slice a m c = .slice none 0 0 := by simpa [Value.cells] using h0
    cases h0'
    exact ⟨none, 0, 0, [], rfl, ⟨rfl, by simp, .inl rfl⟩, .inl rfl⟩
  · have hcs' : Value.slice a m c = .slice (some ad) len cap := by simpa [Value.cells] using hcs
    cases hcs'
    rw [cells_op] at hel
    have each : ∀ i, i < m → ∃ o : OpV, (o.s.size ≤ maxLen ∧ -9223372036854775808 ≤ o.k ∧ o.k < 9223372036854775808) ∧ ∀ j, j < 20 → W.cell? ((ad.add (i * 20)).add j) = o.arr.toList[j]? := by
      intro i hi
      have h1 := hel i hi
      rw [List.getElem?_eq_getElem (by omega), Option.bind_eq_some_iff] at h1
      obtain ⟨cs, hc, hy⟩ := h1
      obtain ⟨o, rfl, hs⟩ := op_of_trod hy
      obtain ⟨_, _, hcell⟩ := World.cells?_some hc
      exact ⟨o, hs, fun j hj => hcell j hj⟩
    have hops : ∃ ops : List OpV, ops.length = m ∧ ∀ i o, ops[i]? = some o → (o.s.size ≤ maxLen ∧ -9223372036854775808 ≤ o.k ∧ o.k < 9223372036854775808) ∧ ∀ j, j < 20 → W.cell? ((ad.add (i * 20)).add j) = o.arr.toList[j]? :=
      list_of (P := fun (i : Nat) (o : OpV) => (o.s.size ≤ maxLen ∧ -9223372036854775808 ≤ o.k ∧ o.k < 9223372036854775808) ∧ ∀ j, j < 20 → W.cell? ((ad.add (i * 20)).add j) = o.arr.toList[j]?) m each
    obtain ⟨ops, hrl, hr⟩ := hops
    refine ⟨some ad, m, c, ops, rfl, ⟨hrl, ?_, ?_⟩, .inr ⟨elems.map (·.1), rest.map (·.1), ?_, by rw [List.length_map]; exact hlen⟩⟩
    · intro o ho
      obtain ⟨i, hi⟩ := List.getElem?_of_mem ho
      exact (hr i o hi).1
    · by_cases h0 : m = 0
      · exact .inl h0
      · obtain ⟨o0, _, hc0⟩ := each 0 (by omega)
        have hc0' : W.cell? ad = some (.int .i64 o0.kind) := hc0 0 (by omega)
        have hsp := World.cell?_spot hc0'
        have hg := World.block_lt_of_cell? W _ hc0'
        obtain ⟨g, off, spot⟩ := ad
        simp only at hsp
        subst hsp
        refine .inr ⟨g, off, rfl, hg, fun k o hk j v hv => ?_⟩
        have hj : j < 20 := by
          have := (List.getElem?_eq_some_iff.1 hv).1
          exact this
        have := (hr k o hk).2 j hj
        rw [add_off, add_off] at this
        rw [this]
        exact hv
    · simpa using congrArg Prod.fst hx

end Go.Proofs.YtccckonckddadabGreat
namespace Go.Proofs.YtccckonckddadabGreat
open Go.ChangeShapes Go.WideShapes Go.ChangeAt Go.RowKit
set_option linter.unusedVariables false

/-! ### A script that came in, with its lists of records -/
theorem weights_of_mem {H : Type} {P : Program} {e : TypeId} {l : List (DataW H)} {d : DataW H} {n : Nat} (hd : d ∈ l) (hn : n ∈ d.weights P e) : n ∈ DataW.weightsAll P e l := by
  induction l with
  | nil => cases hd
  | cons y l ih =>
    rw [DataW.weightsAll, List.mem_append]
    rcases List.mem_cons.1 hd with h | h
    · rw [← h]; exact .inl hn
    · exact .inr (ih h)
def opTypes : List TypeId := [3, 3, 3, 3, 3, 9, 34, 37, 38]
theorem op_agg {H : Type} (parts : List (DataW H)) : (DataW.agg parts).weights Tryz.prog 40 = DataW.weightsEach Tryz.prog opTypes parts := by
  rw [DataW.weights, Tryz.underlying40]
  rfl
theorem op_weight {H : Type} {xs : List (DataW H × List MemPlace)} {t : TypeId} {n : Nat} (j : Nat) (hj : j < xs.length) (ht : opTypes[j]? = some t) (hn : n ∈ (xs[j].1).weights Tryz.prog t) : n ∈ (DataW.agg (xs.map (·.1))).weights Tryz.prog 40 := by
  rw [op_agg]
  exact DataW.weights_mem_each ht (by rw [List.getElem?_map, List.getElem?_eq_getElem hj]; rfl) n hn

theorem eight16_of_trod {H : Type} {enc : TypeId × Value → H} {W : World} {base fuel : Nat} {sp : Nat → Bool} {held : Bool} {cs : List Value} {x : DataW H × List MemPlace} (h : DataW.trod enc Tryz.prog W base sp held fuel 37 cs = some x) :
    ∃ z0 z1 z2 z3 z4 z5 z6 z7 : Int, cs = [.int .i16 z0, .int .i16 z1, .int .i16 z2, .int .i16 z3, .int .i16 z4, .int .i16 z5, .int .i16 z6, .int .i16 z7] ∧ Dk.All16 [z0, z1, z2, z3, z4, z5, z6, z7] := by
  obtain ⟨xs, n, _, _, hl, hxl, hel⟩ := DataW.trod_array Tryz.underlying37 h
  rw [cells_cells] at hl
  obtain ⟨c0, c1, c2, c3, c4, c5, c6, c7, rfl⟩ := list8' cs hl
  have one : ∀ (i : Nat) (hi : i < 8) (c : Value), (([c0, c1, c2, c3, c4, c5, c6, c7] : List Value).drop (i * 1)).take 1 = [c] → ∃ x : Int, c = .int .i16 x ∧ Dk.In16 x := by
    intro i hi c hc
    have h1 := hel i hi
    rw [cells_int16, List.getElem?_eq_getElem (by omega)] at h1
    obtain ⟨x, e, _, wx⟩ := DataW.trod_int Tryz.underlying35 h1
    have e2 : (([c0, c1, c2, c3, c4, c5, c6, c7] : List Value).drop (i * 1)).take 1 = [.int .i16 x] := e
    rw [hc] at e2
    simp only [List.cons.injEq, and_true] at e2
    exact ⟨x, e2, bounds_i16 wx⟩
  obtain ⟨z0, rfl, q0⟩ := one 0 (by omega) _ rfl
  obtain ⟨z1, rfl, q1⟩ := one 1 (by omega) _ rfl
  obtain ⟨z2, rfl, q2⟩ := one 2 (by omega) _ rfl
  obtain ⟨z3, rfl, q3⟩ := one 3 (by omega) _ rfl
  obtain ⟨z4, rfl, q4⟩ := one 4 (by omega) _ rfl
  obtain ⟨z5, rfl, q5⟩ := one 5 (by omega) _ rfl
  obtain ⟨z6, rfl, q6⟩ := one 6 (by omega) _ rfl
  obtain ⟨z7, rfl, q7⟩ := one 7 (by omega) _ rfl
  refine ⟨z0, z1, z2, z3, z4, z5, z6, z7, rfl, fun y hy => ?_⟩
  simp only [List.mem_cons, List.not_mem_nil, or_false] at hy
  rcases hy with rfl | rfl | rfl | rfl | rfl | rfl | rfl | rfl <;> assumption


set_option maxRecDepth 8000 in
/-- A list of records inside what came in. -/
theorem recs_of_trod {H : Type} {enc : TypeId × Value → H} {W : World} {base fuel : Nat} {sp : Nat → Bool} {held : Bool} {cs0 : List Value} {x : DataW H × List MemPlace} (hf : DataW.trod enc Tryz.prog W base sp held fuel 38 cs0 = some x) :
    ∃ (a : Option Addr) (m c : Nat) (rs : List RecV), cs0 = [.slice a m c] ∧ RecRow W a m rs ∧ (m = 0 ∨ ∃ es ss, x.1 = .slice es ss ∧ es.length = m) := by
  rcases DataW.trod_slice Tryz.underlying38 hf with ⟨h0, _⟩ | ⟨ad, m, c, elems, rest, n, _, hcs, hx, hb, hl, hm, hlen, hel, _, _⟩
  · exact ⟨none, 0, 0, [], h0, ⟨rfl, by simp, .inl rfl⟩, .inl rfl⟩
  · rw [cells_rec] at hel
    have each : ∀ i, i < m → ∃ r : RecV, r.t.size ≤ maxLen ∧ ∀ j, j < 4 → W.cell? ((ad.add (i * 4)).add j) = (recCells r)[j]? := by
      intro i hi
      have h1 := hel i hi
      rw [List.getElem?_eq_getElem (by omega), Option.bind_eq_some_iff] at h1
      obtain ⟨cs, hc, hy⟩ := h1
      obtain ⟨r, rfl, hs⟩ := rec_of_trod hy
      obtain ⟨_, _, hcell⟩ := World.cells?_some hc
      exact ⟨r, hs, fun j hj => hcell j hj⟩
    have hspot : 0 < m → ad.spot = none := by
      intro h0
      obtain ⟨r, _, hc⟩ := each 0 h0
      have := hc 0 (by omega)
      rw [show (0 : Nat) * 4 = 0 from rfl] at this
      have h2 : W.cell? ad = some (.int .i64 r.c) := this
      exact World.cell?_spot h2
    have hrs : ∃ rs : List RecV, rs.length = m ∧ ∀ i r, rs[i]? = some r → r.t.size ≤ maxLen ∧ ∀ j, j < 4 → W.cell? ((ad.add (i * 4)).add j) = (recCells r)[j]? := by
      exact list_of (P := fun i r => r.t.size ≤ maxLen ∧ ∀ j, j < 4 → W.cell? ((ad.add (i * 4)).add j) = (recCells r)[j]?) m each
    obtain ⟨rs, hrl, hr⟩ := hrs
    refine ⟨some ad, m, c, rs, hcs, ⟨hrl, ?_, ?_⟩, .inr ⟨elems.map (·.1), rest.map (·.1), ?_, by rw [List.length_map]; exact hlen⟩⟩
    · intro r hm
      obtain ⟨i, hi⟩ := List.getElem?_of_mem hm
      exact (hr i r hi).1
    · by_cases h0 : m = 0
      · exact .inl h0
      · have hsp := hspot (by omega)
        obtain ⟨g, off, spot⟩ := ad
        simp only at hsp
        subst hsp
        have hg : g < W.heap.size := by
          obtain ⟨r, _, hc⟩ := each 0 (by omega)
          have := hc 0 (by omega)
          exact World.block_lt_of_cell? W _ (this : W.cell? ⟨g, off, none⟩ = some (.int .i64 r.c))
        refine .inr ⟨g, off, rfl, hg, fun k r hk => ?_⟩
        have hc := (hr k r hk).2
        have hx : ∀ j, j < 4 → W.cell? ⟨g, off + k * 4 + j, none⟩ = (recCells r)[j]? := fun j hj => by
          have := hc j hj
          rw [add_off, add_off] at this
          exact this
        exact ⟨hx 0 (by omega), hx 1 (by omega), hx 2 (by omega), hx 3 (by omega)⟩
    · simpa using congrArg Prod.fst hx


set_option maxRecDepth 8000 in
theorem op2_of_trod {H : Type} {enc : TypeId × Value → H} {W : World} {base fuel : Nat} {sp : Nat → Bool} {held : Bool} {cs : List Value} {x : DataW H × List MemPlace} (h : DataW.trod enc Tryz.prog W base sp held fuel 40 cs = some x) :
    ∃ o : OpV, cs = o.arr.toList ∧ (o.s.size ≤ maxLen ∧ -9223372036854775808 ≤ o.k ∧ o.k < 9223372036854775808) ∧ Dk.All16 [o.z0, o.z1, o.z2, o.z3, o.z4, o.z5, o.z6, o.z7] ∧ (∃ rs, RecRow W o.ra o.rm rs) ∧ o.s.size ∈ x.1.weights Tryz.prog 40 ∧ (o.rm = 0 ∨ ∃ n, o.rm ≤ n ∧ n * 40 ∈ x.1.weights Tryz.prog 40) := by
  obtain ⟨xs, n, _, hxx, hl, hxl, hf⟩ := DataW.trod_struct Tryz.underlying40 h
  rw [cells_op] at hl
  obtain ⟨c0, c1, c2, c3, c4, c5, c6, c7, c8, c9, c10, c11, c12, c13, c14, c15, c16, c17, c18, c19, rfl⟩ := list20 cs hl
  have hxl' : xs.length = 9 := hxl
  have h0 : DataW.trod enc Tryz.prog W base sp held n 3 ((([c0, c1, c2, c3, c4, c5, c6, c7, c8, c9, c10, c11, c12, c13, c14, c15, c16, c17, c18, c19] : List Value).drop 0).take (Tryz.prog.cellsOf 3)) = xs[0]? := hf 0 _ rfl
  rw [cells_int, List.getElem?_eq_getElem (by omega)] at h0
  have h1 : DataW.trod enc Tryz.prog W base sp held n 3 ((([c0, c1, c2, c3, c4, c5, c6, c7, c8, c9, c10, c11, c12, c13, c14, c15, c16, c17, c18, c19] : List Value).drop 1).take (Tryz.prog.cellsOf 3)) = xs[1]? := hf 1 _ rfl
  rw [cells_int, List.getElem?_eq_getElem (by omega)] at h1
  have h2 : DataW.trod enc Tryz.prog W base sp held n 3 ((([c0, c1, c2, c3, c4, c5, c6, c7, c8, c9, c10, c11, c12, c13, c14, c15, c16, c17, c18, c19] : List Value).drop 2).take (Tryz.prog.cellsOf 3)) = xs[2]? := hf 2 _ rfl
  rw [cells_int, List.getElem?_eq_getElem (by omega)] at h2
  have h3 : DataW.trod enc Tryz.prog W base sp held n 3 ((([c0, c1, c2, c3, c4, c5, c6, c7, c8, c9, c10, c11, c12, c13, c14, c15, c16, c17, c18, c19] : List Value).drop 3).take (Tryz.prog.cellsOf 3)) = xs[3]? := hf 3 _ rfl
  rw [cells_int, List.getElem?_eq_getElem (by omega)] at h3
  have h4 : DataW.trod enc Tryz.prog W base sp held n 3 ((([c0, c1, c2, c3, c4, c5, c6, c7, c8, c9, c10, c11, c12, c13, c14, c15, c16, c17, c18, c19] : List Value).drop 4).take (Tryz.prog.cellsOf 3)) = xs[4]? := hf 4 _ rfl
  rw [cells_int, List.getElem?_eq_getElem (by omega)] at h4
  have h5 : DataW.trod enc Tryz.prog W base sp held n 9 ((([c0, c1, c2, c3, c4, c5, c6, c7, c8, c9, c10, c11, c12, c13, c14, c15, c16, c17, c18, c19] : List Value).drop 5).take (Tryz.prog.cellsOf 9)) = xs[5]? := hf 5 _ rfl
  rw [cells_str, List.getElem?_eq_getElem (by omega)] at h5
  have h6 : DataW.trod enc Tryz.prog W base sp held n 34 ((([c0, c1, c2, c3, c4, c5, c6, c7, c8, c9, c10, c11, c12, c13, c14, c15, c16, c17, c18, c19] : List Value).drop 6).take (Tryz.prog.cellsOf 34)) = xs[6]? := hf 6 _ rfl
  rw [cells_conf, List.getElem?_eq_getElem (by omega)] at h6
  have h7 : DataW.trod enc Tryz.prog W base sp held n 37 ((([c0, c1, c2, c3, c4, c5, c6, c7, c8, c9, c10, c11, c12, c13, c14, c15, c16, c17, c18, c19] : List Value).drop 11).take (Tryz.prog.cellsOf 37)) = xs[7]? := hf 7 _ rfl
  rw [cells_cells, List.getElem?_eq_getElem (by omega)] at h7
  have h8 : DataW.trod enc Tryz.prog W base sp held n 38 ((([c0, c1, c2, c3, c4, c5, c6, c7, c8, c9, c10, c11, c12, c13, c14, c15, c16, c17, c18, c19] : List Value).drop 19).take (Tryz.prog.cellsOf 38)) = xs[8]? := hf 8 _ rfl
  rw [cells_rows, List.getElem?_eq_getElem (by omega)] at h8
  obtain ⟨n0, e0, _, w0⟩ := DataW.trod_int Tryz.underlying3 h0
  have e0' : c0 = .int .i64 n0 := by simpa using e0
  obtain ⟨n1, e1, _, w1⟩ := DataW.trod_int Tryz.underlying3 h1
  have e1' : c1 = .int .i64 n1 := by simpa using e1
  obtain ⟨n2, e2, _, w2⟩ := DataW.trod_int Tryz.underlying3 h2
  have e2' : c2 = .int .i64 n2 := by simpa using e2
  obtain ⟨n3, e3, _, w3⟩ := DataW.trod_int Tryz.underlying3 h3
  have e3' : c3 = .int .i64 n3 := by simpa using e3
  obtain ⟨n4, e4, _, w4⟩ := DataW.trod_int Tryz.underlying3 h4
  have e4' : c4 = .int .i64 n4 := by simpa using e4
  obtain ⟨s5, e5, hd5, hs⟩ := DataW.trod_string Tryz.underlying9 h5
  have e5' : c5 = .string s5 := by simpa using e5
  obtain ⟨x1, x2, x3, x4, x5, e6⟩ := conf_of_trod h6
  have e6' : [c6, c7, c8, c9, c10] = [.int .i64 x1, .int .i64 x2, .int .i64 x3, .int .i64 x4, .int .i64 x5] := e6
  obtain ⟨z0, z1, z2, z3, z4, z5, z6, z7, e7, h16⟩ := eight16_of_trod h7
  have e7' : [c11, c12, c13, c14, c15, c16, c17, c18] = [.int .i16 z0, .int .i16 z1, .int .i16 z2, .int .i16 z3, .int .i16 z4, .int .i16 z5, .int .i16 z6, .int .i16 z7] := e7
  obtain ⟨ra, rm, rc, rs, e8, hrow, hes⟩ := recs_of_trod h8
  have e8' : [c19] = [.slice ra rm rc] := e8
  simp only [List.cons.injEq, and_true] at e6' e7' e8'
  obtain ⟨rfl, rfl, rfl, rfl, rfl⟩ := e6'
  obtain ⟨rfl, rfl, rfl, rfl, rfl, rfl, rfl, rfl⟩ := e7'
  subst e0' e1' e2' e3' e4' e5' e8'
  refine ⟨⟨n0, n1, n2, n3, n4, s5, ⟨x1, x2, x3, x4, x5⟩, z0, z1, z2, z3, z4, z5, z6, z7, ra, rm, rc⟩, rfl, ⟨hs, wide_i64' w4⟩, h16, ⟨rs, hrow⟩, ?_, ?_⟩
  · rw [hxx]
    have hw : s5.size ∈ (xs[5].1).weights Tryz.prog 9 := by
      rw [hd5]
      show s5.size ∈ DataW.weights Tryz.prog 9 (.lit (.string s5.data.toList))
      rw [DataW.weights, List.mem_singleton, Array.length_toList]
      rfl
    exact op_weight 5 (by omega) rfl hw
  · rcases hes with h0 | ⟨es, ss, hd8, hel⟩
    · exact .inl h0
    · refine .inr ⟨es.length + ss.length, by show rm ≤ _; omega, ?_⟩
      rw [hxx]
      have hw : (es.length + ss.length) * 40 ∈ (xs[8].1).weights Tryz.prog 38 := by
        have hb : Tryz.prog.bytesOf 55 = 40 := by kernel_rfl
        have hu : Tryz.prog.underlying 38 = some (.slice 55) := Tryz.underlying38
        rw [hd8, DataW.weights, hu]
        show (es.length + ss.length) * 40 ∈ (es.length + ss.length) * Tryz.prog.bytesOf 55 :: _
        rw [hb]
        exact List.mem_cons_self
      exact op_weight 8 (by omega) rfl hw


set_option maxRecDepth 8000 in
/-- A script that came in. -/
theorem open_ops2 {H : Type} {enc : TypeId × Value → H} {W : World} {base : Nat} {v : Value} {d : DataW H} {p : List MemPlace} (hv : Value.okWide Tryz.prog W .any base 22 v)
    (h : DataW.Trod enc Tryz.prog W 0 (fun _ => true) true 22 v d p) :
    ∃ (a : Option Addr) (m c : Nat) (ops : List OpV), v = .slice a m c ∧ OpsRow W a m ops ∧ (m = 0 ∨ ∃ es ss, d = .slice es ss ∧ es.length = m) ∧ ((∀ n ∈ d.weights Tryz.prog 22, n ≤ reachBytes) → ∀ o ∈ ops, OpMore W o) := by
  obtain ⟨a, m, c, rfl⟩ := okWide_slice Tryz.underlying22 hv
  obtain ⟨fuel, hf⟩ := h
  rcases DataW.trod_slice Tryz.underlying22 hf with ⟨h0, _⟩ | ⟨ad, len, cap, elems, rest, n, _, hcs, hx, hb, hl, hm, hlen, hel, _, _⟩
  · have h0' : Value.slice a m c = .slice none 0 0 := by simpa [Value.cells] using h0
    cases h0'
    exact ⟨none, 0, 0, [], rfl, ⟨rfl, by simp, .inl rfl⟩, .inl rfl, fun _ o ho => by cases ho⟩
  · have hcs' : Value.slice a m c = .slice (some ad) len cap := by simpa [Value.cells] using hcs
    cases hcs'
    rw [cells_op] at hel
    have each : ∀ i, i < m → ∃ o : OpV, (o.s.size ≤ maxLen ∧ -9223372036854775808 ≤ o.k ∧ o.k < 9223372036854775808) ∧ (Dk.All16 [o.z0, o.z1, o.z2, o.z3, o.z4, o.z5, o.z6, o.z7] ∧ (∃ rs, RecRow W o.ra o.rm rs) ∧ ∃ y ∈ elems, o.s.size ∈ y.1.weights Tryz.prog 40 ∧ (o.rm = 0 ∨ ∃ n, o.rm ≤ n ∧ n * 40 ∈ y.1.weights Tryz.prog 40)) ∧ ∀ j, j < 20 → W.cell? ((ad.add (i * 20)).add j) = o.arr.toList[j]? := by
      intro i hi
      have h1 := hel i hi
      rw [List.getElem?_eq_getElem (by omega), Option.bind_eq_some_iff] at h1
      obtain ⟨cs, hc, hy⟩ := h1
      obtain ⟨o, rfl, hs, q1, q2, q3, q4⟩ := op2_of_trod hy
      obtain ⟨_, _, hcell⟩ := World.cells?_some hc
      exact ⟨o, hs, ⟨q1, q2, elems[i], List.getElem_mem _, q3, q4⟩, fun j hj => hcell j hj⟩
    have hops : ∃ ops : List OpV, ops.length = m ∧ ∀ i o, ops[i]? = some o → (o.s.size ≤ maxLen ∧ -9223372036854775808 ≤ o.k ∧ o.k < 9223372036854775808) ∧ (Dk.All16 [o.z0, o.z1, o.z2, o.z3, o.z4, o.z5, o.z6, o.z7] ∧ (∃ rs, RecRow W o.ra o.rm rs) ∧ ∃ y ∈ elems, o.s.size ∈ y.1.weights Tryz.prog 40 ∧ (o.rm = 0 ∨ ∃ n, o.rm ≤ n ∧ n * 40 ∈ y.1.weights Tryz.prog 40)) ∧ ∀ j, j < 20 → W.cell? ((ad.add (i * 20)).add j) = o.arr.toList[j]? :=
      list_of (P := fun (i : Nat) (o : OpV) => (o.s.size ≤ maxLen ∧ -9223372036854775808 ≤ o.k ∧ o.k < 9223372036854775808) ∧ (Dk.All16 [o.z0, o.z1, o.z2, o.z3, o.z4, o.z5, o.z6, o.z7] ∧ (∃ rs, RecRow W o.ra o.rm rs) ∧ ∃ y ∈ elems, o.s.size ∈ y.1.weights Tryz.prog 40 ∧ (o.rm = 0 ∨ ∃ n, o.rm ≤ n ∧ n * 40 ∈ y.1.weights Tryz.prog 40)) ∧ ∀ j, j < 20 → W.cell? ((ad.add (i * 20)).add j) = o.arr.toList[j]?) m each
    obtain ⟨ops, hrl, hr⟩ := hops
    refine ⟨some ad, m, c, ops, rfl, ⟨hrl, ?_, ?_⟩, .inr ⟨elems.map (·.1), rest.map (·.1), ?_, by rw [List.length_map]; exact hlen⟩, ?_⟩
    · intro o ho
      obtain ⟨i, hi⟩ := List.getElem?_of_mem ho
      exact (hr i o hi).1
    · by_cases h0 : m = 0
      · exact .inl h0
      · obtain ⟨o0, _, _, hc0⟩ := each 0 (by omega)
        have hc0' : W.cell? ad = some (.int .i64 o0.kind) := hc0 0 (by omega)
        have hsp := World.cell?_spot hc0'
        have hg := World.block_lt_of_cell? W _ hc0'
        obtain ⟨g, off, spot⟩ := ad
        simp only at hsp
        subst hsp
        refine .inr ⟨g, off, rfl, hg, fun k o hk j v hv => ?_⟩
        have hj : j < 20 := by
          have := (List.getElem?_eq_some_iff.1 hv).1
          exact this
        have := (hr k o hk).2.2 j hj
        rw [add_off, add_off] at this
        rw [this]
        exact hv
    · simpa using congrArg Prod.fst hx
    · intro hw o ho
      obtain ⟨i, hi⟩ := List.getElem?_of_mem ho
      obtain ⟨_, ⟨q1, q2, y, hy, q3, q4⟩, _⟩ := hr i o hi
      have hd : d = .slice (elems.map (·.1)) (rest.map (·.1)) := by simpa using congrArg Prod.fst hx
      have hu : Tryz.prog.underlying 22 = some (.slice 40) := Tryz.underlying22
      have up : ∀ n ∈ y.1.weights Tryz.prog 40, n ≤ reachBytes := fun n hn => by
        refine hw n ?_
        rw [hd]
        simp only [DataW.weights, hu]
        exact List.mem_cons_of_mem _ (List.mem_append_left _ (weights_of_mem (List.mem_map_of_mem hy) hn))
      have h3 := reachBytes_lt
      refine ⟨q1, ?_, q2, ?_⟩
      · have := up _ q3
        omega
      · rcases q4 with h0 | ⟨n, h1, h2⟩
        · rw [h0]; decide
        · have := up _ h2
          omega

end Go.Proofs.YtccckonckddadabGreat
