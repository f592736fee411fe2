import Derived.Test.YtccckonckddadaaJ32
import Derived.Test.YtccckonckddadaaJ21
namespace Go.Proofs.Ytccckonckddadaa
open Go.ChangeShapes Go.WideShapes Go.ChangeAt Go.RowKit
set_option linter.unusedVariables false

theorem cells_raw : Try.prog.cellsOf 105 = 4 := by kernel_rfl
theorem cells_raws : Try.prog.cellsOf 45 = 1 := by kernel_rfl

theorem wide_i64 {n : Int} (h : (Lit.int .i64 n).wf = true) : -9223372036854775808 ≤ n ∧ n < 9223372036854775808 := by
  have := bounds_i64 h
  omega

def rawCells (x0 x1 x2 x3 : Int) : List Value := [.int .i64 x0, .int .i64 x1, .int .i64 x2, .int .i64 x3]

theorem raw_of_trod {H : Type} {enc : TypeId × Value → H} {W : World} {base fuel : Nat} {sp : Nat → Bool} {held : Bool} {cs : List Value} {x : DataW H × List MemPlace} (h : DataW.trod enc Try.prog W base sp held fuel 105 cs = some x) :
    ∃ x0 x1 x2 x3 : Int, cs = rawCells x0 x1 x2 x3 ∧ (-9223372036854775808 ≤ x0 ∧ x0 < 9223372036854775808) ∧ (-9223372036854775808 ≤ x1 ∧ x1 < 9223372036854775808) ∧ (-9223372036854775808 ≤ x2 ∧ x2 < 9223372036854775808) ∧ (-9223372036854775808 ≤ x3 ∧ x3 < 9223372036854775808) := by
  obtain ⟨xs, n, _, _, hl, hxl, hf⟩ := DataW.trod_struct Try.underlying105 h
  rw [cells_raw] at hl
  obtain ⟨c0, c1, c2, c3, rfl⟩ := list4 cs hl
  have hxl' : xs.length = 4 := hxl
  have h0 : DataW.trod enc Try.prog W base sp held n 3 ((([c0, c1, c2, c3] : List Value).drop 0).take (Try.prog.cellsOf 3)) = xs[0]? := hf 0 _ rfl
  have h1 : DataW.trod enc Try.prog W base sp held n 3 ((([c0, c1, c2, c3] : List Value).drop 1).take (Try.prog.cellsOf 3)) = xs[1]? := hf 1 _ rfl
  have h2 : DataW.trod enc Try.prog W base sp held n 3 ((([c0, c1, c2, c3] : List Value).drop 2).take (Try.prog.cellsOf 3)) = xs[2]? := hf 2 _ rfl
  have h3 : DataW.trod enc Try.prog W base sp held n 3 ((([c0, c1, c2, c3] : List Value).drop 3).take (Try.prog.cellsOf 3)) = xs[3]? := hf 3 _ rfl
  rw [cells_int] at h0 h1 h2 h3
  rw [List.getElem?_eq_getElem (by omega)] at h0 h1 h2 h3
  obtain ⟨n0, e0, _, w0⟩ := DataW.trod_int Try.underlying3 h0
  obtain ⟨n1, e1, _, w1⟩ := DataW.trod_int Try.underlying3 h1
  obtain ⟨n2, e2, _, w2⟩ := DataW.trod_int Try.underlying3 h2
  obtain ⟨n3, e3, _, w3⟩ := DataW.trod_int Try.underlying3 h3
  have e0' : c0 = .int .i64 n0 := by simpa using e0
  have e1' : c1 = .int .i64 n1 := by simpa using e1
  have e2' : c2 = .int .i64 n2 := by simpa using e2
  have e3' : c3 = .int .i64 n3 := by simpa using e3
  subst e0' e1' e2' e3'
  exact ⟨n0, n1, n2, n3, rfl, wide_i64 w0, wide_i64 w1, wide_i64 w2, wide_i64 w3⟩

set_option maxRecDepth 8000 in
theorem raws_of_trod {H : Type} {enc : TypeId × Value → H} {W : World} {fuel : Nat} {cs : List Value} {x : DataW H × List MemPlace} (h : DataW.trod enc Try.prog W 0 (fun _ => true) true fuel 45 cs = some x) :
    ∃ a n c, cs = [.slice a n c] ∧ RawRow W a n := by
  rcases DataW.trod_slice Try.underlying45 h with ⟨rfl, _⟩ | ⟨ad, len, cap, elems, rest, n, _, rfl, hx, hb, hl, hm, hlen, hel, _, _⟩
  · exact ⟨none, 0, 0, rfl, ⟨Nat.zero_le _, .inl rfl⟩⟩
  · refine ⟨some ad, len, cap, rfl, ⟨Nat.le_trans hl hm, ?_⟩⟩
    rw [cells_raw] at hel
    have each : ∀ i, i < len → ∃ x0 x1 x2 x3 : Int, (∀ j, j < 4 → W.cell? ((ad.add (i * 4)).add j) = (rawCells x0 x1 x2 x3)[j]?) ∧ (-9223372036854775808 ≤ x0 ∧ x0 < 9223372036854775808) ∧ (-9223372036854775808 ≤ x1 ∧ x1 < 9223372036854775808) ∧ (-9223372036854775808 ≤ x2 ∧ x2 < 9223372036854775808) ∧ (-9223372036854775808 ≤ x3 ∧ x3 < 9223372036854775808) := by
      intro i hi
      have h1 := hel i hi
      rw [List.getElem?_eq_getElem (by omega), Option.bind_eq_some_iff] at h1
      obtain ⟨cs, hc, hy⟩ := h1
      obtain ⟨x0, x1, x2, x3, rfl, hbd⟩ := raw_of_trod hy
      obtain ⟨_, _, hcell⟩ := World.cells?_some hc
      exact ⟨x0, x1, x2, x3, fun j hj => hcell j hj, hbd⟩
    by_cases h0 : len = 0
    · exact .inl h0
    · obtain ⟨x0, x1, x2, x3, hc, _⟩ := each 0 (by omega)
      have hc0 : W.cell? ad = some (.int .i64 x0) := hc 0 (by omega)
      have hsp := World.cell?_spot hc0
      have hg := World.block_lt_of_cell? W _ hc0
      obtain ⟨g, off, spot⟩ := ad
      simp only at hsp
      subst hsp
      refine .inr ⟨g, off, rfl, hg, fun k hk => ?_⟩
      obtain ⟨y0, y1, y2, y3, hcy, hbd⟩ := each k hk
      have hx : ∀ j, j < 4 → W.cell? ⟨g, off + k * 4 + j, none⟩ = (rawCells y0 y1 y2 y3)[j]? := fun j hj => by
        have := hcy j hj
        rw [add_off, add_off] at this
        exact this
      exact ⟨y0, y1, y2, y3, ⟨hx 0 (by omega), hx 1 (by omega), hx 2 (by omega), hx 3 (by omega)⟩, hbd⟩

set_option maxRecDepth 8000 in
/-- Lists of raw records that came in. -/
theorem open_epochs {H : Type} {enc : TypeId × Value → H} {W : World} {base : Nat} {v : Value} {d : DataW H} {p : List MemPlace} (hv : Value.okWide Try.prog W .any base 42 v)
    (h : DataW.Trod enc Try.prog W 0 (fun _ => true) true 42 v d p) :
    ∃ (a : Option Addr) (m c : Nat), v = .slice a m c ∧ EpochsRow W a m := by
  obtain ⟨a, m, c, rfl⟩ := okWide_slice Try.underlying42 hv
  obtain ⟨fuel, hf⟩ := h
  rcases DataW.trod_slice Try.underlying42 hf with ⟨h0, _⟩ | ⟨ad, len, cap, elems, rest, n, _, hcs, hx, hb, hl, hm, hlen, hel, _, _⟩
  · have h0' : Value.slice a m c = .slice none 0 0 := by simpa [Value.cells] using h0
    cases h0'
    exact ⟨none, 0, 0, rfl, ⟨Nat.zero_le _, .inl rfl⟩⟩
  · have hcs' : Value.slice a m c = .slice (some ad) len cap := by simpa [Value.cells] using hcs
    cases hcs'
    refine ⟨some ad, m, c, rfl, ⟨Nat.le_trans hl hm, ?_⟩⟩
    rw [cells_raws] at hel
    have each : ∀ i, i < m → ∃ ak nk ck, W.cell? (ad.add i) = some (.slice ak nk ck) ∧ RawRow W ak nk := by
      intro i hi
      have h1 := hel i hi
      rw [List.getElem?_eq_getElem (by omega), Option.bind_eq_some_iff, Nat.mul_one] at h1
      obtain ⟨cs, hc, hy⟩ := h1
      obtain ⟨ak, nk, ck, rfl, hraw⟩ := raws_of_trod hy
      exact ⟨ak, nk, ck, cell_of_cells?_one hc, hraw⟩
    by_cases h0 : m = 0
    · exact .inl h0
    · obtain ⟨ak, nk, ck, hc0, _⟩ := each 0 (by omega)
      have hc0' : W.cell? ad = some (.slice ak nk ck) := hc0
      have hsp := World.cell?_spot hc0'
      have hg := World.block_lt_of_cell? W _ hc0'
      obtain ⟨g, off, spot⟩ := ad
      simp only at hsp
      subst hsp
      refine .inr ⟨g, off, rfl, hg, fun k hk => ?_⟩
      obtain ⟨ak, nk, ck, hck, hraw⟩ := each k hk
      rw [add_off] at hck
      exact ⟨ak, nk, ck, hck, hraw⟩

end Go.Proofs.Ytccckonckddadaa
