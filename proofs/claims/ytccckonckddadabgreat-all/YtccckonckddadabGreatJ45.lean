import Derived.Test.YtccckonckddadabGreatJ13
import Derived.Test.YtccckonckddadabGreatJ20
import Derived.Test.YtccckonckddadabGreatJ24
import Derived.SizedLaws
import Derived.ChangeSlices
namespace Go.Proofs.YtccckonckddadabGreat
open Go.ChangeShapes Go.WideShapes Go.ChangeAt Go.RowKit
set_option linter.unusedVariables false

theorem cells_rec : Tryz.prog.cellsOf 55 = 4 := by kernel_rfl
theorem cells_int : Tryz.prog.cellsOf 3 = 1 := by kernel_rfl
theorem cells_bool : Tryz.prog.cellsOf 4 = 1 := by kernel_rfl
theorem cells_str : Tryz.prog.cellsOf 9 = 1 := by kernel_rfl

theorem list4 {α : Type} (l : List α) (h : l.length = 4) : ∃ a0 a1 a2 a3, l = [a0, a1, a2, a3] := by
  match l, h with
  | [a0, a1, a2, a3], _ => exact ⟨a0, a1, a2, a3, rfl⟩

/-- A record that is read out of memory. -/
theorem rec_of_trod {H : Type} {enc : TypeId × Value → H} {W : World} {base fuel : Nat} {sp : Nat → Bool} {held : Bool} {cs : List Value} {x : DataW H × List MemPlace} (h : DataW.trod enc Tryz.prog W base sp held fuel 55 cs = some x) :
    ∃ r : RecV, cs = recCells r ∧ r.t.size ≤ maxLen := by
  obtain ⟨xs, n, _, _, hl, hxl, hf⟩ := DataW.trod_struct Tryz.underlying55 h
  rw [cells_rec] at hl
  obtain ⟨c0, c1, c2, c3, rfl⟩ := list4 cs hl
  have hxl' : xs.length = 4 := hxl
  have h0 : DataW.trod enc Tryz.prog W base sp held n 3 ((([c0, c1, c2, c3] : List Value).drop 0).take (Tryz.prog.cellsOf 3)) = xs[0]? := hf 0 _ rfl
  rw [cells_int] at h0
  have h1 : DataW.trod enc Tryz.prog W base sp held n 3 ((([c0, c1, c2, c3] : List Value).drop 1).take (Tryz.prog.cellsOf 3)) = xs[1]? := hf 1 _ rfl
  rw [cells_int] at h1
  have h2 : DataW.trod enc Tryz.prog W base sp held n 4 ((([c0, c1, c2, c3] : List Value).drop 2).take (Tryz.prog.cellsOf 4)) = xs[2]? := hf 2 _ rfl
  rw [cells_bool] at h2
  have h3 : DataW.trod enc Tryz.prog W base sp held n 9 ((([c0, c1, c2, c3] : List Value).drop 3).take (Tryz.prog.cellsOf 9)) = xs[3]? := hf 3 _ rfl
  rw [cells_str] at h3
  rw [List.getElem?_eq_getElem (by omega)] at h0 h1 h2 h3
  obtain ⟨n0, e0, _, _⟩ := DataW.trod_int Tryz.underlying3 h0
  obtain ⟨n1, e1, _, _⟩ := DataW.trod_int Tryz.underlying3 h1
  obtain ⟨b2, e2, _⟩ := DataW.trod_bool Tryz.underlying4 h2
  obtain ⟨s3, e3, _, hs⟩ := DataW.trod_string Tryz.underlying9 h3
  have e0' : c0 = .int .i64 n0 := by simpa using e0
  have e1' : c1 = .int .i64 n1 := by simpa using e1
  have e2' : c2 = .bool b2 := by simpa using e2
  have e3' : c3 = .string s3 := by simpa using e3
  subst e0' e1' e2' e3'
  exact ⟨⟨n0, n1, b2, s3⟩, rfl, hs⟩

theorem list_of {α : Type} {P : Nat → α → Prop} : ∀ (m : Nat), (∀ i, i < m → ∃ r, P i r) → ∃ rs : List α, rs.length = m ∧ ∀ i r, rs[i]? = some r → P i r
  | 0, _ => ⟨[], rfl, by simp⟩
  | k + 1, each => by
    obtain ⟨rs, hl, hr⟩ := list_of k (fun i hi => each i (by omega))
    obtain ⟨r, h1⟩ := each k (by omega)
    refine ⟨rs ++ [r], by simp [hl], fun i x hx => ?_⟩
    by_cases hi : i < rs.length
    · rw [List.getElem?_append_left hi] at hx
      exact hr i x hx
    · rw [List.getElem?_append_right (by omega)] at hx
      have hi0 : i - rs.length = 0 := by
        have := (List.getElem?_eq_some_iff.1 hx).1
        simp at this
        omega
      rw [hi0] at hx
      have : r = x := by simpa using hx
      subst this
      have hik : i = k := by omega
      subst hik
      exact h1

theorem add_off (g off k : Nat) : (⟨g, off, none⟩ : Addr).add k = ⟨g, off + k, none⟩ := by unfold Addr.add; split <;> simp_all

set_option maxRecDepth 8000 in
/-- A list of records that came in. -/
theorem open_recs {H : Type} {enc : TypeId × Value → H} {W : World} {base : Nat} {v : Value} {d : DataW H} {p : List MemPlace} (hv : Value.okWide Tryz.prog W .any base 38 v)
    (h : DataW.Trod enc Tryz.prog W 0 (fun _ => true) true 38 v d p) :
    ∃ (a : Option Addr) (m c : Nat) (rs : List RecV), v = .slice a m c ∧ RecRow W a m rs ∧ (m = 0 ∨ ∃ es ss, d = .slice es ss ∧ es.length = m) := by
  obtain ⟨a, m, c, rfl⟩ := okWide_slice Tryz.underlying38 hv
  obtain ⟨fuel, hf⟩ := h
  rcases DataW.trod_slice Tryz.underlying38 hf with ⟨h0, _⟩ | ⟨ad, len, cap, elems, rest, n, _, hcs, hx, hb, hl, hm, hlen, hel, _, _⟩
  · have h0' : Value.slice a m c = .slice none 0 0 := by simpa [Value.cells] using h0
    cases h0'
    exact ⟨none, 0, 0, [], rfl, ⟨rfl, by simp, .inl rfl⟩, .inl rfl⟩
  · have hcs' : Value.slice a m c = .slice (some ad) len cap := by simpa [Value.cells] using hcs
    cases hcs'
    rw [cells_rec] at hel
    have each : ∀ i, i < m → ∃ r : RecV, r.t.size ≤ maxLen ∧ ∀ j, j < 4 → W.cell? ((ad.add (i * 4)).add j) = (recCells r)[j]? := by
      intro i hi
      have h1 := hel i hi
      rw [List.getElem?_eq_getElem (by omega), Option.bind_eq_some_iff] at h1
      obtain ⟨cs, hc, hy⟩ := h1
      obtain ⟨r, rfl, hs⟩ := rec_of_trod hy
      obtain ⟨_, _, hcell⟩ := World.cells?_some hc
      exact ⟨r, hs, fun j hj => hcell j hj⟩
    have hspot : 0 < m → ad.spot = none := by
      intro h0
      obtain ⟨r, _, hc⟩ := each 0 h0
      have := hc 0 (by omega)
      rw [show (0 : Nat) * 4 = 0 from rfl] at this
      have h2 : W.cell? ad = some (.int .i64 r.c) := this
      exact World.cell?_spot h2
    have hrs : ∃ rs : List RecV, rs.length = m ∧ ∀ i r, rs[i]? = some r → r.t.size ≤ maxLen ∧ ∀ j, j < 4 → W.cell? ((ad.add (i * 4)).add j) = (recCells r)[j]? := by
      exact list_of (P := fun i r => r.t.size ≤ maxLen ∧ ∀ j, j < 4 → W.cell? ((ad.add (i * 4)).add j) = (recCells r)[j]?) m each
    obtain ⟨rs, hrl, hr⟩ := hrs
    refine ⟨some ad, m, c, rs, rfl, ⟨hrl, ?_, ?_⟩, .inr ⟨elems.map (·.1), rest.map (·.1), ?_, by rw [List.length_map]; exact hlen⟩⟩
    · intro r hm
      obtain ⟨i, hi⟩ := List.getElem?_of_mem hm
      exact (hr i r hi).1
    · by_cases h0 : m = 0
      · exact .inl h0
      · have hsp := hspot (by omega)
        obtain ⟨g, off, spot⟩ := ad
        simp only at hsp
        subst hsp
        have hg : g < W.heap.size := by
          obtain ⟨r, _, hc⟩ := each 0 (by omega)
          have := hc 0 (by omega)
          exact World.block_lt_of_cell? W _ (this : W.cell? ⟨g, off, none⟩ = some (.int .i64 r.c))
        refine .inr ⟨g, off, rfl, hg, fun k r hk => ?_⟩
        have hc := (hr k r hk).2
        have hx : ∀ j, j < 4 → W.cell? ⟨g, off + k * 4 + j, none⟩ = (recCells r)[j]? := fun j hj => by
          have := hc j hj
          rw [add_off, add_off] at this
          exact this
        exact ⟨hx 0 (by omega), hx 1 (by omega), hx 2 (by omega), hx 3 (by omega)⟩
    · simpa using congrArg Prod.fst hx

end Go.Proofs.YtccckonckddadabGreat
namespace Go.Proofs.YtccckonckddadabGreat
open Go.ChangeShapes Go.WideShapes Go.ChangeAt Go.RowKit
theorem wide_i64' {n : Int} (h : (Lit.int .i64 n).wf = true) : -9223372036854775808 ≤ n ∧ n < 9223372036854775808 := by
  have := bounds_i64 h
  omega
end Go.Proofs.YtccckonckddadabGreat
