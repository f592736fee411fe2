import Derived.Test.YtccckonckddadaaWalkT7
import Derived.Test.YtccckonckddadaaWalkT3
import Derived.Test.YtccckonckddadaaWalkS4
import Derived.Test.YtccckonckddadaaPlainY
import Derived.Test.YtccckonckddadaaWalkK
namespace Go.Proofs.Ytccckonckddadaa
open Go.RowKit
set_option linter.unusedVariables false

/-! ### pick -/
theorem pick_any (c n : Int) (w : World) (h0 : -9223372036854775808 ≤ c) (h1 : c < 9223372036854775808) (hn : 0 < n) (hn2 : n < 4611686018427387904) :
    Calls Try.prog 22 #[.int .i64 c, .int .i64 n] w fun e w' => ∃ r : Int, e = .returned (.int .i64 r) ∧ 0 ≤ r ∧ r < n ∧ w' = w := by
  have hne : n ≠ 0 := by omega
  have hnb : (n == 0) = false := by rw [beq_eq_false_iff_ne]; exact hne
  by_cases hc : c < 0
  · have hc2 : (0 : Int) ≤ -(c + 1) := by omega
    go_enter Try.func22, Try.ntmps22
    go_wp2
    go_ret
    have r0 := Int.tmod_nonneg n hc2
    have r1 := Int.tmod_lt_of_pos (-(c + 1)) hn
    rw [Int.neg_tmod] at r0 r1
    exact ⟨_, rfl, r0, r1, rfl⟩
  · have hc2 : (0 : Int) ≤ c := by omega
    go_enter Try.func22, Try.ntmps22
    go_wp2
    go_ret
    exact ⟨_, rfl, Int.emod_nonneg _ hne, Int.emod_lt_of_pos _ hn, rfl⟩

/-! ### texts -/
def someTexts : List ByteArray := [⟨#[97, 124, 97, 43, 49]⟩, ⟨#[97, 98, 124, 97, 61, 53, 59, 98, 43, 97]⟩, ⟨#[97, 98, 99, 124, 99, 61, 97, 59, 99, 42, 98, 59, 97, 45, 51]⟩, ⟨#[98, 124, 98, 43, 55, 59, 98, 42, 51, 59, 98, 45, 49, 59, 98, 43, 50]⟩, ⟨#[97, 124, 97, 60, 48]⟩, ⟨#[97, 98, 124, 98, 62, 97, 59, 98, 61, 48]⟩, ⟨#[124, 97, 61, 49]⟩, ⟨#[97, 98, 99, 100, 101, 102, 103, 104, 124, 97, 43, 49, 59, 98, 43, 49, 59, 99, 43, 49, 59, 100, 43, 49, 59, 101, 43, 49, 59, 102, 43, 49, 59, 103, 43, 49, 59, 104, 43, 49]⟩, ⟨#[97, 124, 97, 61, 51, 50, 55, 54, 55, 59, 97, 43, 49]⟩, ⟨#[104, 124, 104, 126, 48, 59, 104, 61, 57]⟩, ⟨#[99, 124, 99, 43, 49, 59, 100, 43, 49]⟩, ⟨#[97, 124, 97, 42, 97, 59, 97, 43, 51]⟩]
theorem texts_parse : ∀ t ∈ someTexts, Dk.parseOk t.data.toList = true := by decide +kernel

set_option maxRecDepth 100000 in
set_option maxHeartbeats 1000000 in
theorem texts_any (c : Int) (w : World) (h0 : -9223372036854775808 ≤ c) (h1 : c < 9223372036854775808) :
    Calls Try.prog 35 #[.int .i64 c] w fun e w' => ∃ t : ByteArray, e = .returned (.string t) ∧ Dk.parseOk t.data.toList = true ∧ Below w.heap.size w w' := by
  go_enter Try.func35, Try.ntmps35
  go_wp2_with fail
  refine (pick_any c 12 _ h0 h1 (by omega) (by omega)).mono ?_
  rintro e w1 ⟨r, rfl, hr0, hr1, rfl⟩
  have HB : Hid (Below w.heap.size w (w.alloc (.cells #[.string ⟨#[97, 124, 97, 43, 49]⟩, .string ⟨#[97, 98, 124, 97, 61, 53, 59, 98, 43, 97]⟩, .string ⟨#[97, 98, 99, 124, 99, 61, 97, 59, 99, 42, 98, 59, 97, 45, 51]⟩, .string ⟨#[98, 124, 98, 43, 55, 59, 98, 42, 51, 59, 98, 45, 49, 59, 98, 43, 50]⟩, .string ⟨#[97, 124, 97, 60, 48]⟩, .string ⟨#[97, 98, 124, 98, 62, 97, 59, 98, 61, 48]⟩, .string ⟨#[124, 97, 61, 49]⟩, .string ⟨#[97, 98, 99, 100, 101, 102, 103, 104, 124, 97, 43, 49, 59, 98, 43, 49, 59, 99, 43, 49, 59, 100, 43, 49, 59, 101, 43, 49, 59, 102, 43, 49, 59, 103, 43, 49, 59, 104, 43, 49]⟩, .string ⟨#[97, 124, 97, 61, 51, 50, 55, 54, 55, 59, 97, 43, 49]⟩, .string ⟨#[104, 124, 104, 126, 48, 59, 104, 61, 57]⟩, .string ⟨#[99, 124, 99, 43, 49, 59, 100, 43, 49]⟩, .string ⟨#[97, 124, 97, 42, 97, 59, 97, 43, 51]⟩] 9))) := (Below.refl _ _).alloc (Nat.le_refl _) _
  have hg : (w.alloc (.cells #[.string ⟨#[97, 124, 97, 43, 49]⟩, .string ⟨#[97, 98, 124, 97, 61, 53, 59, 98, 43, 97]⟩, .string ⟨#[97, 98, 99, 124, 99, 61, 97, 59, 99, 42, 98, 59, 97, 45, 51]⟩, .string ⟨#[98, 124, 98, 43, 55, 59, 98, 42, 51, 59, 98, 45, 49, 59, 98, 43, 50]⟩, .string ⟨#[97, 124, 97, 60, 48]⟩, .string ⟨#[97, 98, 124, 98, 62, 97, 59, 98, 61, 48]⟩, .string ⟨#[124, 97, 61, 49]⟩, .string ⟨#[97, 98, 99, 100, 101, 102, 103, 104, 124, 97, 43, 49, 59, 98, 43, 49, 59, 99, 43, 49, 59, 100, 43, 49, 59, 101, 43, 49, 59, 102, 43, 49, 59, 103, 43, 49, 59, 104, 43, 49]⟩, .string ⟨#[97, 124, 97, 61, 51, 50, 55, 54, 55, 59, 97, 43, 49]⟩, .string ⟨#[104, 124, 104, 126, 48, 59, 104, 61, 57]⟩, .string ⟨#[99, 124, 99, 43, 49, 59, 100, 43, 49]⟩, .string ⟨#[97, 124, 97, 42, 97, 59, 97, 43, 51]⟩] 9)).heap[w.heap.size]? = some (.cells #[.string ⟨#[97, 124, 97, 43, 49]⟩, .string ⟨#[97, 98, 124, 97, 61, 53, 59, 98, 43, 97]⟩, .string ⟨#[97, 98, 99, 124, 99, 61, 97, 59, 99, 42, 98, 59, 97, 45, 51]⟩, .string ⟨#[98, 124, 98, 43, 55, 59, 98, 42, 51, 59, 98, 45, 49, 59, 98, 43, 50]⟩, .string ⟨#[97, 124, 97, 60, 48]⟩, .string ⟨#[97, 98, 124, 98, 62, 97, 59, 98, 61, 48]⟩, .string ⟨#[124, 97, 61, 49]⟩, .string ⟨#[97, 98, 99, 100, 101, 102, 103, 104, 124, 97, 43, 49, 59, 98, 43, 49, 59, 99, 43, 49, 59, 100, 43, 49, 59, 101, 43, 49, 59, 102, 43, 49, 59, 103, 43, 49, 59, 104, 43, 49]⟩, .string ⟨#[97, 124, 97, 61, 51, 50, 55, 54, 55, 59, 97, 43, 49]⟩, .string ⟨#[104, 124, 104, 126, 48, 59, 104, 61, 57]⟩, .string ⟨#[99, 124, 99, 43, 49, 59, 100, 43, 49]⟩, .string ⟨#[97, 124, 97, 42, 97, 59, 97, 43, 51]⟩] 9) := heap_at rfl
  generalize w.alloc (.cells #[.string ⟨#[97, 124, 97, 43, 49]⟩, .string ⟨#[97, 98, 124, 97, 61, 53, 59, 98, 43, 97]⟩, .string ⟨#[97, 98, 99, 124, 99, 61, 97, 59, 99, 42, 98, 59, 97, 45, 51]⟩, .string ⟨#[98, 124, 98, 43, 55, 59, 98, 42, 51, 59, 98, 45, 49, 59, 98, 43, 50]⟩, .string ⟨#[97, 124, 97, 60, 48]⟩, .string ⟨#[97, 98, 124, 98, 62, 97, 59, 98, 61, 48]⟩, .string ⟨#[124, 97, 61, 49]⟩, .string ⟨#[97, 98, 99, 100, 101, 102, 103, 104, 124, 97, 43, 49, 59, 98, 43, 49, 59, 99, 43, 49, 59, 100, 43, 49, 59, 101, 43, 49, 59, 102, 43, 49, 59, 103, 43, 49, 59, 104, 43, 49]⟩, .string ⟨#[97, 124, 97, 61, 51, 50, 55, 54, 55, 59, 97, 43, 49]⟩, .string ⟨#[104, 124, 104, 126, 48, 59, 104, 61, 57]⟩, .string ⟨#[99, 124, 99, 43, 49, 59, 100, 43, 49]⟩, .string ⟨#[97, 124, 97, 42, 97, 59, 97, 43, 51]⟩] 9) = W at *
  obtain ⟨t, ht, hc⟩ : ∃ t, t ∈ someTexts ∧ W.cell? ⟨w.heap.size, r.toNat, none⟩ = some (.string t) := by
    have hk : r.toNat < someTexts.length := by show r.toNat < 12; omega
    refine ⟨someTexts[r.toNat], List.getElem_mem hk, ?_⟩
    rw [(heap_cells hg).1]
    have e : (#[.string ⟨#[97, 124, 97, 43, 49]⟩, .string ⟨#[97, 98, 124, 97, 61, 53, 59, 98, 43, 97]⟩, .string ⟨#[97, 98, 99, 124, 99, 61, 97, 59, 99, 42, 98, 59, 97, 45, 51]⟩, .string ⟨#[98, 124, 98, 43, 55, 59, 98, 42, 51, 59, 98, 45, 49, 59, 98, 43, 50]⟩, .string ⟨#[97, 124, 97, 60, 48]⟩, .string ⟨#[97, 98, 124, 98, 62, 97, 59, 98, 61, 48]⟩, .string ⟨#[124, 97, 61, 49]⟩, .string ⟨#[97, 98, 99, 100, 101, 102, 103, 104, 124, 97, 43, 49, 59, 98, 43, 49, 59, 99, 43, 49, 59, 100, 43, 49, 59, 101, 43, 49, 59, 102, 43, 49, 59, 103, 43, 49, 59, 104, 43, 49]⟩, .string ⟨#[97, 124, 97, 61, 51, 50, 55, 54, 55, 59, 97, 43, 49]⟩, .string ⟨#[104, 124, 104, 126, 48, 59, 104, 61, 57]⟩, .string ⟨#[99, 124, 99, 43, 49, 59, 100, 43, 49]⟩, .string ⟨#[97, 124, 97, 42, 97, 59, 97, 43, 51]⟩] : Array Value) = (someTexts.map Value.string).toArray := rfl
    rw [e, List.getElem?_toArray, List.getElem?_map, List.getElem?_eq_getElem hk]
    rfl
  have HT : Hid _ := texts_parse t ht
  clear ht hg
  go_wp2
  go_ret
  exact ⟨t, rfl, HT.out, HB.out⟩

/-! ### records -/
/-- Raw records in a row. -/
structure RawRow (w : World) (a : Option Addr) (n : Nat) : Prop where
  len : n ≤ maxLen
  cells : n = 0 ∨ ∃ g off, a = some ⟨g, off, none⟩ ∧ g < w.heap.size ∧ ∀ k, k < n → ∃ x0 x1 x2 x3 : Int,
    (w.cell? ⟨g, off + k * 4, none⟩ = some (.int .i64 x0) ∧ w.cell? ⟨g, off + k * 4 + 1, none⟩ = some (.int .i64 x1) ∧ w.cell? ⟨g, off + k * 4 + 2, none⟩ = some (.int .i64 x2) ∧ w.cell? ⟨g, off + k * 4 + 3, none⟩ = some (.int .i64 x3)) ∧
    (-9223372036854775808 ≤ x0 ∧ x0 < 9223372036854775808) ∧ (-9223372036854775808 ≤ x1 ∧ x1 < 9223372036854775808) ∧ (-9223372036854775808 ≤ x2 ∧ x2 < 9223372036854775808) ∧ (-9223372036854775808 ≤ x3 ∧ x3 < 9223372036854775808)

theorem RawRow.kept {w W : World} {a : Option Addr} {n : Nat} (h : RawRow w a n) (hb : Below w.heap.size w W) : RawRow W a n := by
  refine ⟨h.len, ?_⟩
  rcases h.cells with h0 | ⟨g, off, rfl, hg, hc⟩
  · exact .inl h0
  · refine .inr ⟨g, off, rfl, Nat.lt_of_lt_of_le hg hb.size, fun k hk => ?_⟩
    obtain ⟨x0, x1, x2, x3, ⟨c1, c2, c3, c4⟩, hx⟩ := hc k hk
    exact ⟨x0, x1, x2, x3, ⟨(hb.cell (p := ⟨g, _, none⟩) hg).trans c1, (hb.cell (p := ⟨g, _, none⟩) hg).trans c2, (hb.cell (p := ⟨g, _, none⟩) hg).trans c3, (hb.cell (p := ⟨g, _, none⟩) hg).trans c4⟩, hx⟩

def RecordsPost (w : World) (e : Ending) (w' : World) : Prop :=
  ∃ (a : Option Addr) (m c : Nat) (rs : List RecV), e = .returned (.slice a m c) ∧ m ≤ 64 ∧ RecRow w' a m rs ∧ (recs rs).all Dk.recOk = true ∧ Below w.heap.size w w'

/-- Where a round of records stands. -/
structure MakeAt (w wr : World) (a : Option Addr) (n c : Nat) (rs : List RecV) : Prop where
  len : rs.length = n
  small : ∀ r ∈ rs, r.t.size ≤ maxLen
  own : wr.ownsRow w.heap.size 49 4 (.slice a n c) n (recsCells rs)
  bel : Below w.heap.size w wr
  ok : (recs rs).all Dk.recOk = true

theorem MakeAt.step {w wr w2 : World} {a a' : Option Addr} {n c c' : Nat} {rs : List RecV} {rv : RecV} (h : MakeAt w wr a n c rs) (hr : Dk.recOk rv.told = true) (hs : rv.t.size ≤ maxLen) (hB : Below w.heap.size w w2)
    (hown : w2.ownsRow w.heap.size 49 4 (.slice a' (n + 1) c') (n + 1) (recsCells rs ++ recCells rv)) : MakeAt w w2 a' (n + 1) c' (rs ++ [rv]) where
  len := by simp [h.len]
  small := by
    intro r hr
    rcases List.mem_append.1 hr with hr | hr
    · exact h.small r hr
    · have : r = rv := by simpa using hr
      subst this
      exact hs
  own := by rw [recsCells_snoc]; exact hown
  bel := hB
  ok := by
    unfold recs
    rw [List.map_append, List.all_append]
    have h2 := h.ok
    unfold recs at h2
    rw [h2]
    simp [hr]

theorem made_ok {c i : Int} {l : Bool} {t : ByteArray} (hc0 : 0 ≤ c) (hc8 : c < 8) (hi0 : 0 ≤ i) (hi9 : i < 1000000) (ht : if l then t.data.toList = [] else Dk.parseOk t.data.toList = true) : Dk.recOk (recOf c i l t) = true := by
  have h : Dk.recOk (recOf c i l t) = ((if l then t.data.toList == [] else Dk.parseOk t.data.toList) && decide (0 ≤ c ∧ c < 8) && decide (0 ≤ i ∧ i ≤ 999999)) := rfl
  rw [h, decide_eq_true ⟨hc0, hc8⟩, decide_eq_true (by omega : 0 ≤ i ∧ i ≤ 999999)]
  cases l
  · have ht' : Dk.parseOk t.data.toList = true := ht
    simp [ht']
  · have ht' : t.data.toList = [] := ht
    rw [ht']; rfl

set_option maxRecDepth 100000 in
set_option maxHeartbeats 4000000 in
theorem records_any (a : Option Addr) (n c : Nat) (w : World) (hrow : RawRow w a n) : Calls Try.prog 20 #[.slice a n c] w (RecordsPost w) := by
  obtain ⟨ti, hi, hz0, hz1, hz2⟩ := info_parts info_rec
  have HI : Hid (_ ∧ _ ∧ _ ∧ _) := ⟨hi, hz0, hz1, hz2⟩
  clear hi hz0 hz1 hz2
  have HR : Hid _ := hrow
  have hnM : (n : Int) ≤ 9223372036854775807 := by have := hrow.len; unfold maxLen at this; omega
  clear hrow
  go_enter Try.func20, Try.ntmps20
  go_wp2
  go_loopw [3, 4] (fun v i wr => ∃ (a' : Option Addr) (k c' : Nat) (rs : List RecV), v = .slice a' k c' ∧ i = .int .i64 k ∧ k ≤ n ∧ k ≤ 64 ∧ Hid (MakeAt w wr a' k c' rs)) (fun _ i _ => 64 - (intOf i).toNat)
  case atStart => exact ⟨none, 0, 0, [], rfl, rfl, by omega, by omega, ⟨rfl, by simp, World.ownsRow_nil _ _ _ _, Below.refl _ _, rfl⟩⟩
  case round =>
    obtain ⟨a', k, c', rs, rfl, rfl, hk, hk64, HM⟩ := hrel
    by_cases hlt : k < n ∧ k < 64
    · obtain ⟨hkn, hk6⟩ := hlt
      have hknI : (k : Int) < (n : Int) := by omega
      have hk6I : (k : Int) < 64 := by omega
      have hk0I : (0 : Int) ≤ (k : Int) := by omega
      obtain ⟨g, off, rfl, hg, hcell⟩ : ∃ g off, a = some ⟨g, off, none⟩ ∧ g < w.heap.size ∧ _ := (HR.out.cells).resolve_left (by omega)
      obtain ⟨x0, x1, x2, x3, ⟨d0, d1, d2, d3⟩, ⟨l0, u0⟩, ⟨l1, u1⟩, ⟨l2, u2⟩, ⟨l3, u3⟩⟩ := hcell k hkn
      clear hcell
      have e0 := (HM.out.bel.cell (p := ⟨g, off + k * 4, none⟩) hg).trans d0
      have e1 := (HM.out.bel.cell (p := ⟨g, off + k * 4 + 1, none⟩) hg).trans d1
      have e2 := (HM.out.bel.cell (p := ⟨g, off + k * 4 + 2, none⟩) hg).trans d2
      have e3 := (HM.out.bel.cell (p := ⟨g, off + k * 4 + 3, none⟩) hg).trans d3
      have hgr : g < wr.heap.size := Nat.lt_of_lt_of_le hg HM.out.bel.size
      clear d0 d1 d2 d3
      go_wp2
      go_region_held3 (fun W => Below wr.heap.size wr W ∧ (∀ b x, b < wr.heap.size → W.cell? ⟨b, x, none⟩ = wr.cell? ⟨b, x, none⟩))
        (first | (with_reducible exact doS_0) | (with_reducible exact doS_1) | (with_reducible exact doS_2 ‹_›) | (with_reducible exact doS_3 ‹_›))
        (first | (go_at_call_of 22 (Value.int IntKind.i64 8); refine (pick_any x0 8 _ l0 u0 (by omega) (by omega)).mono ?_; rintro e w1 ⟨r0, rfl, p0, q0, rfl⟩) | (go_at_call_of 22 (Value.int IntKind.i64 1000000); refine (pick_any x1 1000000 _ l1 u1 (by omega) (by omega)).mono ?_; rintro e w1 ⟨r1, rfl, p1, q1, rfl⟩))
      all_goals
        clear e0 e1 e3
        have HX : Hid ((wr.alloc (.cells #[.int .i64 r0, .int .i64 r1, .bool (x3.tmod 2 != 0), .string ⟨#[]⟩] 49)).drew.heap[wr.heap.size]? = some (.cells #[.int .i64 r0, .int .i64 r1, .bool (x3.tmod 2 != 0), .string ⟨#[]⟩] 49) ∧ Below wr.heap.size wr (wr.alloc (.cells #[.int .i64 r0, .int .i64 r1, .bool (x3.tmod 2 != 0), .string ⟨#[]⟩] 49)).drew) :=
          ⟨heap_at rfl, ((Below.refl _ _).alloc (Nat.le_refl _) _).drew⟩
        generalize (wr.alloc (.cells #[.int .i64 r0, .int .i64 r1, .bool (x3.tmod 2 != 0), .string ⟨#[]⟩] 49)).drew = W2 at *
        have e4 := (HX.out.2.cell (p := ⟨g, off + k * 4 + 2, none⟩) hgr).trans e2
        have hgW : g < W2.heap.size := Nat.lt_of_lt_of_le hgr HX.out.2.size
        have HBX : Hid (Below w.heap.size w W2) := HM.out.bel.trans (HX.out.2.mono HM.out.bel.size)
        have hzr : w.heap.size ≤ wr.heap.size := HM.out.bel.size
        generalize hgx : wr.heap.size = gx at *
        generalize (x3.tmod 2 != 0) = b at *
        clear e2
        obtain ⟨c0, f0, z0⟩ := heap_cells HX.out.1
        cases b
        · go_wp2_with fail
          refine (texts_any x2 _ l2 u2).mono ?_
          rintro e w4 ⟨t, rfl, hpt, hB4⟩
          obtain ⟨c4, f4, z4⟩ := heap_cells ((hB4.block gx z0).trans HX.out.1)
          have HBs : Hid (Below gx wr (w4.setCell ⟨gx, 3, none⟩ (.string t))) := (HX.out.2.trans (hB4.mono (Nat.le_of_lt z0))).setCell (Nat.le_refl _) _
          have HO : Hid ((w4.setCell ⟨gx, 3, none⟩ (.string t)).ownsRow w.heap.size 49 4 (.slice a' k c') k (recsCells rs)) := own_below HM.out.own (by rw [hgx]; exact HBs.out)
          have HBw : Hid (Below w.heap.size w (w4.setCell ⟨gx, 3, none⟩ (.string t))) := HM.out.bel.trans (HBs.out.mono (by rw [← hgx]; exact HM.out.bel.size))
          have hz4 : w.heap.size ≤ w4.heap.size := Nat.le_trans HBX.out.size hB4.size
          have hzw : w.heap.size ≤ (w4.setCell ⟨gx, 3, none⟩ (.string t)).heap.size := by simp [World.setCell]; exact hz4
          have HOk : Hid (Dk.recOk (⟨r0, r1, false, t⟩ : RecV).told = true) := made_ok p0 q0 p1 q1 hpt
          have HSz : Hid (t.size ≤ maxLen) := by
            show _ ≤ _
            have := parse_len hpt
            rw [len_list] at this
            unfold maxLen; omega
          clear hB4 hpt c0 f0
          go_wp2_with (at_builtin; refine wpList_append_own _ rfl (.tmp 46) (.tmp 48) 34 rfl w.heap.size 49 ti (.agg #[.int .i64 0, .int .i64 0, .bool false, .string ⟨#[]⟩]) 4 40 Try.underlying34 HI.out.1 HI.out.2.1 HI.out.2.2.1 HI.out.2.2.2 rfl (by decide) (.slice a' k c') k (recsCells rs) rfl (HO.out.alloc _) ⟨w4.heap.size, 0, none⟩ 1 1 [.int .i64 r0, .int .i64 r1, .bool false, .string t] rfl rfl ?c1 ?c2 ?c3 ?c4 ?c5 ?_)
          case c1 => exact cells_new _ _ (by simp) [.int .i64 r0, .int .i64 r1, .bool false, .string t] _
          case c2 => intro u hu; simp at hu; rcases hu with rfl | rfl | rfl | rfl <;> rfl
          case c3 => unfold maxLen; omega
          case c4 => omega
          case c5 => simp; omega
          intro v' w3 hown hgr2 _
          have HW : Hid (Below w.heap.size w w3) := (HBw.out.alloc hzw _).grown hgr2 (by simp; omega) (fun k hk => (HO.out.lt k hk).1)
          obtain ⟨a2, c2, rfl⟩ : ∃ a' c', v' = .slice a' (k + 1) c' := by
            rcases hown.2 with ⟨_, h⟩ | ⟨g, cap, _, h, _⟩
            · omega
            · exact ⟨_, _, h⟩
          have HN : Hid _ := HM.out.step (rv := ⟨r0, r1, false, t⟩) HOk.out HSz.out HW.out hown
          clear hown hgr2 c4 f4
          go_wp2
          go_roundw
          case rel => exact ⟨a2, k + 1, c2, _, rfl, by go_num, by omega, by omega, HN⟩
          case measure => simp [intOf]; omega
        · have HO : Hid (W2.ownsRow w.heap.size 49 4 (.slice a' k c') k (recsCells rs)) := own_below HM.out.own (by rw [hgx]; exact HX.out.2)
          have HBw : Hid _ := HBX
          have hzw : w.heap.size ≤ W2.heap.size := HBX.out.size
          have HOk : Hid (Dk.recOk (⟨r0, r1, true, ⟨#[]⟩⟩ : RecV).told = true) := made_ok p0 q0 p1 q1 rfl
          have HSz : Hid ((⟨#[]⟩ : ByteArray).size ≤ maxLen) := Nat.zero_le _
          go_wp2_with (at_builtin; refine wpList_append_own _ rfl (.tmp 46) (.tmp 48) 34 rfl w.heap.size 49 ti (.agg #[.int .i64 0, .int .i64 0, .bool false, .string ⟨#[]⟩]) 4 40 Try.underlying34 HI.out.1 HI.out.2.1 HI.out.2.2.1 HI.out.2.2.2 rfl (by decide) (.slice a' k c') k (recsCells rs) rfl (HO.out.alloc _) ⟨W2.heap.size, 0, none⟩ 1 1 [.int .i64 r0, .int .i64 r1, .bool true, .string ⟨#[]⟩] rfl rfl ?c1 ?c2 ?c3 ?c4 ?c5 ?_)
          case c1 => exact cells_new _ _ rfl [.int .i64 r0, .int .i64 r1, .bool true, .string ⟨#[]⟩] _
          case c2 => intro u hu; simp at hu; rcases hu with rfl | rfl | rfl | rfl <;> rfl
          case c3 => unfold maxLen; omega
          case c4 => omega
          case c5 => simp; omega
          intro v' w3 hown hgr2 _
          have HW : Hid (Below w.heap.size w w3) := (HBw.out.alloc hzw _).grown hgr2 (by simp; omega) (fun k hk => (HO.out.lt k hk).1)
          obtain ⟨a2, c2, rfl⟩ : ∃ a' c', v' = .slice a' (k + 1) c' := by
            rcases hown.2 with ⟨_, h⟩ | ⟨g, cap, _, h, _⟩
            · omega
            · exact ⟨_, _, h⟩
          have HN : Hid _ := HM.out.step (rv := ⟨r0, r1, true, ⟨#[]⟩⟩) HOk.out HSz.out HW.out hown
          clear hown hgr2 c0 f0
          go_wp2
          go_roundw
          case rel => exact ⟨a2, k + 1, c2, _, rfl, by go_num, by omega, by omega, HN⟩
          case measure => simp [intOf]; omega
    · by_cases hkn : k < n
      · have hknI : (k : Int) < (n : Int) := by omega
        have hk6I : (64 : Int) ≤ (k : Int) := by omega
        go_wp2
        go_ret
        exact ⟨a', k, c', rs, rfl, hk64, recrow_own HM.out.own HM.out.len HM.out.small, HM.out.ok, HM.out.bel⟩
      · have hknI : (n : Int) ≤ (k : Int) := by omega
        go_wp2
        go_ret
        exact ⟨a', k, c', rs, rfl, hk64, recrow_own HM.out.own HM.out.len HM.out.small, HM.out.ok, HM.out.bel⟩

end Go.Proofs.Ytccckonckddadaa
