import Derived.Test.YtccckonckddadaaWalkU2
namespace Go.Proofs.Ytccckonckddadaa
open Go.RowKit
set_option linter.unusedVariables false

/-! ### dry -/
/-- The lists that are held: each a row of so many records, all of them its mark. -/
def heldCells (L : Nat) (hs : List (Nat × Int)) : List Value := hs.flatMap fun x => [.slice (some ⟨x.1, 0, none⟩) L L, .int .i64 x.2]
theorem heldCells_at (L : Nat) : ∀ (hs : List (Nat × Int)) (k : Nat) (x : Nat × Int), hs[k]? = some x → (heldCells L hs)[k * 2]? = some (.slice (some ⟨x.1, 0, none⟩) L L) ∧ (heldCells L hs)[k * 2 + 1]? = some (.int .i64 x.2)
  | [], k, x, h => by simp at h
  | y :: hs, 0, x, h => by
    have : y = x := by simpa using h
    subst this
    exact ⟨rfl, rfl⟩
  | y :: hs, k + 1, x, h => by
    have ih := heldCells_at L hs k x (by simpa using h)
    have e : heldCells L (y :: hs) = .slice (some ⟨y.1, 0, none⟩) L L :: .int .i64 y.2 :: heldCells L hs := rfl
    rw [e, show (k + 1) * 2 = k * 2 + 2 from by omega, show k * 2 + 2 + 1 = k * 2 + 1 + 2 from by omega]
    exact ih
theorem held_row {w : World} {B n c L : Nat} {a : Option Addr} {hs : List (Nat × Int)} (h : w.ownsRow B 103 2 (.slice a n c) n (heldCells L hs)) {k : Nat} {x : Nat × Int} (hx : hs[k]? = some x) (hk : k < n) :
    ∃ g, a = some ⟨g, 0, none⟩ ∧ g < w.heap.size ∧ w.cell? ⟨g, k * 2, none⟩ = some (.slice (some ⟨x.1, 0, none⟩) L L) ∧ w.cell? ⟨g, k * 2 + 1, none⟩ = some (.int .i64 x.2) := by
  rcases h.2 with ⟨_, h0⟩ | ⟨g, cap, cur, hv, _, hg, _, _, hcs, ht⟩
  · omega
  · obtain ⟨rfl, _⟩ : a = some ⟨g, 0, none⟩ ∧ c = cap := by simpa using hv
    obtain ⟨h1, h2⟩ := heldCells_at L hs k x hx
    refine ⟨g, rfl, (heap_cells hg).2.2, ?_, ?_⟩
    · rw [(heap_cells hg).1, ← h1, ← ht, ← Array.getElem?_toList, List.getElem?_take_of_lt (by omega)]
    · rw [(heap_cells hg).1, ← h2, ← ht, ← Array.getElem?_toList, List.getElem?_take_of_lt (by omega)]

set_option maxRecDepth 100000 in
set_option maxHeartbeats 4000000 in
theorem dry_any (gh B n c L : Nat) (a : Option Addr) (hs : List (Nat × Int)) (w : World) (hgh : w.heap[gh]? = some (.cells #[.slice a n c] 38)) (hown : w.ownsRow B 103 2 (.slice a n c) n (heldCells L hs)) (hn : hs.length = n) (hn5 : n ≤ 100) (hL : L ≤ 9223372036854775807)
    (hall : ∀ x ∈ hs, AllAt w x.1 (List.replicate L (mark x.2)) ∧ 0 ≤ x.2 ∧ x.2 < 1000) :
    Calls Try.prog 18 #[.pointer (some ⟨gh, 0, none⟩)] w fun e w' => e = .returned (.bool true) ∧ Below w.heap.size w w' := by
  have HG : Hid (_ ∧ _ ∧ _) := ⟨hgh, hown, hall⟩
  have zh := (heap_cells hgh).2.2
  clear hgh hown hall
  have heq := equal_rec
  have hgd := guard_rec
  go_enter Try.func18, Try.ntmps18
  go_wp2
  go_loopw [3] (fun i wr => ∃ (j : Nat), j ≤ n ∧ i = .int .i64 j ∧ Hid (Below w.heap.size w wr)) (fun i _ => n - (intOf i).toNat)
  case atStart => exact ⟨0, by omega, rfl, Below.refl _ _⟩
  case round =>
    obtain ⟨j, hj, rfl, HB⟩ := hrel
    obtain ⟨ch, fh, zhr⟩ := heap_cells ((HB.out.block gh zh).trans HG.out.1)
    by_cases hlt : j < n
    · have hjl : j < hs.length := by omega
      obtain ⟨g, rfl, hg, d0, d1⟩ := held_row HG.out.2.1 (List.getElem?_eq_getElem hjl) hlt
      obtain ⟨hA, hx0, hx1⟩ := HG.out.2.2 hs[j] (List.getElem_mem hjl)
      generalize hs[j] = x at d0 d1 hA hx0 hx1
      obtain ⟨G, N⟩ := x
      simp only at d0 d1 hA hx0 hx1
      have e0 := (HB.out.cell (p := ⟨g, j * 2, none⟩) hg).trans d0
      have e1 := (HB.out.cell (p := ⟨g, j * 2 + 1, none⟩) hg).trans d1
      have hgr : g < wr.heap.size := Nat.lt_of_lt_of_le hg HB.out.size
      have HA : Hid _ := hA
      have HAr : Hid (AllAt wr G (List.replicate L (mark N))) := hA.kept HB.out
      have hwz : w.heap.size ≤ wr.heap.size := HB.out.size
      clear d0 d1 hA
      go_wp2
      have HX : Hid (AllAt (wr.alloc (.cells #[.slice (some ⟨G, 0, none⟩) L L, .int .i64 N] 103)) G (List.replicate L (mark N)) ∧ (wr.alloc (.cells #[.slice (some ⟨G, 0, none⟩) L L, .int .i64 N] 103)).heap[wr.heap.size]? = some (.cells #[.slice (some ⟨G, 0, none⟩) L L, .int .i64 N] 103) ∧ Below w.heap.size w (wr.alloc (.cells #[.slice (some ⟨G, 0, none⟩) L L, .int .i64 N] 103))) :=
        ⟨HAr.out.kept ((Below.refl _ _).alloc (Nat.le_refl _) _), heap_at rfl, HB.out.alloc hwz _⟩
      clear e0 e1 HAr HA ch fh zhr HB
      generalize wr.alloc (.cells #[.slice (some ⟨G, 0, none⟩) L L, .int .i64 N] 103) = W1 at *
      generalize wr.heap.size = gx at *
      go_loopw [5] (fun i wr2 => ∃ (q : Nat), q ≤ L ∧ i = .int .i64 q ∧ Hid (AllAt wr2 G (List.replicate L (mark N)) ∧ wr2.heap[gx]? = some (.cells #[.slice (some ⟨G, 0, none⟩) L L, .int .i64 N] 103) ∧ Below w.heap.size w wr2)) (fun i _ => L - (intOf i).toNat)
      case atStart => exact ⟨0, by omega, rfl, HX⟩
      case round =>
        obtain ⟨q, hq, rfl, HR⟩ := hrel
        obtain ⟨cx, fx, zx⟩ := heap_cells HR.out.2.1
        by_cases hql : q < L
        · obtain ⟨c0, c1, c2, c3⟩ := HR.out.1.cell (k := q) (r := mark N) (by rw [List.getElem?_replicate, if_pos hql])
          simp only [mark] at c0 c1 c2 c3
          have hzG := (heap_cells HR.out.1).2.2
          have hqI : (q : Int) < (L : Int) := by omega
          have hq0 : (0 : Int) ≤ (q : Int) := by omega
          go_wp2
          go_region_held3 (fun W => Below wr.heap.size wr W ∧ (∀ b x, b < wr.heap.size → W.cell? ⟨b, x, none⟩ = wr.cell? ⟨b, x, none⟩))
            (first | (with_reducible exact doS_0) | (with_reducible exact doS_2 ‹_›))
            (first | (go_at_call 42; refine (marked_any N _ hx0 (by omega)).mono ?_; rintro e w9 ⟨rfl, hB9⟩))
          have hB10 := (doS_2 hB9).1
          have HN : Hid (AllAt w9 G (List.replicate L (mark N)) ∧ w9.heap[gx]? = some (.cells #[.slice (some ⟨G, 0, none⟩) L L, .int .i64 N] 103) ∧ Below w.heap.size w w9) :=
            ⟨HR.out.1.kept hB10, (hB10.block gx zx).trans HR.out.2.1, HR.out.2.2.trans (hB10.mono HR.out.2.2.size)⟩
          clear hB9 hB10 c0 c1 c2 c3 cx fx
          go_wp2
          go_roundw
          case rel => exact ⟨q + 1, by omega, by go_num, HN⟩
          case measure => simp [intOf]; omega
        · have hqL : q = L := by omega
          subst hqL
          have HB : Hid _ := HR.out.2.2
          go_wp2
          go_roundw
          case rel => exact ⟨j + 1, by omega, by go_num, HB⟩
          case measure => simp [intOf]; omega
    · have hjn : j = n := by omega
      subst hjn
      go_wp2
      go_ret
      exact ⟨rfl, HB.out⟩

/-! ### Framed -/
theorem fr_next {gh k m Bs cL B : Nat} {aL : Option Addr} {xs : List Value} {w w' w0 : World} {e : Ending} (h : FrPost gh k m Bs aL cL xs w e w') (hgh : w.heap[gh]? = some (.cells #[.slice aL k cL] 38))
    (hown : w.ownsRow Bs 103 2 (.slice aL k cL) k xs) (hB : Below B w0 w) (hBg : B ≤ gh) (hgB : gh < Bs) :
    ∃ G g cap, e = .returned (.bool true) ∧ w'.heap[gh]? = some (.cells #[.slice (some ⟨g, 0, none⟩) (k + 1) cap] 38) ∧ w'.ownsRow Bs 103 2 (.slice (some ⟨g, 0, none⟩) (k + 1) cap) (k + 1) (xs ++ [.slice (some ⟨G, 0, none⟩) (m + 2) (m + 2), .int .i64 ((k : Int) + 2)]) ∧
      AllAt w' G (List.replicate (m + 2) (mark ((k : Int) + 2))) ∧ w.heap.size ≤ G ∧ G < w'.heap.size ∧ g ≠ G ∧ Below B w0 w' ∧ (∀ b, b < w.heap.size → b ≠ gh → (Value.slice aL k cL).ownBlock ≠ some b → w'.heap[b]? = w.heap[b]?) := by
  obtain ⟨G, g, cap, wX, wY, rfl, hbX, hG1, hG2, hA, hgr, ho, hat, rfl⟩ := h
  have hzg := (heap_cells hgh).2.2
  have hrow : ∀ b, (Value.slice aL k cL).ownBlock = some b → Bs ≤ b ∧ b < w.heap.size := hown.lt
  have hsz := hbX.size
  have hz : ∀ v, (wY.setCell ⟨gh, 0, none⟩ v).heap.size = wY.heap.size := fun v => by simp [World.setCell]
  have hneG : gh ≠ G := by omega
  have hY : ∀ b, b < w.heap.size → (Value.slice aL k cL).ownBlock ≠ some b → wY.heap[b]? = w.heap[b]? := fun b hb hne => (hgr.block b (by omega) (fun h => hne h.symm)).trans (hbX.block b hb)
  have hgY : wY.heap[gh]? = some (.cells #[.slice aL k cL] 38) := (hY gh hzg (fun h => by have := (hrow gh h).1; omega)).trans hgh
  refine ⟨G, g, cap, rfl, ?_, ?_, ?_, hG1, ?_, ?_, ?_, ?_⟩
  · rw [heap_set hgY]; rfl
  · exact ownsRow_setCell_below ho (a := ⟨gh, 0, none⟩) hgB _
  · show (wY.setCell ⟨gh, 0, none⟩ _).heap[G]? = _
    rw [Below.heap_setCell _ _ _ _ (by exact fun h => hneG h.symm)]
    exact (hgr.block G hG2 (fun h => by have := (hrow G h.symm).2; omega)).trans hA
  · rw [hz]; have := hgr.size; omega
  · rcases hat with h | h
    · have := (hrow g h).2; omega
    · omega
  · refine Below.setCell ?_ hBg _
    refine Below.grown (hB.trans (hbX.mono (by omega))) hgr ?_ ?_
    · omega
    · intro b hb; have := (hrow b hb).1; omega
  · intro b hb hne hno
    rw [Below.heap_setCell _ _ _ _ (by exact hne)]
    exact hY b hb hno

set_option maxRecDepth 100000 in
set_option maxHeartbeats 1000000 in
theorem framed_walk (n : Int) (a : Option Addr) (m c : Nat) (rs : List RecV) (w : World) (hrow : RecRow w a m rs) (hm : 40 * (m + 2) ≤ 281474976710656) :
    Calls Try.prog 6 #[.int .i64 n, .slice a m c] w fun e w' => e = .returned (.bool true) ∧ Below w.heap.size w w' := by
  have HR : Hid _ := hrow
  clear hrow
  go_enter Try.func6, Try.ntmps6
  go_wp2_with fail
  have hb1 : Below w.heap.size w (w.alloc (.cells #[.slice none 0 0] 38)) := (Below.refl _ _).alloc (Nat.le_refl _) _
  have hg1 : (w.alloc (.cells #[.slice none 0 0] 38)).heap[w.heap.size]? = some (.cells #[.slice none 0 0] 38) := heap_at rfl
  have hz1 : (w.alloc (.cells #[.slice none 0 0] 38)).heap.size = w.heap.size + 1 := by simp
  have ho1 : (w.alloc (.cells #[.slice none 0 0] 38)).ownsRow (w.heap.size + 1) 103 2 (.slice none 0 0) 0 [] := World.ownsRow_nil _ _ _ _
  refine (lawframe_any w.heap.size 0 (w.heap.size + 1) 0 none [] n a m c rs _ hg1 (by omega) ho1 (by omega) (by omega) (HR.out.kept hb1) hm).mono ?_
  rintro e w2 hp
  obtain ⟨G1, g1, cap1, rfl, hg2, ho2, hA1, hG1, hG1', hne1, hb2, _⟩ := fr_next hp hg1 ho1 hb1 (Nat.le_refl _) (by omega)
  have H2 : Hid (_ ∧ _ ∧ _ ∧ _) := ⟨hg2, ho2, hA1, hb2⟩
  clear hp hb1 hg1 ho1 hg2 ho2 hA1 hb2
  rw [hz1] at hG1
  go_wp2_with fail
  refine (lawframe_any w.heap.size (0 + 1) (w.heap.size + 1) cap1 (some ⟨g1, 0, none⟩) _ n a m c rs _ H2.out.1 (by omega) H2.out.2.1 (by omega) (by omega) (HR.out.kept H2.out.2.2.2) hm).mono ?_
  rintro e w3 hp
  obtain ⟨G2, g2, cap2, rfl, hg3, ho3, hA2, hG2, hG2', hne2, hb3, hkeep⟩ := fr_next hp H2.out.1 H2.out.2.1 H2.out.2.2.2 (Nat.le_refl _) (by omega)
  have hA1' : AllAt w3 G1 (List.replicate (m + 2) (mark 2)) := by
    have := (hkeep G1 hG1' (by omega) (fun h => hne1 (by simpa [Value.ownBlock] using h))).trans H2.out.2.2.1
    exact this
  have H3 : Hid (_ ∧ _ ∧ _ ∧ _ ∧ _) := ⟨hg3, ho3, hA2, hA1', hb3⟩
  clear hp hg3 ho3 hA2 hA1' hb3 hkeep H2
  go_wp2_with fail
  refine (dry_any w.heap.size (w.heap.size + 1) 2 cap2 (m + 2) (some ⟨g2, 0, none⟩) [(G1, 2), (G2, 3)] _ H3.out.1 H3.out.2.1 rfl (by omega) (by omega) ?_).mono ?_
  · intro x hx
    simp only [List.mem_cons, List.not_mem_nil, or_false] at hx
    rcases hx with rfl | rfl
    · exact ⟨H3.out.2.2.2.1, by show (0 : Int) ≤ 2; decide, by show (2 : Int) < 1000; decide⟩
    · exact ⟨H3.out.2.2.1, by show (0 : Int) ≤ 3; decide, by show (3 : Int) < 1000; decide⟩
  rintro e w4 ⟨rfl, hb4⟩
  have HB : Hid (Below w.heap.size w w4) := H3.out.2.2.2.2.trans (hb4.mono H3.out.2.2.2.2.size)
  clear hb4 H3
  go_wp2
  go_ret
  exact ⟨rfl, HB.out⟩

end Go.Proofs.Ytccckonckddadaa
