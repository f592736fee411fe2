import Derived.Test.YtccckonckddadabGreatJ27
import Derived.Test.YtccckonckddadabGreatJ18
import Derived.Deep.AppendLies
namespace Go.Proofs.YtccckonckddadabGreat
open Go.RowKit
set_option linter.unusedVariables false

theorem info_held : (Tryz.prog.info? 53).map (fun i => (i.zero, i.size, i.bytes)) = some (some (.agg #[.slice none 0 0, .int .i64 0]), 2, 32) := by kernel_rfl

theorem all_of_own {w : World} {B g n : Nat} {rs : List RecV} (h : w.ownsRow B 55 4 (.slice (some ⟨g, 0, none⟩) n n) n (recsCells rs)) (hn : 0 < n) : AllAt w g rs := by
  rcases h.2 with ⟨hx, _⟩ | ⟨g', cap, cur, hv, _, hg, _, _, hcs, ht⟩
  · cases hx
  · obtain ⟨rfl, rfl⟩ : g = g' ∧ n = cap := by simpa using hv
    unfold AllAt
    rw [hg]
    have : cur.toList = recsCells rs := by rw [← ht, List.take_of_length_le (by rw [Array.length_toList, hcs]; exact Nat.le_refl _)]
    rw [← this]

theorem set_mark (rs : List RecV) (a b : Nat) (x z : RecV) : (rs ++ (List.replicate a x ++ List.replicate (b + 1) z)).set (rs.length + a) x = rs ++ (List.replicate (a + 1) x ++ List.replicate b z) := by
  rw [List.set_append_right _ _ (by omega), show rs.length + a - rs.length = a from by omega, List.set_append_right _ _ (by rw [List.length_replicate]; exact Nat.le_refl _), List.length_replicate, Nat.sub_self, List.replicate_succ (n := b), List.set_cons_zero, List.replicate_succ', List.append_assoc]
  rfl

def FrPost (gh k m Bs : Nat) (aL : Option Addr) (cL : Nat) (xs : List Value) (w : World) (e : Ending) (w' : World) : Prop :=
  ∃ (G g cap : Nat) (wX wY : World), e = .returned (.bool true) ∧ Below w.heap.size w wX ∧ w.heap.size ≤ G ∧ G < wX.heap.size ∧ AllAt wX G (List.replicate (m + 2) (mark ((k : Int) + 2))) ∧ wX.grownBy wY (Value.slice aL k cL).ownBlock ∧
    wY.ownsRow Bs 53 2 (.slice (some ⟨g, 0, none⟩) (k + 1) cap) (k + 1) (xs ++ [.slice (some ⟨G, 0, none⟩) (m + 2) (m + 2), .int .i64 ((k : Int) + 2)]) ∧
    ((Value.slice aL k cL).ownBlock = some g ∨ g = wX.heap.size) ∧ w' = wY.setCell ⟨gh, 0, none⟩ (.slice (some ⟨g, 0, none⟩) (k + 1) cap)

set_option maxRecDepth 100000 in
set_option maxHeartbeats 4000000 in
theorem lawframe_any (gh k Bs cL : Nat) (aL : Option Addr) (xs : List Value) (n : Int) (a : Option Addr) (m c : Nat) (rs : List RecV) (w : World)
    (hgh : w.heap[gh]? = some (.cells #[.slice aL k cL] 30)) (hk : k ≤ 5) (hown : w.ownsRow Bs 53 2 (.slice aL k cL) k xs) (hBs : Bs ≤ w.heap.size) (hgB : gh < Bs) (hrow : RecRow w a m rs) (hm : 40 * (m + 2) ≤ 281474976710656) :
    Calls Tryz.prog 10 #[.pointer (some ⟨gh, 0, none⟩), .int .i64 n, .slice a m c] w (FrPost gh k m Bs aL cL xs w) := by
  obtain ⟨ti, hi, hz0, hz1, hz2⟩ := info_parts info_rec
  have HI : Hid (_ ∧ _ ∧ _ ∧ _) := ⟨hi, hz0, hz1, hz2⟩
  clear hi hz0 hz1 hz2
  obtain ⟨th, hi, hz0, hz1, hz2⟩ := info_parts info_held
  have HH : Hid (_ ∧ _ ∧ _ ∧ _) := ⟨hi, hz0, hz1, hz2⟩
  clear hi hz0 hz1 hz2
  have HG : Hid (_ ∧ _ ∧ _) := ⟨hgh, hown, hrow⟩
  have hzh := (heap_cells hgh).2.2
  clear hgh hown hrow
  go_enter Tryz.func10, Tryz.ntmps10
  go_wp2_with (refine wpList_make_full _ rfl (.tmp 20) (.tmp 20) 38 rfl w.heap.size 55 ti (.agg #[.int .i64 0, .int .i64 0, .bool false, .string ⟨#[]⟩]) 4 Tryz.underlying38 HI.out.1 HI.out.2.1 HI.out.2.2.1 .i64 .i64 ((m : Int) + 2) ((m : Int) + 2) (m + 2) rfl rfl (by omega) (by omega) ?c1 ?c2 ?c3 ?_)
  case c1 => rw [HI.out.2.2.2]; exact hm
  case c2 => unfold maxLen; omega
  case c3 => exact Nat.le_refl _
  intro w1 hown1 hgr1
  have HA1 : Hid (AllAt w1 w.heap.size (List.replicate (m + 2) zeroRec)) := by
    refine all_of_own (B := w.heap.size) (n := m + 2) ?_ (by omega)
    rw [← made_rec]
    exact hown1
  have HB1 : Hid (Below w.heap.size w w1) := (Below.refl _ _).grown hgr1 (Nat.le_refl _) (by simp)
  have HR1 : Hid (RecRow w1 a m rs) := HG.out.2.2.kept HB1.out
  clear hown1 hgr1
  go_wp2_with (refine wpList_copy_recs rfl (.tmp 22) (.tmp 23) rfl w.heap.size m c a rs rfl rfl HR1.out HA1.out w.heap.size w HB1.out (Nat.le_refl _) ?_)
  intro w2 HA2 HB2 HZ2
  have hlen : rs.length = m := HG.out.2.2.len
  obtain ⟨G, hG⟩ : ∃ G, G = w.heap.size := ⟨_, rfl⟩
  rewrite [← hG]
  rw [← hG] at HA2
  have HA2' : Hid (AllAt w2 G (rs ++ (List.replicate (m - m) (mark 1) ++ List.replicate (m + 2 - m) zeroRec))) := by
    have := HA2.out
    rw [Nat.sub_self, show m + 2 - m = 2 from by omega]
    exact this
  have hml : (m : Int) + 2 < 9223372036854775807 := by omega
  have hgG : gh < G := by rw [hG]; exact hzh
  have HGz : Hid (G = w.heap.size) := hG
  clear hG hzh hm
  clear HA1 HB1 HR1 HZ2 HA2
  go_wp2
  go_loopw [8] (fun i wr => ∃ (j : Nat), m ≤ j ∧ j ≤ m + 2 ∧ i = .int .i64 j ∧ Hid (AllAt wr G (rs ++ (List.replicate (j - m) (mark 1) ++ List.replicate (m + 2 - j) zeroRec))) ∧ Hid (Below w.heap.size w wr)) (fun i _ => m + 2 - (intOf i).toNat)
  case atStart => exact ⟨m, Nat.le_refl _, by omega, rfl, HA2', HB2⟩
  case round =>
    obtain ⟨j, hj, hj2, rfl, HA, HB⟩ := hrel
    by_cases hlt : j < m + 2
    · have hltI : (j : Int) < (m : Int) + 2 := by omega
      go_wp2_with fail
      refine (marked_any 1 _ (by omega) (by omega)).mono ?_
      rintro e w3 ⟨rfl, hB3⟩
      have HA3 : Hid (AllAt w3 G (rs ++ (List.replicate (j - m) (mark 1) ++ List.replicate (m + 2 - j) zeroRec))) := HA.out.kept hB3
      have HB3 : Hid (Below w.heap.size w w3) := HB.out.trans (hB3.mono HB.out.size)
      have hll : j < (rs ++ (List.replicate (j - m) (mark 1) ++ List.replicate (m + 2 - j) zeroRec)).length := by
        simp only [List.length_append, List.length_replicate]; omega
      obtain ⟨c0, c1, c2, c3⟩ := HA3.out.cell (List.getElem?_eq_getElem hll)
      have fz := (heap_cells HA3.out).2.1
      have hz3 := (heap_cells HA3.out).2.2
      have HA4 : Hid _ := HA3.out.put hll (mark 1)
      have HE : Hid ((rs ++ (List.replicate (j - m) (mark 1) ++ List.replicate (m + 2 - j) zeroRec)).set j (mark 1) = rs ++ (List.replicate (j + 1 - m) (mark 1) ++ List.replicate (m + 2 - (j + 1)) zeroRec)) := by
        show _ = _
        have := set_mark rs (j - m) (m + 2 - (j + 1)) (mark 1) zeroRec
        rw [hlen, show m + (j - m) = j from by omega, show m + 2 - (j + 1) + 1 = m + 2 - j from by omega, show j - m + 1 = j + 1 - m from by omega] at this
        exact this
      clear hB3 HA HB
      generalize (rs ++ (List.replicate (j - m) (mark 1) ++ List.replicate (m + 2 - j) zeroRec))[j] = old at c0 c1 c2 c3
      clear hll
      go_wp2
      go_roundw
      case rel =>
        refine ⟨j + 1, by omega, by omega, by go_num, ?_, ?_⟩
        · have := HA4.out
          rw [HE.out] at this
          exact this
        · exact put_below HB3.out (by rw [HGz.out]; exact Nat.le_refl _) j _ _ _ _
      case measure => simp [intOf]; omega
    · have hjm : j = m + 2 := by omega
      subst hjm
      have HA1 : Hid (AllAt wr G (rs ++ List.replicate 2 (mark 1))) := by
        have := HA.out
        rw [show m + 2 - m = 2 from by omega, show m + 2 - (m + 2) = 0 from by omega] at this
        rw [List.replicate_zero, List.append_nil] at this
        exact this
      have HSm : Hid (∀ r ∈ rs ++ List.replicate 2 (mark 1), r.t.size ≤ maxLen) := by
        intro r hr
        rcases List.mem_append.1 hr with hr | hr
        · exact HG.out.2.2.small r hr
        · rw [(List.mem_replicate.1 hr).2]
          show (⟨#[109, 97, 114, 107]⟩ : ByteArray).size ≤ maxLen
          unfold maxLen; decide
      have HR1 : Hid (RecRow wr (some ⟨G, 0, none⟩) m rs) := by
        have := HA1.out.row m (by rw [List.length_append]; omega) HSm.out
        rw [List.take_append_of_le_length (by omega), List.take_of_length_le (by omega)] at this
        exact this
      have hmM : m ≤ maxLen := by unfold maxLen; omega
      clear HA
      go_wp2_with fail
      refine (pframe_any n (some ⟨G, 0, none⟩) m (m + 2) rs _ hmM HR1.out).mono ?_
      rintro e w3 ⟨s1, rfl, hs1, hB3⟩
      have HA3 : Hid (AllAt w3 G (rs ++ List.replicate 2 (mark 1))) := HA1.out.kept hB3
      have HB3 : Hid (Below w.heap.size w w3) := HB.out.trans (hB3.mono HB.out.size)
      have HS1 : Hid _ := hs1
      obtain ⟨er, her⟩ : ∃ er : Int, (if Dk.frameOk n (recs rs) = true then (0 : Int) else 2) = er := ⟨_, rfl⟩
      rewrite [her]
      have HEr : Hid _ := her
      clear her
      clear hB3 HA1 HB HR1 hs1
      go_wp2_with fail
      refine (frame_any n a m c rs _ hmM (HG.out.2.2.kept HB3.out)).mono ?_
      rintro e w4 ⟨s2, rfl, hs2, hB4⟩
      have HA4 : Hid (AllAt w4 G (rs ++ List.replicate 2 (mark 1))) := HA3.out.kept hB4
      have HB4 : Hid (Below w.heap.size w w4) := HB3.out.trans (hB4.mono HB3.out.size)
      obtain rfl : s1 = s2 := by
        obtain ⟨⟨d1⟩⟩ := s1
        obtain ⟨⟨d2⟩⟩ := s2
        have h : d1 = d2 := HS1.out.trans hs2.symm
        rw [h]
      rewrite [HEr.out]
      clear hB4 HA3 HB3 HS1 hs2
      have heq := equal_rec
      have hgd := guard_rec
      go_wp2
      go_loopw [13, 14] (fun v i wr => ∃ (j : Nat), j ≤ m + 2 ∧ v = .bool true ∧ i = .int .i64 j ∧ Hid (AllAt wr G (rs ++ List.replicate 2 (mark 1))) ∧ Hid (Below w.heap.size w wr)) (fun _ i _ => m + 2 - (intOf i).toNat)
      case atStart => exact ⟨0, by omega, rfl, rfl, HA4, HB4⟩
      case round =>
        obtain ⟨j, hj, rfl, rfl, HA, HB⟩ := hrel
        by_cases hlt : j < m + 2
        · have hltI : (j : Int) < (m : Int) + 2 := by omega
          go_wp2_with fail
          refine (marked_any 1 _ (by omega) (by omega)).mono ?_
          rintro e w5 ⟨rfl, hB5⟩
          have HA5 : Hid (AllAt w5 G (rs ++ List.replicate 2 (mark 1))) := HA.out.kept hB5
          have HB5 : Hid (Below w.heap.size w w5) := HB.out.trans (hB5.mono HB.out.size)
          have hz5 := (heap_cells HA5.out).2.2
          clear hB5 HA HB
          by_cases hjm : j < m
          · have hjI : (j : Int) < (m : Int) := by omega
            have hjr : j < rs.length := by omega
            obtain ⟨c0, c1, c2, c3⟩ := HA5.out.cell (k := j) (r := rs[j]) (by rw [List.getElem?_append_left hjr]; exact List.getElem?_eq_getElem hjr)
            obtain ⟨g0, off, rfl, hg0, hcell⟩ : ∃ g off, a = some ⟨g, off, none⟩ ∧ g < w.heap.size ∧ _ := (HG.out.2.2.cells).resolve_left (by omega)
            obtain ⟨d0, d1, d2, d3⟩ := hcell j rs[j] (List.getElem?_eq_getElem hjr)
            clear hcell
            generalize rs[j] = r at c0 c1 c2 c3 d0 d1 d2 d3
            obtain ⟨rc, ri, rl, rt⟩ := r
            simp only at c0 c1 c2 c3 d0 d1 d2 d3
            have e0 := (HB5.out.cell (p := ⟨g0, off + j * 4, none⟩) hg0).trans d0
            have e1 := (HB5.out.cell (p := ⟨g0, off + j * 4 + 1, none⟩) hg0).trans d1
            have e2 := (HB5.out.cell (p := ⟨g0, off + j * 4 + 2, none⟩) hg0).trans d2
            have e3 := (HB5.out.cell (p := ⟨g0, off + j * 4 + 3, none⟩) hg0).trans d3
            have hg5 : g0 < w5.heap.size := Nat.lt_of_lt_of_le hg0 HB5.out.size
            have hwz : w.heap.size ≤ w5.heap.size := HB5.out.size
            clear d0 d1 d2 d3
            go_wp2
            go_quiet (fail)
            have HA6 : Hid (AllAt ((w5.alloc (.cells #[.int .i64 rc, .int .i64 ri, .bool rl, .string rt] 55)).drewN nq) G (rs ++ List.replicate 2 (mark 1))) := HA5.out.kept (below_drewN ((Below.refl _ _).alloc (Nat.le_refl _) _) nq)
            have HB6 : Hid (Below w.heap.size w ((w5.alloc (.cells #[.int .i64 rc, .int .i64 ri, .bool rl, .string rt] 55)).drewN nq)) := below_drewN (HB5.out.alloc hwz _) nq
            clear c0 c1 c2 c3 e0 e1 e2 e3
            generalize (w5.alloc (.cells #[.int .i64 rc, .int .i64 ri, .bool rl, .string rt] 55)).drewN nq = w6 at *
            go_wp2
            go_roundw
            case rel => exact ⟨j + 1, by omega, rfl, by go_num, HA6, HB6⟩
            case measure => simp [intOf]; omega
          · have hjI : ¬ (j : Int) < (m : Int) := by omega
            obtain ⟨c0, c1, c2, c3⟩ := HA5.out.cell (k := j) (r := mark 1) (by rw [List.getElem?_append_right (by omega), List.getElem?_replicate, if_pos (by omega)])
            simp only [mark] at c0 c1 c2 c3
            have hwz : w.heap.size ≤ w5.heap.size := HB5.out.size
            go_wp2
            go_quiet (fail)
            have HA6 : Hid (AllAt ((w5.alloc (.cells #[.int .i64 (-1), .int .i64 1, .bool true, .string ⟨#[109, 97, 114, 107]⟩] 55)).drewN nq) G (rs ++ List.replicate 2 (mark 1))) := HA5.out.kept (below_drewN ((Below.refl _ _).alloc (Nat.le_refl _) _) nq)
            have HB6 : Hid (Below w.heap.size w ((w5.alloc (.cells #[.int .i64 (-1), .int .i64 1, .bool true, .string ⟨#[109, 97, 114, 107]⟩] 55)).drewN nq)) := below_drewN (HB5.out.alloc hwz _) nq
            clear c0 c1 c2 c3
            generalize (w5.alloc (.cells #[.int .i64 (-1), .int .i64 1, .bool true, .string ⟨#[109, 97, 114, 107]⟩] 55)).drewN nq = w6 at *
            go_wp2
            go_roundw
            case rel => exact ⟨j + 1, by omega, rfl, by go_num, HA6, HB6⟩
            case measure => simp [intOf]; omega
        · have hjm : j = m + 2 := by omega
          subst hjm
          rewrite [show ((m + 2 : Nat) : Int) = (m : Int) + 2 from by omega]
          obtain ⟨ch, fh, zh⟩ := heap_cells ((HB.out.block gh (by rw [← HGz.out]; exact hgG)).trans HG.out.1)
          have hk2 : (k : Int) + 2 < 1000 := by omega
          clear heq hgd HA4 HB4 HA2' HB2
          go_wp2
          go_loopw [17] (fun i wr => ∃ (j : Nat), j ≤ m + 2 ∧ i = .int .i64 j ∧ Hid (AllAt wr G (List.replicate j (mark ((k : Int) + 2)) ++ (rs ++ List.replicate 2 (mark 1)).drop j)) ∧ Hid (Below w.heap.size w wr)) (fun i _ => m + 2 - (intOf i).toNat)
          case atStart => exact ⟨0, by omega, rfl, HA, HB⟩
          case round =>
            clear HA HB ch fh zh
            obtain ⟨j, hj, rfl, HA, HB⟩ := hrel
            have hll0 : (List.replicate j (mark ((k : Int) + 2)) ++ (rs ++ List.replicate 2 (mark 1)).drop j).length = m + 2 := by
              simp only [List.length_append, List.length_replicate, List.length_drop]; omega
            by_cases hlt : j < m + 2
            · have hltI : (j : Int) < (m : Int) + 2 := by omega
              go_wp2_with fail
              refine (marked_any ((k : Int) + 2) _ (by omega) (by omega)).mono ?_
              rintro e w5 ⟨rfl, hB5⟩
              have HA5 : Hid (AllAt w5 G (List.replicate j (mark ((k : Int) + 2)) ++ (rs ++ List.replicate 2 (mark 1)).drop j)) := HA.out.kept hB5
              have HB5 : Hid (Below w.heap.size w w5) := HB.out.trans (hB5.mono HB.out.size)
              have hll : j < (List.replicate j (mark ((k : Int) + 2)) ++ (rs ++ List.replicate 2 (mark 1)).drop j).length := by rw [hll0]; exact hlt
              obtain ⟨c0, c1, c2, c3⟩ := HA5.out.cell (List.getElem?_eq_getElem hll)
              have fz := (heap_cells HA5.out).2.1
              have hz5 := (heap_cells HA5.out).2.2
              have HA6 : Hid _ := HA5.out.put hll (mark ((k : Int) + 2))
              have HE : Hid ((List.replicate j (mark ((k : Int) + 2)) ++ (rs ++ List.replicate 2 (mark 1)).drop j).set j (mark ((k : Int) + 2)) = List.replicate (j + 1) (mark ((k : Int) + 2)) ++ (rs ++ List.replicate 2 (mark 1)).drop (j + 1)) := by
                show _ = _
                have hd : j < (rs ++ List.replicate 2 (mark 1)).length := by rw [List.length_append, List.length_replicate]; omega
                rw [List.set_append_right _ _ (by rw [List.length_replicate]; exact Nat.le_refl _), List.length_replicate, Nat.sub_self, List.drop_eq_getElem_cons hd, List.set_cons_zero, List.replicate_succ' (n := j), List.append_assoc]
                rfl
              generalize (List.replicate j (mark ((k : Int) + 2)) ++ (rs ++ List.replicate 2 (mark 1)).drop j)[j] = old at c0 c1 c2 c3
              clear hB5 HA HB hll hll0
              go_wp2
              go_roundw
              case rel =>
                refine ⟨j + 1, by omega, by go_num, ?_, ?_⟩
                · have := HA6.out
                  rw [HE.out] at this
                  exact this
                · exact put_below HB5.out (by rw [HGz.out]; exact Nat.le_refl _) j _ _ _ _
              case measure => simp [intOf]; omega
            · have hjm : j = m + 2 := by omega
              subst hjm
              clear hll0
              have HA1 : Hid (AllAt wr G (List.replicate (m + 2) (mark ((k : Int) + 2)))) := by
                have := HA.out
                rw [List.drop_of_length_le (by rw [List.length_append, List.length_replicate]; omega), List.append_nil] at this
                exact this
              obtain ⟨ch, fh, zh⟩ := heap_cells ((HB.out.block gh (by rw [← HGz.out]; exact hgG)).trans HG.out.1)
              have HO : Hid (wr.ownsRow Bs 53 2 (.slice aL k cL) k xs) := own_below HG.out.2.1 HB.out
              clear HA
              have hwz : w.heap.size ≤ wr.heap.size := HB.out.size
              go_wp2_with (at_builtin; refine wpList_append_lies _ rfl (.tmp 97) (.tmp 101) 28 rfl Bs 53 th (.agg #[.slice none 0 0, .int .i64 0]) 2 32 Tryz.underlying28 HH.out.1 HH.out.2.1 HH.out.2.2.1 HH.out.2.2.2 rfl (by decide) (.slice aL k cL) k xs rfl (HO.out.alloc _) ⟨wr.heap.size, 0, none⟩ 1 1 [.slice (some ⟨G, 0, none⟩) (m + 2) (m + 2), .int .i64 ((k : Int) + 2)] rfl rfl ?c1 ?c2 ?c3 ?c4 ?c5 ?c6 _ rfl ?_)
              case c1 => exact cells_new _ _ rfl [.slice (some ⟨G, 0, none⟩) (m + 2) (m + 2), .int .i64 ((k : Int) + 2)] _
              case c2 => intro u hu; simp at hu; rcases hu with rfl | rfl <;> rfl
              case c3 => decide
              case c4 => unfold maxLen; omega
              case c5 => omega
              case c6 => simp; omega
              intro g2 cap2 w8 hown8 hgr8 hat8 hlt8
              have hne : some gh ≠ (Value.slice aL k cL).ownBlock := fun h => by have := (HO.out.lt gh h.symm).1; omega
              have hzx : (wr.alloc (.cells #[.slice (some ⟨G, 0, none⟩) (m + 2) (m + 2), .int .i64 ((k : Int) + 2)] 53)).heap.size = wr.heap.size + 1 := by simp
              obtain ⟨ch8, fh8, zh8⟩ := heap_cells (((hgr8.block gh (by rw [hzx]; omega) hne).trans (heap_old zh)).trans ((HB.out.block gh (by rw [← HGz.out]; exact hgG)).trans HG.out.1))
              have HBX : Hid (Below w.heap.size w (wr.alloc (.cells #[.slice (some ⟨G, 0, none⟩) (m + 2) (m + 2), .int .i64 ((k : Int) + 2)] 53))) := HB.out.alloc hwz _
              have HAX : Hid (AllAt (wr.alloc (.cells #[.slice (some ⟨G, 0, none⟩) (m + 2) (m + 2), .int .i64 ((k : Int) + 2)] 53)) G (List.replicate (m + 2) (mark ((k : Int) + 2)))) := HA1.out.kept ((Below.refl _ _).alloc (Nat.le_refl _) _)
              have HP : Hid (_ ∧ _ ∧ _) := ⟨hown8, hgr8, hat8⟩
              have hzG : G < wr.heap.size := (heap_cells HA1.out).2.2
              clear hown8 hgr8 hat8 ch fh zh hne HA1
              generalize wr.alloc (.cells #[.slice (some ⟨G, 0, none⟩) (m + 2) (m + 2), .int .i64 ((k : Int) + 2)] 53) = wX at *
              go_wp2_with (first | (go_at_call 18; refine (rnum_any _ _).mono ?_; rintro e w' ⟨rfl, rfl⟩))
              go_ret
              exact ⟨G, g2, cap2, wX, w8, rfl, HBX.out, by rw [HGz.out]; exact Nat.le_refl _, by omega, HAX.out, HP.out.2.1, HP.out.1, by rw [hzx]; exact HP.out.2.2, rfl⟩

end Go.Proofs.YtccckonckddadabGreat
