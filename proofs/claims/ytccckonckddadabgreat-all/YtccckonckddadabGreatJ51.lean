import Derived.Test.YtccckonckddadabGreatJ32
import Derived.Test.YtccckonckddadabGreatJ50
import Derived.Test.YtccckonckddadabGreatJ48
import Derived.Test.YtccckonckddadabGreatJ43
import Derived.Test.YtccckonckddadabGreatJ49
namespace Go.Proofs.YtccckonckddadabGreat
open Go.RowKit
set_option linter.unusedVariables false

/-! ### frame, wherever the lists are held and however many -/
def FrPost2 (gh off k m Bs : Nat) (aL : Option Addr) (cL : Nat) (xs : List Value) (w : World) (e : Ending) (w' : World) : Prop :=
  ∃ (G g cap : Nat) (wX wY : World), e = .returned (.bool true) ∧ Below w.heap.size w wX ∧ w.heap.size ≤ G ∧ G < wX.heap.size ∧ AllAt wX G (List.replicate (m + 2) (mark ((k : Int) + 2))) ∧ wX.grownBy wY (Value.slice aL k cL).ownBlock ∧
    wY.ownsRow Bs 53 2 (.slice (some ⟨g, 0, none⟩) (k + 1) cap) (k + 1) (xs ++ [.slice (some ⟨G, 0, none⟩) (m + 2) (m + 2), .int .i64 ((k : Int) + 2)]) ∧
    ((Value.slice aL k cL).ownBlock = some g ∨ g = wX.heap.size) ∧ w' = wY.setCell ⟨gh, off, none⟩ (.slice (some ⟨g, 0, none⟩) (k + 1) cap)

set_option maxRecDepth 100000 in
set_option maxHeartbeats 4000000 in
theorem lawframe2_any (gh off k Bs cL : Nat) (arr : Array Value) (tW : TypeId) (aL : Option Addr) (xs : List Value) (n : Int) (a : Option Addr) (m c : Nat) (rs : List RecV) (w : World)
    (hgh : w.heap[gh]? = some (.cells arr tW)) (harr : arr[off]? = some (.slice aL k cL)) (hk : k ≤ 2000000000000) (hown : w.ownsRow Bs 53 2 (.slice aL k cL) k xs) (hBs : Bs ≤ w.heap.size) (hgB : ∀ b, (Value.slice aL k cL).ownBlock = some b → b ≠ gh) (hrow : RecRow w a m rs) (hm : 40 * (m + 2) ≤ 281474976710656) :
    Calls Tryz.prog 10 #[.pointer (some ⟨gh, off, none⟩), .int .i64 n, .slice a m c] w (FrPost2 gh off k m Bs aL cL xs w) := by
  obtain ⟨ti, hi, hz0, hz1, hz2⟩ := info_parts info_rec
  have HI : Hid (_ ∧ _ ∧ _ ∧ _) := ⟨hi, hz0, hz1, hz2⟩
  clear hi hz0 hz1 hz2
  obtain ⟨th, hi, hz0, hz1, hz2⟩ := info_parts info_held
  have HH : Hid (_ ∧ _ ∧ _ ∧ _) := ⟨hi, hz0, hz1, hz2⟩
  clear hi hz0 hz1 hz2
  have HG : Hid (_ ∧ _ ∧ _) := ⟨hgh, hown, hrow⟩
  have hzh := (heap_cells hgh).2.2
  have HGB : Hid _ := hgB
  have HAr : Hid _ := harr
  clear hgh hown hrow hgB harr
  go_enter Tryz.func10, Tryz.ntmps10
  go_wp2_with (refine wpList_make_full _ rfl (.tmp 20) (.tmp 20) 38 rfl w.heap.size 55 ti (.agg #[.int .i64 0, .int .i64 0, .bool false, .string ⟨#[]⟩]) 4 Tryz.underlying38 HI.out.1 HI.out.2.1 HI.out.2.2.1 .i64 .i64 ((m : Int) + 2) ((m : Int) + 2) (m + 2) rfl rfl (by omega) (by omega) ?c1 ?c2 ?c3 ?_)
  case c1 => rw [HI.out.2.2.2]; exact hm
  case c2 => unfold maxLen; omega
  case c3 => exact Nat.le_refl _
  intro w1 hown1 hgr1
  have HA1 : Hid (AllAt w1 w.heap.size (List.replicate (m + 2) zeroRec)) := by
    refine all_of_own (B := w.heap.size) (n := m + 2) ?_ (by omega)
    rw [← made_rec]
    exact hown1
  have HB1 : Hid (Below w.heap.size w w1) := (Below.refl _ _).grown hgr1 (Nat.le_refl _) (by simp)
  have HR1 : Hid (RecRow w1 a m rs) := HG.out.2.2.kept HB1.out
  clear hown1 hgr1
  go_wp2_with (refine wpList_copy_recs rfl (.tmp 22) (.tmp 23) rfl w.heap.size m c a rs rfl rfl HR1.out HA1.out w.heap.size w HB1.out (Nat.le_refl _) ?_)
  intro w2 HA2 HB2 HZ2
  have hlen : rs.length = m := HG.out.2.2.len
  obtain ⟨G, hG⟩ : ∃ G, G = w.heap.size := ⟨_, rfl⟩
  rewrite [← hG]
  rw [← hG] at HA2
  have HA2' : Hid (AllAt w2 G (rs ++ (List.replicate (m - m) (mark 1) ++ List.replicate (m + 2 - m) zeroRec))) := by
    have := HA2.out
    rw [Nat.sub_self, show m + 2 - m = 2 from by omega]
    exact this
  have hml : (m : Int) + 2 < 9223372036854775807 := by omega
  have hgG : gh < G := by rw [hG]; exact hzh
  have HGz : Hid (G = w.heap.size) := hG
  clear hG hzh hm
  clear HA1 HB1 HR1 HZ2 HA2
  go_wp2
  go_loopw [8] (fun i wr => ∃ (j : Nat), m ≤ j ∧ j ≤ m + 2 ∧ i = .int .i64 j ∧ Hid (AllAt wr G (rs ++ (List.replicate (j - m) (mark 1) ++ List.replicate (m + 2 - j) zeroRec))) ∧ Hid (Below w.heap.size w wr)) (fun i _ => m + 2 - (intOf i).toNat)
  case atStart => exact ⟨m, Nat.le_refl _, by omega, rfl, HA2', HB2⟩
  case round =>
    obtain ⟨j, hj, hj2, rfl, HA, HB⟩ := hrel
    by_cases hlt : j < m + 2
    · have hltI : (j : Int) < (m : Int) + 2 := by omega
      go_wp2_with fail
      refine (marked_any2 1 _ (by omega) (by omega)).mono ?_
      rintro e w3 ⟨rfl, hB3⟩
      have HA3 : Hid (AllAt w3 G (rs ++ (List.replicate (j - m) (mark 1) ++ List.replicate (m + 2 - j) zeroRec))) := HA.out.kept hB3
      have HB3 : Hid (Below w.heap.size w w3) := HB.out.trans (hB3.mono HB.out.size)
      have hll : j < (rs ++ (List.replicate (j - m) (mark 1) ++ List.replicate (m + 2 - j) zeroRec)).length := by
        simp only [List.length_append, List.length_replicate]; omega
      obtain ⟨c0, c1, c2, c3⟩ := HA3.out.cell (List.getElem?_eq_getElem hll)
      have fz := (heap_cells HA3.out).2.1
      have hz3 := (heap_cells HA3.out).2.2
      have HA4 : Hid _ := HA3.out.put hll (mark 1)
      have HE : Hid ((rs ++ (List.replicate (j - m) (mark 1) ++ List.replicate (m + 2 - j) zeroRec)).set j (mark 1) = rs ++ (List.replicate (j + 1 - m) (mark 1) ++ List.replicate (m + 2 - (j + 1)) zeroRec)) := by
        show _ = _
        have := set_mark rs (j - m) (m + 2 - (j + 1)) (mark 1) zeroRec
        rw [hlen, show m + (j - m) = j from by omega, show m + 2 - (j + 1) + 1 = m + 2 - j from by omega, show j - m + 1 = j + 1 - m from by omega] at this
        exact this
      clear hB3 HA HB
      generalize (rs ++ (List.replicate (j - m) (mark 1) ++ List.replicate (m + 2 - j) zeroRec))[j] = old at c0 c1 c2 c3
      clear hll
      go_wp2
      go_roundw
      case rel =>
        refine ⟨j + 1, by omega, by omega, by go_num, ?_, ?_⟩
        · have := HA4.out
          rw [HE.out] at this
          exact this
        · exact put_below HB3.out (by rw [HGz.out]; exact Nat.le_refl _) j _ _ _ _
      case measure => simp [intOf]; omega
    · have hjm : j = m + 2 := by omega
      subst hjm
      have HA1 : Hid (AllAt wr G (rs ++ List.replicate 2 (mark 1))) := by
        have := HA.out
        rw [show m + 2 - m = 2 from by omega, show m + 2 - (m + 2) = 0 from by omega] at this
        rw [List.replicate_zero, List.append_nil] at this
        exact this
      have HSm : Hid (∀ r ∈ rs ++ List.replicate 2 (mark 1), r.t.size ≤ maxLen) := by
        intro r hr
        rcases List.mem_append.1 hr with hr | hr
        · exact HG.out.2.2.small r hr
        · rw [(List.mem_replicate.1 hr).2]
          show (⟨#[109, 97, 114, 107]⟩ : ByteArray).size ≤ maxLen
          unfold maxLen; decide
      have HR1 : Hid (RecRow wr (some ⟨G, 0, none⟩) m rs) := by
        have := HA1.out.row m (by rw [List.length_append]; omega) HSm.out
        rw [List.take_append_of_le_length (by omega), List.take_of_length_le (by omega)] at this
        exact this
      have hmM : m ≤ maxLen := by unfold maxLen; omega
      clear HA
      go_wp2_with fail
      refine (pframe_any n (some ⟨G, 0, none⟩) m (m + 2) rs _ hmM HR1.out).mono ?_
      rintro e w3 ⟨s1, rfl, hs1, hB3⟩
      have HA3 : Hid (AllAt w3 G (rs ++ List.replicate 2 (mark 1))) := HA1.out.kept hB3
      have HB3 : Hid (Below w.heap.size w w3) := HB.out.trans (hB3.mono HB.out.size)
      have HS1 : Hid _ := hs1
      obtain ⟨er, her⟩ : ∃ er : Int, (if Dk.frameOk n (recs rs) = true then (0 : Int) else 2) = er := ⟨_, rfl⟩
      rewrite [her]
      have HEr : Hid _ := her
      clear her
      clear hB3 HA1 HB HR1 hs1
      go_wp2_with fail
      refine (frame_any n a m c rs _ hmM (HG.out.2.2.kept HB3.out)).mono ?_
      rintro e w4 ⟨s2, rfl, hs2, hB4⟩
      have HA4 : Hid (AllAt w4 G (rs ++ List.replicate 2 (mark 1))) := HA3.out.kept hB4
      have HB4 : Hid (Below w.heap.size w w4) := HB3.out.trans (hB4.mono HB3.out.size)
      obtain rfl : s1 = s2 := by
        obtain ⟨⟨d1⟩⟩ := s1
        obtain ⟨⟨d2⟩⟩ := s2
        have h : d1 = d2 := HS1.out.trans hs2.symm
        rw [h]
      rewrite [HEr.out]
      clear hB4 HA3 HB3 HS1 hs2
      have heq := equal_rec
      have hgd := guard_rec
      go_wp2
      go_loopw [13, 14] (fun v i wr => ∃ (j : Nat), j ≤ m + 2 ∧ v = .bool true ∧ i = .int .i64 j ∧ Hid (AllAt wr G (rs ++ List.replicate 2 (mark 1))) ∧ Hid (Below w.heap.size w wr)) (fun _ i _ => m + 2 - (intOf i).toNat)
      case atStart => exact ⟨0, by omega, rfl, rfl, HA4, HB4⟩
      case round =>
        obtain ⟨j, hj, rfl, rfl, HA, HB⟩ := hrel
        by_cases hlt : j < m + 2
        · have hltI : (j : Int) < (m : Int) + 2 := by omega
          go_wp2_with fail
          refine (marked_any2 1 _ (by omega) (by omega)).mono ?_
          rintro e w5 ⟨rfl, hB5⟩
          have HA5 : Hid (AllAt w5 G (rs ++ List.replicate 2 (mark 1))) := HA.out.kept hB5
          have HB5 : Hid (Below w.heap.size w w5) := HB.out.trans (hB5.mono HB.out.size)
          have hz5 := (heap_cells HA5.out).2.2
          clear hB5 HA HB
          by_cases hjm : j < m
          · have hjI : (j : Int) < (m : Int) := by omega
            have hjr : j < rs.length := by omega
            obtain ⟨c0, c1, c2, c3⟩ := HA5.out.cell (k := j) (r := rs[j]) (by rw [List.getElem?_append_left hjr]; exact List.getElem?_eq_getElem hjr)
            obtain ⟨g0, off, rfl, hg0, hcell⟩ : ∃ g off, a = some ⟨g, off, none⟩ ∧ g < w.heap.size ∧ _ := (HG.out.2.2.cells).resolve_left (by omega)
            obtain ⟨d0, d1, d2, d3⟩ := hcell j rs[j] (List.getElem?_eq_getElem hjr)
            clear hcell
            generalize rs[j] = r at c0 c1 c2 c3 d0 d1 d2 d3
            obtain ⟨rc, ri, rl, rt⟩ := r
            simp only at c0 c1 c2 c3 d0 d1 d2 d3
            have e0 := (HB5.out.cell (p := ⟨g0, off + j * 4, none⟩) hg0).trans d0
            have e1 := (HB5.out.cell (p := ⟨g0, off + j * 4 + 1, none⟩) hg0).trans d1
            have e2 := (HB5.out.cell (p := ⟨g0, off + j * 4 + 2, none⟩) hg0).trans d2
            have e3 := (HB5.out.cell (p := ⟨g0, off + j * 4 + 3, none⟩) hg0).trans d3
            have hg5 : g0 < w5.heap.size := Nat.lt_of_lt_of_le hg0 HB5.out.size
            have hwz : w.heap.size ≤ w5.heap.size := HB5.out.size
            clear d0 d1 d2 d3
            go_wp2
            go_quiet (fail)
            have HA6 : Hid (AllAt ((w5.alloc (.cells #[.int .i64 rc, .int .i64 ri, .bool rl, .string rt] 55)).drewN nq) G (rs ++ List.replicate 2 (mark 1))) := HA5.out.kept (below_drewN ((Below.refl _ _).alloc (Nat.le_refl _) _) nq)
            have HB6 : Hid (Below w.heap.size w ((w5.alloc (.cells #[.int .i64 rc, .int .i64 ri, .bool rl, .string rt] 55)).drewN nq)) := below_drewN (HB5.out.alloc hwz _) nq
            clear c0 c1 c2 c3 e0 e1 e2 e3
            generalize (w5.alloc (.cells #[.int .i64 rc, .int .i64 ri, .bool rl, .string rt] 55)).drewN nq = w6 at *
            go_wp2
            go_roundw
            case rel => exact ⟨j + 1, by omega, rfl, by go_num, HA6, HB6⟩
            case measure => simp [intOf]; omega
          · have hjI : ¬ (j : Int) < (m : Int) := by omega
            obtain ⟨c0, c1, c2, c3⟩ := HA5.out.cell (k := j) (r := mark 1) (by rw [List.getElem?_append_right (by omega), List.getElem?_replicate, if_pos (by omega)])
            simp only [mark] at c0 c1 c2 c3
            have hwz : w.heap.size ≤ w5.heap.size := HB5.out.size
            go_wp2
            go_quiet (fail)
            have HA6 : Hid (AllAt ((w5.alloc (.cells #[.int .i64 (-1), .int .i64 1, .bool true, .string ⟨#[109, 97, 114, 107]⟩] 55)).drewN nq) G (rs ++ List.replicate 2 (mark 1))) := HA5.out.kept (below_drewN ((Below.refl _ _).alloc (Nat.le_refl _) _) nq)
            have HB6 : Hid (Below w.heap.size w ((w5.alloc (.cells #[.int .i64 (-1), .int .i64 1, .bool true, .string ⟨#[109, 97, 114, 107]⟩] 55)).drewN nq)) := below_drewN (HB5.out.alloc hwz _) nq
            clear c0 c1 c2 c3
            generalize (w5.alloc (.cells #[.int .i64 (-1), .int .i64 1, .bool true, .string ⟨#[109, 97, 114, 107]⟩] 55)).drewN nq = w6 at *
            go_wp2
            go_roundw
            case rel => exact ⟨j + 1, by omega, rfl, by go_num, HA6, HB6⟩
            case measure => simp [intOf]; omega
        · have hjm : j = m + 2 := by omega
          subst hjm
          rewrite [show ((m + 2 : Nat) : Int) = (m : Int) + 2 from by omega]
          obtain ⟨ch0, fh, zh⟩ := heap_cells ((HB.out.block gh (by rw [← HGz.out]; exact hgG)).trans HG.out.1)
          have ch := (ch0 off).trans HAr.out
          clear ch0
          have hk2 : (k : Int) + 2 < 1000000000000 * 100 := by omega
          clear heq hgd HA4 HB4 HA2' HB2
          go_wp2
          go_loopw [17] (fun i wr => ∃ (j : Nat), j ≤ m + 2 ∧ i = .int .i64 j ∧ Hid (AllAt wr G (List.replicate j (mark ((k : Int) + 2)) ++ (rs ++ List.replicate 2 (mark 1)).drop j)) ∧ Hid (Below w.heap.size w wr)) (fun i _ => m + 2 - (intOf i).toNat)
          case atStart => exact ⟨0, by omega, rfl, HA, HB⟩
          case round =>
            clear HA HB ch fh zh
            obtain ⟨j, hj, rfl, HA, HB⟩ := hrel
            have hll0 : (List.replicate j (mark ((k : Int) + 2)) ++ (rs ++ List.replicate 2 (mark 1)).drop j).length = m + 2 := by
              simp only [List.length_append, List.length_replicate, List.length_drop]; omega
            by_cases hlt : j < m + 2
            · have hltI : (j : Int) < (m : Int) + 2 := by omega
              go_wp2_with fail
              refine (marked_any2 ((k : Int) + 2) _ (by omega) (by omega)).mono ?_
              rintro e w5 ⟨rfl, hB5⟩
              have HA5 : Hid (AllAt w5 G (List.replicate j (mark ((k : Int) + 2)) ++ (rs ++ List.replicate 2 (mark 1)).drop j)) := HA.out.kept hB5
              have HB5 : Hid (Below w.heap.size w w5) := HB.out.trans (hB5.mono HB.out.size)
              have hll : j < (List.replicate j (mark ((k : Int) + 2)) ++ (rs ++ List.replicate 2 (mark 1)).drop j).length := by rw [hll0]; exact hlt
              obtain ⟨c0, c1, c2, c3⟩ := HA5.out.cell (List.getElem?_eq_getElem hll)
              have fz := (heap_cells HA5.out).2.1
              have hz5 := (heap_cells HA5.out).2.2
              have HA6 : Hid _ := HA5.out.put hll (mark ((k : Int) + 2))
              have HE : Hid ((List.replicate j (mark ((k : Int) + 2)) ++ (rs ++ List.replicate 2 (mark 1)).drop j).set j (mark ((k : Int) + 2)) = List.replicate (j + 1) (mark ((k : Int) + 2)) ++ (rs ++ List.replicate 2 (mark 1)).drop (j + 1)) := by
                show _ = _
                have hd : j < (rs ++ List.replicate 2 (mark 1)).length := by rw [List.length_append, List.length_replicate]; omega
                rw [List.set_append_right _ _ (by rw [List.length_replicate]; exact Nat.le_refl _), List.length_replicate, Nat.sub_self, List.drop_eq_getElem_cons hd, List.set_cons_zero, List.replicate_succ' (n := j), List.append_assoc]
                rfl
              generalize (List.replicate j (mark ((k : Int) + 2)) ++ (rs ++ List.replicate 2 (mark 1)).drop j)[j] = old at c0 c1 c2 c3
              clear hB5 HA HB hll hll0
              go_wp2
              go_roundw
              case rel =>
                refine ⟨j + 1, by omega, by go_num, ?_, ?_⟩
                · have := HA6.out
                  rw [HE.out] at this
                  exact this
                · exact put_below HB5.out (by rw [HGz.out]; exact Nat.le_refl _) j _ _ _ _
              case measure => simp [intOf]; omega
            · have hjm : j = m + 2 := by omega
              subst hjm
              clear hll0
              have HA1 : Hid (AllAt wr G (List.replicate (m + 2) (mark ((k : Int) + 2)))) := by
                have := HA.out
                rw [List.drop_of_length_le (by rw [List.length_append, List.length_replicate]; omega), List.append_nil] at this
                exact this
              obtain ⟨ch0, fh, zh⟩ := heap_cells ((HB.out.block gh (by rw [← HGz.out]; exact hgG)).trans HG.out.1)
              have ch := (ch0 off).trans HAr.out
              clear ch0
              have HO : Hid (wr.ownsRow Bs 53 2 (.slice aL k cL) k xs) := own_below HG.out.2.1 HB.out
              clear HA
              have hwz : w.heap.size ≤ wr.heap.size := HB.out.size
              go_wp2_with (at_builtin; refine wpList_append_lies _ rfl (.tmp 97) (.tmp 101) 28 rfl Bs 53 th (.agg #[.slice none 0 0, .int .i64 0]) 2 32 Tryz.underlying28 HH.out.1 HH.out.2.1 HH.out.2.2.1 HH.out.2.2.2 rfl (by decide) (.slice aL k cL) k xs rfl (HO.out.alloc _) ⟨wr.heap.size, 0, none⟩ 1 1 [.slice (some ⟨G, 0, none⟩) (m + 2) (m + 2), .int .i64 ((k : Int) + 2)] rfl rfl ?c1 ?c2 ?c3 ?c4 ?c5 ?c6 _ rfl ?_)
              case c1 => exact cells_new _ _ rfl [.slice (some ⟨G, 0, none⟩) (m + 2) (m + 2), .int .i64 ((k : Int) + 2)] _
              case c2 => intro u hu; simp at hu; rcases hu with rfl | rfl <;> rfl
              case c3 => decide
              case c4 => unfold maxLen; omega
              case c5 => omega
              case c6 => simp; omega
              intro g2 cap2 w8 hown8 hgr8 hat8 hlt8
              have hne : some gh ≠ (Value.slice aL k cL).ownBlock := fun h => HGB.out gh h.symm rfl
              have hzx : (wr.alloc (.cells #[.slice (some ⟨G, 0, none⟩) (m + 2) (m + 2), .int .i64 ((k : Int) + 2)] 53)).heap.size = wr.heap.size + 1 := by simp
              obtain ⟨ch80, fh8, zh8⟩ := heap_cells (((hgr8.block gh (by rw [hzx]; omega) hne).trans (heap_old zh)).trans ((HB.out.block gh (by rw [← HGz.out]; exact hgG)).trans HG.out.1))
              have ch8 := (ch80 off).trans HAr.out
              clear ch80
              have HBX : Hid (Below w.heap.size w (wr.alloc (.cells #[.slice (some ⟨G, 0, none⟩) (m + 2) (m + 2), .int .i64 ((k : Int) + 2)] 53))) := HB.out.alloc hwz _
              have HAX : Hid (AllAt (wr.alloc (.cells #[.slice (some ⟨G, 0, none⟩) (m + 2) (m + 2), .int .i64 ((k : Int) + 2)] 53)) G (List.replicate (m + 2) (mark ((k : Int) + 2)))) := HA1.out.kept ((Below.refl _ _).alloc (Nat.le_refl _) _)
              have HP : Hid (_ ∧ _ ∧ _) := ⟨hown8, hgr8, hat8⟩
              have hzG : G < wr.heap.size := (heap_cells HA1.out).2.2
              clear hown8 hgr8 hat8 ch fh zh hne HA1
              generalize wr.alloc (.cells #[.slice (some ⟨G, 0, none⟩) (m + 2) (m + 2), .int .i64 ((k : Int) + 2)] 53) = wX at *
              go_wp2_with (first | (go_at_call 18; refine (rnum_any _ _).mono ?_; rintro e w' ⟨rfl, rfl⟩))
              go_ret
              exact ⟨G, g2, cap2, wX, w8, rfl, HBX.out, by rw [HGz.out]; exact Nat.le_refl _, by omega, HAX.out, HP.out.2.1, HP.out.1, by rw [hzx]; exact HP.out.2.2, rfl⟩

end Go.Proofs.YtccckonckddadabGreat
namespace Go.Proofs.YtccckonckddadabGreat
open Go.RowKit
set_option linter.unusedVariables false

set_option maxRecDepth 100000 in
set_option maxHeartbeats 4000000 in
theorem psync_any (g : Nat) (F : Nat → Prop) (p : SeqV) (s : CluV) (r : Int) (w : World) (h : SeqAt w g F p) (hB : Both p s) :
    Calls Tryz.prog 31 #[.pointer (some ⟨g, 0, none⟩), .int .i64 r] w fun e w' => e = .returned (.int .i64 (syncV s r).2) ∧ SeqPost g F (withR p (repsOf (syncV s r).1)) w w' := by
  have HV : Hid (syncV s r = if ¬ (0 ≤ r ∧ r ≤ s.conf.reps - 1) then (s, 11) else (repV s r.toNat ((s.reps.getD r.toNat (0, 0)).1, (s.reps.getD r.toNat (0, 0)).1), 0)) := rfl
  have hg := h.block
  have H : Hid _ := h
  have HB : Hid _ := hB
  have hrl := hB.rlen
  have hrc := conf_reps hB.fit.conf
  obtain ⟨gA, qb, aS, cS, lb, m⟩ := h.mem
  have c15 := seq_cell15 h.fit m
  have HM : Hid _ := m
  clear h hB m
  obtain ⟨nr, hnr⟩ : ∃ x, p.reps.length = x := ⟨_, rfl⟩
  have HNr : Hid (p.reps.length = nr) := hnr
  rw [hnr] at c15 hrl
  clear hnr
  go_enter Tryz.func31, Tryz.ntmps31
  go_wp2_with fail
  refine (phas_any g F p r w H.out).mono ?_
  rintro e w1 ⟨rfl, hw1⟩
  obtain rfl := hw1.symm
  rewrite [HNr.out]
  by_cases h0 : 0 ≤ r ∧ r < (nr : Int)
  rotate_left
  · have HX : Hid (syncV s r = (s, 11)) := by show _ = _; rw [HV.out, if_pos (by omega)]
    have hd : hasV nr r = false := decide_eq_false h0
    rewrite [hd]
    clear hd
    go_wp2
    go_ret
    rw [HX.out]
    exact ⟨rfl, by rw [withR_self HB.out.rsim]; exact SeqPost.same H.out (Below.refl _ _)⟩
  have hd : hasV nr r = true := decide_eq_true h0
  rewrite [hd]
  clear hd
  obtain ⟨rn, rfl⟩ : ∃ k : Nat, r = k := ⟨r.toNat, by omega⟩
  obtain ⟨h0a, h0b⟩ := h0
  rw [if_neg (show ¬ ¬ (0 ≤ (rn : Int) ∧ (rn : Int) ≤ s.conf.reps - 1) by omega), Int.toNat_natCast] at HV
  have HAt : Hid _ := HB.out.rat (k := rn) (by omega)
  have HRf : Hid _ := rep_fit HB.out.rep rn
  generalize hxx : s.reps.getD rn (0, 0) = x at *
  have HOk : Hid _ := repOf_ok HB.out.fit HRf.out
  obtain ⟨hbx, hpl⟩ := seq_rep HM.out HAt.out
  have HBx : Hid _ := hbx
  have HPl : Hid _ := hpl
  clear hbx hpl
  have hsy := rsync_any lb.gR (prepsCells (p.reps.take rn)) (prepsCells (p.reps.drop (rn + 1))) (repOf s x).disk (repOf s x).safe (repOf s x).count (repOf s x).cells w HBx.out HOk.out.1.1
  rw [HPl.out] at hsy
  go_wp2_with fail
  refine hsy.mono ?_
  rintro e w2 ⟨rfl, hP⟩
  have hsz : (repOf s x).disk.size = (logV s x.1.toNat).length := by
    have h1 := congrArg List.length (bytesOf_list (logV s x.1.toNat))
    rw [← len_list]
    exact h1
  have hP' : RepPost lb.gR (prepsCells (p.reps.take rn)) (prepsCells (p.reps.drop (rn + 1))) (repOf s (x.1, x.1)) w w2 := by
    rw [hsz] at hP
    exact hP
  have HP : Hid _ := seq_rep_put H.out HM.out (r := rn) (by rw [HNr.out]; omega) (repOf_ok HB.out.fit (x := (x.1, x.1)) ⟨by have := HRf.out; show 0 ≤ x.1; omega, Int.le_refl _, HRf.out.2.2⟩).1 hP'
  clear hP hP' hsy hsz
  go_wp2
  go_ret
  rw [HV.out]
  refine ⟨rfl, ?_⟩
  show SeqPost g F (withR p (repsOf (repV s rn (x.1, x.1)))) w w2
  rw [reps_put, ← HB.out.rsim]
  exact HP.out

set_option maxRecDepth 100000 in
set_option maxHeartbeats 4000000 in
theorem pcrash_any (g : Nat) (F : Nat → Prop) (p : SeqV) (s : CluV) (r keep : Int) (w : World) (h : SeqAt w g F p) (hB : Both p s) :
    Calls Tryz.prog 33 #[.pointer (some ⟨g, 0, none⟩), .int .i64 r, .int .i64 keep] w fun e w' => e = .returned (.int .i64 (crashV s r keep).2) ∧ SeqPost g F (withR p (repsOf (crashV s r keep).1)) w w' := by
  have HV : Hid (crashV s r keep = if ¬ (0 ≤ r ∧ r ≤ s.conf.reps - 1) then (s, 11) else (repV s r.toNat (crashN s (s.reps.getD r.toNat (0, 0)) keep, crashN s (s.reps.getD r.toNat (0, 0)) keep), 0)) := rfl
  have hg := h.block
  have H : Hid _ := h
  have HB : Hid _ := hB
  have hrl := hB.rlen
  have hrc := conf_reps hB.fit.conf
  obtain ⟨gA, qb, aS, cS, lb, m⟩ := h.mem
  have c15 := seq_cell15 h.fit m
  have HM : Hid _ := m
  clear h hB m
  obtain ⟨nr, hnr⟩ : ∃ x, p.reps.length = x := ⟨_, rfl⟩
  have HNr : Hid (p.reps.length = nr) := hnr
  rw [hnr] at c15 hrl
  clear hnr
  go_enter Tryz.func33, Tryz.ntmps33
  go_wp2_with fail
  refine (phas_any g F p r w H.out).mono ?_
  rintro e w1 ⟨rfl, hw1⟩
  obtain rfl := hw1.symm
  rewrite [HNr.out]
  by_cases h0 : 0 ≤ r ∧ r < (nr : Int)
  rotate_left
  · have HX : Hid (crashV s r keep = (s, 11)) := by show _ = _; rw [HV.out, if_pos (by omega)]
    have hd : hasV nr r = false := decide_eq_false h0
    rewrite [hd]
    clear hd
    go_wp2
    go_ret
    rw [HX.out]
    exact ⟨rfl, by rw [withR_self HB.out.rsim]; exact SeqPost.same H.out (Below.refl _ _)⟩
  have hd : hasV nr r = true := decide_eq_true h0
  rewrite [hd]
  clear hd
  obtain ⟨rn, rfl⟩ : ∃ k : Nat, r = k := ⟨r.toNat, by omega⟩
  obtain ⟨h0a, h0b⟩ := h0
  rw [if_neg (show ¬ ¬ (0 ≤ (rn : Int) ∧ (rn : Int) ≤ s.conf.reps - 1) by omega), Int.toNat_natCast] at HV
  have HAt : Hid _ := HB.out.rat (k := rn) (by omega)
  have HRf : Hid _ := rep_fit HB.out.rep rn
  generalize hxx : s.reps.getD rn (0, 0) = x at *
  have HOk : Hid _ := repOf_ok HB.out.fit HRf.out
  obtain ⟨hbx, hpl⟩ := seq_rep HM.out HAt.out
  have HBx : Hid _ := hbx
  have HPl : Hid _ := hpl
  clear hbx hpl
  have hsz : (repOf s x).disk.size = (logV s x.1.toNat).length := by
    have h1 := congrArg List.length (bytesOf_list (logV s x.1.toNat))
    rw [← len_list]
    exact h1
  obtain ⟨rr, hsp, hrd⟩ := crash_split HB.out.fit HRf.out keep
  obtain ⟨K, hK⟩ : ∃ K, crashN s x keep = K := ⟨_, rfl⟩
  have hKl : K ≤ s.epochs.length := by
    have h1 := crashGo_le s x.2.toNat keep (x.1.toNat - x.2.toNat) x.2.toNat
    have h2 := HRf.out
    unfold crashN at hK
    omega
  rw [hK] at hsp hrd HV
  have hm := HB.out.fit.many
  have htl : (s.epochs.take K).length = K := by rw [List.length_take]; omega
  have hcr := rcrash_any lb.gR (prepsCells (p.reps.take rn)) (prepsCells (p.reps.drop (rn + 1))) (repOf s x).disk (repOf s x).safe (repOf s x).count (repOf s x).cells keep (s.epochs.take K) rr w HBx.out HOk.out.1.1 HOk.out.1.2.1 HOk.out.2 (by
    rw [hsz]
    show (bytesOf (logV s x.1.toNat)).data.toList.take _ = _
    rw [bytesOf_list]
    exact hsp) (sound_eps0 HB.out.fit K) (by rw [htl]; omega) (by rw [htl]; exact hrd)
  rw [htl, didEps_done HB.out.fit K] at hcr
  rw [HPl.out] at hcr
  go_wp2_with fail
  refine hcr.mono ?_
  rintro e w2 ⟨rfl, hP⟩
  have hP' : RepPost lb.gR (prepsCells (p.reps.take rn)) (prepsCells (p.reps.drop (rn + 1))) (repOf s ((K : Int), (K : Int))) w w2 := by
    unfold repOf
    simp only [Int.toNat_natCast]
    exact hP
  have HP : Hid _ := seq_rep_put H.out HM.out (r := rn) (by rw [HNr.out]; omega) (repOf_ok HB.out.fit (x := ((K : Int), (K : Int))) ⟨by show (0 : Int) ≤ (K : Int); omega, Int.le_refl _, by show (K : Int) ≤ _; omega⟩).1 hP'
  clear hP hP' hcr hsz hsp hrd
  go_wp2
  go_ret
  rw [HV.out]
  refine ⟨rfl, ?_⟩
  show SeqPost g F (withR p (repsOf (repV s rn ((K : Int), (K : Int))))) w w2
  rw [reps_put, ← HB.out.rsim]
  exact HP.out

end Go.Proofs.YtccckonckddadabGreat
namespace Go.Proofs.YtccckonckddadabGreat
open Go.RowKit
set_option linter.unusedVariables false

/-! ### The replicas' calls leave the two states together -/
theorem sim_rep {p : SeqV} {s : CluV} (h : Sim p s) (l : List RepV) (k : Nat) (x : Int × Int) : Sim (withR p l) (repV s k x) := ⟨h.queue, h.quantum, h.room, h.first, h.epochs, h.log, h.cells, h.many, h.acc, h.outs, h.few, h.e0⟩
theorem both_put {p : SeqV} {s : CluV} (h : Both p s) (k : Nat) {x : Int × Int} (hx : 0 ≤ x.2 ∧ x.2 ≤ x.1 ∧ x.1 ≤ (s.epochs.length : Int)) : Both (withR p (repsOf (repV s k x))) (repV s k x) :=
  ⟨sim_rep h.sim _ k x, rfl, fit_rep h.fit k x, ⟨h.rest.queue, h.rest.credit⟩, rep_put h.rep k hx⟩
theorem both_self {p : SeqV} {s : CluV} (h : Both p s) : Both (withR p (repsOf s)) s := by rw [withR_self h.rsim]; exact h
theorem both_send {p : SeqV} {s : CluV} (h : Both p s) (r n : Int) : Both (withR p (repsOf (sendV s r n).1)) (sendV s r n).1 := by
  have hr := sendV_rep h.rep r n
  unfold sendV at hr ⊢
  split
  · exact both_self h
  split
  · exact both_self h
  split
  · exact both_self h
  split
  · exact both_self h
  · have := rep_fit h.rep r.toNat
    exact both_put h _ ⟨this.1, by show (s.reps.getD r.toNat (0, 0)).2 ≤ n + 1; omega, by show n + 1 ≤ _; omega⟩
theorem both_sync {p : SeqV} {s : CluV} (h : Both p s) (r : Int) : Both (withR p (repsOf (syncV s r).1)) (syncV s r).1 := by
  unfold syncV
  split
  · exact both_self h
  · have := rep_fit h.rep r.toNat
    exact both_put h _ ⟨by show 0 ≤ (s.reps.getD r.toNat (0, 0)).1; omega, Int.le_refl _, this.2.2⟩
theorem both_crash {p : SeqV} {s : CluV} (h : Both p s) (r keep : Int) : Both (withR p (repsOf (crashV s r keep).1)) (crashV s r keep).1 := by
  unfold crashV
  split
  · exact both_self h
  · have h1 := rep_fit h.rep r.toNat
    have h2 := crashGo_le s (s.reps.getD r.toNat (0, 0)).2.toNat keep ((s.reps.getD r.toNat (0, 0)).1.toNat - (s.reps.getD r.toNat (0, 0)).2.toNat) (s.reps.getD r.toNat (0, 0)).2.toNat
    refine both_put h _ ⟨by show (0 : Int) ≤ ((crashN _ _ _ : Nat) : Int); omega, Int.le_refl _, ?_⟩
    show ((crashN s (s.reps.getD r.toNat (0, 0)) keep : Nat) : Int) ≤ _
    unfold crashN
    omega

end Go.Proofs.YtccckonckddadabGreat
namespace Go.Proofs.YtccckonckddadabGreat
open Go.RowKit
set_option linter.unusedVariables false

set_option maxRecDepth 100000 in
set_option maxHeartbeats 4000000 in
theorem does_send (B N : Nat) (gW : Nat) (ps : List Pair) (lab : Nat → Nat) (o : OpV) (k : Nat) (w : World) (h : WldAt B N w gW ps lab) (hk : k < ps.length) (ho : o.kind = 6) :
    Calls Tryz.prog 13 #[.pointer (some ⟨gW, 0, none⟩), .int .i64 (k : Int), .agg o.arr] w (WPost B N gW ps.length w) := by
  obtain ⟨kind, oa, ob, oc, ok, os, conf, z0, z1, z2, z3, z4, z5, z6, z7, ra, rm, rc⟩ := o
  simp only at ho
  subst ho
  have hxk := List.getElem?_eq_getElem hk
  generalize ps[k] = x at hxk
  have HB : Hid _ := h.base
  obtain ⟨gC, cC, gR, cR, l0, l1, l2, l3, hgW, hgC, hgR⟩ := h.look hxk
  have H : Hid _ := h
  have HXk : Hid _ := hxk
  clear h hxk
  generalize hn : ps.length = n at *
  show Calls Tryz.prog 13 #[.pointer (some ⟨gW, 0, none⟩), .int .i64 (k : Int), .agg #[.int .i64 6, .int .i64 oa, .int .i64 ob, .int .i64 oc, .int .i64 ok, .string os, .int .i64 conf.clients, .int .i64 conf.queue, .int .i64 conf.quantum, .int .i64 conf.room, .int .i64 conf.reps, .int .i16 z0, .int .i16 z1, .int .i16 z2, .int .i16 z3, .int .i16 z4, .int .i16 z5, .int .i16 z6, .int .i16 z7, .slice ra rm rc]] w _
  have k1 : (k : Int) < (n : Int) := by omega
  have k0 : (0 : Int) ≤ (k : Int) := by omega
  obtain ⟨W1, hW1⟩ : ∃ W1, W1 = w.alloc (.cells #[.int .i64 6, .int .i64 oa, .int .i64 ob, .int .i64 oc, .int .i64 ok, .string os, .int .i64 conf.clients, .int .i64 conf.queue, .int .i64 conf.quantum, .int .i64 conf.room, .int .i64 conf.reps, .int .i16 z0, .int .i16 z1, .int .i16 z2, .int .i16 z3, .int .i16 z4, .int .i16 z5, .int .i16 z6, .int .i16 z7, .slice ra rm rc] 40) := ⟨_, rfl⟩
  have HBw : Hid (Below w.heap.size w W1) := by rw [hW1]; exact (Below.refl _ _).alloc (Nat.le_refl _) _
  have HBx : Hid (W1.heap[w.heap.size]? = some (.cells #[.int .i64 6, .int .i64 oa, .int .i64 ob, .int .i64 oc, .int .i64 ok, .string os, .int .i64 conf.clients, .int .i64 conf.queue, .int .i64 conf.quantum, .int .i64 conf.room, .int .i64 conf.reps, .int .i16 z0, .int .i16 z1, .int .i16 z2, .int .i16 z3, .int .i16 z4, .int .i16 z5, .int .i16 z6, .int .i16 z7, .slice ra rm rc] 40)) := by rw [hW1]; exact heap_at rfl
  have HW1 : Hid (WldAt B N W1 gW ps lab) := H.out.below HBw.out
  have HP1 : Hid (PairAt B W1 lab k x) := HW1.out.pair k x HXk.out
  go_enter Tryz.func13, Tryz.ntmps13
  go_wp2_with fail
  rewrite [← hW1]
  refine (psend_any x.g x.F x.p x.s oa ob W1 HP1.out.seq HP1.out.sim).mono ?_
  rintro e w1 ⟨rfl, hP⟩
  have HP : Hid _ := hP
  have HK1 : Hid (Kept x.F W1 w1) := by obtain ⟨_, _, hk1, _⟩ := hP; exact hk1
  have HC1 : Hid (CluAt w1 x.gr x.Fr x.s) := HP1.out.other HK1.out
  have hbx : w1.heap[w.heap.size]? = _ := (HK1.out.block w.heap.size (heap_cells HBx.out).2.2 (fun hf => by have := (H.out.pair k x HXk.out).seq.own _ hf; omega)).trans HBx.out
  obtain ⟨b0, bf, bz⟩ := heap_cells hbx
  clear hP hbx l0 l1 l2 l3
  obtain ⟨er, her⟩ : ∃ y, (sendV x.s oa ob).2 = y := ⟨_, rfl⟩
  have HEr : Hid _ := her
  rewrite [her]
  clear her
  go_wp2_with fail
  refine (refsend_any x.gr x.Fr x.s oa ob w1 HC1.out).mono ?_
  rintro e w2 ⟨rfl, hR⟩
  rewrite [HEr.out]
  have HR : Hid _ := hR
  clear hR
  go_wp2_with fail
  refine (num_any er w2).mono ?_
  rintro e w3 ⟨rfl, hw3⟩
  obtain rfl := hw3.symm
  go_wp2
  go_ret
  obtain ⟨hW, hB⟩ := HW1.out.both HXk.out HP.out HR.out (both_send HP1.out.sim oa ob) (both_send HP1.out.sim oa ob).rest HP1.out.outs
  refine ⟨rfl, ?_, (HBw.out.mono HB.out).trans hB⟩
  rw [← hn]
  exact hW

set_option maxRecDepth 100000 in
set_option maxHeartbeats 4000000 in
theorem does_sync (B N : Nat) (gW : Nat) (ps : List Pair) (lab : Nat → Nat) (o : OpV) (k : Nat) (w : World) (h : WldAt B N w gW ps lab) (hk : k < ps.length) (ho : o.kind = 7) :
    Calls Tryz.prog 13 #[.pointer (some ⟨gW, 0, none⟩), .int .i64 (k : Int), .agg o.arr] w (WPost B N gW ps.length w) := by
  obtain ⟨kind, oa, ob, oc, ok, os, conf, z0, z1, z2, z3, z4, z5, z6, z7, ra, rm, rc⟩ := o
  simp only at ho
  subst ho
  have hxk := List.getElem?_eq_getElem hk
  generalize ps[k] = x at hxk
  have HB : Hid _ := h.base
  obtain ⟨gC, cC, gR, cR, l0, l1, l2, l3, hgW, hgC, hgR⟩ := h.look hxk
  have H : Hid _ := h
  have HXk : Hid _ := hxk
  clear h hxk
  generalize hn : ps.length = n at *
  show Calls Tryz.prog 13 #[.pointer (some ⟨gW, 0, none⟩), .int .i64 (k : Int), .agg #[.int .i64 7, .int .i64 oa, .int .i64 ob, .int .i64 oc, .int .i64 ok, .string os, .int .i64 conf.clients, .int .i64 conf.queue, .int .i64 conf.quantum, .int .i64 conf.room, .int .i64 conf.reps, .int .i16 z0, .int .i16 z1, .int .i16 z2, .int .i16 z3, .int .i16 z4, .int .i16 z5, .int .i16 z6, .int .i16 z7, .slice ra rm rc]] w _
  have k1 : (k : Int) < (n : Int) := by omega
  have k0 : (0 : Int) ≤ (k : Int) := by omega
  obtain ⟨W1, hW1⟩ : ∃ W1, W1 = w.alloc (.cells #[.int .i64 7, .int .i64 oa, .int .i64 ob, .int .i64 oc, .int .i64 ok, .string os, .int .i64 conf.clients, .int .i64 conf.queue, .int .i64 conf.quantum, .int .i64 conf.room, .int .i64 conf.reps, .int .i16 z0, .int .i16 z1, .int .i16 z2, .int .i16 z3, .int .i16 z4, .int .i16 z5, .int .i16 z6, .int .i16 z7, .slice ra rm rc] 40) := ⟨_, rfl⟩
  have HBw : Hid (Below w.heap.size w W1) := by rw [hW1]; exact (Below.refl _ _).alloc (Nat.le_refl _) _
  have HBx : Hid (W1.heap[w.heap.size]? = some (.cells #[.int .i64 7, .int .i64 oa, .int .i64 ob, .int .i64 oc, .int .i64 ok, .string os, .int .i64 conf.clients, .int .i64 conf.queue, .int .i64 conf.quantum, .int .i64 conf.room, .int .i64 conf.reps, .int .i16 z0, .int .i16 z1, .int .i16 z2, .int .i16 z3, .int .i16 z4, .int .i16 z5, .int .i16 z6, .int .i16 z7, .slice ra rm rc] 40)) := by rw [hW1]; exact heap_at rfl
  have HW1 : Hid (WldAt B N W1 gW ps lab) := H.out.below HBw.out
  have HP1 : Hid (PairAt B W1 lab k x) := HW1.out.pair k x HXk.out
  go_enter Tryz.func13, Tryz.ntmps13
  go_wp2_with fail
  rewrite [← hW1]
  refine (psync_any x.g x.F x.p x.s oa W1 HP1.out.seq HP1.out.sim).mono ?_
  rintro e w1 ⟨rfl, hP⟩
  have HP : Hid _ := hP
  have HK1 : Hid (Kept x.F W1 w1) := by obtain ⟨_, _, hk1, _⟩ := hP; exact hk1
  have HC1 : Hid (CluAt w1 x.gr x.Fr x.s) := HP1.out.other HK1.out
  have hbx : w1.heap[w.heap.size]? = _ := (HK1.out.block w.heap.size (heap_cells HBx.out).2.2 (fun hf => by have := (H.out.pair k x HXk.out).seq.own _ hf; omega)).trans HBx.out
  obtain ⟨b0, bf, bz⟩ := heap_cells hbx
  clear hP hbx l0 l1 l2 l3
  obtain ⟨er, her⟩ : ∃ y, (syncV x.s oa).2 = y := ⟨_, rfl⟩
  have HEr : Hid _ := her
  rewrite [her]
  clear her
  go_wp2_with fail
  refine (refsync_any x.gr x.Fr x.s oa w1 HC1.out).mono ?_
  rintro e w2 ⟨rfl, hR⟩
  rewrite [HEr.out]
  have HR : Hid _ := hR
  clear hR
  go_wp2_with fail
  refine (num_any er w2).mono ?_
  rintro e w3 ⟨rfl, hw3⟩
  obtain rfl := hw3.symm
  go_wp2
  go_ret
  obtain ⟨hW, hB⟩ := HW1.out.both HXk.out HP.out HR.out (both_sync HP1.out.sim oa) (both_sync HP1.out.sim oa).rest HP1.out.outs
  refine ⟨rfl, ?_, (HBw.out.mono HB.out).trans hB⟩
  rw [← hn]
  exact hW

set_option maxRecDepth 100000 in
set_option maxHeartbeats 4000000 in
theorem does_crash (B N : Nat) (gW : Nat) (ps : List Pair) (lab : Nat → Nat) (o : OpV) (k : Nat) (w : World) (h : WldAt B N w gW ps lab) (hk : k < ps.length) (ho : o.kind = 8) :
    Calls Tryz.prog 13 #[.pointer (some ⟨gW, 0, none⟩), .int .i64 (k : Int), .agg o.arr] w (WPost B N gW ps.length w) := by
  obtain ⟨kind, oa, ob, oc, ok, os, conf, z0, z1, z2, z3, z4, z5, z6, z7, ra, rm, rc⟩ := o
  simp only at ho
  subst ho
  have hxk := List.getElem?_eq_getElem hk
  generalize ps[k] = x at hxk
  have HB : Hid _ := h.base
  obtain ⟨gC, cC, gR, cR, l0, l1, l2, l3, hgW, hgC, hgR⟩ := h.look hxk
  have H : Hid _ := h
  have HXk : Hid _ := hxk
  clear h hxk
  generalize hn : ps.length = n at *
  show Calls Tryz.prog 13 #[.pointer (some ⟨gW, 0, none⟩), .int .i64 (k : Int), .agg #[.int .i64 8, .int .i64 oa, .int .i64 ob, .int .i64 oc, .int .i64 ok, .string os, .int .i64 conf.clients, .int .i64 conf.queue, .int .i64 conf.quantum, .int .i64 conf.room, .int .i64 conf.reps, .int .i16 z0, .int .i16 z1, .int .i16 z2, .int .i16 z3, .int .i16 z4, .int .i16 z5, .int .i16 z6, .int .i16 z7, .slice ra rm rc]] w _
  have k1 : (k : Int) < (n : Int) := by omega
  have k0 : (0 : Int) ≤ (k : Int) := by omega
  obtain ⟨W1, hW1⟩ : ∃ W1, W1 = w.alloc (.cells #[.int .i64 8, .int .i64 oa, .int .i64 ob, .int .i64 oc, .int .i64 ok, .string os, .int .i64 conf.clients, .int .i64 conf.queue, .int .i64 conf.quantum, .int .i64 conf.room, .int .i64 conf.reps, .int .i16 z0, .int .i16 z1, .int .i16 z2, .int .i16 z3, .int .i16 z4, .int .i16 z5, .int .i16 z6, .int .i16 z7, .slice ra rm rc] 40) := ⟨_, rfl⟩
  have HBw : Hid (Below w.heap.size w W1) := by rw [hW1]; exact (Below.refl _ _).alloc (Nat.le_refl _) _
  have HBx : Hid (W1.heap[w.heap.size]? = some (.cells #[.int .i64 8, .int .i64 oa, .int .i64 ob, .int .i64 oc, .int .i64 ok, .string os, .int .i64 conf.clients, .int .i64 conf.queue, .int .i64 conf.quantum, .int .i64 conf.room, .int .i64 conf.reps, .int .i16 z0, .int .i16 z1, .int .i16 z2, .int .i16 z3, .int .i16 z4, .int .i16 z5, .int .i16 z6, .int .i16 z7, .slice ra rm rc] 40)) := by rw [hW1]; exact heap_at rfl
  have HW1 : Hid (WldAt B N W1 gW ps lab) := H.out.below HBw.out
  have HP1 : Hid (PairAt B W1 lab k x) := HW1.out.pair k x HXk.out
  go_enter Tryz.func13, Tryz.ntmps13
  go_wp2_with fail
  rewrite [← hW1]
  refine (pcrash_any x.g x.F x.p x.s oa ob W1 HP1.out.seq HP1.out.sim).mono ?_
  rintro e w1 ⟨rfl, hP⟩
  have HP : Hid _ := hP
  have HK1 : Hid (Kept x.F W1 w1) := by obtain ⟨_, _, hk1, _⟩ := hP; exact hk1
  have HC1 : Hid (CluAt w1 x.gr x.Fr x.s) := HP1.out.other HK1.out
  have hbx : w1.heap[w.heap.size]? = _ := (HK1.out.block w.heap.size (heap_cells HBx.out).2.2 (fun hf => by have := (H.out.pair k x HXk.out).seq.own _ hf; omega)).trans HBx.out
  obtain ⟨b0, bf, bz⟩ := heap_cells hbx
  clear hP hbx l0 l1 l2 l3
  obtain ⟨er, her⟩ : ∃ y, (crashV x.s oa ob).2 = y := ⟨_, rfl⟩
  have HEr : Hid _ := her
  rewrite [her]
  clear her
  go_wp2_with fail
  refine (refcrash_any x.gr x.Fr x.s oa ob w1 HC1.out HP1.out.sim.rep).mono ?_
  rintro e w2 ⟨rfl, hR⟩
  rewrite [HEr.out]
  have HR : Hid _ := hR
  clear hR
  go_wp2_with fail
  refine (num_any er w2).mono ?_
  rintro e w3 ⟨rfl, hw3⟩
  obtain rfl := hw3.symm
  go_wp2
  go_ret
  obtain ⟨hW, hB⟩ := HW1.out.both HXk.out HP.out HR.out (both_crash HP1.out.sim oa ob) (both_crash HP1.out.sim oa ob).rest HP1.out.outs
  refine ⟨rfl, ?_, (HBw.out.mono HB.out).trans hB⟩
  rw [← hn]
  exact hW

end Go.Proofs.YtccckonckddadabGreat
namespace Go.Proofs.YtccckonckddadabGreat
open Go.RowKit
set_option linter.unusedVariables false

theorem does_send' (B N : Nat) (gW : Nat) (ps : List Pair) (lab : Nat → Nat) (oa ob oc ok : Int) (os : ByteArray) (x1 x2 x3 x4 x5 z0 z1 z2 z3 z4 z5 z6 z7 : Int) (ra : Option Addr) (rm rc : Nat) (k : Nat) (w : World) (h : WldAt B N w gW ps lab) (hk : k < ps.length) :
    Calls Tryz.prog 13 #[.pointer (some ⟨gW, 0, none⟩), .int .i64 (k : Int), .agg #[.int .i64 6, .int .i64 oa, .int .i64 ob, .int .i64 oc, .int .i64 ok, .string os, .int .i64 x1, .int .i64 x2, .int .i64 x3, .int .i64 x4, .int .i64 x5, .int .i16 z0, .int .i16 z1, .int .i16 z2, .int .i16 z3, .int .i16 z4, .int .i16 z5, .int .i16 z6, .int .i16 z7, .slice ra rm rc]] w (WPost B N gW ps.length w) :=
  does_send B N gW ps lab ⟨6, oa, ob, oc, ok, os, ⟨x1, x2, x3, x4, x5⟩, z0, z1, z2, z3, z4, z5, z6, z7, ra, rm, rc⟩ k w h hk rfl

set_option maxRecDepth 100000 in
set_option maxHeartbeats 8000000 in
theorem step_send (B N : Nat) (gW : Nat) (ps : List Pair) (lab : Nat → Nat) (oa ob oc ok : Int) (os : ByteArray) (x1 x2 x3 x4 x5 z0 z1 z2 z3 z4 z5 z6 z7 : Int) (ra : Option Addr) (rm rc : Nat) (w : World) (h : WldAt B N w gW ps lab) (hs : os.size ≤ maxLen) (hk0 : -9223372036854775808 ≤ ok) (hk1 : ok < 9223372036854775808) (hn : ps.length + 1 ≤ 10000000000000) (h0 : 0 < ps.length) :
    Calls Tryz.prog 5 #[.pointer (some ⟨gW, 0, none⟩), .agg #[.int .i64 6, .int .i64 oa, .int .i64 ob, .int .i64 oc, .int .i64 ok, .string os, .int .i64 x1, .int .i64 x2, .int .i64 x3, .int .i64 x4, .int .i64 x5, .int .i16 z0, .int .i16 z1, .int .i16 z2, .int .i16 z3, .int .i16 z4, .int .i16 z5, .int .i16 z6, .int .i16 z7, .slice ra rm rc]] w (NPost B N gW ps.length w) := by
  have HB : Hid _ := h.base
  have H : Hid _ := h
  clear h
  obtain ⟨W1, hW1⟩ : ∃ W1, W1 = w.alloc (.cells #[.int .i64 6, .int .i64 oa, .int .i64 ob, .int .i64 oc, .int .i64 ok, .string os, .int .i64 x1, .int .i64 x2, .int .i64 x3, .int .i64 x4, .int .i64 x5, .int .i16 z0, .int .i16 z1, .int .i16 z2, .int .i16 z3, .int .i16 z4, .int .i16 z5, .int .i16 z6, .int .i16 z7, .slice ra rm rc] 40) := ⟨_, rfl⟩
  have HBw : Hid (Below w.heap.size w W1) := by rw [hW1]; exact (Below.refl _ _).alloc (Nat.le_refl _) _
  have HBx : Hid (W1.heap[w.heap.size]? = some (.cells #[.int .i64 6, .int .i64 oa, .int .i64 ob, .int .i64 oc, .int .i64 ok, .string os, .int .i64 x1, .int .i64 x2, .int .i64 x3, .int .i64 x4, .int .i64 x5, .int .i16 z0, .int .i16 z1, .int .i16 z2, .int .i16 z3, .int .i16 z4, .int .i16 z5, .int .i16 z6, .int .i16 z7, .slice ra rm rc] 40)) := by rw [hW1]; exact heap_at rfl
  have HW1 : Hid (WldAt B N W1 gW ps lab) := H.out.below HBw.out
  obtain ⟨aC, cC, aR, cR, vH, m1, _⟩ := HW1.out.mem
  have hgW1 := (heap_cells m1).2.2
  have c0 : W1.cell? ⟨gW, 0, none⟩ = some (.slice aC ps.length cC) := by rw [(heap_cells m1).1]; rfl
  have hgW : gW < w.heap.size := by obtain ⟨_, _, _, _, _, q1, _⟩ := H.out.mem; exact (heap_cells q1).2.2
  have c0w : w.cell? ⟨gW, 0, none⟩ = some (.slice aC ps.length cC) := (HBw.out.cell (p := ⟨gW, 0, none⟩) hgW).symm.trans c0
  clear m1
  obtain ⟨n, hnn⟩ : ∃ n, ps.length = n := ⟨_, rfl⟩
  have HNn : Hid _ := hnn
  rw [hnn] at c0 c0w hn ⊢
  have hnb : ((n : Int) == 0) = false := by rw [beq_eq_false_iff_ne]; omega
  have hn0 : (0 : Int) < (n : Int) := by omega
  go_enter Tryz.func5, Tryz.ntmps5
  go_wp2
  rewrite [← hW1]
  clear c0w hW1
  obtain ⟨b0, bf, bz⟩ := heap_cells HBx.out
  have x4c : W1.cell? ⟨w.heap.size, 4, none⟩ = some (.int .i64 ok) := by rw [b0]; rfl
  clear b0 bf
  go_region_held3 (fun W => W.cell? ⟨gW, 0, none⟩ = some (.slice aC n cC) ∧ W.cell? ⟨w.heap.size, 4, none⟩ = some (.int .i64 ok))
    (first | (exact ⟨c0, x4c⟩))
    (first | (go_at_call 12; refine (lpick_any ok (n : Int) _ hk0 hk1 hn0 (by omega)).mono ?_; rintro e w1 ⟨r, rfl, hr0, hr1, rfl⟩))
  have HBd : Hid (Below w.heap.size w W1.drew) := HBw.out.drew
  have HWd : Hid (WldAt B N W1.drew gW ps lab) := HW1.out.below (Below.refl _ _).drew
  have HBy : Hid (W1.drew.heap[w.heap.size]? = some (.cells #[.int .i64 6, .int .i64 oa, .int .i64 ob, .int .i64 oc, .int .i64 ok, .string os, .int .i64 x1, .int .i64 x2, .int .i64 x3, .int .i64 x4, .int .i64 x5, .int .i16 z0, .int .i16 z1, .int .i16 z2, .int .i16 z3, .int .i16 z4, .int .i16 z5, .int .i16 z6, .int .i16 z7, .slice ra rm rc] 40)) := HBx.out
  generalize W1.drew = W2 at *
  clear HW1 HBx HBw c0 x4c bz
  obtain ⟨b0, bf, bz⟩ := heap_cells HBy.out
  have HRg : Hid (W2.rangeAt w.heap.size 0 [.int .i64 6, .int .i64 oa, .int .i64 ob, .int .i64 oc, .int .i64 ok, .string os, .int .i64 x1, .int .i64 x2, .int .i64 x3, .int .i64 x4, .int .i64 x5, .int .i16 z0, .int .i16 z1, .int .i16 z2, .int .i16 z3, .int .i16 z4, .int .i16 z5, .int .i16 z6, .int .i16 z7, .slice ra rm rc]) := fun j v hv => by rw [Nat.zero_add, b0, List.getElem?_toArray]; exact hv
  have y0 : W2.cell? ⟨w.heap.size, 0, none⟩ = some (.int .i64 6) := by rw [b0]; rfl
  clear b0 bf
  obtain ⟨k, hk⟩ : ∃ k : Nat, r = (k : Int) := ⟨r.toNat, by omega⟩
  subst hk
  have hkn : k < ps.length := by rw [HNn.out]; omega
  have HFin : Hid (∀ {e : Ending} {w' : World}, NPost B N gW ps.length W2 e w' → NPost B N gW n w e w') := fun hN => by
    obtain ⟨q1, ⟨ps', lab', q2, q3⟩, q4⟩ := hN
    exact ⟨q1, ⟨ps', lab', by rw [← HNn.out]; exact q2, q3⟩, (HBd.out.mono HB.out).trans q4⟩
  go_wp2_with (refine wpList_load_mid rfl 40 (.tmp 3) rfl w.heap.size 0 rfl [.int .i64 6, .int .i64 oa, .int .i64 ob, .int .i64 oc, .int .i64 ok, .string os, .int .i64 x1, .int .i64 x2, .int .i64 x3, .int .i64 x4, .int .i64 x5, .int .i16 z0, .int .i16 z1, .int .i16 z2, .int .i16 z3, .int .i16 z4, .int .i16 z5, .int .i16 z6, .int .i16 z7, .slice ra rm rc] _ HRg.out Tryz.underlying40 rfl info_opsize ?_)
  refine (does_send' B N gW ps lab oa ob oc ok os x1 x2 x3 x4 x5 z0 z1 z2 z3 z4 z5 z6 z7 ra rm rc k W2 HWd.out hkn).mono ?_
  rintro e w3 hP
  have hN := HFin.out (WPost.more hP)
  obtain ⟨rfl, hN2⟩ := hN
  have HP : Hid _ := hN2
  clear hP hN2
  go_wp2
  go_ret
  exact ⟨rfl, HP.out⟩

end Go.Proofs.YtccckonckddadabGreat
