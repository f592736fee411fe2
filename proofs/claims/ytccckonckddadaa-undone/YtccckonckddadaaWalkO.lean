import Derived.Test.YtccckonckddadaaWalkM
import Derived.Test.YtccckonckddadaaPlainE
namespace Go.Proofs.Ytccckonckddadaa
open Go.RowKit
set_option linter.unusedVariables false

theorem five_text : Dk.applyV [97, 98, 124, 97, 61, 53, 59, 98, 43, 97, 59, 98, 42, 98] [0, 0, 0, 0, 0, 0, 0, 0] = ([5, 25, 0, 0, 0, 0, 0, 0], true, 0) := by kernel_rfl
theorem seven_text : Dk.applyV [97, 124, 97, 61, 55, 59, 97, 60, 51] [0, 0, 0, 0, 0, 0, 0, 0] = ([0, 0, 0, 0, 0, 0, 0, 0], false, 0) := by kernel_rfl

theorem apply_is (s : ByteArray) (x0 x1 x2 x3 x4 x5 x6 x7 y0 y1 y2 y3 y4 y5 y6 y7 : Int) (d : Bool) (er : Int) (w : World) (hs : s.size ≤ maxLen)
    (h : Dk.applyV s.data.toList [x0, x1, x2, x3, x4, x5, x6, x7] = ([y0, y1, y2, y3, y4, y5, y6, y7], d, er)) :
    Calls Try.prog 16 #[.string s, .agg #[.int .i16 x0, .int .i16 x1, .int .i16 x2, .int .i16 x3, .int .i16 x4, .int .i16 x5, .int .i16 x6, .int .i16 x7]] w fun e w' => e = .returned (.tuple #[.agg #[.int .i16 y0, .int .i16 y1, .int .i16 y2, .int .i16 y3, .int .i16 y4, .int .i16 y5, .int .i16 y6, .int .i16 y7], .bool d, .int .i64 er]) ∧ Below w.heap.size w w' := by
  refine (apply_any s x0 x1 x2 x3 x4 x5 x6 x7 w hs).mono ?_
  rintro e w1 ⟨z0, z1, z2, z3, z4, z5, z6, z7, d', er', rfl, hz, hb⟩
  rw [h] at hz
  simp only [Prod.mk.injEq, List.cons.injEq, and_true] at hz
  obtain ⟨⟨rfl, rfl, rfl, rfl, rfl, rfl, rfl, rfl⟩, rfl, rfl⟩ := hz
  exact ⟨rfl, hb⟩

set_option maxHeartbeats 2000000 in
theorem undone_no (s : ByteArray) (x0 x1 x2 x3 x4 x5 x6 x7 : Int) (er : Int) (w : World) (hs : s.size ≤ maxLen)
    (h : Dk.applyV s.data.toList [x0, x1, x2, x3, x4, x5, x6, x7] = ([x0, x1, x2, x3, x4, x5, x6, x7], false, er)) :
    Calls Try.prog 5 #[.string s, .agg #[.int .i16 x0, .int .i16 x1, .int .i16 x2, .int .i16 x3, .int .i16 x4, .int .i16 x5, .int .i16 x6, .int .i16 x7]] w fun e w' => e = .returned (.bool true) ∧ Below w.heap.size w w' := by
  have H : Hid _ := h
  clear h
  go_enter Try.func5, Try.ntmps5
  go_wp2_with fail
  refine (apply_is ⟨#[97, 98, 124, 97, 61, 53, 59, 98, 43, 97, 59, 98, 42, 98]⟩ 0 0 0 0 0 0 0 0 5 25 0 0 0 0 0 0 true 0 _ (by decide) five_text).mono ?_
  rintro e w1 ⟨rfl, hb1⟩
  obtain ⟨g1, k1⟩ := below_one hb1
  obtain ⟨c1, f1, z1⟩ := heap_cells g1
  have K1 : Hid _ := k1
  have G1 : Hid _ := g1
  clear hb1 k1 g1
  go_wp2_with fail
  refine (apply_is ⟨#[97, 124, 97, 61, 55, 59, 97, 60, 51]⟩ 0 0 0 0 0 0 0 0 0 0 0 0 0 0 0 0 false 0 _ (by decide) seven_text).mono ?_
  rintro e w2 ⟨rfl, hb2⟩
  obtain ⟨g2, k2⟩ := below_one hb2
  obtain ⟨c2, f2, z2⟩ := heap_cells g2
  have G2 : Hid _ := (k2.block _ z1).trans G1.out
  obtain ⟨c3, f3, z3⟩ := heap_cells G2.out
  have K2 : Hid (Below w.heap.size w w2) := K1.out.trans (k2.mono K1.out.size)
  clear hb2 g2 k2
  have hg := guard_cells
  have hq := equal_same 5 25 0 0 0 0 0 0
  go_wp2_with fail
  refine (apply_is s x0 x1 x2 x3 x4 x5 x6 x7 x0 x1 x2 x3 x4 x5 x6 x7 false er _ hs H.out).mono ?_
  rintro e w3 ⟨rfl, hb3⟩
  have hb4 := below_of_new hb3
  obtain ⟨c4, f4, z4⟩ := heap_cells ((hb4.block _ z3).trans G2.out)
  have K3 : Hid (Below w.heap.size w w3) := K2.out.trans (hb4.mono K2.out.size)
  clear hb3 hb4
  have hq2 := equal_same x0 x1 x2 x3 x4 x5 x6 x7
  go_wp2
  go_ret
  exact ⟨rfl, K3.out.alloc (Nat.le_of_lt (by omega)) _⟩

theorem may_ok {l : List UInt8} {k : Nat} {b0 b1 b2 b3 b4 b5 b6 b7 : Bool} {x0 x1 x2 x3 x4 x5 x6 x7 y0 y1 y2 y3 y4 y5 y6 y7 er : Int} (h : Dk.applyV l [x0, x1, x2, x3, x4, x5, x6, x7] = ([y0, y1, y2, y3, y4, y5, y6, y7], true, er))
    (hb : [b0, b1, b2, b3, b4, b5, b6, b7] = [0, 1, 2, 3, 4, 5, 6, 7].map (Dk.hasKey (l.take k))) (hk : (Dk.cutAt 124 l).1 = l.take k) :
    (y0 ≠ x0 → b0 = true) ∧ (y1 ≠ x1 → b1 = true) ∧ (y2 ≠ x2 → b2 = true) ∧ (y3 ≠ x3 → b3 = true) ∧ (y4 ≠ x4 → b4 = true) ∧ (y5 ≠ x5 → b5 = true) ∧ (y6 ≠ x6 → b6 = true) ∧ (y7 ≠ x7 → b7 = true) := by
  have e : Dk.keysOf l = [b0, b1, b2, b3, b4, b5, b6, b7] := by unfold Dk.keysOf; rw [hk, hb]
  have f := fun j => Dk.applyV_frame h j
  rw [e] at f
  exact ⟨f 0, f 1, f 2, f 3, f 4, f 5, f 6, f 7⟩

theorem keys_same {b0 b1 b2 b3 b4 b5 b6 b7 : Bool} {l l' : List UInt8} {b : UInt8} (hl : l' = l ++ [b]) (h : [b0, b1, b2, b3, b4, b5, b6, b7] = [0, 1, 2, 3, 4, 5, 6, 7].map (Dk.hasKey l)) (hb : (b.toNat : Int) < 97 ∨ 104 < (b.toNat : Int)) :
    [b0, b1, b2, b3, b4, b5, b6, b7] = [0, 1, 2, 3, 4, 5, 6, 7].map (Dk.hasKey l') := by
  rw [h, hl]
  have : ∀ x, 0 ≤ x → x ≤ 7 → Dk.hasKey (l ++ [b]) x = Dk.hasKey l x := fun x h0 h7 => by
    rw [Dk.hasKey_snoc, beq_eq_false_iff_ne.2 (by omega), Bool.or_false]
  simp [this]

set_option maxHeartbeats 4000000 in
theorem undone_yes (s : ByteArray) (x0 x1 x2 x3 x4 x5 x6 x7 y0 y1 y2 y3 y4 y5 y6 y7 : Int) (w : World) (hs : s.size ≤ maxLen)
    (h : Dk.applyV s.data.toList [x0, x1, x2, x3, x4, x5, x6, x7] = ([y0, y1, y2, y3, y4, y5, y6, y7], true, 0)) :
    Calls Try.prog 5 #[.string s, .agg #[.int .i16 x0, .int .i16 x1, .int .i16 x2, .int .i16 x3, .int .i16 x4, .int .i16 x5, .int .i16 x6, .int .i16 x7]] w fun e w' => e = .returned (.bool true) ∧ Below w.heap.size w w' := by
  have H : Hid _ := h
  clear h
  go_enter Try.func5, Try.ntmps5
  go_wp2_with fail
  refine (apply_is ⟨#[97, 98, 124, 97, 61, 53, 59, 98, 43, 97, 59, 98, 42, 98]⟩ 0 0 0 0 0 0 0 0 5 25 0 0 0 0 0 0 true 0 _ (by decide) five_text).mono ?_
  rintro e w1 ⟨rfl, hb1⟩
  obtain ⟨g1, k1⟩ := below_one hb1
  obtain ⟨c1, f1, z1⟩ := heap_cells g1
  have K1 : Hid _ := k1
  have G1 : Hid _ := g1
  clear hb1 k1 g1
  go_wp2_with fail
  refine (apply_is ⟨#[97, 124, 97, 61, 55, 59, 97, 60, 51]⟩ 0 0 0 0 0 0 0 0 0 0 0 0 0 0 0 0 false 0 _ (by decide) seven_text).mono ?_
  rintro e w2 ⟨rfl, hb2⟩
  obtain ⟨g2, k2⟩ := below_one hb2
  obtain ⟨c2, f2, z2⟩ := heap_cells g2
  have G2 : Hid _ := (k2.block _ z1).trans G1.out
  obtain ⟨c3, f3, z3⟩ := heap_cells G2.out
  have K2 : Hid (Below w.heap.size w w2) := K1.out.trans (k2.mono K1.out.size)
  clear hb2 g2 k2
  have hg := guard_cells
  have hq := equal_same 5 25 0 0 0 0 0 0
  go_wp2_with fail
  refine (apply_is s x0 x1 x2 x3 x4 x5 x6 x7 y0 y1 y2 y3 y4 y5 y6 y7 true 0 _ hs H.out).mono ?_
  rintro e w3 ⟨rfl, hb3⟩
  have hb4 := below_of_new hb3
  obtain ⟨c4, f4, z4⟩ := heap_cells ((hb4.block _ z3).trans G2.out)
  have K3 : Hid (Below w.heap.size w w3) := K2.out.trans (hb4.mono K2.out.size)
  clear hb3 hb4 hq c1 f1 z1 c2 f2 z2 c3 f3 z3 G1 G2 K1 K2 hg
  unfold maxLen at hs
  go_wp2
  go_loopw [15] (fun i wr => ∃ (k : Nat) (b0 b1 b2 b3 b4 b5 b6 b7 : Bool), k ≤ s.size ∧ i = .int .i64 k ∧
      wr = (w3.alloc (.cells #[.int .i16 y0, .int .i16 y1, .int .i16 y2, .int .i16 y3, .int .i16 y4, .int .i16 y5, .int .i16 y6, .int .i16 y7] 24)).alloc (.cells #[.bool b0, .bool b1, .bool b2, .bool b3, .bool b4, .bool b5, .bool b6, .bool b7] 33) ∧
      Hid ([b0, b1, b2, b3, b4, b5, b6, b7] = [0, 1, 2, 3, 4, 5, 6, 7].map (Dk.hasKey (s.data.toList.take k)) ∧ ∀ j (_ : j < k) (hj' : j < s.data.toList.length), (s.data.toList[j].toNat : Int) ≠ 124)) (fun i _ => s.size - (intOf i).toNat)
  case atStart => exact ⟨0, false, false, false, false, false, false, false, false, Nat.zero_le _, rfl, rfl, rfl, by simp⟩
  case round =>
    obtain ⟨k, b0, b1, b2, b3, b4, b5, b6, b7, hk, rfl, rfl, HR⟩ := hrel
    have hexit : (s.size ≤ k ∨ ∃ h : k < s.size, ((s[k].toNat : Int) != 124) = false) ∨ (∃ h : k < s.size, ((s[k].toNat : Int) != 124) = true) := by
      by_cases hlt : k < s.size
      · cases e : ((s[k].toNat : Int) != 124)
        · exact .inl (.inr ⟨hlt, e⟩)
        · exact .inr ⟨hlt, e⟩
      · exact .inl (.inl (by omega))
    rcases hexit with hexit | ⟨hlt, hne⟩
    · have hcut : (Dk.cutAt 124 s.data.toList).1 = s.data.toList.take k := Dk.cut_at_bar HR.out.2 (by
        rcases hexit with h | ⟨h, e⟩
        · exact .inl h
        · exact .inr ⟨h, bne_eq_false_iff_eq.1 e⟩)
      obtain ⟨m0, m1, m2, m3, m4, m5, m6, m7⟩ := may_ok H.out HR.out.1 hcut
      clear hcut HR H
      have HM : Hid ((y0 ≠ x0 → b0 = true) ∧ (y1 ≠ x1 → b1 = true) ∧ (y2 ≠ x2 → b2 = true) ∧ (y3 ≠ x3 → b3 = true) ∧ (y4 ≠ x4 → b4 = true) ∧ (y5 ≠ x5 → b5 = true) ∧ (y6 ≠ x6 → b6 = true) ∧ (y7 ≠ x7 → b7 = true)) := ⟨m0, m1, m2, m3, m4, m5, m6, m7⟩
      clear m0 m1 m2 m3 m4 m5 m6 m7
      rcases hexit with hlt | ⟨hlt, hne⟩
      all_goals
        go_wp2
        go_loopw [16] (fun i wr => ∃ j n : Nat, j ≤ 8 ∧ i = .int .i64 j ∧ wr = ((w3.alloc (.cells #[.int .i16 y0, .int .i16 y1, .int .i16 y2, .int .i16 y3, .int .i16 y4, .int .i16 y5, .int .i16 y6, .int .i16 y7] 24)).alloc (.cells #[.bool b0, .bool b1, .bool b2, .bool b3, .bool b4, .bool b5, .bool b6, .bool b7] 33)).drewN n) (fun i _ => 8 - (intOf i).toNat)
        case atStart => exact ⟨0, 0, by omega, rfl, rfl⟩
        case round =>
          obtain ⟨j, n, hj, rfl, rfl⟩ := hrel
          by_cases hj8 : j < 8
          · obtain rfl | rfl | rfl | rfl | rfl | rfl | rfl | rfl : j = 0 ∨ j = 1 ∨ j = 2 ∨ j = 3 ∨ j = 4 ∨ j = 5 ∨ j = 6 ∨ j = 7 := by omega
            · cases e : (y0 != x0)
              · go_wp2
                go_quiet (fail)
                go_wp2
                go_roundw
                case rel => exact ⟨0 + 1, _, by omega, rfl, rfl⟩
                case measure => simp [intOf]
              · have hb0 : b0 = true := HM.out.1 (by simpa using e)
                subst hb0
                go_wp2
                go_quiet (fail)
                go_wp2
                go_roundw
                case rel => exact ⟨0 + 1, _, by omega, rfl, rfl⟩
                case measure => simp [intOf]
            · cases e : (y1 != x1)
              · go_wp2
                go_quiet (fail)
                go_wp2
                go_roundw
                case rel => exact ⟨1 + 1, _, by omega, rfl, rfl⟩
                case measure => simp [intOf]
              · have hb1 : b1 = true := HM.out.2.1 (by simpa using e)
                subst hb1
                go_wp2
                go_quiet (fail)
                go_wp2
                go_roundw
                case rel => exact ⟨1 + 1, _, by omega, rfl, rfl⟩
                case measure => simp [intOf]
            · cases e : (y2 != x2)
              · go_wp2
                go_quiet (fail)
                go_wp2
                go_roundw
                case rel => exact ⟨2 + 1, _, by omega, rfl, rfl⟩
                case measure => simp [intOf]
              · have hb2 : b2 = true := HM.out.2.2.1 (by simpa using e)
                subst hb2
                go_wp2
                go_quiet (fail)
                go_wp2
                go_roundw
                case rel => exact ⟨2 + 1, _, by omega, rfl, rfl⟩
                case measure => simp [intOf]
            · cases e : (y3 != x3)
              · go_wp2
                go_quiet (fail)
                go_wp2
                go_roundw
                case rel => exact ⟨3 + 1, _, by omega, rfl, rfl⟩
                case measure => simp [intOf]
              · have hb3 : b3 = true := HM.out.2.2.2.1 (by simpa using e)
                subst hb3
                go_wp2
                go_quiet (fail)
                go_wp2
                go_roundw
                case rel => exact ⟨3 + 1, _, by omega, rfl, rfl⟩
                case measure => simp [intOf]
            · cases e : (y4 != x4)
              · go_wp2
                go_quiet (fail)
                go_wp2
                go_roundw
                case rel => exact ⟨4 + 1, _, by omega, rfl, rfl⟩
                case measure => simp [intOf]
              · have hb4 : b4 = true := HM.out.2.2.2.2.1 (by simpa using e)
                subst hb4
                go_wp2
                go_quiet (fail)
                go_wp2
                go_roundw
                case rel => exact ⟨4 + 1, _, by omega, rfl, rfl⟩
                case measure => simp [intOf]
            · cases e : (y5 != x5)
              · go_wp2
                go_quiet (fail)
                go_wp2
                go_roundw
                case rel => exact ⟨5 + 1, _, by omega, rfl, rfl⟩
                case measure => simp [intOf]
              · have hb5 : b5 = true := HM.out.2.2.2.2.2.1 (by simpa using e)
                subst hb5
                go_wp2
                go_quiet (fail)
                go_wp2
                go_roundw
                case rel => exact ⟨5 + 1, _, by omega, rfl, rfl⟩
                case measure => simp [intOf]
            · cases e : (y6 != x6)
              · go_wp2
                go_quiet (fail)
                go_wp2
                go_roundw
                case rel => exact ⟨6 + 1, _, by omega, rfl, rfl⟩
                case measure => simp [intOf]
              · have hb6 : b6 = true := HM.out.2.2.2.2.2.2.1 (by simpa using e)
                subst hb6
                go_wp2
                go_quiet (fail)
                go_wp2
                go_roundw
                case rel => exact ⟨6 + 1, _, by omega, rfl, rfl⟩
                case measure => simp [intOf]
            · cases e : (y7 != x7)
              · go_wp2
                go_quiet (fail)
                go_wp2
                go_roundw
                case rel => exact ⟨7 + 1, _, by omega, rfl, rfl⟩
                case measure => simp [intOf]
              · have hb7 : b7 = true := HM.out.2.2.2.2.2.2.2 (by simpa using e)
                subst hb7
                go_wp2
                go_quiet (fail)
                go_wp2
                go_roundw
                case rel => exact ⟨7 + 1, _, by omega, rfl, rfl⟩
                case measure => simp [intOf]
          · go_wp2
            go_ret
            exact ⟨rfl, below_drewN ((K3.out.alloc (by omega) _).alloc (by simp; omega) _) _⟩
    · have hb := byte_bd s[k]
      have HT : Hid (s.data.toList.take (k + 1) = s.data.toList.take k ++ [s[k]]) := take_snoc s k hlt
      have HN : Hid (∀ j (_ : j < k + 1) (hj' : j < s.data.toList.length), (s.data.toList[j].toNat : Int) ≠ 124) := by
        intro j hj hj'
        by_cases e : j = k
        · subst e; exact bne_iff_ne.1 hne
        · exact HR.out.2 j (by omega) hj'
      by_cases hK : 97 ≤ (s[k].toNat : Int) ∧ (s[k].toNat : Int) ≤ 104
      · obtain ⟨j, hj, hjs⟩ : ∃ j : Nat, j < 8 ∧ (s[k].toNat : Int) = 97 + j := ⟨s[k].toNat - 97, by omega, by omega⟩
        have HKN := @keys_next b0 b1 b2 b3 b4 b5 b6 b7 _ _ _ HT.out HR.out.1 j hj hjs
        clear HR HT hK hb H
        obtain rfl | rfl | rfl | rfl | rfl | rfl | rfl | rfl : j = 0 ∨ j = 1 ∨ j = 2 ∨ j = 3 ∨ j = 4 ∨ j = 5 ∨ j = 6 ∨ j = 7 := by omega
        all_goals
          simp at hjs
          have HK : Hid _ := HKN
          clear HKN
          go_wp2
          go_roundw
          case rel => exact ⟨k + 1, _, _, _, _, _, _, _, _, by omega, by go_num, rfl, HK.out, HN.out⟩
          case measure => simp [intOf]; omega
      · have HS : Hid _ := keys_same HT.out HR.out.1 (by omega)
        clear HR HT H
        by_cases hlo : (s[k].toNat : Int) < 97
        · go_wp2
          go_roundw
          case rel => exact ⟨k + 1, _, _, _, _, _, _, _, _, by omega, by go_num, rfl, HS.out, HN.out⟩
          case measure => simp [intOf]; omega
        · have hhi : 104 < (s[k].toNat : Int) := by omega
          clear hK
          go_wp2
          go_roundw
          case rel => exact ⟨k + 1, _, _, _, _, _, _, _, _, by omega, by go_num, rfl, HS.out, HN.out⟩
          case measure => simp [intOf]; omega

end Go.Proofs.Ytccckonckddadaa
