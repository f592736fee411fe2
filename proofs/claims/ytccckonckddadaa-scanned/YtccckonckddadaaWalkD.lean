import Derived.Test.YtccckonckddadaaWalkC
namespace Go.Proofs.Ytccckonckddadaa
open Go.RowKit
set_option linter.unusedVariables false

def KeysPost (l : List UInt8) (w : World) (e : Ending) (w' : World) : Prop :=
  ∃ b0 b1 b2 b3 b4 b5 b6 b7 : Bool, e = .returned (.tuple #[.agg #[.bool b0, .bool b1, .bool b2, .bool b3, .bool b4, .bool b5, .bool b6, .bool b7], .bool (Dk.rise (-1) l)]) ∧
    (Dk.rise (-1) l = true → [b0, b1, b2, b3, b4, b5, b6, b7] = [0, 1, 2, 3, 4, 5, 6, 7].map (Dk.hasKey l)) ∧ Below w.heap.size w w'

theorem keys_next {b0 b1 b2 b3 b4 b5 b6 b7 : Bool} {l l' : List UInt8} {b : UInt8} (hl : l' = l ++ [b]) (h : [b0, b1, b2, b3, b4, b5, b6, b7] = [0, 1, 2, 3, 4, 5, 6, 7].map (Dk.hasKey l)) (j : Nat) (hj : j < 8) (hb : (b.toNat : Int) = 97 + j) :
    [b0, b1, b2, b3, b4, b5, b6, b7].set j true = [0, 1, 2, 3, 4, 5, 6, 7].map (Dk.hasKey l') := by
  rw [h, hl]
  have : ∀ x, Dk.hasKey (l ++ [b]) x = (Dk.hasKey l x || (j == x)) := fun x => by
    rw [Dk.hasKey_snoc, hb]; congr 1; rw [Bool.eq_iff_iff, beq_iff_eq, beq_iff_eq]; omega
  obtain rfl | rfl | rfl | rfl | rfl | rfl | rfl | rfl : j = 0 ∨ j = 1 ∨ j = 2 ∨ j = 3 ∨ j = 4 ∨ j = 5 ∨ j = 6 ∨ j = 7 := by omega
  all_goals simp [this]

theorem below2 (w : World) (o o' : Obj) : Below w.heap.size w ((w.alloc o).alloc o') := ((Below.refl _ _).alloc (Nat.le_refl _) o).alloc (by simp) o'

set_option maxHeartbeats 1000000 in
theorem keys_any (s : ByteArray) (w : World) (hs : s.size ≤ maxLen) :
    Calls Try.prog 65 #[.string s] w (KeysPost s.data.toList w) := by
  unfold maxLen at hs
  go_enter Try.func65, Try.ntmps65
  go_wp2
  go_loopw [5, 6] (fun last i wr => ∃ (k : Nat) (la : Int) (b0 b1 b2 b3 b4 b5 b6 b7 : Bool), k ≤ s.size ∧ i = .int .i64 k ∧ last = .int .i64 la ∧ -1 ≤ la ∧ la ≤ 7 ∧
      wr = (w.alloc (.cells #[.bool false, .bool false, .bool false, .bool false, .bool false, .bool false, .bool false, .bool false] 33)).alloc (.cells #[.bool b0, .bool b1, .bool b2, .bool b3, .bool b4, .bool b5, .bool b6, .bool b7] 33) ∧
      Hid ([b0, b1, b2, b3, b4, b5, b6, b7] = [0, 1, 2, 3, 4, 5, 6, 7].map (Dk.hasKey (s.data.toList.take k)) ∧ Dk.rise (-1) s.data.toList = Dk.rise la (s.data.toList.drop k))) (fun _ i _ => s.size - (intOf i).toNat)
  case atStart => exact ⟨0, -1, false, false, false, false, false, false, false, false, Nat.zero_le _, rfl, rfl, by omega, by omega, rfl, rfl, rfl⟩
  case round =>
    obtain ⟨k, la, b0, b1, b2, b3, b4, b5, b6, b7, hk, rfl, rfl, hl0, hl1, rfl, HR⟩ := hrel
    by_cases hlt : k < s.size
    · have hb := byte_bd s[k]
      have HT : Hid (s.data.toList.take (k + 1) = s.data.toList.take k ++ [s[k]]) := take_snoc s k hlt
      go_wp2_with fail
      refine (key_any _ _ hb.1 hb.2).mono ?_
      rintro e w' ⟨rfl, rfl⟩
      cases hkk : Dk.isK s[k].toNat
      · have HN : Hid (Dk.rise (-1) s.data.toList = false) := by
          show _ = _
          rw [HR.out.2]; exact Dk.rise_drop_no hlt (.inl hkk)
        clear hkk HR HT
        generalize Dk.keyV s[k].toNat = kv
        go_wp2
        exact bodyPost_ret (v := .tuple #[.agg #[.bool false, .bool false, .bool false, .bool false, .bool false, .bool false, .bool false, .bool false], .bool false]) (by simp [results, Try.results65, go_sem]) rfl
          ⟨_, _, _, _, _, _, _, _, by rw [HN.out], by rw [HN.out]; simp, below2 _ _ _⟩
      · by_cases hla : (s[k].toNat : Int) - 97 ≤ la
        · have HN : Hid (Dk.rise (-1) s.data.toList = false) := by
            show _ = _
            rw [HR.out.2]; exact Dk.rise_drop_no hlt (.inr hla)
          have hK := Dk.of_isK hkk
          rewrite [Dk.keyV_yes hK.1 hK.2]
          clear hkk HR HT hK
          go_wp2
          exact bodyPost_ret (v := .tuple #[.agg #[.bool false, .bool false, .bool false, .bool false, .bool false, .bool false, .bool false, .bool false], .bool false]) (by simp [results, Try.results65, go_sem]) rfl
            ⟨_, _, _, _, _, _, _, _, by rw [HN.out], by rw [HN.out]; simp, below2 _ _ _⟩
        · have hK := Dk.of_isK hkk
          have HN : Hid (Dk.rise (-1) s.data.toList = Dk.rise ((s[k].toNat : Int) - 97) (s.data.toList.drop (k + 1))) := by
            show _ = _
            rw [HR.out.2]; exact Dk.rise_drop_yes hlt hkk (by show la < (s[k].toNat : Int) - 97; omega)
          rewrite [Dk.keyV_yes hK.1 hK.2]
          obtain ⟨j, hj, hjs⟩ : ∃ j : Nat, j < 8 ∧ (s[k].toNat : Int) = 97 + j := ⟨s[k].toNat - 97, by omega, by omega⟩
          have HKN := @keys_next b0 b1 b2 b3 b4 b5 b6 b7 _ _ _ HT.out HR.out.1 j hj hjs
          clear hkk HR HT hK hb
          generalize (s[k].toNat : Int) = x at *
          obtain rfl | rfl | rfl | rfl | rfl | rfl | rfl | rfl : j = 0 ∨ j = 1 ∨ j = 2 ∨ j = 3 ∨ j = 4 ∨ j = 5 ∨ j = 6 ∨ j = 7 := by omega
          all_goals
            obtain rfl := hjs
            have HK : Hid _ := HKN
            clear HKN
            go_wp2
            go_roundw
            case rel => exact ⟨k + 1, _, _, _, _, _, _, _, _, _, by omega, by go_num, rfl, by omega, by omega, rfl, HK.out, HN.out⟩
            case measure => simp [intOf]; omega
    · have HN : Hid (Dk.rise (-1) s.data.toList = true) := by
        show _ = _
        rw [HR.out.2, List.drop_eq_nil_of_le (by rw [len_list]; omega)]; rfl
      have HA := HR.out.1
      rw [take_all s k (by omega)] at HA
      have HB : Hid _ := HA
      clear HA HR
      go_wp2
      exact bodyPost_ret (v := .tuple #[.agg #[.bool b0, .bool b1, .bool b2, .bool b3, .bool b4, .bool b5, .bool b6, .bool b7], .bool true]) (by simp [results, Try.results65, go_sem]) rfl
        ⟨_, _, _, _, _, _, _, _, by rw [HN.out], fun _ => HB.out, below2 _ _ _⟩

end Go.Proofs.Ytccckonckddadaa
