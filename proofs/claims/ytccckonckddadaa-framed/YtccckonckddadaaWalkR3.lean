import Derived.Test.YtccckonckddadaaWalkR2
import Derived.Test.YtccckonckddadaaWalkC
namespace Go.Proofs.Ytccckonckddadaa
open Go.RowKit
set_option linter.unusedVariables false

/-! ### rising -/
def lastAt (l : List UInt8) : Nat → Int
  | 0 => -1
  | k + 1 => ((l.getD k 0).toNat : Int) - 97

theorem getD_list (s : ByteArray) (k : Nat) (h : k < s.size) : s.data.toList.getD k 0 = s[k] := by
  rw [List.getD_eq_getElem?_getD, List.getElem?_eq_getElem h]; rfl

set_option maxHeartbeats 1000000 in
theorem rising_any (s : ByteArray) (w : World) (hs : s.size ≤ maxLen) :
    Calls Try.prog 90 #[.string s] w fun e w' => e = .returned (.bool (Dk.rise (-1) s.data.toList)) ∧ ∃ n, w' = w.drewN n := by
  unfold maxLen at hs
  go_enter Try.func90, Try.ntmps90
  go_wp2
  go_loopw [3] (fun i wr => ∃ k n : Nat, k ≤ s.size ∧ i = .int .i64 k ∧ wr = w.drewN n ∧ Hid (Dk.rise (-1) s.data.toList = Dk.rise (lastAt s.data.toList k) (s.data.toList.drop k))) (fun i _ => s.size - (intOf i).toNat)
  case atStart => exact ⟨0, 0, Nat.zero_le _, rfl, rfl, rfl⟩
  case round =>
    obtain ⟨k, n, hk, rfl, rfl, HR⟩ := hrel
    by_cases hlt : k < s.size
    · have hb := byte_bd s[k]
      go_wp2_with fail
      refine (inK_any _ _).mono ?_
      rintro e w' ⟨rfl, rfl⟩
      cases hK : Dk.isK s[k].toNat
      · have HF : Hid (Dk.rise (-1) s.data.toList = false) := by
          show _ = _
          rw [HR.out]; exact Dk.rise_drop_no hlt (.inl hK)
        clear hK HR
        go_wp2
        go_quiet (fail)
        go_wp2
        go_ret
        exact ⟨by rw [HF.out]; rfl, _, World.drewN_drewN ..⟩
      · have hk97 := Dk.of_isK hK
        cases k with
        | zero =>
          have HN : Hid (Dk.rise (-1) s.data.toList = Dk.rise (lastAt s.data.toList 1) (s.data.toList.drop 1)) := by
            show _ = _
            rw [HR.out, Dk.rise_drop_yes hlt hK (by show (-1 : Int) < (s[0].toNat : Int) - 97; omega)]
            show _ = Dk.rise (((s.data.toList.getD 0 0).toNat : Int) - 97) _
            rw [getD_list s 0 hlt]; rfl
          clear hK HR
          go_wp2
          go_quiet (fail)
          go_wp2
          go_roundw
          case rel => exact ⟨1, _, by omega, rfl, rfl, HN.out⟩
          case measure => simp [intOf]; omega
        | succ j =>
          have hj : j < s.size := by omega
          have hb2 := byte_bd s[j]
          have i1 : (j : Int) + 1 < (s.size : Int) := by omega
          have i2 : (0 : Int) ≤ (j : Int) + 1 := by omega
          have i3 : (j : Int) < (s.size : Int) := by omega
          have hla : Hid (lastAt s.data.toList (j + 1) = (s[j].toNat : Int) - 97) := by
            show ((s.data.toList.getD j 0).toNat : Int) - 97 = _
            rw [getD_list s j hj]
          by_cases hle : (s[j + 1].toNat : Int) ≤ (s[j].toNat : Int)
          · have HF : Hid (Dk.rise (-1) s.data.toList = false) := by
              show _ = _
              rw [HR.out]; exact Dk.rise_drop_no hlt (.inr (by rw [hla.out]; show (s[j + 1].toNat : Int) - 97 ≤ _; omega))
            clear hK HR
            go_wp2
            go_quiet (fail)
            go_wp2
            go_ret
            exact ⟨by rw [HF.out]; rfl, _, World.drewN_drewN ..⟩
          · have HN : Hid (Dk.rise (-1) s.data.toList = Dk.rise (lastAt s.data.toList (j + 1 + 1)) (s.data.toList.drop (j + 1 + 1))) := by
              show _ = _
              rw [HR.out, Dk.rise_drop_yes hlt hK (by rw [hla.out]; show _ < (s[j + 1].toNat : Int) - 97; omega)]
              show _ = Dk.rise (((s.data.toList.getD (j + 1) 0).toNat : Int) - 97) _
              rw [getD_list s (j + 1) hlt]; rfl
            clear hK HR
            go_wp2
            go_quiet (fail)
            go_wp2
            go_roundw
            case rel => exact ⟨j + 1 + 1, _, by omega, by go_num, rfl, HN.out⟩
            case measure => simp [intOf]; omega
    · have HF : Hid (Dk.rise (-1) s.data.toList = true) := by
        show _ = _
        rw [HR.out, List.drop_eq_nil_of_le (by rw [len_list]; omega)]; rfl
      go_wp2
      go_ret
      exact ⟨by rw [HF.out]; rfl, _, rfl⟩

end Go.Proofs.Ytccckonckddadaa
