import Derived.Test.YtccckonckddadaaRows
import Derived.Test.YtccckonckddadaaPlain
import Derived.WalkKit
import Derived.WalkSpells
import Derived.WalkLawsBesides
import Derived.Deep.QuietTactic
import Derived.BigQuiet
namespace Go.Proofs.Ytccckonckddadaa
open Go.RowKit

set_option linter.unusedVariables false

theorem ret_int {k : IntKind} {a b : Int} (h : a = b) : Ending.returned (.int k a) = .returned (.int k b) := by rw [h]

theorem ext_list (s : ByteArray) (a b : Nat) : (s.extract a b).data.toList = (s.data.toList.take b).drop a := by
  simp [List.extract, List.drop_take]

theorem get_list (s : ByteArray) (k : Nat) (h : k < s.size) : s[k] = s.data.toList[k]'(by simpa using h) := rfl

theorem len_list (s : ByteArray) : s.data.toList.length = s.size := rfl

set_option maxHeartbeats 400000 in
theorem cut_any (s : ByteArray) (m : Int) (w : World) (hs : s.size ≤ maxLen) :
    Calls Try.prog 64 #[.string s, .int .u8 m] w fun e w' => ∃ h t : ByteArray, e = .returned (.tuple #[.string h, .string t, .bool (Dk.cutAt m s.data.toList).2.2]) ∧
      h.data.toList = (Dk.cutAt m s.data.toList).1 ∧ t.data.toList = (Dk.cutAt m s.data.toList).2.1 ∧ ∃ n, w' = w.drewN n := by
  unfold maxLen at hs
  go_enter Try.func64, Try.ntmps64
  go_wp2
  go_loop [7] (fun i => ∃ k : Nat, k ≤ s.size ∧ i = .int .i64 k ∧ ∀ j (hj : j < k) (hj' : j < s.size), (s[j].toNat : Int) ≠ m) (fun i => s.size - (intOf i).toNat)
  case atStart => exact ⟨0, Nat.zero_le _, rfl, by simp⟩
  case round =>
    obtain ⟨k, hk, rfl, hn⟩ := hrel
    have HN : Hid (∀ j (hj : j < k) (hj' : j < s.size), (s[j].toNat : Int) ≠ m) := hn
    clear hn
    by_cases hlt : k < s.size
    · by_cases he : ((s[k].toNat : Int) == m) = true
      · go_wp2
        go_quiet (fail)
        go_wp2
        go_ret3
        have hc := Dk.cutAt_found m s.data.toList k hlt (fun j hj => HN.out j hj (by omega)) (eq_of_beq he)
        refine ⟨s.extract 0 k, s.extract (k + 1) s.size, by rw [hc]; rfl, ?_, ?_, _, rfl⟩
        · rw [hc, ext_list]; simp
        · rw [hc, ext_list, List.take_of_length_le (Nat.le_of_eq (len_list s))]
      · have he' : ((s[k].toNat : Int) == m) = false := by simpa using he
        clear he
        go_wp2
        go_round
        case rel =>
          refine ⟨k + 1, by omega, by go_num, fun j hj hj' => ?_⟩
          by_cases e : j = k
          · subst e; simpa using he'
          · exact HN.out j (by omega) hj'
        case measure => simp [intOf]; omega
    · go_wp2
      go_ret3
      have hc := Dk.cutAt_none m s.data.toList (fun j hj => HN.out j (by have : j < s.size := hj; omega) hj)
      exact ⟨s, ByteArray.empty, by rw [hc]; rfl, by rw [hc], by rw [hc]; rfl, 0, rfl⟩

theorem key_any (b : Int) (w : World) (h0 : 0 ≤ b) (h1 : b ≤ 255) :
    Calls Try.prog 95 #[.int .u8 b] w fun e w' => e = .returned (.tuple #[.int .i64 (Dk.keyV b), .bool (Dk.isK b)]) ∧ w' = w := by
  by_cases ha : b < 97
  · go_enter Try.func95, Try.ntmps95
    go_wp2
    go_ret2
    exact ⟨by rw [Dk.isK_no (.inl ha), Dk.keyV_no (.inl ha)]; rfl, rfl⟩
  · by_cases hb : 104 < b
    · go_enter Try.func95, Try.ntmps95
      go_wp2
      go_ret2
      exact ⟨by rw [Dk.isK_no (.inr hb), Dk.keyV_no (.inr hb)]; rfl, rfl⟩
    · go_enter Try.func95, Try.ntmps95
      go_wp2
      go_ret2
      exact ⟨by rw [Dk.isK_yes (by omega) (by omega), Dk.keyV_yes (by omega) (by omega)]; rfl, rfl⟩

theorem sign_any (c : Int) (w : World) (h0 : 0 ≤ c) (h1 : c ≤ 255) :
    Calls Try.prog 112 #[.int .u8 c] w fun e w' => e = .returned (.bool (Dk.isSign c)) ∧ w' = w := by
  go_enter Try.func112, Try.ntmps112
  go_wp2
  all_goals
    go_ret
    exact ⟨by unfold Dk.isSign; simp only [*, Bool.true_or, Bool.false_or]; rfl, rfl⟩

theorem isKey_any (k : Int) (w : World) :
    Calls Try.prog 114 #[.int .i64 k] w fun e w' => e = .returned (.bool (decide (0 ≤ k ∧ k < 8))) ∧ w' = w := by
  by_cases ha : 0 ≤ k
  · go_enter Try.func114, Try.ntmps114
    go_wp2
    go_ret
    exact ⟨by simp [ha], rfl⟩
  · go_enter Try.func114, Try.ntmps114
    go_wp2
    go_ret
    exact ⟨by rw [decide_eq_false (by omega)]; rfl, rfl⟩

theorem take_snoc (s : ByteArray) (k : Nat) (h : k < s.size) : s.data.toList.take (k + 1) = s.data.toList.take k ++ [s[k]] := by
  rw [List.take_succ_eq_append_getElem (by simpa using h)]; rfl
theorem take_all (s : ByteArray) (k : Nat) (h : s.size ≤ k) : s.data.toList.take k = s.data.toList := List.take_of_length_le h
theorem tuple2_int {k : IntKind} {a b : Int} {c d : Bool} (h : a = b) (h' : c = d) : Ending.returned (.tuple #[.int k a, .bool c]) = .returned (.tuple #[.int k b, .bool d]) := by rw [h, h']
theorem byte_bd (b : UInt8) : 0 ≤ (b.toNat : Int) ∧ (b.toNat : Int) ≤ 255 := by have := b.toNat_lt; omega

theorem digits_short (s : ByteArray) (w : World) (h : s.size = 0 ∨ 5 < s.size) (hs : s.size ≤ maxLen) :
    Calls Try.prog 120 #[.string s] w fun e w' => e = .returned (.tuple #[.int .i64 (Dk.digV s.data.toList), .bool (Dk.okDig s.data.toList)]) ∧ w' = w := by
  unfold maxLen at hs
  have hok : Dk.okDig s.data.toList = false := by unfold Dk.okDig; rw [decide_eq_false (by rw [len_list]; omega)]; rfl
  have hv : Dk.digV s.data.toList = 0 := by unfold Dk.digV; rw [hok]; rfl
  rw [hok, hv]
  clear hok hv
  rcases h with h | h
  · have h0 : ((s.size : Int) == 0) = true := by rw [h]; rfl
    go_enter Try.func120, Try.ntmps120
    go_wp2
    go_ret2
    exact ⟨rfl, rfl⟩
  · have h0 : ((s.size : Int) == 0) = false := beq_eq_false_iff_ne.2 (by omega)
    go_enter Try.func120, Try.ntmps120
    go_wp2
    go_ret2
    exact ⟨rfl, rfl⟩

theorem headD_list (s : ByteArray) (h : 0 < s.size) : s.data.toList.headD 0 = s[0] := Dk.headD_get s.data.toList h

theorem digits_fail (s : ByteArray) (k : Nat) (h : k < s.size) (hb : (s[k].toNat : Int) < 48 ∨ 57 < (s[k].toNat : Int)) : Dk.allDig s.data.toList = false :=
  Dk.allDig_no _ k h (by have : s.data.toList[k]'h = s[k] := rfl; rw [this]; omega)

set_option maxHeartbeats 400000 in
theorem digits_long (s : ByteArray) (w : World) (h0 : 0 < s.size) (h5 : s.size ≤ 5) :
    Calls Try.prog 120 #[.string s] w fun e w' => e = .returned (.tuple #[.int .i64 (Dk.digV s.data.toList), .bool (Dk.okDig s.data.toList)]) ∧ w' = w := by
  have hz : ((s.size : Int) == 0) = false := beq_eq_false_iff_ne.2 (by omega)
  by_cases hf : ((s[0].toNat : Int) == 48) = true
  · have hok : Dk.okDig s.data.toList = false := by
      unfold Dk.okDig; rw [headD_list s h0]
      have : s[0] = 48 := by have := eq_of_beq hf; apply UInt8.toNat_inj.1; show _ = 48; omega
      rw [this]; simp
    have hv : Dk.digV s.data.toList = 0 := by unfold Dk.digV; rw [hok]; rfl
    rw [hok, hv]
    clear hok hv
    go_enter Try.func120, Try.ntmps120
    go_wp2
    go_ret2
    exact ⟨rfl, rfl⟩
  · have hf' : ((s[0].toNat : Int) == 48) = false := by simpa using hf
    have HF : Hid (Dk.okDig s.data.toList = Dk.allDig s.data.toList) := by
      show _ = _
      unfold Dk.okDig; rw [headD_list s h0, decide_eq_true (by rw [len_list]; omega)]
      have : (s[0] == 48) = false := by
        rw [beq_eq_false_iff_ne]; intro e; apply hf; rw [e]; rfl
      rw [this]; rfl
    clear hf
    go_enter Try.func120, Try.ntmps120
    go_wp2
    go_loop [4, 5] (fun n i => ∃ k : Nat, k ≤ s.size ∧ i = .int .i64 k ∧ n = .int .i64 (Dk.val (s.data.toList.take k)) ∧ Hid (Dk.allDig (s.data.toList.take k) = true)) (fun _ i => s.size - (intOf i).toNat)
    case atStart => exact ⟨0, Nat.zero_le _, rfl, rfl, rfl⟩
    case round =>
      obtain ⟨k, hk, rfl, rfl, hd⟩ := hrel
      have hv : Dk.val (s.data.toList.take k) < 100000 := Dk.val_lt5 _ hd.out (by rw [List.length_take, len_list]; omega)
      by_cases hlt : k < s.size
      · have HT : Hid (s.data.toList.take (k + 1) = s.data.toList.take k ++ [s[k]]) := take_snoc s k hlt
        have hb := byte_bd s[k]
        by_cases hlo : (s[k].toNat : Int) < 48
        · go_wp2
          go_ret2
          have hno := digits_fail s k hlt (.inl hlo)
          exact ⟨tuple2_int (Dk.digV_no (by rw [HF.out, hno])).symm (by rw [HF.out, hno]), rfl⟩
        · by_cases hhi : 57 < (s[k].toNat : Int)
          · go_wp2
            go_ret2
            have hno := digits_fail s k hlt (.inr hhi)
            exact ⟨tuple2_int (Dk.digV_no (by rw [HF.out, hno])).symm (by rw [HF.out, hno]), rfl⟩
          · go_wp2
            go_round
            case rel =>
              refine ⟨k + 1, by omega, by go_num, ?_, ?_⟩
              · rw [HT.out, Dk.val_snoc]
                congr 1
                omega
              · show _ = true
                rw [HT.out, Dk.allDig_snoc, hd.out, decide_eq_true (by omega)]; rfl
            case measure => simp [intOf]; omega
      · go_wp2
        go_ret2
        have hd' := hd.out
        rw [take_all s k (by omega)] at hd'
        refine ⟨tuple2_int ?_ (by rw [HF.out, hd']), rfl⟩
        rw [Dk.digV_yes (by rw [HF.out, hd']), take_all s k (by omega)]

theorem digits_any (s : ByteArray) (w : World) (hs : s.size ≤ maxLen) :
    Calls Try.prog 120 #[.string s] w fun e w' => e = .returned (.tuple #[.int .i64 (Dk.digV s.data.toList), .bool (Dk.okDig s.data.toList)]) ∧ w' = w := by
  by_cases h : s.size = 0 ∨ 5 < s.size
  · exact digits_short s w h hs
  · exact digits_long s w (by omega) (by omega)

theorem tail_list (s : ByteArray) : (s.extract 1 s.size).data.toList = s.data.toList.tail := by
  rw [ext_list, take_all s s.size (Nat.le_refl _)]; simp
theorem tail_size (s : ByteArray) (h : s.size ≤ maxLen) : (s.extract 1 s.size).size ≤ maxLen := by simp; omega

end Go.Proofs.Ytccckonckddadaa
