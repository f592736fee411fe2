import Derived.Test.YtccckonckddadaaWalkB
import Derived.Test.YtccckonckddadaaPlainR
namespace Go.Proofs.Ytccckonckddadaa
open Go.RowKit
set_option linter.unusedVariables false

set_option maxHeartbeats 400000 in
theorem in_any (s : ByteArray) (c : Int) (w : World) (hs : s.size ≤ maxLen) :
    Calls Try.prog 93 #[.string s, .int .u8 c] w fun e w' => e = .returned (.bool (Dk.inB s.data.toList c)) ∧ w' = w := by
  unfold maxLen at hs
  go_enter Try.func93, Try.ntmps93
  go_wp2
  go_loop [5] (fun i => ∃ k : Nat, k ≤ s.size ∧ i = .int .i64 k ∧ Hid (∀ j (hj : j < k) (hj' : j < s.data.toList.length), (s.data.toList[j].toNat : Int) ≠ c)) (fun i => s.size - (intOf i).toNat)
  case atStart => exact ⟨0, Nat.zero_le _, rfl, fun j hj => absurd hj (by omega)⟩
  case round =>
    obtain ⟨k, hk, rfl, HN⟩ := hrel
    by_cases hlt : k < s.size
    · cases he : ((s[k].toNat : Int) == c)
      · go_wp2
        go_round
        case rel =>
          refine ⟨k + 1, by omega, by go_num, fun j hj hj' => ?_⟩
          by_cases e : j = k
          · subst e; exact beq_eq_false_iff_ne.1 he
          · exact HN.out j (by omega) hj'
        case measure => simp [intOf]; omega
      · have HY : Hid (Dk.inB s.data.toList c = true) := Dk.inB_yes (k := k) hlt (eq_of_beq he)
        go_wp2
        go_ret
        exact ⟨by rw [HY.out]; rfl, rfl⟩
    · have HY : Hid (Dk.inB s.data.toList c = false) := Dk.inB_no (fun j hj => HN.out j (by have : j < s.size := hj; omega) hj)
      go_wp2
      go_ret
      exact ⟨by rw [HY.out]; rfl, rfl⟩

theorem inK_any (c : Int) (w : World) : Calls Try.prog 93 #[.string ⟨#[97, 98, 99, 100, 101, 102, 103, 104]⟩, .int .u8 c] w fun e w' => e = .returned (.bool (Dk.isK c)) ∧ w' = w :=
  (in_any ⟨#[97, 98, 99, 100, 101, 102, 103, 104]⟩ c w (by decide)).mono (by rintro e w' ⟨rfl, rfl⟩; exact ⟨by rw [← Dk.inB_keys], rfl⟩)
theorem inS_any (c : Int) (w : World) : Calls Try.prog 93 #[.string ⟨#[61, 43, 45, 42, 60, 62, 126]⟩, .int .u8 c] w fun e w' => e = .returned (.bool (Dk.isSign c)) ∧ w' = w :=
  (in_any ⟨#[61, 43, 45, 42, 60, 62, 126]⟩ c w (by decide)).mono (by rintro e w' ⟨rfl, rfl⟩; exact ⟨by rw [← Dk.inB_signs], rfl⟩)
theorem inD_any (c : Int) (w : World) : Calls Try.prog 93 #[.string ⟨#[48, 49, 50, 51, 52, 53, 54, 55, 56, 57]⟩, .int .u8 c] w fun e w' => e = .returned (.bool (decide (48 ≤ c ∧ c ≤ 57))) ∧ w' = w :=
  (in_any ⟨#[48, 49, 50, 51, 52, 53, 54, 55, 56, 57]⟩ c w (by decide)).mono (by rintro e w' ⟨rfl, rfl⟩; exact ⟨by rw [← Dk.inB_digits], rfl⟩)

theorem wrap_any (n : Int) (w : World) (h0 : -4611686018427387904 ≤ n) (h1 : n ≤ 4611686018427387904) :
    Calls Try.prog 94 #[.int .i64 n] w fun e w' => e = .returned (.int .i64 (Dk.wrap16 n)) ∧ w' = w := by
  have hb := Dk.tmod_range n
  by_cases hp : 32767 < n.tmod 65536
  · have HW : Hid _ := Dk.wrap_pos hp
    go_enter Try.func94, Try.ntmps94
    go_wp2
    go_ret
    exact ⟨ret_int (by rw [HW.out]), rfl⟩
  · by_cases hn : n.tmod 65536 < -32768
    · have HW : Hid _ := Dk.wrap_neg hn
      go_enter Try.func94, Try.ntmps94
      go_wp2
      go_ret
      exact ⟨ret_int (by rw [HW.out]), rfl⟩
    · have HW : Hid _ := Dk.wrap_mid (by omega) (by omega : -32768 ≤ n.tmod 65536)
      go_enter Try.func94, Try.ntmps94
      go_wp2
      go_ret
      exact ⟨ret_int (by rw [HW.out]), rfl⟩

/-- The one of number's walks that goes through the digits. -/
theorem dash_list {s : ByteArray} (h0 : s.size = 1) (h : ((s[0]'(by omega)).toNat : Int) = 45) : s.data.toList = [45] := by
  have hl : s.data.toList.length = 1 := h0
  match hs : s.data.toList, hl with
  | [b], _ =>
    have e : s[0]'(by omega) = b := by rw [get_list s 0 (by omega)]; simp [hs]
    rw [e] at h
    have : b = 45 := UInt8.toNat_inj.1 (by show _ = 45; omega)
    rw [this]

def NumPost (l : List UInt8) (w : World) (e : Ending) (w' : World) : Prop :=
  ∃ v : Int, e = .returned (.tuple #[.int .i64 v, .bool (Dk.numOk l)]) ∧ (Dk.numOk l = true → v = Dk.numV l) ∧ w' = w

theorem ref_zero (s : ByteArray) (w : World) (h : s.data.toList = [48]) : Calls Try.prog 111 #[.string s] w (NumPost s.data.toList w) := by
  have e1 : Dk.numV s.data.toList = 0 := by rw [h]; rfl
  have e2 : Dk.numOk s.data.toList = true := by rw [h]; rfl
  have H : Hid (_ ∧ _) := ⟨e1, e2⟩
  clear e1 e2
  have h0 : (s.toList == [48]) = true := by rw [bytes_toList, h]; rfl
  have h1 : s.size = 1 := congrArg List.length h
  clear h
  go_enter Try.func111, Try.ntmps111
  go_wp2
  go_ret2
  exact ⟨0, by rw [H.out.2]; rfl, fun _ => H.out.1.symm, rfl⟩

theorem ref_short (s : ByteArray) (w : World) (hs : s.size ≤ maxLen) (hz : (s.toList == [48]) = false) (hn : s.size = 0 ∨ (5 < s.size ∧ ∃ h : 0 < s.size, ((s[0].toNat : Int) == 45) = false)) (h : Dk.numOk s.data.toList = false) :
    Calls Try.prog 111 #[.string s] w (NumPost s.data.toList w) := by
  have H : Hid _ := h
  clear h
  unfold maxLen at hs
  rcases hn with hn | ⟨h5, h0, hn⟩
  · have h0 : ((s.size : Int) == 0) = true := by rw [hn]; rfl
    go_enter Try.func111, Try.ntmps111
    go_wp2
    go_ret2
    exact ⟨0, by rw [H.out]; rfl, by rw [H.out]; simp, rfl⟩
  · have h1 : ((s.size : Int) == 0) = false := beq_eq_false_iff_ne.2 (by omega)
    go_enter Try.func111, Try.ntmps111
    go_wp2
    go_ret2
    exact ⟨0, by rw [H.out]; rfl, by rw [H.out]; simp, rfl⟩

theorem ref_lead (s : ByteArray) (w : World) (h5 : s.size ≤ 5) (hz : (s.toList == [48]) = false) (h0 : 0 < s.size) (hf : ((s[0].toNat : Int) == 48) = true) (hn : ((s[0].toNat : Int) == 45) = false) (h : Dk.numOk s.data.toList = false) :
    Calls Try.prog 111 #[.string s] w (NumPost s.data.toList w) := by
  have H : Hid _ := h
  clear h
  have h1 : ((s.size : Int) == 0) = false := beq_eq_false_iff_ne.2 (by omega)
  by_cases h2 : 1 < s.size
  all_goals
    go_enter Try.func111, Try.ntmps111
    go_wp2
    go_ret2
    exact ⟨0, by rw [H.out]; rfl, by rw [H.out]; simp, rfl⟩

set_option maxHeartbeats 1000000 in
theorem ref_loop (s : ByteArray) (w : World) (h0 : 0 < s.size) (h5 : s.size ≤ 5) (hz : (s.toList == [48]) = false) (hf : ((s[0].toNat : Int) == 48) = false) (hng : s.size ≤ 1 ∨ (1 < s.size ∧ ((s[0].toNat : Int) == 45) = false))
    (hq : Dk.numOk s.data.toList = (Dk.allDig s.data.toList && Dk.inNum (Dk.val s.data.toList)) ∧ (Dk.numOk s.data.toList = true → Dk.numV s.data.toList = Dk.val s.data.toList)) :
    Calls Try.prog 111 #[.string s] w (NumPost s.data.toList w) := by
  have HQ : Hid _ := hq
  clear hq
  have h1 : ((s.size : Int) == 0) = false := beq_eq_false_iff_ne.2 (by omega)
  rcases hng with hng | ⟨hlg, hng⟩
  all_goals
    go_enter Try.func111, Try.ntmps111
    go_wp2
    go_loop [5, 6] (fun n i => ∃ k : Nat, k ≤ s.size ∧ i = .int .i64 k ∧ n = .int .i64 (Dk.val (s.data.toList.take k)) ∧ Hid (Dk.allDig (s.data.toList.take k) = true)) (fun _ i => s.size - (intOf i).toNat)
    case atStart => exact ⟨0, Nat.zero_le _, rfl, rfl, rfl⟩
    case round =>
      obtain ⟨k, hk, rfl, rfl, hd⟩ := hrel
      have hv : Dk.val (s.data.toList.take k) < 100000 := Dk.val_lt5 _ hd.out (by rw [List.length_take, len_list]; omega)
      by_cases hlt : k < s.size
      · have HT : Hid (s.data.toList.take (k + 1) = s.data.toList.take k ++ [s[k]]) := take_snoc s k (hlt)
        have hb := byte_bd (s[k])
        go_wp2_with fail
        refine (inD_any _ _).mono ?_
        rintro e w' ⟨rfl, rfl⟩
        by_cases hdg : 48 ≤ ((s[k]).toNat : Int) ∧ ((s[k]).toNat : Int) ≤ 57
        · rewrite [decide_eq_true hdg]
          go_wp2
          go_round
          case rel =>
            refine ⟨k + 1, by omega, by go_num, ?_, ?_⟩
            · rw [HT.out, Dk.val_snoc]
              congr 1
              omega
            · show _ = true
              rw [HT.out, Dk.allDig_snoc, hd.out, decide_eq_true (by omega)]; rfl
          case measure => simp [intOf]; omega
        · rewrite [decide_eq_false hdg]
          have HF : Hid (Dk.allDig s.data.toList = false) := digits_fail s k (hlt) (by omega)
          clear hdg
          go_wp2
          go_ret2
          exact ⟨0, by rw [HQ.out.1, HF.out]; rfl, by rw [HQ.out.1, HF.out]; simp, rfl⟩
      · have HA : Hid (Dk.allDig s.data.toList = true) := by
          have := hd.out
          rw [take_all s k (by omega)] at this
          exact this
        have HV : Hid (s.data.toList.take k = s.data.toList) := take_all s k (by omega)
        have hq1 := HQ.out.1
        rw [HA.out] at hq1
        rewrite [HV.out] at hv ⊢
        have HQ2 : Hid _ := HQ.out.2
        generalize Dk.val s.data.toList = v at *
        by_cases hin : v ≤ 32767
        · have HO : Hid (Dk.numOk s.data.toList = true) := by show _ = _; rw [hq1, Dk.inNum_yes (by omega) (by omega)]; rfl
          clear hq1 HQ
          go_wp2
          go_ret2
          refine ⟨v, ?_, fun _ => (HQ2.out HO.out).symm, rfl⟩
          rw [HO.out]
          exact tuple2_int rfl (decide_eq_true (by omega))
        · have HO : Hid (Dk.numOk s.data.toList = false) := by show _ = _; rw [hq1, Dk.inNum_no (by omega)]; rfl
          clear hq1 HQ
          go_wp2
          go_ret2
          refine ⟨v, ?_, by rw [HO.out]; simp, rfl⟩
          rw [HO.out]
          exact tuple2_int rfl (decide_eq_false (by omega))

end Go.Proofs.Ytccckonckddadaa
