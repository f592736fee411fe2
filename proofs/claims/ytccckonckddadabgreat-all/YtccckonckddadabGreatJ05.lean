import Derived.Test.YtccckonckddadabGreatRows
import Derived.Test.YtccckonckddadabGreatJ01
import Derived.WalkKit
import Derived.WalkSpells
import Derived.WalkLawsBesides
import Derived.Deep.QuietTactic
import Derived.BigQuiet
namespace Go.Proofs.YtccckonckddadabGreat
open Go.RowKit

set_option linter.unusedVariables false

theorem ret_int {k : IntKind} {a b : Int} (h : a = b) : Ending.returned (.int k a) = .returned (.int k b) := by rw [h]

theorem ext_list (s : ByteArray) (a b : Nat) : (s.extract a b).data.toList = (s.data.toList.take b).drop a := by
  simp [List.extract, List.drop_take]

theorem get_list (s : ByteArray) (k : Nat) (h : k < s.size) : s[k] = s.data.toList[k]'(by simpa using h) := rfl

theorem len_list (s : ByteArray) : s.data.toList.length = s.size := rfl

set_option maxHeartbeats 400000 in
theorem cut_any (s : ByteArray) (m : Int) (w : World) (hs : s.size ≤ maxLen) :
    Calls Tryz.prog 79 #[.string s, .int .u8 m] w fun e w' => ∃ h t : ByteArray, e = .returned (.tuple #[.string h, .string t, .bool (Dk.cutAt m s.data.toList).2.2]) ∧
      h.data.toList = (Dk.cutAt m s.data.toList).1 ∧ t.data.toList = (Dk.cutAt m s.data.toList).2.1 ∧ ∃ n, w' = w.drewN n := by
  unfold maxLen at hs
  go_enter Tryz.func79, Tryz.ntmps79
  go_wp2
  go_loop [7] (fun i => ∃ k : Nat, k ≤ s.size ∧ i = .int .i64 k ∧ ∀ j (hj : j < k) (hj' : j < s.size), (s[j].toNat : Int) ≠ m) (fun i => s.size - (intOf i).toNat)
  case atStart => exact ⟨0, Nat.zero_le _, rfl, by simp⟩
  case round =>
    obtain ⟨k, hk, rfl, hn⟩ := hrel
    have HN : Hid (∀ j (hj : j < k) (hj' : j < s.size), (s[j].toNat : Int) ≠ m) := hn
    clear hn
    by_cases hlt : k < s.size
    · by_cases he : ((s[k].toNat : Int) == m) = true
      · go_wp2
        go_quiet (fail)
        go_wp2
        go_ret3
        have hc := Dk.cutAt_found m s.data.toList k hlt (fun j hj => HN.out j hj (by omega)) (eq_of_beq he)
        refine ⟨s.extract 0 k, s.extract (k + 1) s.size, by rw [hc]; rfl, ?_, ?_, _, rfl⟩
        · rw [hc, ext_list]; simp
        · rw [hc, ext_list, List.take_of_length_le (Nat.le_of_eq (len_list s))]
      · have he' : ((s[k].toNat : Int) == m) = false := by simpa using he
        clear he
        go_wp2
        go_round
        case rel =>
          refine ⟨k + 1, by omega, by go_num, fun j hj hj' => ?_⟩
          by_cases e : j = k
          · subst e; simpa using he'
          · exact HN.out j (by omega) hj'
        case measure => simp [intOf]; omega
    · go_wp2
      go_ret3
      have hc := Dk.cutAt_none m s.data.toList (fun j hj => HN.out j (by have : j < s.size := hj; omega) hj)
      exact ⟨s, ByteArray.empty, by rw [hc]; rfl, by rw [hc], by rw [hc]; rfl, 0, rfl⟩

theorem key_any (b : Int) (w : World) (h0 : 0 ≤ b) (h1 : b ≤ 255) :
    Calls Tryz.prog 104 #[.int .u8 b] w fun e w' => e = .returned (.tuple #[.int .i64 (Dk.keyV b), .bool (Dk.isK b)]) ∧ w' = w := by
  by_cases ha : b < 97
  · go_enter Tryz.func104, Tryz.ntmps104
    go_wp2
    go_ret2
    exact ⟨by rw [Dk.isK_no (.inl ha), Dk.keyV_no (.inl ha)]; rfl, rfl⟩
  · by_cases hb : 104 < b
    · go_enter Tryz.func104, Tryz.ntmps104
      go_wp2
      go_ret2
      exact ⟨by rw [Dk.isK_no (.inr hb), Dk.keyV_no (.inr hb)]; rfl, rfl⟩
    · go_enter Tryz.func104, Tryz.ntmps104
      go_wp2
      go_ret2
      exact ⟨by rw [Dk.isK_yes (by omega) (by omega), Dk.keyV_yes (by omega) (by omega)]; rfl, rfl⟩

theorem sign_any (c : Int) (w : World) (h0 : 0 ≤ c) (h1 : c ≤ 255) :
    Calls Tryz.prog 119 #[.int .u8 c] w fun e w' => e = .returned (.bool (Dk.isSign c)) ∧ w' = w := by
  go_enter Tryz.func119, Tryz.ntmps119
  go_wp2
  all_goals
    go_ret
    exact ⟨by unfold Dk.isSign; simp only [*, Bool.true_or, Bool.false_or]; rfl, rfl⟩

theorem isKey_any (k : Int) (w : World) :
    Calls Tryz.prog 121 #[.int .i64 k] w fun e w' => e = .returned (.bool (decide (0 ≤ k ∧ k < 8))) ∧ w' = w := by
  by_cases ha : 0 ≤ k
  · go_enter Tryz.func121, Tryz.ntmps121
    go_wp2
    go_ret
    exact ⟨by simp [ha], rfl⟩
  · go_enter Tryz.func121, Tryz.ntmps121
    go_wp2
    go_ret
    exact ⟨by rw [decide_eq_false (by omega)]; rfl, rfl⟩

theorem take_snoc (s : ByteArray) (k : Nat) (h : k < s.size) : s.data.toList.take (k + 1) = s.data.toList.take k ++ [s[k]] := by
  rw [List.take_succ_eq_append_getElem (by simpa using h)]; rfl
theorem take_all (s : ByteArray) (k : Nat) (h : s.size ≤ k) : s.data.toList.take k = s.data.toList := List.take_of_length_le h
theorem tuple2_int {k : IntKind} {a b : Int} {c d : Bool} (h : a = b) (h' : c = d) : Ending.returned (.tuple #[.int k a, .bool c]) = .returned (.tuple #[.int k b, .bool d]) := by rw [h, h']
theorem byte_bd (b : UInt8) : 0 ≤ (b.toNat : Int) ∧ (b.toNat : Int) ≤ 255 := by have := b.toNat_lt; omega

theorem digits_short (s : ByteArray) (w : World) (h : s.size = 0 ∨ 5 < s.size) (hs : s.size ≤ maxLen) :
    Calls Tryz.prog 126 #[.string s] w fun e w' => e = .returned (.tuple #[.int .i64 (Dk.digV s.data.toList), .bool (Dk.okDig s.data.toList)]) ∧ w' = w := by
  unfold maxLen at hs
  have hok : Dk.okDig s.data.toList = false := by unfold Dk.okDig; rw [decide_eq_false (by rw [len_list]; omega)]; rfl
  have hv : Dk.digV s.data.toList = 0 := by unfold Dk.digV; rw [hok]; rfl
  rw [hok, hv]
  clear hok hv
  rcases h with h | h
  · have h0 : ((s.size : Int) == 0) = true := by rw [h]; rfl
    go_enter Tryz.func126, Tryz.ntmps126
    go_wp2
    go_ret2
    exact ⟨rfl, rfl⟩
  · have h0 : ((s.size : Int) == 0) = false := beq_eq_false_iff_ne.2 (by omega)
    go_enter Tryz.func126, Tryz.ntmps126
    go_wp2
    go_ret2
    exact ⟨rfl, rfl⟩

theorem headD_list (s : ByteArray) (h : 0 < s.size) : s.data.toList.headD 0 = s[0] := Dk.headD_get s.data.toList h

theorem digits_fail (s : ByteArray) (k : Nat) (h : k < s.size) (hb : (s[k].toNat : Int) < 48 ∨ 57 < (s[k].toNat : Int)) : Dk.allDig s.data.toList = false :=
  Dk.allDig_no _ k h (by have : s.data.toList[k]'h = s[k] := rfl; rw [this]; omega)

set_option maxHeartbeats 400000 in
theorem digits_long (s : ByteArray) (w : World) (h0 : 0 < s.size) (h5 : s.size ≤ 5) :
    Calls Tryz.prog 126 #[.string s] w fun e w' => e = .returned (.tuple #[.int .i64 (Dk.digV s.data.toList), .bool (Dk.okDig s.data.toList)]) ∧ w' = w := by
  have hz : ((s.size : Int) == 0) = false := beq_eq_false_iff_ne.2 (by omega)
  by_cases hf : ((s[0].toNat : Int) == 48) = true
  · have hok : Dk.okDig s.data.toList = false := by
      unfold Dk.okDig; rw [headD_list s h0]
      have : s[0] = 48 := by have := eq_of_beq hf; apply UInt8.toNat_inj.1; show _ = 48; omega
      rw [this]; simp
    have hv : Dk.digV s.data.toList = 0 := by unfold Dk.digV; rw [hok]; rfl
    rw [hok, hv]
    clear hok hv
    go_enter Tryz.func126, Tryz.ntmps126
    go_wp2
    go_ret2
    exact ⟨rfl, rfl⟩
  · have hf' : ((s[0].toNat : Int) == 48) = false := by simpa using hf
    have HF : Hid (Dk.okDig s.data.toList = Dk.allDig s.data.toList) := by
      show _ = _
      unfold Dk.okDig; rw [headD_list s h0, decide_eq_true (by rw [len_list]; omega)]
      have : (s[0] == 48) = false := by
        rw [beq_eq_false_iff_ne]; intro e; apply hf; rw [e]; rfl
      rw [this]; rfl
    clear hf
    go_enter Tryz.func126, Tryz.ntmps126
    go_wp2
    go_loop [4, 5] (fun n i => ∃ k : Nat, k ≤ s.size ∧ i = .int .i64 k ∧ n = .int .i64 (Dk.val (s.data.toList.take k)) ∧ Hid (Dk.allDig (s.data.toList.take k) = true)) (fun _ i => s.size - (intOf i).toNat)
    case atStart => exact ⟨0, Nat.zero_le _, rfl, rfl, rfl⟩
    case round =>
      obtain ⟨k, hk, rfl, rfl, hd⟩ := hrel
      have hv : Dk.val (s.data.toList.take k) < 100000 := Dk.val_lt5 _ hd.out (by rw [List.length_take, len_list]; omega)
      by_cases hlt : k < s.size
      · have HT : Hid (s.data.toList.take (k + 1) = s.data.toList.take k ++ [s[k]]) := take_snoc s k hlt
        have hb := byte_bd s[k]
        by_cases hlo : (s[k].toNat : Int) < 48
        · go_wp2
          go_ret2
          have hno := digits_fail s k hlt (.inl hlo)
          exact ⟨tuple2_int (Dk.digV_no (by rw [HF.out, hno])).symm (by rw [HF.out, hno]), rfl⟩
        · by_cases hhi : 57 < (s[k].toNat : Int)
          · go_wp2
            go_ret2
            have hno := digits_fail s k hlt (.inr hhi)
            exact ⟨tuple2_int (Dk.digV_no (by rw [HF.out, hno])).symm (by rw [HF.out, hno]), rfl⟩
          · go_wp2
            go_round
            case rel =>
              refine ⟨k + 1, by omega, by go_num, ?_, ?_⟩
              · rw [HT.out, Dk.val_snoc]
                congr 1
                omega
              · show _ = true
                rw [HT.out, Dk.allDig_snoc, hd.out, decide_eq_true (by omega)]; rfl
            case measure => simp [intOf]; omega
      · go_wp2
        go_ret2
        have hd' := hd.out
        rw [take_all s k (by omega)] at hd'
        refine ⟨tuple2_int ?_ (by rw [HF.out, hd']), rfl⟩
        rw [Dk.digV_yes (by rw [HF.out, hd']), take_all s k (by omega)]

theorem digits_any (s : ByteArray) (w : World) (hs : s.size ≤ maxLen) :
    Calls Tryz.prog 126 #[.string s] w fun e w' => e = .returned (.tuple #[.int .i64 (Dk.digV s.data.toList), .bool (Dk.okDig s.data.toList)]) ∧ w' = w := by
  by_cases h : s.size = 0 ∨ 5 < s.size
  · exact digits_short s w h hs
  · exact digits_long s w (by omega) (by omega)

theorem tail_list (s : ByteArray) : (s.extract 1 s.size).data.toList = s.data.toList.tail := by
  rw [ext_list, take_all s s.size (Nat.le_refl _)]; simp
theorem tail_size (s : ByteArray) (h : s.size ≤ maxLen) : (s.extract 1 s.size).size ≤ maxLen := by simp; omega

end Go.Proofs.YtccckonckddadabGreat
namespace Go.Proofs.YtccckonckddadabGreat
open Go.RowKit
set_option linter.unusedVariables false

theorem bytes_toList (s : ByteArray) : s.toList = s.data.toList := by
  exact ByteArray.toList_eq s

set_option maxHeartbeats 400000 in
theorem number_zero (s : ByteArray) (w : World) (h : s.data.toList = [48]) :
    Calls Tryz.prog 125 #[.string s] w fun e w' => e = .returned (.tuple #[.int .i16 (Dk.numV s.data.toList), .bool (Dk.numOk s.data.toList)]) ∧ w' = w := by
  have e1 : Dk.numV s.data.toList = 0 := by rw [h]; rfl
  have e2 : Dk.numOk s.data.toList = true := by rw [h]; rfl
  rw [e1, e2]
  clear e1 e2
  have h0 : (s.toList == [48]) = true := by rw [bytes_toList, h]; rfl
  clear h
  go_enter Tryz.func125, Tryz.ntmps125
  go_wp2
  go_ret2
  exact ⟨rfl, rfl⟩

theorem neg_list (s : ByteArray) (h : 0 < s.size) : Dk.neg s.data.toList = ((s[0].toNat : Int) == 45) := by
  unfold Dk.neg
  rw [headD_list s h, Bool.eq_iff_iff, beq_iff_eq, beq_iff_eq]
  constructor
  · intro e; rw [e]; rfl
  · intro e; apply UInt8.toNat_inj.1; show _ = 45; omega

set_option maxHeartbeats 400000 in
theorem number_neg (s : ByteArray) (w : World) (hs : s.size ≤ maxLen) (hz : (s.toList == [48]) = false) (h0 : 0 < s.size) (hn : ((s[0].toNat : Int) == 45) = true) :
    Calls Tryz.prog 125 #[.string s] w fun e w' => e = .returned (.tuple #[.int .i16 (Dk.numV s.data.toList), .bool (Dk.numOk s.data.toList)]) ∧ w' = w := by
  have ht := tail_size s hs
  have HB : Hid (0 ≤ Dk.digV (s.extract 1 s.size).data.toList ∧ Dk.digV (s.extract 1 s.size).data.toList ≤ 99999) := Dk.digV_bd _
  have HN : Hid (Dk.neg s.data.toList = true) := (neg_list s h0).trans hn
  have HZ : Hid ((s.data.toList == [48]) = false) := by rw [← bytes_toList]; exact hz
  unfold maxLen at hs
  go_enter Tryz.func125, Tryz.ntmps125
  go_wp2_with fail
  refine (digits_any (s.extract 1 s.size) _ ht).mono ?_
  rintro e w' ⟨rfl, rfl⟩
  obtain ⟨b0, b1⟩ := HB.out
  generalize hv : Dk.digV (s.extract 1 s.size).data.toList = v at *
  generalize ho : Dk.okDig (s.extract 1 s.size).data.toList = o at *
  rw [tail_list] at hv ho
  obtain ⟨E1, E2⟩ := Dk.num_neg HZ.out HN.out hv ho
  have K1 : Hid _ := E1
  have K2 : Hid _ := E2
  clear E1 E2 hv ho ht HB HN HZ
  cases o
  · go_wp2
    go_ret2
    exact ⟨by rw [K1.out, K2.out]; rfl, rfl⟩
  · by_cases hin : v ≤ 32768
    · go_wp2
      go_ret2
      exact ⟨by rw [K1.out, K2.out, Dk.inNum_yes (by omega) (by omega)]; rfl, rfl⟩
    · go_wp2
      go_ret2
      exact ⟨by rw [K1.out, K2.out, Dk.inNum_no (by omega)]; rfl, rfl⟩

set_option maxHeartbeats 400000 in
theorem number_pos (s : ByteArray) (w : World) (hs : s.size ≤ maxLen) (hz : (s.toList == [48]) = false) (hn : s.size = 0 ∨ ∃ h : 0 < s.size, ((s[0].toNat : Int) == 45) = false) :
    Calls Tryz.prog 125 #[.string s] w fun e w' => e = .returned (.tuple #[.int .i16 (Dk.numV s.data.toList), .bool (Dk.numOk s.data.toList)]) ∧ w' = w := by
  have ht := hs
  have HB : Hid (0 ≤ Dk.digV s.data.toList ∧ Dk.digV s.data.toList ≤ 99999) := Dk.digV_bd _
  have HZ : Hid ((s.data.toList == [48]) = false) := by rw [← bytes_toList]; exact hz
  unfold maxLen at hs
  have HN : Hid (Dk.neg s.data.toList = false) := by
    rcases hn with hn | ⟨h0, hn⟩
    · have : s.data.toList = [] := List.eq_nil_of_length_eq_zero hn
      show _ = _
      rw [this]; rfl
    · exact (neg_list s h0).trans hn
  rcases hn with hn | ⟨h0, hn⟩
  all_goals
    go_enter Tryz.func125, Tryz.ntmps125
    go_wp2_with fail
    refine (digits_any s _ ht).mono ?_
    rintro e w' ⟨rfl, rfl⟩
    obtain ⟨b0, b1⟩ := HB.out
    generalize hv : Dk.digV s.data.toList = v at *
    generalize ho : Dk.okDig s.data.toList = o at *
    obtain ⟨E1, E2⟩ := Dk.num_pos HZ.out HN.out hv ho
    have K1 : Hid _ := E1
    have K2 : Hid _ := E2
    clear E1 E2 hv ho ht HB HN HZ
    cases o
    · go_wp2
      go_ret2
      exact ⟨by rw [K1.out, K2.out]; rfl, rfl⟩
    · by_cases hin : v ≤ 32767
      · go_wp2
        go_ret2
        exact ⟨by rw [K1.out, K2.out, Dk.inNum_yes (by omega) (by omega)]; rfl, rfl⟩
      · go_wp2
        go_ret2
        exact ⟨by rw [K1.out, K2.out, Dk.inNum_no (by omega)]; rfl, rfl⟩

theorem number_any (s : ByteArray) (w : World) (hs : s.size ≤ maxLen) :
    Calls Tryz.prog 125 #[.string s] w fun e w' => e = .returned (.tuple #[.int .i16 (Dk.numV s.data.toList), .bool (Dk.numOk s.data.toList)]) ∧ w' = w := by
  by_cases hz : s.data.toList = [48]
  · exact number_zero s w hz
  · have hz' : (s.toList == [48]) = false := by rw [bytes_toList]; simpa using hz
    by_cases h0 : 0 < s.size
    · cases hn : ((s[0].toNat : Int) == 45)
      · exact number_pos s w hs hz' (.inr ⟨h0, hn⟩)
      · exact number_neg s w hs hz' h0 hn
    · exact number_pos s w hs hz' (.inl (by omega))

/-! ### A struct in memory: the argument -/
def ArgPost (l : List UInt8) (w : World) (e : Ending) (w' : World) : Prop :=
  ∃ (b : Bool) (a n : Int), e = .returned (.tuple #[.agg #[.bool b, .int .i64 a, .int .i16 n], .bool (Dk.argOk l)]) ∧ (Dk.argOk l = true → b = Dk.argKey l ∧ a = Dk.argK l ∧ n = Dk.argN l) ∧ Below w.heap.size w w'

set_option maxHeartbeats 400000 in
theorem arg_num (s : ByteArray) (w : World) (hs : s.size ≤ maxLen) (h1 : ((s.size : Int) == 1) = false) :
    Calls Tryz.prog 120 #[.string s] w (ArgPost s.data.toList w) := by
  have hs' := hs
  unfold maxLen at hs
  have HK : Hid (Dk.argKey s.data.toList = false) := by
    show _ = _
    unfold Dk.argKey
    rw [decide_eq_false (by rw [len_list]; have := beq_eq_false_iff_ne.1 h1; omega)]; rfl
  go_enter Tryz.func120, Tryz.ntmps120
  go_wp2_with fail
  refine (number_any s _ hs').mono ?_
  rintro e w' ⟨rfl, rfl⟩
  obtain ⟨e1, e2, e3⟩ := Dk.arg_no HK.out
  have K : Hid (Dk.argOk s.data.toList = Dk.numOk s.data.toList ∧ Dk.argK s.data.toList = 0 ∧ Dk.argN s.data.toList = Dk.numV s.data.toList) := ⟨e1, e2, e3⟩
  clear e1 e2 e3
  generalize Dk.numV s.data.toList = v at *
  generalize Dk.numOk s.data.toList = o at *
  cases o
  · go_wp2
    exact bodyPost_ret (v := .tuple #[.agg #[.bool false, .int .i64 0, .int .i16 0], .bool false]) (by simp [results, Tryz.results120, go_sem]) rfl
      ⟨_, _, _, by rw [K.out.1], by rw [K.out.1]; simp, (Below.refl _ _).alloc (Nat.le_refl _) _⟩
  · go_wp2
    exact bodyPost_ret (v := .tuple #[.agg #[.bool false, .int .i64 0, .int .i16 v], .bool true]) (by simp [results, Tryz.results120, go_sem]) rfl
      ⟨_, _, _, by rw [K.out.1], fun _ => ⟨HK.out.symm, K.out.2.1.symm, K.out.2.2.symm⟩, (Below.refl _ _).alloc (Nat.le_refl _) _⟩

set_option maxHeartbeats 400000 in
theorem arg_one (s : ByteArray) (w : World) (h1 : s.size = 1) :
    Calls Tryz.prog 120 #[.string s] w (ArgPost s.data.toList w) := by
  have hs' : s.size ≤ maxLen := by unfold maxLen; omega
  have h1' : ((s.size : Int) == 1) = true := beq_iff_eq.2 (by omega)
  have h0 : 0 < s.size := by omega
  have hb := byte_bd s[0]
  have HH : Hid (s.data.toList.headD 0 = s[0]) := headD_list s h0
  have HL : Hid (s.data.toList.length = 1) := h1
  clear h1
  go_enter Tryz.func120, Tryz.ntmps120
  go_wp2_with fail
  refine (key_any _ _ hb.1 hb.2).mono ?_
  rintro e w' ⟨rfl, rfl⟩
  cases hk : Dk.isK s[0].toNat
  · have HK : Hid (Dk.argKey s.data.toList = false) := Dk.argKey_of HL.out (by rw [HH.out]; exact hk)
    have HI : Hid (Dk.isK s[0].toNat = false) := hk
    clear hk
    generalize Dk.keyV s[0].toNat = kv at *
    go_wp2_with fail
    refine (number_any s _ hs').mono ?_
    rintro e w' ⟨rfl, rfl⟩
    obtain ⟨e1, e2, e3⟩ := Dk.arg_no HK.out
    have K : Hid (Dk.argOk s.data.toList = Dk.numOk s.data.toList ∧ Dk.argK s.data.toList = 0 ∧ Dk.argN s.data.toList = Dk.numV s.data.toList) := ⟨e1, e2, e3⟩
    clear e1 e2 e3
    generalize Dk.numV s.data.toList = v at *
    generalize Dk.numOk s.data.toList = o at *
    cases o
    · go_wp2
      exact bodyPost_ret (v := .tuple #[.agg #[.bool false, .int .i64 0, .int .i16 0], .bool false]) (by simp [results, Tryz.results120, go_sem]) rfl
        ⟨_, _, _, by rw [K.out.1], by rw [K.out.1]; simp, (Below.refl _ _).alloc (Nat.le_refl _) _⟩
    · go_wp2
      exact bodyPost_ret (v := .tuple #[.agg #[.bool false, .int .i64 0, .int .i16 v], .bool true]) (by simp [results, Tryz.results120, go_sem]) rfl
        ⟨_, _, _, by rw [K.out.1], fun _ => ⟨HK.out.symm, K.out.2.1.symm, K.out.2.2.symm⟩, (Below.refl _ _).alloc (Nat.le_refl _) _⟩
  · have HK : Hid (Dk.argKey s.data.toList = true) := Dk.argKey_of HL.out (by rw [HH.out]; exact hk)
    obtain ⟨e1, e2, e3⟩ := Dk.arg_yes HK.out
    rw [HH.out] at e2
    have K : Hid (Dk.argOk s.data.toList = true ∧ Dk.argK s.data.toList = Dk.keyV s[0].toNat ∧ Dk.argN s.data.toList = 0) := ⟨e1, e2, e3⟩
    clear e1 e2 e3 hk
    generalize Dk.keyV s[0].toNat = kv at *
    go_wp2
    exact bodyPost_ret (v := .tuple #[.agg #[.bool true, .int .i64 kv, .int .i16 0], .bool true]) (by simp [results, Tryz.results120, go_sem]) rfl
      ⟨_, _, _, by rw [K.out.1], fun _ => ⟨HK.out.symm, K.out.2.1.symm, K.out.2.2.symm⟩, (Below.refl _ _).alloc (Nat.le_refl _) _⟩

theorem arg_any (s : ByteArray) (w : World) (hs : s.size ≤ maxLen) :
    Calls Tryz.prog 120 #[.string s] w (ArgPost s.data.toList w) := by
  by_cases h : s.size = 1
  · exact arg_one s w h
  · exact arg_num s w hs (beq_eq_false_iff_ne.2 (by omega))

end Go.Proofs.YtccckonckddadabGreat
namespace Go.Proofs.YtccckonckddadabGreat
open Go.RowKit
set_option linter.unusedVariables false

theorem bcell {W w1 : World} (hb : Below W.heap.size W w1) : (∀ b o, b < W.heap.size → w1.cell? ⟨b, o, none⟩ = W.cell? ⟨b, o, none⟩) ∧ (∀ b o, b < W.heap.size → w1.frozen? ⟨b, o, none⟩ = W.frozen? ⟨b, o, none⟩) :=
  ⟨fun b o h => hb.cell (p := ⟨b, o, none⟩) h, fun b o h => hb.frozen (p := ⟨b, o, none⟩) h⟩

theorem below_new {w w1 : World} {o : Obj} (hb : Below (w.alloc o).heap.size (w.alloc o) w1) :
    (∀ x, w1.cell? ⟨w.heap.size, x, none⟩ = (w.alloc o).cell? ⟨w.heap.size, x, none⟩) ∧ (∀ x, w1.frozen? ⟨w.heap.size, x, none⟩ = (w.alloc o).frozen? ⟨w.heap.size, x, none⟩) ∧ w.heap.size < w1.heap.size :=
  ⟨fun x => (bcell hb).1 _ x (by simp), fun x => (bcell hb).2 _ x (by simp), by have := hb.size; simp at this; omega⟩

theorem below_of_new {w w1 : World} {o : Obj} (hb : Below (w.alloc o).heap.size (w.alloc o) w1) : Below w.heap.size w w1 :=
  ((Below.refl _ _).alloc (Nat.le_refl _) _).trans (hb.mono (by simp))

def OpPost (l : List UInt8) (w : World) (e : Ending) (w' : World) : Prop :=
  ∃ (k c : Int) (b : Bool) (a n : Int), e = .returned (.tuple #[.agg #[.int .i64 k, .int .u8 c, .bool b, .int .i64 a, .int .i16 n], .bool (Dk.opOk l)]) ∧ (Dk.opOk l = true → Dk.opV l = ⟨k, c, b, a, n⟩) ∧ Below w.heap.size w w'

theorem drop1_list (s : ByteArray) (h : 1 < s.size) : (s.data.toList.drop 1).headD 0 = s[1] := by
  have : 0 < (s.data.toList.drop 1).length := by rw [List.length_drop, len_list]; omega
  rw [Dk.headD_get _ this, List.getElem_drop]; rfl
theorem drop2_list (s : ByteArray) : (s.extract 2 s.size).data.toList = s.data.toList.drop 2 := by
  rw [ext_list, take_all s s.size (Nat.le_refl _)]

set_option maxHeartbeats 400000 in
theorem op_small (s : ByteArray) (w : World) (h : s.size < 3) :
    Calls Tryz.prog 105 #[.string s] w (OpPost s.data.toList w) := by
  have H : Hid (Dk.opOk s.data.toList = false) := Dk.op_short h
  go_enter Tryz.func105, Tryz.ntmps105
  go_wp2
  exact bodyPost_ret (v := .tuple #[.agg #[.int .i64 0, .int .u8 0, .bool false, .int .i64 0, .int .i16 0], .bool false]) (by simp [results, Tryz.results105, go_sem]) rfl
    ⟨_, _, _, _, _, by rw [H.out], by rw [H.out]; simp, (Below.refl _ _).alloc (Nat.le_refl _) _⟩

set_option maxHeartbeats 400000 in
theorem op_big (s : ByteArray) (w : World) (h : 3 ≤ s.size) (hs : s.size ≤ maxLen) :
    Calls Tryz.prog 105 #[.string s] w (OpPost s.data.toList w) := by
  have h0 : 0 < s.size := by omega
  have h1 : 1 < s.size := by omega
  have hb0 := byte_bd s[0]
  have hb1 := byte_bd s[1]
  have ht : (s.extract 2 s.size).size ≤ maxLen := by simp; omega
  unfold maxLen at hs
  have HD0 : Hid (s.data.toList.headD 0 = s[0]) := headD_list s h0
  have HD1 : Hid ((s.data.toList.drop 1).headD 0 = s[1]) := drop1_list s h1
  have HD2 : Hid ((s.extract 2 s.size).data.toList = s.data.toList.drop 2) := drop2_list s
  have HO : Hid (Dk.opOk s.data.toList = (Dk.isK s[0].toNat && Dk.isSign s[1].toNat && Dk.argOk (s.data.toList.drop 2))) := Dk.op_long h (by rw [HD0.out]) (by rw [HD1.out]) rfl
  have HV : Hid (Dk.opV s.data.toList = ⟨Dk.keyV s[0].toNat, s[1].toNat, Dk.argKey (s.data.toList.drop 2), Dk.argK (s.data.toList.drop 2), Dk.argN (s.data.toList.drop 2)⟩) := by
    show _ = _
    unfold Dk.opV; rw [HD0.out, HD1.out]
  go_enter Tryz.func105, Tryz.ntmps105
  go_wp2_with fail
  refine (key_any _ _ hb0.1 hb0.2).mono ?_
  rintro e w' ⟨rfl, rfl⟩
  generalize Dk.keyV s[0].toNat = kv at *
  generalize Dk.isK s[0].toNat = kb at *
  cases kb
  · go_wp2
    exact bodyPost_ret (v := .tuple #[.agg #[.int .i64 0, .int .u8 0, .bool false, .int .i64 0, .int .i16 0], .bool false]) (by simp [results, Tryz.results105, go_sem]) rfl
      ⟨_, _, _, _, _, by rw [HO.out]; rfl, by rw [HO.out]; simp, (Below.refl _ _).alloc (Nat.le_refl _) _⟩
  go_wp2_with fail
  refine (sign_any _ _ hb1.1 hb1.2).mono ?_
  rintro e w' ⟨rfl, rfl⟩
  generalize Dk.isSign s[1].toNat = sb at *
  cases sb
  · go_wp2
    exact bodyPost_ret (v := .tuple #[.agg #[.int .i64 0, .int .u8 0, .bool false, .int .i64 0, .int .i16 0], .bool false]) (by simp [results, Tryz.results105, go_sem]) rfl
      ⟨_, _, _, _, _, by rw [HO.out]; rfl, by rw [HO.out]; simp, (Below.refl _ _).alloc (Nat.le_refl _) _⟩
  go_wp2_with fail
  refine (arg_any _ _ ht).mono ?_
  rintro e w1 ⟨b, a, n, rfl, hx, hb⟩
  have HX : Hid _ := hx
  clear hx
  rewrite [HD2.out] at HX ⊢
  obtain ⟨hc, hf, hz⟩ := below_new hb
  have HB : Hid _ := hb
  clear hb
  generalize Dk.argOk (s.data.toList.drop 2) = ab at *
  have HE : Hid (Below w.heap.size w w1) := below_of_new HB.out
  have h0' : w.heap.size ≤ w1.heap.size := by omega
  cases ab
  · go_wp2
    refine bodyPost_ret (v := .tuple #[.agg #[.int .i64 0, .int .u8 0, .bool false, .int .i64 0, .int .i16 0], .bool false]) (by simp [results, Tryz.results105, go_sem, hc, hz]) rfl ?_
    refine ⟨_, _, _, _, _, by rw [HO.out]; rfl, by rw [HO.out]; simp, ?_⟩
    exact (((((HE.out.setCell (Nat.le_refl _) _).setCell (Nat.le_refl _) _).setCell (Nat.le_refl _) _).setCell (Nat.le_refl _) _).setCell (Nat.le_refl _) _).alloc (by simpa using h0') _
  · go_wp2
    refine bodyPost_ret (v := .tuple #[.agg #[.int .i64 kv, .int .u8 ↑s[1].toNat, .bool b, .int .i64 a, .int .i16 n], .bool true]) (by simp [results, Tryz.results105, go_sem, hc, hz]) rfl ?_
    refine ⟨_, _, _, _, _, by rw [HO.out]; rfl, fun _ => ?_, ?_⟩
    · obtain ⟨rfl, rfl, rfl⟩ := HX.out trivial
      exact HV.out
    exact (((((HE.out.setCell (Nat.le_refl _) _).setCell (Nat.le_refl _) _).setCell (Nat.le_refl _) _).setCell (Nat.le_refl _) _).setCell (Nat.le_refl _) _).alloc (by simpa using h0') _

theorem op_any (s : ByteArray) (w : World) (hs : s.size ≤ maxLen) :
    Calls Tryz.prog 105 #[.string s] w (OpPost s.data.toList w) := by
  by_cases h : s.size < 3
  · exact op_small s w h
  · exact op_big s w (by omega) hs

end Go.Proofs.YtccckonckddadabGreat
namespace Go.Proofs.YtccckonckddadabGreat
open Go.RowKit
set_option linter.unusedVariables false

def KeysPost (l : List UInt8) (w : World) (e : Ending) (w' : World) : Prop :=
  ∃ b0 b1 b2 b3 b4 b5 b6 b7 : Bool, e = .returned (.tuple #[.agg #[.bool b0, .bool b1, .bool b2, .bool b3, .bool b4, .bool b5, .bool b6, .bool b7], .bool (Dk.rise (-1) l)]) ∧
    (Dk.rise (-1) l = true → [b0, b1, b2, b3, b4, b5, b6, b7] = [0, 1, 2, 3, 4, 5, 6, 7].map (Dk.hasKey l)) ∧ Below w.heap.size w w'

theorem keys_next {b0 b1 b2 b3 b4 b5 b6 b7 : Bool} {l l' : List UInt8} {b : UInt8} (hl : l' = l ++ [b]) (h : [b0, b1, b2, b3, b4, b5, b6, b7] = [0, 1, 2, 3, 4, 5, 6, 7].map (Dk.hasKey l)) (j : Nat) (hj : j < 8) (hb : (b.toNat : Int) = 97 + j) :
    [b0, b1, b2, b3, b4, b5, b6, b7].set j true = [0, 1, 2, 3, 4, 5, 6, 7].map (Dk.hasKey l') := by
  rw [h, hl]
  have : ∀ x, Dk.hasKey (l ++ [b]) x = (Dk.hasKey l x || (j == x)) := fun x => by
    rw [Dk.hasKey_snoc, hb]; congr 1; rw [Bool.eq_iff_iff, beq_iff_eq, beq_iff_eq]; omega
  obtain rfl | rfl | rfl | rfl | rfl | rfl | rfl | rfl : j = 0 ∨ j = 1 ∨ j = 2 ∨ j = 3 ∨ j = 4 ∨ j = 5 ∨ j = 6 ∨ j = 7 := by omega
  all_goals simp [this]

theorem below2 (w : World) (o o' : Obj) : Below w.heap.size w ((w.alloc o).alloc o') := ((Below.refl _ _).alloc (Nat.le_refl _) o).alloc (by simp) o'

set_option maxHeartbeats 1000000 in
theorem keys_any (s : ByteArray) (w : World) (hs : s.size ≤ maxLen) :
    Calls Tryz.prog 80 #[.string s] w (KeysPost s.data.toList w) := by
  unfold maxLen at hs
  go_enter Tryz.func80, Tryz.ntmps80
  go_wp2
  go_loopw [5, 6] (fun last i wr => ∃ (k : Nat) (la : Int) (b0 b1 b2 b3 b4 b5 b6 b7 : Bool), k ≤ s.size ∧ i = .int .i64 k ∧ last = .int .i64 la ∧ -1 ≤ la ∧ la ≤ 7 ∧
      wr = (w.alloc (.cells #[.bool false, .bool false, .bool false, .bool false, .bool false, .bool false, .bool false, .bool false] 116)).alloc (.cells #[.bool b0, .bool b1, .bool b2, .bool b3, .bool b4, .bool b5, .bool b6, .bool b7] 116) ∧
      Hid ([b0, b1, b2, b3, b4, b5, b6, b7] = [0, 1, 2, 3, 4, 5, 6, 7].map (Dk.hasKey (s.data.toList.take k)) ∧ Dk.rise (-1) s.data.toList = Dk.rise la (s.data.toList.drop k))) (fun _ i _ => s.size - (intOf i).toNat)
  case atStart => exact ⟨0, -1, false, false, false, false, false, false, false, false, Nat.zero_le _, rfl, rfl, by omega, by omega, rfl, rfl, rfl⟩
  case round =>
    obtain ⟨k, la, b0, b1, b2, b3, b4, b5, b6, b7, hk, rfl, rfl, hl0, hl1, rfl, HR⟩ := hrel
    by_cases hlt : k < s.size
    · have hb := byte_bd s[k]
      have HT : Hid (s.data.toList.take (k + 1) = s.data.toList.take k ++ [s[k]]) := take_snoc s k hlt
      go_wp2_with fail
      refine (key_any _ _ hb.1 hb.2).mono ?_
      rintro e w' ⟨rfl, rfl⟩
      cases hkk : Dk.isK s[k].toNat
      · have HN : Hid (Dk.rise (-1) s.data.toList = false) := by
          show _ = _
          rw [HR.out.2]; exact Dk.rise_drop_no hlt (.inl hkk)
        clear hkk HR HT
        generalize Dk.keyV s[k].toNat = kv
        go_wp2
        exact bodyPost_ret (v := .tuple #[.agg #[.bool false, .bool false, .bool false, .bool false, .bool false, .bool false, .bool false, .bool false], .bool false]) (by simp [results, Tryz.results80, go_sem]) rfl
          ⟨_, _, _, _, _, _, _, _, by rw [HN.out], by rw [HN.out]; simp, below2 _ _ _⟩
      · by_cases hla : (s[k].toNat : Int) - 97 ≤ la
        · have HN : Hid (Dk.rise (-1) s.data.toList = false) := by
            show _ = _
            rw [HR.out.2]; exact Dk.rise_drop_no hlt (.inr hla)
          have hK := Dk.of_isK hkk
          rewrite [Dk.keyV_yes hK.1 hK.2]
          clear hkk HR HT hK
          go_wp2
          exact bodyPost_ret (v := .tuple #[.agg #[.bool false, .bool false, .bool false, .bool false, .bool false, .bool false, .bool false, .bool false], .bool false]) (by simp [results, Tryz.results80, go_sem]) rfl
            ⟨_, _, _, _, _, _, _, _, by rw [HN.out], by rw [HN.out]; simp, below2 _ _ _⟩
        · have hK := Dk.of_isK hkk
          have HN : Hid (Dk.rise (-1) s.data.toList = Dk.rise ((s[k].toNat : Int) - 97) (s.data.toList.drop (k + 1))) := by
            show _ = _
            rw [HR.out.2]; exact Dk.rise_drop_yes hlt hkk (by show la < (s[k].toNat : Int) - 97; omega)
          rewrite [Dk.keyV_yes hK.1 hK.2]
          obtain ⟨j, hj, hjs⟩ : ∃ j : Nat, j < 8 ∧ (s[k].toNat : Int) = 97 + j := ⟨s[k].toNat - 97, by omega, by omega⟩
          have HKN := @keys_next b0 b1 b2 b3 b4 b5 b6 b7 _ _ _ HT.out HR.out.1 j hj hjs
          clear hkk HR HT hK hb
          generalize (s[k].toNat : Int) = x at *
          obtain rfl | rfl | rfl | rfl | rfl | rfl | rfl | rfl : j = 0 ∨ j = 1 ∨ j = 2 ∨ j = 3 ∨ j = 4 ∨ j = 5 ∨ j = 6 ∨ j = 7 := by omega
          all_goals
            obtain rfl := hjs
            have HK : Hid _ := HKN
            clear HKN
            go_wp2
            go_roundw
            case rel => exact ⟨k + 1, _, _, _, _, _, _, _, _, _, by omega, by go_num, rfl, by omega, by omega, rfl, HK.out, HN.out⟩
            case measure => simp [intOf]; omega
    · have HN : Hid (Dk.rise (-1) s.data.toList = true) := by
        show _ = _
        rw [HR.out.2, List.drop_eq_nil_of_le (by rw [len_list]; omega)]; rfl
      have HA := HR.out.1
      rw [take_all s k (by omega)] at HA
      have HB : Hid _ := HA
      clear HA HR
      go_wp2
      exact bodyPost_ret (v := .tuple #[.agg #[.bool b0, .bool b1, .bool b2, .bool b3, .bool b4, .bool b5, .bool b6, .bool b7], .bool true]) (by simp [results, Tryz.results80, go_sem]) rfl
        ⟨_, _, _, _, _, _, _, _, by rw [HN.out], fun _ => HB.out, below2 _ _ _⟩

end Go.Proofs.YtccckonckddadabGreat
namespace Go.Proofs.YtccckonckddadabGreat
open Go.RowKit
set_option linter.unusedVariables false

theorem own_below {w w' : World} {B e size n : Nat} {v : Value} {xs : List Value} (h : w.ownsRow B e size v n xs) (hb : Below w.heap.size w w') : w'.ownsRow B e size v n xs := by
  refine ⟨h.1, ?_⟩
  rcases h.2 with hn | ⟨g, cap, cur, rfl, hg, hgg, rest⟩
  · exact .inl hn
  · exact .inr ⟨g, cap, cur, rfl, hg, by rw [hb.block g (Array.getElem?_eq_some_iff.1 hgg).1]; exact hgg, rest⟩

theorem cells_new (w : World) (b : Nat) (hb : b = w.heap.size) (cs : List Value) (t : TypeId) : ∀ j u, cs[j]? = some u → (w.alloc (.cells cs.toArray t)).cell? ((⟨b, 0, none⟩ : Addr).add j) = some u := by
  subst hb
  intro j u h
  cases j with
  | zero => simp [Addr.add, h]
  | succ j => simp [Addr.add, h]

/-- An operation's five cells. -/
def opCells (o : Dk.Op) : List Value := [.int .i64 o.key, .int .u8 o.sign, .bool o.isKey, .int .i64 o.akey, .int .i16 o.num]
def opsCells (os : List Dk.Op) : List Value := os.flatMap opCells

def strLen : Value → Nat | .string s => s.size | _ => 0
def boolN : Value → Nat | .bool true => 1 | _ => 0

theorem info_op : (Tryz.prog.info? 163).map (fun i => (i.zero, i.size, i.bytes)) = some (some (.agg #[.int .i64 0, .int .u8 0, .bool false, .int .i64 0, .int .i16 0]), 5, 40) := by kernel_rfl

theorem info_parts {P : Program} {t : TypeId} {z : Value} {size bytes : Nat} (h : (P.info? t).map (fun i => (i.zero, i.size, i.bytes)) = some (some z, size, bytes)) :
    ∃ i, P.info? t = some i ∧ i.zero = some z ∧ i.size = size ∧ i.bytes = bytes := by
  cases hi : P.info? t with
  | none => rw [hi] at h; cases h
  | some i => rw [hi] at h; simp at h; exact ⟨i, rfl, h.1, h.2.1, h.2.2⟩

def OpsPost (l : List UInt8) (w : World) (e : Ending) (w' : World) : Prop :=
  ∃ (a : Option Addr) (n c : Nat), e = .returned (.tuple #[.slice a n c, .bool (Dk.opsOk l)]) ∧
    (Dk.opsOk l = true → n = (Dk.opsV l).length ∧ w'.ownsRow w.heap.size 163 5 (.slice a n c) n (opsCells (Dk.opsV l))) ∧ Below w.heap.size w w'

set_option maxHeartbeats 1000000 in
theorem ops_any (s : ByteArray) (w : World) (hs : s.size ≤ maxLen) :
    Calls Tryz.prog 81 #[.string s] w (OpsPost s.data.toList w) := by
  obtain ⟨i0, hi, hz0, hz1, hz2⟩ := info_parts info_op
  have HI : Hid (_ ∧ _ ∧ _ ∧ _) := ⟨hi, hz0, hz1, hz2⟩
  clear hi hz0 hz1 hz2
  go_enter Tryz.func81, Tryz.ntmps81
  go_wp2
  go_loopw [4, 5, 6] (fun v r m wr => ∃ (a : Option Addr) (n c : Nat) (rest : ByteArray) (more : Bool) (ds : List (List UInt8)), v = .slice a n c ∧ r = .string rest ∧ m = .bool more ∧ rest.size ≤ s.size ∧
      n ≤ 8 ∧ Hid (Dk.splitAll 59 s.data.toList = ds ++ (if more then Dk.splitAll 59 rest.data.toList else []) ∧ n = ds.length ∧ ds.all Dk.opOk = true ∧
      wr.ownsRow w.heap.size 163 5 (.slice a n c) n (opsCells (ds.map Dk.opV))) ∧ Hid (Below w.heap.size w wr)) (fun _ r m _ => strLen r + boolN m)
  case atStart => exact ⟨none, 0, 0, s, true, [], rfl, rfl, rfl, Nat.le_refl _, by omega, ⟨rfl, rfl, rfl, World.ownsRow_nil _ _ _ _⟩, Below.refl _ _⟩
  case round =>
    obtain ⟨a, n, c, rest, more, ds, rfl, rfl, rfl, hrs, hn8, HD, HB⟩ := hrel
    cases more
    · obtain ⟨h1, h2⟩ := Dk.ops_good (by simpa using HD.out.1) (by have := HD.out.2.1; omega) HD.out.2.2.1
      have HG : Hid (_ ∧ _) := ⟨h1, h2⟩
      clear h1 h2
      go_wp2
      go_ret2
      refine ⟨a, n, c, by rw [HG.out.1]; rfl, fun _ => ⟨by rw [HG.out.2, List.length_map]; exact HD.out.2.1, ?_⟩, HB.out⟩
      rw [HG.out.2]
      exact HD.out.2.2.2
    · by_cases h8 : n = 8
      · have hb : ((n : Int) == 8) = true := beq_iff_eq.2 (by omega)
        have HN : Hid (Dk.opsOk s.data.toList = false) := Dk.ops_many (by simpa using HD.out.1) (by have := HD.out.2.1; omega)
        clear h8
        go_wp2
        go_ret2
        exact ⟨none, 0, 0, by rw [HN.out]; rfl, by rw [HN.out]; simp, HB.out⟩
      · have hb : ((n : Int) == 8) = false := beq_eq_false_iff_ne.2 (by omega)
        go_wp2_with fail
        refine (cut_any rest 59 _ (by omega)).mono ?_
        rintro e w1 ⟨h, t, rfl, hh, ht, nq, rfl⟩
        have HC : Hid (_ ∧ _) := ⟨hh, ht⟩
        clear hh ht
        obtain ⟨l1, l2, l3⟩ := Dk.cut_len (m := 59) rest.data.toList
        rw [← HC.out.1, ← HC.out.2] at l1
        rw [← HC.out.2] at l2 l3
        simp only [len_list] at l1 l2 l3
        have HL : Hid (_ ∧ _) := ⟨l2, l3⟩
        clear l2 l3
        have hs1 : Dk.splitAll 59 rest.data.toList = h.data.toList :: (if (Dk.cutAt 59 rest.data.toList).2.2 then Dk.splitAll 59 t.data.toList else []) := by
          rw [HC.out.1, HC.out.2]; exact Dk.splitAll_cut 59 rest.data.toList
        generalize (Dk.cutAt 59 rest.data.toList).2.2 = mo at *
        have HS : Hid (Dk.splitAll 59 s.data.toList = ds ++ (h.data.toList :: (if mo then Dk.splitAll 59 t.data.toList else []))) := by
          show _ = _
          rw [← hs1]; simpa using HD.out.1
        clear hs1 HC
        go_wp2_with fail
        refine (op_any h _ (by omega)).mono ?_
        rintro e w2 ⟨k, sg, b, ak, nm, rfl, hv, hb2⟩
        have HV : Hid _ := hv
        clear hv
        have HB2 : Hid (Below wr.heap.size wr w2) := (below_drewN (Below.refl _ wr) nq).trans (hb2.mono (by simp))
        have HB3 : Hid (Below w.heap.size w w2) := HB.out.trans (HB2.out.mono HB.out.size)
        have HO2 : Hid (w2.ownsRow w.heap.size 163 5 (.slice a n c) n (opsCells (ds.map Dk.opV))) := own_below HD.out.2.2.2 HB2.out
        have hz2 : w.heap.size ≤ w2.heap.size := HB3.out.size
        clear hb2
        generalize hok : Dk.opOk h.data.toList = ok at *
        cases ok
        · have HN : Hid (Dk.opsOk s.data.toList = false) := Dk.ops_bad HS.out hok
          clear hok
          go_wp2
          go_ret2
          refine ⟨none, 0, 0, by rw [HN.out]; rfl, by rw [HN.out]; simp, ?_⟩
          exact HB3.out.alloc hz2 _
        · have HOK : Hid _ := hok
          clear hok
          go_wp2_with (at_builtin; refine wpList_append_own _ rfl (.tmp 28) (.tmp 30) 117 rfl w.heap.size 163 i0 (.agg #[.int .i64 0, .int .u8 0, .bool false, .int .i64 0, .int .i16 0]) 5 40 Tryz.underlying117 HI.out.1 HI.out.2.1 HI.out.2.2.1 HI.out.2.2.2 rfl (by decide) (.slice a n c) n (opsCells (ds.map Dk.opV)) rfl ((HO2.out.alloc _).alloc _) ⟨w2.heap.size + 1, 0, none⟩ 1 1 [.int .i64 k, .int .u8 sg, .bool b, .int .i64 ak, .int .i16 nm] rfl rfl ?c1 ?c2 ?c3 ?c4 ?c5 ?_)
          case c1 => exact cells_new _ _ (by simp) [.int .i64 k, .int .u8 sg, .bool b, .int .i64 ak, .int .i16 nm] _
          case c2 => intro u hu; simp at hu; rcases hu with rfl | rfl | rfl | rfl | rfl <;> rfl
          case c3 => unfold maxLen; omega
          case c4 => omega
          case c5 => simp; omega
          intro v' w3 hown hgr _
          have HR : Hid (Below w.heap.size w w3) := ((HB3.out.alloc hz2 _).alloc (by simp; omega) _).grown hgr (by simp; omega) (fun k hk => (HO2.out.lt k hk).1)
          obtain ⟨a', c', rfl⟩ : ∃ a' c', v' = .slice a' (n + 1) c' := by
            rcases hown.2 with ⟨_, h⟩ | ⟨g, cap, _, h, _⟩
            · omega
            · exact ⟨_, _, h⟩
          have HW : Hid (w3.ownsRow w.heap.size 163 5 (.slice a' (n + 1) c') (n + 1) (opsCells ((ds ++ [h.data.toList]).map Dk.opV))) := by
            have e : opsCells ((ds ++ [h.data.toList]).map Dk.opV) = opsCells (ds.map Dk.opV) ++ [.int .i64 k, .int .u8 sg, .bool b, .int .i64 ak, .int .i16 nm] := by
              unfold opsCells
              rw [List.map_append, List.flatMap_append]
              simp [HV.out trivial, opCells]
            show World.ownsRow _ _ _ _ _ _ _
            rw [e]; exact hown
          clear hown hgr
          go_wp2
          go_roundw
          case rel =>
            refine ⟨a', n + 1, c', t, mo, ds ++ [h.data.toList], rfl, rfl, rfl, by omega, by omega, ⟨?_, ?_, ?_, HW.out⟩, HR.out⟩
            · rw [HS.out, List.append_assoc]; rfl
            · rw [List.length_append, ← HD.out.2.1]; rfl
            · rw [List.all_append, HD.out.2.2.1]; simp [HOK.out]
          case measure =>
            cases mo
            · have : t.size = 0 := congrArg List.length (HL.out.2 rfl)
              simp [strLen, boolN]; omega
            · have := HL.out.1 rfl
              simp [strLen, boolN]; omega

end Go.Proofs.YtccckonckddadabGreat
