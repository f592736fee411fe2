import Derived.Test.YtccckonckddadaaWalkA
namespace Go.Proofs.Ytccckonckddadaa
open Go.RowKit
set_option linter.unusedVariables false

theorem bytes_toList (s : ByteArray) : s.toList = s.data.toList := by
  exact ByteArray.toList_eq s

set_option maxHeartbeats 400000 in
theorem number_zero (s : ByteArray) (w : World) (h : s.data.toList = [48]) :
    Calls Try.prog 119 #[.string s] w fun e w' => e = .returned (.tuple #[.int .i16 (Dk.numV s.data.toList), .bool (Dk.numOk s.data.toList)]) ∧ w' = w := by
  have e1 : Dk.numV s.data.toList = 0 := by rw [h]; rfl
  have e2 : Dk.numOk s.data.toList = true := by rw [h]; rfl
  rw [e1, e2]
  clear e1 e2
  have h0 : (s.toList == [48]) = true := by rw [bytes_toList, h]; rfl
  clear h
  go_enter Try.func119, Try.ntmps119
  go_wp2
  go_ret2
  exact ⟨rfl, rfl⟩

theorem neg_list (s : ByteArray) (h : 0 < s.size) : Dk.neg s.data.toList = ((s[0].toNat : Int) == 45) := by
  unfold Dk.neg
  rw [headD_list s h, Bool.eq_iff_iff, beq_iff_eq, beq_iff_eq]
  constructor
  · intro e; rw [e]; rfl
  · intro e; apply UInt8.toNat_inj.1; show _ = 45; omega

set_option maxHeartbeats 400000 in
theorem number_neg (s : ByteArray) (w : World) (hs : s.size ≤ maxLen) (hz : (s.toList == [48]) = false) (h0 : 0 < s.size) (hn : ((s[0].toNat : Int) == 45) = true) :
    Calls Try.prog 119 #[.string s] w fun e w' => e = .returned (.tuple #[.int .i16 (Dk.numV s.data.toList), .bool (Dk.numOk s.data.toList)]) ∧ w' = w := by
  have ht := tail_size s hs
  have HB : Hid (0 ≤ Dk.digV (s.extract 1 s.size).data.toList ∧ Dk.digV (s.extract 1 s.size).data.toList ≤ 99999) := Dk.digV_bd _
  have HN : Hid (Dk.neg s.data.toList = true) := (neg_list s h0).trans hn
  have HZ : Hid ((s.data.toList == [48]) = false) := by rw [← bytes_toList]; exact hz
  unfold maxLen at hs
  go_enter Try.func119, Try.ntmps119
  go_wp2_with fail
  refine (digits_any (s.extract 1 s.size) _ ht).mono ?_
  rintro e w' ⟨rfl, rfl⟩
  obtain ⟨b0, b1⟩ := HB.out
  generalize hv : Dk.digV (s.extract 1 s.size).data.toList = v at *
  generalize ho : Dk.okDig (s.extract 1 s.size).data.toList = o at *
  rw [tail_list] at hv ho
  obtain ⟨E1, E2⟩ := Dk.num_neg HZ.out HN.out hv ho
  have K1 : Hid _ := E1
  have K2 : Hid _ := E2
  clear E1 E2 hv ho ht HB HN HZ
  cases o
  · go_wp2
    go_ret2
    exact ⟨by rw [K1.out, K2.out]; rfl, rfl⟩
  · by_cases hin : v ≤ 32768
    · go_wp2
      go_ret2
      exact ⟨by rw [K1.out, K2.out, Dk.inNum_yes (by omega) (by omega)]; rfl, rfl⟩
    · go_wp2
      go_ret2
      exact ⟨by rw [K1.out, K2.out, Dk.inNum_no (by omega)]; rfl, rfl⟩

set_option maxHeartbeats 400000 in
theorem number_pos (s : ByteArray) (w : World) (hs : s.size ≤ maxLen) (hz : (s.toList == [48]) = false) (hn : s.size = 0 ∨ ∃ h : 0 < s.size, ((s[0].toNat : Int) == 45) = false) :
    Calls Try.prog 119 #[.string s] w fun e w' => e = .returned (.tuple #[.int .i16 (Dk.numV s.data.toList), .bool (Dk.numOk s.data.toList)]) ∧ w' = w := by
  have ht := hs
  have HB : Hid (0 ≤ Dk.digV s.data.toList ∧ Dk.digV s.data.toList ≤ 99999) := Dk.digV_bd _
  have HZ : Hid ((s.data.toList == [48]) = false) := by rw [← bytes_toList]; exact hz
  unfold maxLen at hs
  have HN : Hid (Dk.neg s.data.toList = false) := by
    rcases hn with hn | ⟨h0, hn⟩
    · have : s.data.toList = [] := List.eq_nil_of_length_eq_zero hn
      show _ = _
      rw [this]; rfl
    · exact (neg_list s h0).trans hn
  rcases hn with hn | ⟨h0, hn⟩
  all_goals
    go_enter Try.func119, Try.ntmps119
    go_wp2_with fail
    refine (digits_any s _ ht).mono ?_
    rintro e w' ⟨rfl, rfl⟩
    obtain ⟨b0, b1⟩ := HB.out
    generalize hv : Dk.digV s.data.toList = v at *
    generalize ho : Dk.okDig s.data.toList = o at *
    obtain ⟨E1, E2⟩ := Dk.num_pos HZ.out HN.out hv ho
    have K1 : Hid _ := E1
    have K2 : Hid _ := E2
    clear E1 E2 hv ho ht HB HN HZ
    cases o
    · go_wp2
      go_ret2
      exact ⟨by rw [K1.out, K2.out]; rfl, rfl⟩
    · by_cases hin : v ≤ 32767
      · go_wp2
        go_ret2
        exact ⟨by rw [K1.out, K2.out, Dk.inNum_yes (by omega) (by omega)]; rfl, rfl⟩
      · go_wp2
        go_ret2
        exact ⟨by rw [K1.out, K2.out, Dk.inNum_no (by omega)]; rfl, rfl⟩

theorem number_any (s : ByteArray) (w : World) (hs : s.size ≤ maxLen) :
    Calls Try.prog 119 #[.string s] w fun e w' => e = .returned (.tuple #[.int .i16 (Dk.numV s.data.toList), .bool (Dk.numOk s.data.toList)]) ∧ w' = w := by
  by_cases hz : s.data.toList = [48]
  · exact number_zero s w hz
  · have hz' : (s.toList == [48]) = false := by rw [bytes_toList]; simpa using hz
    by_cases h0 : 0 < s.size
    · cases hn : ((s[0].toNat : Int) == 45)
      · exact number_pos s w hs hz' (.inr ⟨h0, hn⟩)
      · exact number_neg s w hs hz' h0 hn
    · exact number_pos s w hs hz' (.inl (by omega))

/-! ### A struct in memory: the argument -/
def ArgPost (l : List UInt8) (w : World) (e : Ending) (w' : World) : Prop :=
  ∃ (b : Bool) (a n : Int), e = .returned (.tuple #[.agg #[.bool b, .int .i64 a, .int .i16 n], .bool (Dk.argOk l)]) ∧ (Dk.argOk l = true → b = Dk.argKey l ∧ a = Dk.argK l ∧ n = Dk.argN l) ∧ Below w.heap.size w w'

set_option maxHeartbeats 400000 in
theorem arg_num (s : ByteArray) (w : World) (hs : s.size ≤ maxLen) (h1 : ((s.size : Int) == 1) = false) :
    Calls Try.prog 113 #[.string s] w (ArgPost s.data.toList w) := by
  have hs' := hs
  unfold maxLen at hs
  have HK : Hid (Dk.argKey s.data.toList = false) := by
    show _ = _
    unfold Dk.argKey
    rw [decide_eq_false (by rw [len_list]; have := beq_eq_false_iff_ne.1 h1; omega)]; rfl
  go_enter Try.func113, Try.ntmps113
  go_wp2_with fail
  refine (number_any s _ hs').mono ?_
  rintro e w' ⟨rfl, rfl⟩
  obtain ⟨e1, e2, e3⟩ := Dk.arg_no HK.out
  have K : Hid (Dk.argOk s.data.toList = Dk.numOk s.data.toList ∧ Dk.argK s.data.toList = 0 ∧ Dk.argN s.data.toList = Dk.numV s.data.toList) := ⟨e1, e2, e3⟩
  clear e1 e2 e3
  generalize Dk.numV s.data.toList = v at *
  generalize Dk.numOk s.data.toList = o at *
  cases o
  · go_wp2
    exact bodyPost_ret (v := .tuple #[.agg #[.bool false, .int .i64 0, .int .i16 0], .bool false]) (by simp [results, Try.results113, go_sem]) rfl
      ⟨_, _, _, by rw [K.out.1], by rw [K.out.1]; simp, (Below.refl _ _).alloc (Nat.le_refl _) _⟩
  · go_wp2
    exact bodyPost_ret (v := .tuple #[.agg #[.bool false, .int .i64 0, .int .i16 v], .bool true]) (by simp [results, Try.results113, go_sem]) rfl
      ⟨_, _, _, by rw [K.out.1], fun _ => ⟨HK.out.symm, K.out.2.1.symm, K.out.2.2.symm⟩, (Below.refl _ _).alloc (Nat.le_refl _) _⟩

set_option maxHeartbeats 400000 in
theorem arg_one (s : ByteArray) (w : World) (h1 : s.size = 1) :
    Calls Try.prog 113 #[.string s] w (ArgPost s.data.toList w) := by
  have hs' : s.size ≤ maxLen := by unfold maxLen; omega
  have h1' : ((s.size : Int) == 1) = true := beq_iff_eq.2 (by omega)
  have h0 : 0 < s.size := by omega
  have hb := byte_bd s[0]
  have HH : Hid (s.data.toList.headD 0 = s[0]) := headD_list s h0
  have HL : Hid (s.data.toList.length = 1) := h1
  clear h1
  go_enter Try.func113, Try.ntmps113
  go_wp2_with fail
  refine (key_any _ _ hb.1 hb.2).mono ?_
  rintro e w' ⟨rfl, rfl⟩
  cases hk : Dk.isK s[0].toNat
  · have HK : Hid (Dk.argKey s.data.toList = false) := Dk.argKey_of HL.out (by rw [HH.out]; exact hk)
    have HI : Hid (Dk.isK s[0].toNat = false) := hk
    clear hk
    generalize Dk.keyV s[0].toNat = kv at *
    go_wp2_with fail
    refine (number_any s _ hs').mono ?_
    rintro e w' ⟨rfl, rfl⟩
    obtain ⟨e1, e2, e3⟩ := Dk.arg_no HK.out
    have K : Hid (Dk.argOk s.data.toList = Dk.numOk s.data.toList ∧ Dk.argK s.data.toList = 0 ∧ Dk.argN s.data.toList = Dk.numV s.data.toList) := ⟨e1, e2, e3⟩
    clear e1 e2 e3
    generalize Dk.numV s.data.toList = v at *
    generalize Dk.numOk s.data.toList = o at *
    cases o
    · go_wp2
      exact bodyPost_ret (v := .tuple #[.agg #[.bool false, .int .i64 0, .int .i16 0], .bool false]) (by simp [results, Try.results113, go_sem]) rfl
        ⟨_, _, _, by rw [K.out.1], by rw [K.out.1]; simp, (Below.refl _ _).alloc (Nat.le_refl _) _⟩
    · go_wp2
      exact bodyPost_ret (v := .tuple #[.agg #[.bool false, .int .i64 0, .int .i16 v], .bool true]) (by simp [results, Try.results113, go_sem]) rfl
        ⟨_, _, _, by rw [K.out.1], fun _ => ⟨HK.out.symm, K.out.2.1.symm, K.out.2.2.symm⟩, (Below.refl _ _).alloc (Nat.le_refl _) _⟩
  · have HK : Hid (Dk.argKey s.data.toList = true) := Dk.argKey_of HL.out (by rw [HH.out]; exact hk)
    obtain ⟨e1, e2, e3⟩ := Dk.arg_yes HK.out
    rw [HH.out] at e2
    have K : Hid (Dk.argOk s.data.toList = true ∧ Dk.argK s.data.toList = Dk.keyV s[0].toNat ∧ Dk.argN s.data.toList = 0) := ⟨e1, e2, e3⟩
    clear e1 e2 e3 hk
    generalize Dk.keyV s[0].toNat = kv at *
    go_wp2
    exact bodyPost_ret (v := .tuple #[.agg #[.bool true, .int .i64 kv, .int .i16 0], .bool true]) (by simp [results, Try.results113, go_sem]) rfl
      ⟨_, _, _, by rw [K.out.1], fun _ => ⟨HK.out.symm, K.out.2.1.symm, K.out.2.2.symm⟩, (Below.refl _ _).alloc (Nat.le_refl _) _⟩

theorem arg_any (s : ByteArray) (w : World) (hs : s.size ≤ maxLen) :
    Calls Try.prog 113 #[.string s] w (ArgPost s.data.toList w) := by
  by_cases h : s.size = 1
  · exact arg_one s w h
  · exact arg_num s w hs (beq_eq_false_iff_ne.2 (by omega))

end Go.Proofs.Ytccckonckddadaa
