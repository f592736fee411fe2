import Derived.Test.YtccckonckddadaaWalkR6
import Derived.Test.YtccckonckddadaaPlainT
namespace Go.Proofs.Ytccckonckddadaa
open Go.RowKit
set_option linter.unusedVariables false

set_option maxHeartbeats 2000000 in
theorem ints_any (x0 x1 x2 x3 x4 x5 x6 x7 : Int) (w : World) (h0 : -32768 ≤ x0 ∧ x0 ≤ 32767) (h1 : -32768 ≤ x1 ∧ x1 ≤ 32767) (h2 : -32768 ≤ x2 ∧ x2 ≤ 32767) (h3 : -32768 ≤ x3 ∧ x3 ≤ 32767) (h4 : -32768 ≤ x4 ∧ x4 ≤ 32767) (h5 : -32768 ≤ x5 ∧ x5 ≤ 32767) (h6 : -32768 ≤ x6 ∧ x6 ≤ 32767) (h7 : -32768 ≤ x7 ∧ x7 ≤ 32767) :
    Calls Try.prog 62 #[.agg #[.int .i16 x0, .int .i16 x1, .int .i16 x2, .int .i16 x3, .int .i16 x4, .int .i16 x5, .int .i16 x6, .int .i16 x7]] w fun e w' => e = .returned (.agg #[.int .i64 x0, .int .i64 x1, .int .i64 x2, .int .i64 x3, .int .i64 x4, .int .i64 x5, .int .i64 x6, .int .i64 x7]) ∧ Below w.heap.size w w' := by
  go_enter Try.func62, Try.ntmps62
  go_wp2
  refine wp_loop_rounds 9 ?_
  iterate 9
    rw [rounds_succ]
    go_wp2
  exact bodyPost_ret (v := .agg #[.int .i64 x0, .int .i64 x1, .int .i64 x2, .int .i64 x3, .int .i64 x4, .int .i64 x5, .int .i64 x6, .int .i64 x7]) (by simp [results, Try.results62, go_sem]) rfl
    ⟨rfl, ((((Below.refl _ _).alloc (Nat.le_refl _) _).alloc (by simp) _).alloc (by simp; omega) _)⟩

set_option maxHeartbeats 2000000 in
theorem cells_any (x0 x1 x2 x3 x4 x5 x6 x7 : Int) (w : World) (h0 : -32768 ≤ x0 ∧ x0 ≤ 32767) (h1 : -32768 ≤ x1 ∧ x1 ≤ 32767) (h2 : -32768 ≤ x2 ∧ x2 ≤ 32767) (h3 : -32768 ≤ x3 ∧ x3 ≤ 32767) (h4 : -32768 ≤ x4 ∧ x4 ≤ 32767) (h5 : -32768 ≤ x5 ∧ x5 ≤ 32767) (h6 : -32768 ≤ x6 ∧ x6 ≤ 32767) (h7 : -32768 ≤ x7 ∧ x7 ≤ 32767) :
    Calls Try.prog 63 #[.agg #[.int .i64 x0, .int .i64 x1, .int .i64 x2, .int .i64 x3, .int .i64 x4, .int .i64 x5, .int .i64 x6, .int .i64 x7]] w fun e w' => e = .returned (.agg #[.int .i16 x0, .int .i16 x1, .int .i16 x2, .int .i16 x3, .int .i16 x4, .int .i16 x5, .int .i16 x6, .int .i16 x7]) ∧ Below w.heap.size w w' := by
  go_enter Try.func63, Try.ntmps63
  go_wp2
  refine wp_loop_rounds 9 ?_
  iterate 9
    rw [rounds_succ]
    go_wp2
  exact bodyPost_ret (v := .agg #[.int .i16 x0, .int .i16 x1, .int .i16 x2, .int .i16 x3, .int .i16 x4, .int .i16 x5, .int .i16 x6, .int .i16 x7]) (by simp [results, Try.results63, go_sem]) rfl
    ⟨rfl, ((((Below.refl _ _).alloc (Nat.le_refl _) _).alloc (by simp) _).alloc (by simp; omega) _)⟩

/-! ### argument -/
def ArgRPost (l : List UInt8) (cs : List Int) (w : World) (e : Ending) (w' : World) : Prop :=
  ∃ kb : ByteArray, e = .returned (.tuple #[.int .i64 (Dk.argVal (Dk.opV l) cs), .string kb]) ∧ kb.data.toList = (if Dk.argKey (l.drop 2) then (l.take 3).drop 2 else []) ∧ Below w.heap.size w w'

set_option maxHeartbeats 1000000 in
theorem argument_num (s : ByteArray) (x0 x1 x2 x3 x4 x5 x6 x7 : Int) (w : World) (hs : s.size ≤ maxLen) (hop : Dk.opOk s.data.toList = true) (hk : Dk.argKey (s.data.toList.drop 2) = false) :
    Calls Try.prog 92 #[.string s, .agg #[.int .i64 x0, .int .i64 x1, .int .i64 x2, .int .i64 x3, .int .i64 x4, .int .i64 x5, .int .i64 x6, .int .i64 x7]] w (ArgRPost s.data.toList [x0, x1, x2, x3, x4, x5, x6, x7] w) := by
  have h3 : 3 ≤ s.size := Dk.opOk_len hop
  have h2 : 2 < s.size := by omega
  have hI : Hid (Dk.isK s[2].toNat = false) := by
    show _ = _
    rw [← drop2_head s h2, Dk.opOk_key hop, hk]
  have HV : Hid (Dk.argVal (Dk.opV s.data.toList) [x0, x1, x2, x3, x4, x5, x6, x7] = Dk.numV (s.data.toList.drop 2)) := Dk.argVal_num hk
  have HN : Hid (Dk.numOk (s.data.toList.drop 2) = true) := Dk.opOk_num hop hk
  have HK : Hid (Dk.argKey (s.data.toList.drop 2) = false) := hk
  have HD2 : Hid ((s.extract 2 s.size).data.toList = s.data.toList.drop 2) := drop2_list s
  have ht : (s.extract 2 s.size).size ≤ maxLen := by simp; omega
  clear hop hk
  unfold maxLen at hs
  go_enter Try.func92, Try.ntmps92
  go_wp2_with fail
  refine (inK_any _ _).mono ?_
  rintro e w' ⟨rfl, rfl⟩
  rewrite [hI.out]
  go_wp2_with fail
  refine (refnum_any _ _ ht).mono ?_
  rintro e w' ⟨v, rfl, hv, rfl⟩
  have HW : Hid (Dk.numV (s.data.toList.drop 2) = v) := by
    show _ = _
    have := hv (by rw [HD2.out]; exact HN.out)
    rw [this, HD2.out]
  rewrite [HD2.out, HN.out]
  clear hv
  go_wp2
  go_ret2
  exact ⟨⟨#[]⟩, by rw [HV.out, HW.out]; rfl, by rw [HK.out]; rfl, (Below.refl _ _).alloc (Nat.le_refl _) _⟩

set_option maxHeartbeats 4000000 in
theorem argument_key (s : ByteArray) (x0 x1 x2 x3 x4 x5 x6 x7 : Int) (w : World) (hop : Dk.opOk s.data.toList = true) (hk : Dk.argKey (s.data.toList.drop 2) = true) :
    Calls Try.prog 92 #[.string s, .agg #[.int .i64 x0, .int .i64 x1, .int .i64 x2, .int .i64 x3, .int .i64 x4, .int .i64 x5, .int .i64 x6, .int .i64 x7]] w (ArgRPost s.data.toList [x0, x1, x2, x3, x4, x5, x6, x7] w) := by
  have h3 : 3 ≤ s.size := Dk.opOk_len hop
  have hs3 : s.size = 3 := Dk.opOk_len3 hk h3
  have h2 : 2 < s.size := by omega
  have hK : Dk.isK s[2].toNat = true := by rw [← drop2_head s h2, Dk.opOk_key hop, hk]
  have hI : Hid (Dk.isK s[2].toNat = true) := hK
  have HK : Hid (Dk.argKey (s.data.toList.drop 2) = true) := hk
  have HD : Hid ((s.data.toList.drop 2).headD 0 = s[2]) := drop2_head s h2
  have HE : Hid ((s.data.toList.take 3).drop 2 = if true = true then (s.data.toList.take 3).drop 2 else []) := rfl
  obtain ⟨k0, k1⟩ := Dk.of_isK hK
  obtain ⟨j, hj, hjs⟩ : ∃ j : Nat, j < 8 ∧ (s[2].toNat : Int) = 97 + j := ⟨s[2].toNat - 97, by omega, by omega⟩
  have hkv : Dk.keyV s[2].toNat = (j : Int) := by rw [Dk.keyV_yes k0 k1]; omega
  have hc : (Dk.keyV s[2].toNat).toNat = j := by rw [hkv]; simp
  clear hop hk hK k0 k1 hkv
  obtain rfl | rfl | rfl | rfl | rfl | rfl | rfl | rfl : j = 0 ∨ j = 1 ∨ j = 2 ∨ j = 3 ∨ j = 4 ∨ j = 5 ∨ j = 6 ∨ j = 7 := by omega
  all_goals
    simp at hjs
  all_goals
    have hI2 := hI.out
    rw [hjs] at hI2
    have HC : Hid _ := hc
    clear hc
    obtain ⟨v, hv⟩ : ∃ v, Dk.argVal (Dk.opV s.data.toList) [x0, x1, x2, x3, x4, x5, x6, x7] = v := ⟨_, rfl⟩
    have hv2 := hv
    rw [Dk.argVal_cell HK.out, HD.out, HC.out] at hv2
    simp at hv2
    have HV : Hid _ := hv
    have HV2 : Hid _ := hv2
    clear hv hv2
    go_enter Try.func92, Try.ntmps92
    go_wp2_with fail
    refine (inK_any _ _).mono ?_
    rintro e w' ⟨rfl, rfl⟩
    go_wp2
    go_quiet (fail)
    go_wp2
    go_ret2
    exact ⟨s.extract 2 3, by rw [HV.out, ← HV2.out]; rfl, by rw [ext_list, HK.out]; exact HE.out, below_drewN ((Below.refl _ _).alloc (Nat.le_refl _) _) _⟩

theorem argument_any (s : ByteArray) (x0 x1 x2 x3 x4 x5 x6 x7 : Int) (w : World) (hs : s.size ≤ maxLen) (hop : Dk.opOk s.data.toList = true) :
    Calls Try.prog 92 #[.string s, .agg #[.int .i64 x0, .int .i64 x1, .int .i64 x2, .int .i64 x3, .int .i64 x4, .int .i64 x5, .int .i64 x6, .int .i64 x7]] w (ArgRPost s.data.toList [x0, x1, x2, x3, x4, x5, x6, x7] w) := by
  cases hk : Dk.argKey (s.data.toList.drop 2)
  · exact argument_num s x0 x1 x2 x3 x4 x5 x6 x7 w hs hop hk
  · exact argument_key s x0 x1 x2 x3 x4 x5 x6 x7 w hop hk

end Go.Proofs.Ytccckonckddadaa
