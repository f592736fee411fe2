import Derived.Test.YtccckonckddadaaWalkR3
namespace Go.Proofs.Ytccckonckddadaa
open Go.RowKit
set_option linter.unusedVariables false

/-! ### operation -/
theorem refop_small (s : ByteArray) (w : World) (h : s.size < 3) :
    Calls Try.prog 91 #[.string s] w fun e w' => e = .returned (.bool (Dk.opOk s.data.toList)) ∧ w' = w := by
  have H : Hid (Dk.opOk s.data.toList = false) := Dk.op_short h
  go_enter Try.func91, Try.ntmps91
  go_wp2
  go_ret
  exact ⟨by rw [H.out]; rfl, rfl⟩

theorem drop2_head (s : ByteArray) (h : 2 < s.size) : (s.data.toList.drop 2).headD 0 = s[2] := by
  have : 0 < (s.data.toList.drop 2).length := by rw [List.length_drop, len_list]; omega
  rw [Dk.headD_get _ this, List.getElem_drop]; rfl

set_option maxHeartbeats 1000000 in
theorem refop_big (s : ByteArray) (w : World) (h : 3 ≤ s.size) (hs : s.size ≤ maxLen) :
    Calls Try.prog 91 #[.string s] w fun e w' => e = .returned (.bool (Dk.opOk s.data.toList)) ∧ w' = w := by
  have h0 : 0 < s.size := by omega
  have h1 : 1 < s.size := by omega
  have h2 : 2 < s.size := by omega
  have hb0 := byte_bd s[0]
  have hb1 := byte_bd s[1]
  have hb2 := byte_bd s[2]
  have ht : (s.extract 2 s.size).size ≤ maxLen := by simp; omega
  unfold maxLen at hs
  have HD0 : Hid (s.data.toList.headD 0 = s[0]) := headD_list s h0
  have HD1 : Hid ((s.data.toList.drop 1).headD 0 = s[1]) := drop1_list s h1
  have HD2 : Hid ((s.extract 2 s.size).data.toList = s.data.toList.drop 2) := drop2_list s
  have HA : Hid (Dk.argKey (s.data.toList.drop 2) = (((s.size : Int) == 3) && Dk.isK s[2].toNat)) := by
    show _ = _
    unfold Dk.argKey
    rw [drop2_head s h2]
    congr 1
    rw [Bool.eq_iff_iff, decide_eq_true_eq, List.length_drop, len_list, beq_iff_eq]; omega
  have HO : Hid (Dk.opOk s.data.toList = (Dk.isK s[0].toNat && Dk.isSign s[1].toNat && (Dk.argKey (s.data.toList.drop 2) || Dk.numOk (s.data.toList.drop 2)))) := Dk.op_long h (by rw [HD0.out]) (by rw [HD1.out]) rfl
  generalize hak : Dk.argKey (s.data.toList.drop 2) = ak at *
  clear hak
  cases h3 : ((s.size : Int) == 3)
  · go_enter Try.func91, Try.ntmps91
    go_wp2_with fail
    refine (inK_any _ _).mono ?_
    rintro e w' ⟨rfl, rfl⟩
    generalize Dk.isK s[0].toNat = k0 at *
    go_wp2_with fail
    refine (inS_any _ _).mono ?_
    rintro e w' ⟨rfl, rfl⟩
    generalize Dk.isSign s[1].toNat = k1 at *
    go_wp2_with fail
    refine (refnum_any _ _ ht).mono ?_
    rintro e w' ⟨v, rfl, hv, rfl⟩
    rewrite [HD2.out]
    clear hv
    generalize Dk.numOk (s.data.toList.drop 2) = n at *
    cases k0 <;> cases k1 <;> cases n
    all_goals
      go_wp2
      go_ret
      exact ⟨by rw [HO.out, HA.out, h3]; rfl, rfl⟩
  · go_enter Try.func91, Try.ntmps91
    go_wp2_with fail
    refine (inK_any _ _).mono ?_
    rintro e w' ⟨rfl, rfl⟩
    generalize Dk.isK s[0].toNat = k0 at *
    go_wp2_with fail
    refine (inS_any _ _).mono ?_
    rintro e w' ⟨rfl, rfl⟩
    generalize Dk.isSign s[1].toNat = k1 at *
    go_wp2_with fail
    refine (inK_any _ _).mono ?_
    rintro e w' ⟨rfl, rfl⟩
    generalize Dk.isK s[2].toNat = k2 at *
    go_wp2_with fail
    refine (refnum_any _ _ ht).mono ?_
    rintro e w' ⟨v, rfl, hv, rfl⟩
    rewrite [HD2.out]
    clear hv
    generalize Dk.numOk (s.data.toList.drop 2) = n at *
    cases k0 <;> cases k1 <;> cases k2 <;> cases n
    all_goals
      go_wp2
      go_ret
      exact ⟨by rw [HO.out, HA.out, h3]; rfl, rfl⟩

theorem refop_any (s : ByteArray) (w : World) (hs : s.size ≤ maxLen) :
    Calls Try.prog 91 #[.string s] w fun e w' => e = .returned (.bool (Dk.opOk s.data.toList)) ∧ w' = w := by
  by_cases h : s.size < 3
  · exact refop_small s w h
  · exact refop_big s w (by omega) hs

end Go.Proofs.Ytccckonckddadaa
