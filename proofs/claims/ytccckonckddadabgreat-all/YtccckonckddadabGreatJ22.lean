import Derived.Test.YtccckonckddadabGreatJ21
import Derived.Test.YtccckonckddadabGreatJ16
import Derived.OwnWalk
import Derived.Deep.RegionHeld3
namespace Go.Proofs.YtccckonckddadabGreat
open Go.RowKit
set_option linter.unusedVariables false

theorem ext_drop (s : ByteArray) (p : Nat) : (s.extract p s.size).data.toList = s.data.toList.drop p := by
  rw [ext_list, ← len_list, List.take_length]

def UnsealPost (l : List UInt8) (w : World) (e : Ending) (w' : World) : Prop :=
  ∃ (a b : ByteArray), e = .returned (.tuple #[.string a, .string b, .bool (Dk.unsealV l).isSome]) ∧ (∀ p q, Dk.unsealV l = some (p, q) → a.data.toList = p ∧ b.data.toList = q) ∧ Below w.heap.size w w'

set_option maxHeartbeats 1000000 in
theorem unseal_any (s : ByteArray) (w : World) (hs : s.size ≤ maxLen) : Calls Tryz.prog 113 #[.string s] w (UnsealPost s.data.toList w) := by
  by_cases h2 : s.size < 2
  · have HN : Hid (Dk.unsealV s.data.toList = none) := by
      show _ = _
      unfold Dk.unsealV
      rw [len_list, if_pos h2]
    go_enter Tryz.func113, Tryz.ntmps113
    go_wp2
    go_ret3
    exact ⟨⟨#[]⟩, ⟨#[]⟩, by rw [HN.out]; rfl, (by rw [HN.out]; intro p q h; cases h), Below.refl _ _⟩
  · have h2' : (2 : Int) ≤ (s.size : Int) := by omega
    unfold maxLen at hs
    have hq0 : Dk.num (s.data.toList.take 2) < 65536 := num_lt _ 2 (by rw [List.length_take]; omega)
    have HU : Hid (Dk.unsealV s.data.toList = if s.size < 2 + Dk.num (s.data.toList.take 2) + 4 then none else if Dk.num ((s.data.toList.take (2 + Dk.num (s.data.toList.take 2) + 4)).drop (2 + Dk.num (s.data.toList.take 2))) = Dk.sumV ((s.data.toList.take (2 + Dk.num (s.data.toList.take 2))).drop 2) then some ((s.data.toList.take (2 + Dk.num (s.data.toList.take 2))).drop 2, s.data.toList.drop (2 + Dk.num (s.data.toList.take 2) + 4)) else none) := by
      show _ = _
      unfold Dk.unsealV Dk.sealEnd
      rw [len_list, if_neg h2]
    have HE : Hid ((s.extract 0 2).data.toList = s.data.toList.take 2) := by show _ = _; rw [ext_list]; simp
    go_enter Tryz.func113, Tryz.ntmps113
    go_wp2_with fail
    refine (readNumber_any (s.extract 0 2) _ (by rw [ByteArray.size_extract]; omega)).mono ?_
    rintro e w1 ⟨rfl, rfl⟩
    rewrite [HE.out]
    generalize Dk.num (s.data.toList.take 2) = q at *
    have hwq : IntKind.i64.wrap (q : Int) = q := by
      unfold IntKind.wrap; simp [IntKind.bits, IntKind.signed]; omega
    by_cases h4 : s.size < 2 + q + 4
    · have HN : Hid (Dk.unsealV s.data.toList = none) := by
        show _ = _
        rw [HU.out, if_pos h4]
      have h4' : (s.size : Int) < 2 + (q : Int) + 4 := by omega
      go_wp2
      go_ret3
      exact ⟨⟨#[]⟩, ⟨#[]⟩, by rw [HN.out]; rfl, (by rw [HN.out]; intro p q h; cases h), Below.refl _ _⟩
    · have h4' : 2 + (q : Int) + 4 ≤ (s.size : Int) := by omega
      have n1 : 2 + (q : Int) ≤ (s.size : Int) := by omega
      have n2 : (2 : Int) ≤ 2 + (q : Int) := by omega
      have n3 : (0 : Int) ≤ 2 + (q : Int) := by omega
      have n4 : (0 : Int) ≤ 2 + (q : Int) + 4 := by omega
      have n5 : 2 + (q : Int) ≤ 2 + (q : Int) + 4 := by omega
      have k1 : (2 + (q : Int)).toNat = 2 + q := by omega
      have k2 : (2 + (q : Int) + 4).toNat = 2 + q + 4 := by omega
      have HX : Hid ((s.extract (2 + q) (2 + q + 4)).data.toList = (s.data.toList.take (2 + q + 4)).drop (2 + q) ∧ (s.extract 2 (2 + q)).data.toList = (s.data.toList.take (2 + q)).drop 2) := ⟨ext_list _ _ _, ext_list _ _ _⟩
      have HU2 : Hid (Dk.unsealV s.data.toList = if Dk.num (s.extract (2 + q) (2 + q + 4)).data.toList = Dk.sumV (s.extract 2 (2 + q)).data.toList then some ((s.extract 2 (2 + q)).data.toList, (s.extract (2 + q + 4) s.size).data.toList) else none) := by
        show _ = _
        rw [HU.out, if_neg h4, HX.out.1, HX.out.2, ext_drop]
      go_wp2_with fail
      refine (readNumber_any (s.extract (2 + q) (2 + q + 4)) _ (by rw [ByteArray.size_extract]; omega)).mono ?_
      rintro e w2 ⟨rfl, rfl⟩
      generalize Dk.num (s.extract (2 + q) (2 + q + 4)).data.toList = told at *
      go_wp2_with fail
      refine (sumOf_any (s.extract 2 (2 + q)) _ (by rw [ByteArray.size_extract]; unfold maxLen; omega)).mono ?_
      rintro e w3 ⟨rfl, rfl⟩
      generalize Dk.sumV (s.extract 2 (2 + q)).data.toList = sum at *
      by_cases he : told = sum
      · subst he
        have HS : Hid (Dk.unsealV s.data.toList = some ((s.extract 2 (2 + q)).data.toList, (s.extract (2 + q + 4) s.size).data.toList)) := by
          show _ = _
          rw [HU2.out, if_pos rfl]
        have hw : IntKind.i64.wrap (2 + (q : Int) + 4) = 2 + (q : Int) + 4 := by
          unfold IntKind.wrap; simp [IntKind.bits, IntKind.signed]; omega
        go_wp2
        go_quiet (fail)
        go_wp2
        go_ret3
        exact ⟨s.extract 2 (2 + q), s.extract (2 + q + 4) s.size, (by rw [HS.out]; rfl), (by rw [HS.out]; intro p q h; cases h; exact ⟨rfl, rfl⟩), below_drewN (Below.refl _ _) nq⟩
      · have hne : ((told : Int) != (sum : Int)) = true := by
          rw [bne_iff_ne]; omega
        have hne2 : (told : Int) ≠ (sum : Int) := by omega
        have HN : Hid (Dk.unsealV s.data.toList = none) := by
          show _ = _
          rw [HU2.out, if_neg he]
        go_wp2
        go_ret3
        exact ⟨⟨#[]⟩, ⟨#[]⟩, by rw [HN.out]; rfl, (by rw [HN.out]; intro p q h; cases h), Below.refl _ _⟩

end Go.Proofs.YtccckonckddadabGreat
