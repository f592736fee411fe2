import Derived.Test.YtccckonckddadabGreatJ40
namespace Go.Proofs.YtccckonckddadabGreat
open Go.RowKit
set_option linter.unusedVariables false

set_option maxRecDepth 100000 in
set_option maxHeartbeats 4000000 in
/-- Get, whatever is asked. -/
theorem refget_any (g : Nat) (F : Nat → Prop) (s : CluV) (r : Int) (k : ByteArray) (w : World) (h : CluAt w g F s) (hf : RepFit s) (hk : k.size ≤ maxLen) :
    Calls Tryz.prog 44 #[.pointer (some ⟨g, 0, none⟩), .int .i64 r, .string k] w (GetPost (getV s r k) w) := by
  obtain ⟨hr1, hr4⟩ := conf_reps h.fit.conf
  by_cases h1 : 0 ≤ r ∧ r ≤ s.conf.reps - 1
  · obtain ⟨n, rfl⟩ := Int.eq_ofNat_of_zero_le h1.1
    cases hko : keyOk k
    · have HV : Hid (getV s (n : Int) k = (0, 14)) := by
        show _ = _
        unfold getV
        rw [if_neg (by omega), if_pos hko]
      have hg := h.block
      have c4 : w.cell? ⟨g, 4, none⟩ = some (.int .i64 s.conf.reps) := by
        obtain ⟨aT, aE, cT, cE, eas, m1, _⟩ := h.mem
        rw [(heap_cells m1).1]; rfl
      clear h hf
      generalize s.conf.reps = nr at *
      by_cases hs : k.size = 1
      · have hh := headD_list k (by omega)
        have hkK : Dk.isK ((k[0]'(by omega)).toNat : Int) = false := by
          unfold keyOk at hko
          rw [decide_eq_true hs, Bool.true_and, hh] at hko
          exact hko
        have hs1 : ((k.size : Int) == 1) = true := by rw [beq_iff_eq]; omega
        clear hko hh
        go_enter Tryz.func44, Tryz.ntmps44
        go_wp2_with fail
        refine (off_no (n := (n : Int)) (lo := 0) (hi := nr - 1) _ h1).mono ?_
        rintro e w1 ⟨rfl, hw⟩
        obtain rfl := hw.symm
        go_wp2_with fail
        refine (inK_any ((k[0]'(by omega)).toNat : Int) _).mono ?_
        rintro e w1 ⟨rfl, hw⟩
        obtain rfl := hw.symm
        rewrite [hkK]
        go_wp2
        go_ret2
        exact ⟨by rw [HV.out]; rfl, Below.refl _ _⟩
      · have hs1 : ((k.size : Int) == 1) = false := by rw [beq_eq_false_iff_ne]; omega
        clear hko
        go_enter Tryz.func44, Tryz.ntmps44
        go_wp2_with fail
        refine (off_no (n := (n : Int)) (lo := 0) (hi := nr - 1) _ h1).mono ?_
        rintro e w1 ⟨rfl, hw⟩
        obtain rfl := hw.symm
        go_wp2
        go_ret2
        exact ⟨by rw [HV.out]; rfl, Below.refl _ _⟩
    · exact refget_go g F s n k w h hf h1.2 hko
  · have HV : Hid (getV s r k = (0, 11)) := by
      show _ = _
      unfold getV
      rw [if_pos h1]
    have hg := h.block
    have c4 : w.cell? ⟨g, 4, none⟩ = some (.int .i64 s.conf.reps) := by
      obtain ⟨aT, aE, cT, cE, eas, m1, _⟩ := h.mem
      rw [(heap_cells m1).1]; rfl
    clear h hf
    generalize s.conf.reps = nr at *
    go_enter Tryz.func44, Tryz.ntmps44
    go_wp2_with fail
    refine (off_yes (n := r) (lo := 0) (hi := nr - 1) _ h1).mono ?_
    rintro e w1 ⟨rfl, hw⟩
    obtain rfl := hw.symm
    go_wp2
    go_ret2
    exact ⟨by rw [HV.out]; rfl, Below.refl _ _⟩

end Go.Proofs.YtccckonckddadabGreat
