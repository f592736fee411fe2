import Derived.Test.YtccckonckddadaaWalkS1
import Derived.Test.YtccckonckddadaaPlainX
import Derived.Laws.BitsAllLaws
namespace Go.Proofs.Ytccckonckddadaa
open Go.RowKit
set_option linter.unusedVariables false

/-! ### sumOf -/
theorem sum_u32 (h : Nat) (b : UInt8) (hh : h < 4294967296) :
    IntKind.u32.wrap (bits BinOp.xor IntKind.u32 (h : Int) (b.toNat : Int) * 16777619) = (Dk.sumStep h b : Nat) := by
  have hb := b.toNat_lt
  rw [u32_xor_nat h b.toNat hh (by omega), IntKind.wrap_u32']
  unfold Dk.sumStep
  omega

set_option maxHeartbeats 1000000 in
theorem sumOf_any (s : ByteArray) (w : World) (hs : s.size ≤ maxLen) :
    Calls Try.prog 101 #[.string s] w fun e w' => e = .returned (.int .u32 (Dk.sumV s.data.toList)) ∧ w' = w := by
  unfold maxLen at hs
  go_enter Try.func101, Try.ntmps101
  go_wp2
  go_loop [3, 4] (fun h i => ∃ k : Nat, k ≤ s.size ∧ i = .int .i64 k ∧ h = .int .u32 (Dk.sumV (s.data.toList.take k))) (fun _ i => s.size - (intOf i).toNat)
  case atStart => exact ⟨0, Nat.zero_le _, rfl, by rw [List.take_zero, Dk.sumV_nil]; unfold Dk.sum0; rfl⟩
  case round =>
    obtain ⟨k, hk, rfl, rfl⟩ := hrel
    have hl := Dk.sumV_lt (s.data.toList.take k)
    by_cases hlt : k < s.size
    · have hb := byte_bd s[k]
      have HT : Hid (Dk.sumV (s.data.toList.take (k + 1)) = Dk.sumStep (Dk.sumV (s.data.toList.take k)) s[k]) := by
        show _ = _
        rw [take_snoc s k hlt, Dk.sumV_snoc]
      generalize Dk.sumV (s.data.toList.take k) = h at *
      go_wp2
      go_round
      case rel => exact ⟨k + 1, by omega, by go_num, by rw [HT.out, ← sum_u32 h s[k] hl]; rfl⟩
      case measure => simp [intOf]; omega
    · go_wp2
      go_ret
      exact ⟨by rw [take_all s k (by omega)]; rfl, rfl⟩

/-! ### writeNumber -/
set_option maxHeartbeats 1000000 in
theorem writeNumber_any (n : Nat) (size : Nat) (w : World) (hn : n < 4294967296) (hs : size ≤ 8) :
    Calls Try.prog 100 #[.int .u32 n, .int .i64 size] w fun e w' => ∃ b : ByteArray, e = .returned (.string b) ∧ b.data.toList = Dk.be n size ∧ b.size = size ∧ Below w.heap.size w w' := by
  go_enter Try.func100, Try.ntmps100
  go_wp2
  go_loopw [0, 5, 6] (fun m v i wr => ∃ (k q : Nat) (b : ByteArray), k ≤ size ∧ i = .int .i64 k ∧ m = .int .u32 q ∧ v = .string b ∧ q < 4294967296 ∧ Hid (Dk.be n size = Dk.be q (size - k) ++ b.data.toList ∧ b.size = k) ∧ Hid (Below w.heap.size w wr)) (fun _ _ i _ => size - (intOf i).toNat)
  case atStart => exact ⟨0, n, ⟨#[]⟩, Nat.zero_le _, rfl, rfl, rfl, hn, ⟨by simp, rfl⟩, Below.refl _ _⟩
  case round =>
    obtain ⟨k, q, b, hk, rfl, rfl, rfl, hq, HR, HB⟩ := hrel
    by_cases hlt : k < size
    · have hcv := conv_one
      have hbs := HR.out.2
      have hbm : b.size ≤ 8 := by omega
      have HS : Hid (b.size = k) := hbs
      have HBe : Hid (Dk.be n size = Dk.be (q / 256) (size - (k + 1)) ++ ((⟨#[UInt8.ofNat (q % 256)]⟩ : ByteArray) ++ b).data.toList) := by
        show _ = _
        rw [app_list, HR.out.1, show size - k = size - (k + 1) + 1 from by omega, be_front, List.append_assoc]
      have hq2 : q / 256 < 4294967296 := by omega
      clear hbs
      go_wp2
      go_roundw
      case rel => exact ⟨k + 1, q / 256, _, by omega, by go_num, by go_num, rfl, hq2, ⟨HBe.out, by rw [app_size, HS.out]; simp [ByteArray.size]; omega⟩, HB.out.alloc HB.out.size _⟩
      case measure => simp [intOf]; omega
    · go_wp2
      go_ret
      have hkk : k = size := by omega
      refine ⟨b, rfl, ?_, by rw [HR.out.2, hkk], HB.out⟩
      have := HR.out.1
      rw [show size - k = 0 from by omega] at this
      exact this.symm

/-! ### readNumber -/
theorem num_u32 (h : Nat) (b : UInt8) (hh : h < 16777216) :
    bits BinOp.or IntKind.u32 ((h * 256 : Nat) : Int) (b.toNat : Int) = (Dk.numStep h b : Nat) := by
  have hb := b.toNat_lt
  rw [u32_or_nat (h * 256) b.toNat (by omega) (by omega)]
  unfold Dk.numStep
  have : h * 256 ||| b.toNat = h * 256 + b.toNat := by
    have := Nat.shiftLeft_add_eq_or_of_lt (i := 8) (b := b.toNat) (by omega) h
    rw [Nat.shiftLeft_eq] at this
    exact this.symm
  rw [this]

theorem num_lt : ∀ (l : List UInt8) (k : Nat), l.length ≤ k → Dk.num l < 256 ^ k := by
  intro l
  induction h : l.length generalizing l with
  | zero =>
    intro k _
    have : l = [] := by simpa using h
    subst this
    rw [Dk.num_nil]
    exact Nat.pow_pos (by omega)
  | succ n ih =>
    intro k hk
    have hne : l ≠ [] := by intro h0; rw [h0] at h; simp at h
    have hd := List.dropLast_concat_getLast hne
    have hl : l.dropLast.length = n := by rw [List.length_dropLast, h]; omega
    obtain ⟨k, rfl⟩ : ∃ j, k = j + 1 := ⟨k - 1, by omega⟩
    have h1 := ih l.dropLast hl k (by omega)
    have h2 := (l.getLast hne).toNat_lt
    rw [← hd, Dk.num_snoc, Nat.pow_succ]
    omega

set_option maxHeartbeats 1000000 in
theorem readNumber_any (s : ByteArray) (w : World) (hs : s.size ≤ 4) :
    Calls Try.prog 115 #[.string s] w fun e w' => e = .returned (.int .u32 (Dk.num s.data.toList)) ∧ w' = w := by
  go_enter Try.func115, Try.ntmps115
  go_wp2
  go_loop [3, 4] (fun h i => ∃ k : Nat, k ≤ s.size ∧ i = .int .i64 k ∧ h = .int .u32 (Dk.num (s.data.toList.take k))) (fun _ i => s.size - (intOf i).toNat)
  case atStart => exact ⟨0, Nat.zero_le _, rfl, by rw [List.take_zero, Dk.num_nil]; rfl⟩
  case round =>
    obtain ⟨k, hk, rfl, rfl⟩ := hrel
    by_cases hlt : k < s.size
    · have hl := num_lt (s.data.toList.take k) 3 (by rw [List.length_take]; omega)
      have hb := byte_bd s[k]
      have HT : Hid (Dk.num (s.data.toList.take (k + 1)) = Dk.numStep (Dk.num (s.data.toList.take k)) s[k]) := by
        show _ = _
        rw [take_snoc s k hlt, Dk.num_snoc]; rfl
      generalize Dk.num (s.data.toList.take k) = h at *
      go_wp2
      go_round
      case rel => exact ⟨k + 1, by omega, by go_num, by rw [HT.out, ← num_u32 h s[k] hl]; rfl⟩
      case measure => simp [intOf]; omega
    · go_wp2
      go_ret
      exact ⟨by rw [take_all s k (by omega)]; rfl, rfl⟩

end Go.Proofs.Ytccckonckddadaa
