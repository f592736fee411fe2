import Derived.Test.YtccckonckddadabGreatJ18
import Derived.Test.YtccckonckddadabGreatJ02
import Derived.Laws.BitsAllLaws
namespace Go.Proofs.YtccckonckddadabGreat
open Go.RowKit
set_option linter.unusedVariables false

theorem wrap64_id {n : Int} (h0 : 0 ≤ n) (h1 : n < 4611686018427387904) : wrap64 n = n := by unfold wrap64; omega

theorem sum_int (h : Nat) (b : UInt8) (hh : h < 4294967296) :
    (wrap64 (wrap64 ((h : Int) - (h : Int) % 256 + wrap64 (bits BinOp.xor IntKind.u8 ((h : Int) % 256) (b.toNat : Int))) * 16777619)).tmod 4294967296 = (Dk.sumStep h b : Nat) := by
  have hb := b.toNat_lt
  have e1 : bits BinOp.xor IntKind.u8 ((h : Int) % 256) (b.toNat : Int) = ((h % 256 ^^^ b.toNat : Nat) : Int) := by
    have := u8_xor_nat (h % 256) b.toNat (by omega) (by omega)
    rw [← this]; rfl
  have hx : h % 256 ^^^ b.toNat < 256 := Nat.xor_lt_two_pow (n := 8) (by omega) (by omega)
  have hy : h ^^^ b.toNat < 4294967296 := Nat.xor_lt_two_pow (n := 32) (by omega) (by omega)
  have e2 := Dk.xor_low h b.toNat (by omega)
  rw [e1, wrap64_id (n := ((h % 256 ^^^ b.toNat : Nat) : Int)) (by omega) (by omega)]
  have e3 : (h : Int) - (h : Int) % 256 + ((h % 256 ^^^ b.toNat : Nat) : Int) = ((h ^^^ b.toNat : Nat) : Int) := by omega
  rw [e3, wrap64_id (n := ((h ^^^ b.toNat : Nat) : Int)) (by omega) (by omega), wrap64_id (by omega) (by omega)]
  unfold Dk.sumStep
  generalize h ^^^ b.toNat = q at *
  rw [Int.tmod_eq_emod_of_nonneg (by omega)]
  omega

set_option maxHeartbeats 1000000 in
theorem sum_any (s : ByteArray) (w : World) (hs : s.size ≤ maxLen) :
    Calls Tryz.prog 56 #[.string s] w fun e w' => e = .returned (.int .i64 (Dk.sumV s.data.toList)) ∧ w' = w := by
  unfold maxLen at hs
  go_enter Tryz.func56, Tryz.ntmps56
  go_wp2
  go_loop [3, 4] (fun h i => ∃ k : Nat, k ≤ s.size ∧ i = .int .i64 k ∧ h = .int .i64 (Dk.sumV (s.data.toList.take k))) (fun _ i => s.size - (intOf i).toNat)
  case atStart => exact ⟨0, Nat.zero_le _, rfl, by rw [List.take_zero, Dk.sumV_nil]; unfold Dk.sum0; rfl⟩
  case round =>
    obtain ⟨k, hk, rfl, rfl⟩ := hrel
    have hl := Dk.sumV_lt (s.data.toList.take k)
    by_cases hlt : k < s.size
    · have hb := byte_bd s[k]
      have HT : Hid (Dk.sumV (s.data.toList.take (k + 1)) = Dk.sumStep (Dk.sumV (s.data.toList.take k)) s[k]) := by
        show _ = _
        rw [take_snoc s k hlt, Dk.sumV_snoc]
      generalize Dk.sumV (s.data.toList.take k) = h at *
      go_wp2
      go_round
      case rel => exact ⟨k + 1, by omega, by go_num, by rw [HT.out, ← sum_int h s[k] hl]⟩
      case measure => simp [intOf]; omega
    · go_wp2
      go_ret
      exact ⟨ret_int (by rw [take_all s k (by omega)]), rfl⟩

/-! ### bytes -/
theorem conv_one (W : World) (x : Int) : (convert 169 9 (.slice (some ⟨W.heap.size, 0, none⟩) 1 1)).run Tryz.prog (W.alloc (.cells #[.int .u8 x] 5)) =
    .ok (.string ⟨#[UInt8.ofNat x.toNat]⟩) (W.alloc (.cells #[.int .u8 x] 5)) := by
  rw [run_convert_bytes_string _ 169 9 5 _ _ _ Tryz.underlying169 Tryz.underlying5 Tryz.underlying9]
  rw [run_bytesToString _ _ _ _ [x] (by simp [go_sem])]
  rfl

theorem app_list (a b : ByteArray) : (a ++ b).data.toList = a.data.toList ++ b.data.toList := by
  simp [ByteArray.data_append]
theorem app_size (a b : ByteArray) : (a ++ b).size = a.size + b.size := by simp

theorem be_front (n : Nat) : ∀ k, Dk.be n (k + 1) = Dk.be (n / 256) k ++ [UInt8.ofNat (n % 256)] := fun _ => rfl

set_option maxHeartbeats 1000000 in
theorem bytes_any (n : Nat) (size : Nat) (w : World) (hn : n < 4611686018427387904) (hs : size ≤ 8) :
    Calls Tryz.prog 54 #[.int .i64 n, .int .i64 size] w fun e w' => ∃ b : ByteArray, e = .returned (.string b) ∧ b.data.toList = Dk.be n size ∧ Below w.heap.size w w' := by
  go_enter Tryz.func54, Tryz.ntmps54
  go_wp2
  go_loopw [0, 5, 6] (fun m v i wr => ∃ (k q : Nat) (b : ByteArray), k ≤ size ∧ i = .int .i64 k ∧ m = .int .i64 q ∧ v = .string b ∧ q ≤ n ∧ Hid (Dk.be n size = Dk.be q (size - k) ++ b.data.toList ∧ b.size = k) ∧ Hid (Below w.heap.size w wr)) (fun _ _ i _ => size - (intOf i).toNat)
  case atStart => exact ⟨0, n, ⟨#[]⟩, Nat.zero_le _, rfl, rfl, rfl, Nat.le_refl _, ⟨by simp, rfl⟩, Below.refl _ _⟩
  case round =>
    obtain ⟨k, q, b, hk, rfl, rfl, rfl, hq, HR, HB⟩ := hrel
    by_cases hlt : k < size
    · have hcv := conv_one
      have hbs := HR.out.2
      have hbm : b.size ≤ 8 := by omega
      have HS : Hid (b.size = k) := hbs
      have HBe : Hid (Dk.be n size = Dk.be (q / 256) (size - (k + 1)) ++ ((⟨#[UInt8.ofNat (q % 256)]⟩ : ByteArray) ++ b).data.toList) := by
        show _ = _
        rw [app_list, HR.out.1, show size - k = size - (k + 1) + 1 from by omega, be_front, List.append_assoc]
      have hq2 : q / 256 ≤ n := by omega
      clear hbs
      go_wp2
      go_roundw
      case rel => exact ⟨k + 1, q / 256, _, by omega, by go_num, by go_num, rfl, hq2, ⟨HBe.out, by rw [app_size, HS.out]; simp [ByteArray.size]; omega⟩, HB.out.alloc HB.out.size _⟩
      case measure => simp [intOf]; omega
    · go_wp2
      go_ret
      refine ⟨b, rfl, ?_, HB.out⟩
      have := HR.out.1
      rw [show size - k = 0 from by omega] at this
      exact this.symm

/-! ### starts -/
def startsB (s t : List UInt8) : Bool := decide (t.length ≤ s.length) && (s.take t.length == t)

theorem starts_any (s t : ByteArray) (w : World) (hs : s.size ≤ maxLen) (ht : t.size ≤ maxLen) :
    Calls Tryz.prog 59 #[.string s, .string t] w fun e w' => e = .returned (.bool (startsB s.data.toList t.data.toList)) ∧ w' = w := by
  unfold maxLen at hs ht
  by_cases h : t.size ≤ s.size
  · have HS : Hid (startsB s.data.toList t.data.toList = ((s.extract 0 t.size).toList == t.toList)) := by
      show _ = _
      unfold startsB
      rw [decide_eq_true (by rw [len_list, len_list]; exact h), bytes_toList, bytes_toList, ext_list]; simp
    go_enter Tryz.func59, Tryz.ntmps59
    go_wp2
    go_ret
    exact ⟨by rw [HS.out]; rfl, rfl⟩
  · have HS : Hid (startsB s.data.toList t.data.toList = false) := by
      show _ = _
      unfold startsB
      rw [decide_eq_false (by rw [len_list, len_list]; exact h)]; rfl
    have hd : decide (((t.size : Nat) : Int) ≤ (s.size : Int)) = false := decide_eq_false (by omega)
    go_enter Tryz.func59, Tryz.ntmps59
    go_wp2
    go_ret
    exact ⟨by rw [HS.out]; rfl, rfl⟩

/-! ### sound -/
def recOf (c i : Int) (l : Bool) (t : ByteArray) : Dk.Rec := ⟨c, i, l, t.data.toList⟩

set_option maxHeartbeats 1000000 in
theorem sound_any (c i : Int) (l : Bool) (t : ByteArray) (w : World) (ht : t.size ≤ maxLen) :
    Calls Tryz.prog 55 #[.agg #[.int .i64 c, .int .i64 i, .bool l, .string t]] w fun e w' => e = .returned (.bool (Dk.recOk (recOf c i l t))) ∧ Below w.heap.size w w' := by
  have HR : Hid (Dk.recOk (recOf c i l t) = ((if l then t.data.toList == [] else Dk.parseOk t.data.toList) && decide (0 ≤ c ∧ c < 8) && decide (0 ≤ i ∧ i ≤ 999999))) := rfl
  go_enter Tryz.func55, Tryz.ntmps55
  go_wp2_with fail
  refine (parts_any t _ ht).mono ?_
  rintro e w1 ⟨mk, a, n, cc, ps, rfl, _, _, hb⟩
  obtain ⟨g0, hb1⟩ := below_one hb
  obtain ⟨c0, f0, z0⟩ := heap_cells g0
  have HB : Hid (Below w.heap.size w w1) := hb1
  clear hb hb1 g0
  cases l
  · cases hok : Dk.parseOk t.data.toList
    · have HK : Hid _ := hok
      clear hok
      go_wp2
      go_ret
      exact ⟨by rw [HR.out, HK.out]; simp, HB.out⟩
    · have HR : Hid (Dk.recOk (recOf c i false t) = (true && decide (0 ≤ c ∧ c < 8) && decide (0 ≤ i ∧ i ≤ 999999))) := by
        show _ = _
        rw [HR.out, hok]; rfl
      clear hok
      by_cases hc : 0 ≤ c ∧ c < 8
      · obtain ⟨hc0, hc8⟩ := hc
        have HC : Hid (decide (0 ≤ c ∧ c < 8) = true) := decide_eq_true ⟨hc0, hc8⟩
        by_cases hi : 0 ≤ i ∧ i ≤ 999999
        · obtain ⟨hi0, hi9⟩ := hi
          have HI : Hid (decide (0 ≤ i ∧ i ≤ 999999) = true) := decide_eq_true ⟨hi0, hi9⟩
          go_wp2
          go_ret
          exact ⟨by rw [HR.out, HC.out, HI.out]; simp [*], HB.out⟩
        · have HI : Hid (decide (0 ≤ i ∧ i ≤ 999999) = false) := decide_eq_false hi
          have hi' : i < 0 ∨ 999999 < i := by omega
          clear hi
          rcases hi' with hi' | hi'
          all_goals
            go_wp2
            go_ret
            exact ⟨by rw [HR.out, HC.out, HI.out]; simp <;> omega, HB.out⟩
      · have HC : Hid (decide (0 ≤ c ∧ c < 8) = false) := decide_eq_false hc
        have hc' : c < 0 ∨ 8 ≤ c := by omega
        clear hc
        rcases hc' with hc' | hc'
        all_goals
          go_wp2
          go_ret
          exact ⟨by rw [HR.out, HC.out]; simp, HB.out⟩
  · generalize Dk.parseOk t.data.toList = pk at *
    cases he : (t.toList == [])
    · have HK : Hid ((t.data.toList == []) = false) := by show _ = _; rw [← bytes_toList]; exact he
      have he2 : t.toList.isEmpty = false := by cases h : t.toList with | nil => rw [h] at he; simp at he | cons a r => rfl
      go_wp2
      go_ret
      exact ⟨by rw [HR.out]; simp only [↓reduceIte, HK.out, Bool.false_and]; rfl, HB.out⟩
    · have HR : Hid (Dk.recOk (recOf c i true t) = (true && decide (0 ≤ c ∧ c < 8) && decide (0 ≤ i ∧ i ≤ 999999))) := by
        show _ = _
        rw [HR.out, ← bytes_toList, he]; rfl
      have HDat : Hid (t.data = #[]) := by
        show _ = _
        have h := eq_of_beq he
        rw [bytes_toList] at h
        exact Array.toList_inj.1 h
      have he2 : t.toList.isEmpty = true := by rw [eq_of_beq he]; rfl
      by_cases hc : 0 ≤ c ∧ c < 8
      · obtain ⟨hc0, hc8⟩ := hc
        have HC : Hid (decide (0 ≤ c ∧ c < 8) = true) := decide_eq_true ⟨hc0, hc8⟩
        by_cases hi : 0 ≤ i ∧ i ≤ 999999
        · obtain ⟨hi0, hi9⟩ := hi
          have HI : Hid (decide (0 ≤ i ∧ i ≤ 999999) = true) := decide_eq_true ⟨hi0, hi9⟩
          go_wp2
          go_ret
          exact ⟨by rw [HR.out, HC.out, HI.out]; simp [*]; exact HDat.out, HB.out⟩
        · have HI : Hid (decide (0 ≤ i ∧ i ≤ 999999) = false) := decide_eq_false hi
          have hi' : i < 0 ∨ 999999 < i := by omega
          clear hi
          rcases hi' with hi' | hi'
          all_goals
            go_wp2
            go_ret
            exact ⟨by rw [HR.out, HC.out, HI.out]; simp <;> omega, HB.out⟩
      · have HC : Hid (decide (0 ≤ c ∧ c < 8) = false) := decide_eq_false hc
        have hc' : c < 0 ∨ 8 ≤ c := by omega
        clear hc
        rcases hc' with hc' | hc'
        all_goals
          go_wp2
          go_ret
          exact ⟨by rw [HR.out, HC.out]; simp, HB.out⟩

end Go.Proofs.YtccckonckddadabGreat
