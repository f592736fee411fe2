import Derived.Test.YtccckonckddadaaJ15
import Derived.Test.YtccckonckddadaaJ01
import Derived.Test.YtccckonckddadaaJ02
import Derived.Test.YtccckonckddadaaJ04
import Derived.Laws.BitsAllLaws
namespace Go.Proofs.Ytccckonckddadaa
open Go.RowKit
set_option linter.unusedVariables false

theorem wrap64_id {n : Int} (h0 : 0 ≤ n) (h1 : n < 4611686018427387904) : wrap64 n = n := by unfold wrap64; omega

theorem sum_int (h : Nat) (b : UInt8) (hh : h < 4294967296) :
    (wrap64 (wrap64 ((h : Int) - (h : Int) % 256 + wrap64 (bits BinOp.xor IntKind.u8 ((h : Int) % 256) (b.toNat : Int))) * 16777619)).tmod 4294967296 = (Dk.sumStep h b : Nat) := by
  have hb := b.toNat_lt
  have e1 : bits BinOp.xor IntKind.u8 ((h : Int) % 256) (b.toNat : Int) = ((h % 256 ^^^ b.toNat : Nat) : Int) := by
    have := u8_xor_nat (h % 256) b.toNat (by omega) (by omega)
    rw [← this]; rfl
  have hx : h % 256 ^^^ b.toNat < 256 := Nat.xor_lt_two_pow (n := 8) (by omega) (by omega)
  have hy : h ^^^ b.toNat < 4294967296 := Nat.xor_lt_two_pow (n := 32) (by omega) (by omega)
  have e2 := Dk.xor_low h b.toNat (by omega)
  rw [e1, wrap64_id (n := ((h % 256 ^^^ b.toNat : Nat) : Int)) (by omega) (by omega)]
  have e3 : (h : Int) - (h : Int) % 256 + ((h % 256 ^^^ b.toNat : Nat) : Int) = ((h ^^^ b.toNat : Nat) : Int) := by omega
  rw [e3, wrap64_id (n := ((h ^^^ b.toNat : Nat) : Int)) (by omega) (by omega), wrap64_id (by omega) (by omega)]
  unfold Dk.sumStep
  generalize h ^^^ b.toNat = q at *
  rw [Int.tmod_eq_emod_of_nonneg (by omega)]
  omega

set_option maxHeartbeats 1000000 in
theorem sum_any (s : ByteArray) (w : World) (hs : s.size ≤ maxLen) :
    Calls Try.prog 70 #[.string s] w fun e w' => e = .returned (.int .i64 (Dk.sumV s.data.toList)) ∧ w' = w := by
  unfold maxLen at hs
  go_enter Try.func70, Try.ntmps70
  go_wp2
  go_loop [3, 4] (fun h i => ∃ k : Nat, k ≤ s.size ∧ i = .int .i64 k ∧ h = .int .i64 (Dk.sumV (s.data.toList.take k))) (fun _ i => s.size - (intOf i).toNat)
  case atStart => exact ⟨0, Nat.zero_le _, rfl, by rw [List.take_zero, Dk.sumV_nil]; unfold Dk.sum0; rfl⟩
  case round =>
    obtain ⟨k, hk, rfl, rfl⟩ := hrel
    have hl := Dk.sumV_lt (s.data.toList.take k)
    by_cases hlt : k < s.size
    · have hb := byte_bd s[k]
      have HT : Hid (Dk.sumV (s.data.toList.take (k + 1)) = Dk.sumStep (Dk.sumV (s.data.toList.take k)) s[k]) := by
        show _ = _
        rw [take_snoc s k hlt, Dk.sumV_snoc]
      generalize Dk.sumV (s.data.toList.take k) = h at *
      go_wp2
      go_round
      case rel => exact ⟨k + 1, by omega, by go_num, by rw [HT.out, ← sum_int h s[k] hl]⟩
      case measure => simp [intOf]; omega
    · go_wp2
      go_ret
      exact ⟨ret_int (by rw [take_all s k (by omega)]), rfl⟩

/-! ### bytes -/
theorem conv_one (W : World) (x : Int) : (convert 157 9 (.slice (some ⟨W.heap.size, 0, none⟩) 1 1)).run Try.prog (W.alloc (.cells #[.int .u8 x] 5)) =
    .ok (.string ⟨#[UInt8.ofNat x.toNat]⟩) (W.alloc (.cells #[.int .u8 x] 5)) := by
  rw [run_convert_bytes_string _ 157 9 5 _ _ _ Try.underlying157 Try.underlying5 Try.underlying9]
  rw [run_bytesToString _ _ _ _ [x] (by simp [go_sem])]
  rfl

theorem app_list (a b : ByteArray) : (a ++ b).data.toList = a.data.toList ++ b.data.toList := by
  simp [ByteArray.data_append]
theorem app_size (a b : ByteArray) : (a ++ b).size = a.size + b.size := by simp

theorem be_front (n : Nat) : ∀ k, Dk.be n (k + 1) = Dk.be (n / 256) k ++ [UInt8.ofNat (n % 256)] := fun _ => rfl

set_option maxHeartbeats 1000000 in
theorem bytes_any (n : Nat) (size : Nat) (w : World) (hn : n < 4611686018427387904) (hs : size ≤ 8) :
    Calls Try.prog 68 #[.int .i64 n, .int .i64 size] w fun e w' => ∃ b : ByteArray, e = .returned (.string b) ∧ b.data.toList = Dk.be n size ∧ Below w.heap.size w w' := by
  go_enter Try.func68, Try.ntmps68
  go_wp2
  go_loopw [0, 5, 6] (fun m v i wr => ∃ (k q : Nat) (b : ByteArray), k ≤ size ∧ i = .int .i64 k ∧ m = .int .i64 q ∧ v = .string b ∧ q ≤ n ∧ Hid (Dk.be n size = Dk.be q (size - k) ++ b.data.toList ∧ b.size = k) ∧ Hid (Below w.heap.size w wr)) (fun _ _ i _ => size - (intOf i).toNat)
  case atStart => exact ⟨0, n, ⟨#[]⟩, Nat.zero_le _, rfl, rfl, rfl, Nat.le_refl _, ⟨by simp, rfl⟩, Below.refl _ _⟩
  case round =>
    obtain ⟨k, q, b, hk, rfl, rfl, rfl, hq, HR, HB⟩ := hrel
    by_cases hlt : k < size
    · have hcv := conv_one
      have hbs := HR.out.2
      have hbm : b.size ≤ 8 := by omega
      have HS : Hid (b.size = k) := hbs
      have HBe : Hid (Dk.be n size = Dk.be (q / 256) (size - (k + 1)) ++ ((⟨#[UInt8.ofNat (q % 256)]⟩ : ByteArray) ++ b).data.toList) := by
        show _ = _
        rw [app_list, HR.out.1, show size - k = size - (k + 1) + 1 from by omega, be_front, List.append_assoc]
      have hq2 : q / 256 ≤ n := by omega
      clear hbs
      go_wp2
      go_roundw
      case rel => exact ⟨k + 1, q / 256, _, by omega, by go_num, by go_num, rfl, hq2, ⟨HBe.out, by rw [app_size, HS.out]; simp [ByteArray.size]; omega⟩, HB.out.alloc HB.out.size _⟩
      case measure => simp [intOf]; omega
    · go_wp2
      go_ret
      refine ⟨b, rfl, ?_, HB.out⟩
      have := HR.out.1
      rw [show size - k = 0 from by omega] at this
      exact this.symm

/-! ### starts -/
def startsB (s t : List UInt8) : Bool := decide (t.length ≤ s.length) && (s.take t.length == t)

theorem starts_any (s t : ByteArray) (w : World) (hs : s.size ≤ maxLen) (ht : t.size ≤ maxLen) :
    Calls Try.prog 72 #[.string s, .string t] w fun e w' => e = .returned (.bool (startsB s.data.toList t.data.toList)) ∧ w' = w := by
  unfold maxLen at hs ht
  by_cases h : t.size ≤ s.size
  · have HS : Hid (startsB s.data.toList t.data.toList = ((s.extract 0 t.size).toList == t.toList)) := by
      show _ = _
      unfold startsB
      rw [decide_eq_true (by rw [len_list, len_list]; exact h), bytes_toList, bytes_toList, ext_list]; simp
    go_enter Try.func72, Try.ntmps72
    go_wp2
    go_ret
    exact ⟨by rw [HS.out]; rfl, rfl⟩
  · have HS : Hid (startsB s.data.toList t.data.toList = false) := by
      show _ = _
      unfold startsB
      rw [decide_eq_false (by rw [len_list, len_list]; exact h)]; rfl
    have hd : decide (((t.size : Nat) : Int) ≤ (s.size : Int)) = false := decide_eq_false (by omega)
    go_enter Try.func72, Try.ntmps72
    go_wp2
    go_ret
    exact ⟨by rw [HS.out]; rfl, rfl⟩

/-! ### sound -/
def recOf (c i : Int) (l : Bool) (t : ByteArray) : Dk.Rec := ⟨c, i, l, t.data.toList⟩

set_option maxHeartbeats 1000000 in
theorem sound_any (c i : Int) (l : Bool) (t : ByteArray) (w : World) (ht : t.size ≤ maxLen) :
    Calls Try.prog 69 #[.agg #[.int .i64 c, .int .i64 i, .bool l, .string t]] w fun e w' => e = .returned (.bool (Dk.recOk (recOf c i l t))) ∧ Below w.heap.size w w' := by
  have HR : Hid (Dk.recOk (recOf c i l t) = ((if l then t.data.toList == [] else Dk.parseOk t.data.toList) && decide (0 ≤ c ∧ c < 8) && decide (0 ≤ i ∧ i ≤ 999999))) := rfl
  go_enter Try.func69, Try.ntmps69
  go_wp2_with fail
  refine (parts_any t _ ht).mono ?_
  rintro e w1 ⟨mk, a, n, cc, ps, rfl, _, _, hb⟩
  obtain ⟨g0, hb1⟩ := below_one hb
  obtain ⟨c0, f0, z0⟩ := heap_cells g0
  have HB : Hid (Below w.heap.size w w1) := hb1
  clear hb hb1 g0
  cases l
  · cases hok : Dk.parseOk t.data.toList
    · have HK : Hid _ := hok
      clear hok
      go_wp2
      go_ret
      exact ⟨by rw [HR.out, HK.out]; simp, HB.out⟩
    · have HR : Hid (Dk.recOk (recOf c i false t) = (true && decide (0 ≤ c ∧ c < 8) && decide (0 ≤ i ∧ i ≤ 999999))) := by
        show _ = _
        rw [HR.out, hok]; rfl
      clear hok
      by_cases hc : 0 ≤ c ∧ c < 8
      · obtain ⟨hc0, hc8⟩ := hc
        have HC : Hid (decide (0 ≤ c ∧ c < 8) = true) := decide_eq_true ⟨hc0, hc8⟩
        by_cases hi : 0 ≤ i ∧ i ≤ 999999
        · obtain ⟨hi0, hi9⟩ := hi
          have HI : Hid (decide (0 ≤ i ∧ i ≤ 999999) = true) := decide_eq_true ⟨hi0, hi9⟩
          go_wp2
          go_ret
          exact ⟨by rw [HR.out, HC.out, HI.out]; simp [*], HB.out⟩
        · have HI : Hid (decide (0 ≤ i ∧ i ≤ 999999) = false) := decide_eq_false hi
          have hi' : i < 0 ∨ 999999 < i := by omega
          clear hi
          rcases hi' with hi' | hi'
          all_goals
            go_wp2
            go_ret
            exact ⟨by rw [HR.out, HC.out, HI.out]; simp <;> omega, HB.out⟩
      · have HC : Hid (decide (0 ≤ c ∧ c < 8) = false) := decide_eq_false hc
        have hc' : c < 0 ∨ 8 ≤ c := by omega
        clear hc
        rcases hc' with hc' | hc'
        all_goals
          go_wp2
          go_ret
          exact ⟨by rw [HR.out, HC.out]; simp, HB.out⟩
  · generalize Dk.parseOk t.data.toList = pk at *
    cases he : (t.toList == [])
    · have HK : Hid ((t.data.toList == []) = false) := by show _ = _; rw [← bytes_toList]; exact he
      have he2 : t.toList.isEmpty = false := by cases h : t.toList with | nil => rw [h] at he; simp at he | cons a r => rfl
      go_wp2
      go_ret
      exact ⟨by rw [HR.out]; simp only [↓reduceIte, HK.out, Bool.false_and]; rfl, HB.out⟩
    · have HR : Hid (Dk.recOk (recOf c i true t) = (true && decide (0 ≤ c ∧ c < 8) && decide (0 ≤ i ∧ i ≤ 999999))) := by
        show _ = _
        rw [HR.out, ← bytes_toList, he]; rfl
      have HDat : Hid (t.data = #[]) := by
        show _ = _
        have h := eq_of_beq he
        rw [bytes_toList] at h
        exact Array.toList_inj.1 h
      have he2 : t.toList.isEmpty = true := by rw [eq_of_beq he]; rfl
      by_cases hc : 0 ≤ c ∧ c < 8
      · obtain ⟨hc0, hc8⟩ := hc
        have HC : Hid (decide (0 ≤ c ∧ c < 8) = true) := decide_eq_true ⟨hc0, hc8⟩
        by_cases hi : 0 ≤ i ∧ i ≤ 999999
        · obtain ⟨hi0, hi9⟩ := hi
          have HI : Hid (decide (0 ≤ i ∧ i ≤ 999999) = true) := decide_eq_true ⟨hi0, hi9⟩
          go_wp2
          go_ret
          exact ⟨by rw [HR.out, HC.out, HI.out]; simp [*]; exact HDat.out, HB.out⟩
        · have HI : Hid (decide (0 ≤ i ∧ i ≤ 999999) = false) := decide_eq_false hi
          have hi' : i < 0 ∨ 999999 < i := by omega
          clear hi
          rcases hi' with hi' | hi'
          all_goals
            go_wp2
            go_ret
            exact ⟨by rw [HR.out, HC.out, HI.out]; simp <;> omega, HB.out⟩
      · have HC : Hid (decide (0 ≤ c ∧ c < 8) = false) := decide_eq_false hc
        have hc' : c < 0 ∨ 8 ≤ c := by omega
        clear hc
        rcases hc' with hc' | hc'
        all_goals
          go_wp2
          go_ret
          exact ⟨by rw [HR.out, HC.out]; simp, HB.out⟩

end Go.Proofs.Ytccckonckddadaa
namespace Go.Proofs.Ytccckonckddadaa
open Go.RowKit
set_option linter.unusedVariables false

theorem bytes_int (n : Int) (size : Nat) (w : World) (h0 : 0 ≤ n) (hn : n < 4611686018427387904) (hs : size ≤ 8) :
    Calls Try.prog 68 #[.int .i64 n, .int .i64 size] w fun e w' => ∃ b : ByteArray, e = .returned (.string b) ∧ b.data.toList = Dk.be n.toNat size ∧ b.size = size ∧ Below w.heap.size w w' := by
  obtain ⟨m, rfl⟩ := Int.eq_ofNat_of_zero_le h0
  refine (bytes_any m size w (by omega) hs).mono ?_
  rintro e w' ⟨b, rfl, hb, hB⟩
  refine ⟨b, rfl, by rw [hb]; simp, ?_, hB⟩
  have := congrArg List.length hb
  rw [Dk.be_len] at this
  exact this
theorem bytes1 (n : Int) (w : World) (h0 : 0 ≤ n) (hn : n < 4611686018427387904) :
    Calls Try.prog 68 #[.int .i64 n, .int .i64 1] w fun e w' => ∃ b : ByteArray, e = .returned (.string b) ∧ b.data.toList = Dk.be n.toNat 1 ∧ b.size = 1 ∧ Below w.heap.size w w' := bytes_int n 1 w h0 hn (by omega)
theorem bytes2 (n : Int) (w : World) (h0 : 0 ≤ n) (hn : n < 4611686018427387904) :
    Calls Try.prog 68 #[.int .i64 n, .int .i64 2] w fun e w' => ∃ b : ByteArray, e = .returned (.string b) ∧ b.data.toList = Dk.be n.toNat 2 ∧ b.size = 2 ∧ Below w.heap.size w w' := bytes_int n 2 w h0 hn (by omega)
theorem bytes3 (n : Int) (w : World) (h0 : 0 ≤ n) (hn : n < 4611686018427387904) :
    Calls Try.prog 68 #[.int .i64 n, .int .i64 3] w fun e w' => ∃ b : ByteArray, e = .returned (.string b) ∧ b.data.toList = Dk.be n.toNat 3 ∧ b.size = 3 ∧ Below w.heap.size w w' := bytes_int n 3 w h0 hn (by omega)
theorem bytes4 (n : Int) (w : World) (h0 : 0 ≤ n) (hn : n < 4611686018427387904) :
    Calls Try.prog 68 #[.int .i64 n, .int .i64 4] w fun e w' => ∃ b : ByteArray, e = .returned (.string b) ∧ b.data.toList = Dk.be n.toNat 4 ∧ b.size = 4 ∧ Below w.heap.size w w' := bytes_int n 4 w h0 hn (by omega)

/-- A record in memory. -/
structure RecV where
  c : Int
  i : Int
  l : Bool
  t : ByteArray

def RecV.told (r : RecV) : Dk.Rec := recOf r.c r.i r.l r.t
def recs (rs : List RecV) : List Dk.Rec := rs.map RecV.told

/-- Records in a row. -/
structure RecRow (w : World) (a : Option Addr) (n : Nat) (rs : List RecV) : Prop where
  len : rs.length = n
  small : ∀ r ∈ rs, r.t.size ≤ maxLen
  cells : n = 0 ∨ ∃ g off, a = some ⟨g, off, none⟩ ∧ g < w.heap.size ∧ ∀ (k : Nat) (r : RecV), rs[k]? = some r →
    w.cell? ⟨g, off + k * 4, none⟩ = some (.int .i64 r.c) ∧ w.cell? ⟨g, off + k * 4 + 1, none⟩ = some (.int .i64 r.i) ∧ w.cell? ⟨g, off + k * 4 + 2, none⟩ = some (.bool r.l) ∧ w.cell? ⟨g, off + k * 4 + 3, none⟩ = some (.string r.t)

theorem RecRow.kept {w W : World} {a : Option Addr} {n : Nat} {rs : List RecV} (h : RecRow w a n rs) (hb : Below w.heap.size w W) : RecRow W a n rs := by
  refine ⟨h.len, h.small, ?_⟩
  rcases h.cells with h0 | ⟨g, off, rfl, hg, hc⟩
  · exact .inl h0
  · refine .inr ⟨g, off, rfl, Nat.lt_of_lt_of_le hg hb.size, fun k r hr => ?_⟩
    obtain ⟨c1, c2, c3, c4⟩ := hc k r hr
    exact ⟨(hb.cell (p := ⟨g, _, none⟩) hg).trans c1, (hb.cell (p := ⟨g, _, none⟩) hg).trans c2, (hb.cell (p := ⟨g, _, none⟩) hg).trans c3, (hb.cell (p := ⟨g, _, none⟩) hg).trans c4⟩

def FrameRPost (n : Int) (rs : List Dk.Rec) (w : World) (e : Ending) (w' : World) : Prop :=
  ∃ b : ByteArray, e = .returned (.tuple #[.string b, .int .i64 (if Dk.frameOk n rs then 0 else 2)]) ∧ b.data.toList = (if Dk.frameOk n rs then Dk.epoch n.toNat rs else []) ∧ Below w.heap.size w w'

theorem doS_call' {wr W W' : World} (hb : Below W.heap.size W W') (h : Below wr.heap.size wr W ∧ (∀ b x, b < wr.heap.size → W.cell? ⟨b, x, none⟩ = wr.cell? ⟨b, x, none⟩)) :
    Below wr.heap.size wr W' ∧ (∀ b x, b < wr.heap.size → W'.cell? ⟨b, x, none⟩ = wr.cell? ⟨b, x, none⟩) := doS_of (h.1.trans (hb.mono h.1.size))

theorem doS_b1 {wr W1 : World} (h1 : Below wr.drew.heap.size wr.drew W1) : Below wr.heap.size wr W1 ∧ (∀ b x, b < wr.heap.size → W1.cell? ⟨b, x, none⟩ = wr.cell? ⟨b, x, none⟩) := doS_2 h1
theorem doS_b2 {wr W1 W2 : World} (h2 : Below W1.heap.size W1 W2) (h1 : Below wr.drew.heap.size wr.drew W1) : Below wr.heap.size wr W2 ∧ (∀ b x, b < wr.heap.size → W2.cell? ⟨b, x, none⟩ = wr.cell? ⟨b, x, none⟩) := doS_call' h2 (doS_b1 h1)
theorem doS_b3 {wr W1 W2 W3 : World} (h3 : Below W2.heap.size W2 W3) (h2 : Below W1.heap.size W1 W2) (h1 : Below wr.drew.heap.size wr.drew W1) : Below wr.heap.size wr W3 ∧ (∀ b x, b < wr.heap.size → W3.cell? ⟨b, x, none⟩ = wr.cell? ⟨b, x, none⟩) := doS_call' h3 (doS_b2 h2 h1)
theorem doS_b4 {wr W1 W2 W3 W4 : World} (h4 : Below W3.heap.size W3 W4) (h3 : Below W2.heap.size W2 W3) (h2 : Below W1.heap.size W1 W2) (h1 : Below wr.drew.heap.size wr.drew W1) : Below wr.heap.size wr W4 ∧ (∀ b x, b < wr.heap.size → W4.cell? ⟨b, x, none⟩ = wr.cell? ⟨b, x, none⟩) := doS_call' h4 (doS_b3 h3 h2 h1)

theorem frame_bad (n : Int) (a : Option Addr) (m c : Nat) (rs : List RecV) (w : World) (hm : m ≤ maxLen) (hr : RecRow w a m rs) (h : n < 0 ∨ 200 ≤ n ∨ (0 ≤ n ∧ n < 200 ∧ 64 < m)) :
    Calls Try.prog 43 #[.int .i64 n, .slice a m c] w (FrameRPost n (recs rs) w) := by
  have HF : Hid (Dk.frameOk n (recs rs) = false) := by
    show _ = _
    unfold Dk.frameOk
    rcases h with h | h | h
    · rw [decide_eq_false (by omega)]; rfl
    · rw [decide_eq_false (by omega)]; rfl
    · have : (recs rs).length = m := by rw [recs, List.length_map, hr.len]
      rw [this, decide_eq_false (by omega : ¬ m ≤ 64)]; simp
  unfold maxLen at hm
  clear hr
  rcases h with h | h | ⟨h1, h2, h⟩
  all_goals
    go_enter Try.func43, Try.ntmps43
    go_wp2
    go_ret2
    exact ⟨⟨#[]⟩, by rw [HF.out]; rfl, by rw [HF.out]; rfl, Below.refl _ _⟩

theorem flat_snoc (rs : List Dk.Rec) (k : Nat) (r : Dk.Rec) (h : rs[k]? = some r) : (rs.take (k + 1)).flatMap Dk.recBytes = (rs.take k).flatMap Dk.recBytes ++ Dk.recBytes r := by
  obtain ⟨hk, rfl⟩ := List.getElem?_eq_some_iff.1 h
  rw [List.take_succ_eq_append_getElem hk, List.flatMap_append]
  simp

theorem rec_parts {c i : Int} {l : Bool} {t : ByteArray} (h : Dk.recOk (recOf c i l t) = true) : 0 ≤ c ∧ c < 8 ∧ 0 ≤ i ∧ i ≤ 999999 ∧ t.size ≤ 60 := by
  have h' : ((if l then t.data.toList == [] else Dk.parseOk t.data.toList) && decide (0 ≤ c ∧ c < 8) && decide (0 ≤ i ∧ i ≤ 999999)) = true := h
  rw [Bool.and_eq_true, Bool.and_eq_true, decide_eq_true_eq, decide_eq_true_eq] at h'
  obtain ⟨⟨h1, h2⟩, h3⟩ := h'
  refine ⟨h2.1, h2.2, h3.1, h3.2, ?_⟩
  cases l
  · have h4 : Dk.parseOk t.data.toList = true := h1
    unfold Dk.parseOk at h4
    rw [Bool.and_eq_true, Bool.and_eq_true, Bool.and_eq_true, decide_eq_true_eq] at h4
    exact h4.1.1.1
  · have h4 : (t.data.toList == []) = true := h1
    have h5 : t.size = 0 := congrArg List.length (eq_of_beq h4)
    omega

theorem all_snoc {rs : List Dk.Rec} {k : Nat} {r : Dk.Rec} (h : rs[k]? = some r) (ha : (rs.take k).all Dk.recOk = true) (hr : Dk.recOk r = true) : (rs.take (k + 1)).all Dk.recOk = true := by
  obtain ⟨hk, rfl⟩ := List.getElem?_eq_some_iff.1 h
  rw [List.take_succ_eq_append_getElem hk, List.all_append, ha]
  simp [hr]

set_option maxHeartbeats 2000000 in
theorem frame_good (n : Int) (a : Option Addr) (m c : Nat) (rs : List RecV) (w : World) (h0 : 0 ≤ n) (h2 : n < 200) (hm : m ≤ 64) (hr : RecRow w a m rs) :
    Calls Try.prog 43 #[.int .i64 n, .slice a m c] w (FrameRPost n (recs rs) w) := by
  have HF : Hid (Dk.frameOk n (recs rs) = (recs rs).all Dk.recOk) := by
    show _ = _
    unfold Dk.frameOk
    rw [decide_eq_true ⟨h0, h2⟩, decide_eq_true (by rw [recs, List.length_map, hr.len]; exact hm)]; rfl
  have HR : Hid _ := hr
  clear hr
  go_enter Try.func43, Try.ntmps43
  go_wp2_with fail
  refine (bytes1 n _ h0 (by omega)).mono ?_
  rintro e w1 ⟨b1, rfl, hb1, hs1, hB1⟩
  go_wp2_with fail
  refine (bytes1 (m : Int) _ (by omega) (by omega)).mono ?_
  rintro e w2 ⟨b2, rfl, hb2, hs2, hB2⟩
  have HB : Hid (Below w.heap.size w w2) := hB1.trans (hB2.mono hB1.size)
  have HP : Hid (_ ∧ _) := ⟨hb1, hb2⟩
  clear hb1 hb2 hB1 hB2
  go_wp2
  go_loopw [6, 7] (fun p i wr => ∃ (k : Nat) (b : ByteArray), k ≤ m ∧ i = .int .i64 k ∧ p = .string b ∧ b.size ≤ 2 + 66 * k ∧ Hid (b.data.toList = Dk.be n.toNat 1 ++ Dk.be m 1 ++ ((recs rs).take k).flatMap Dk.recBytes ∧ ((recs rs).take k).all Dk.recOk = true) ∧ Hid (Below w.heap.size w wr)) (fun _ i _ => m - (intOf i).toNat)
  case atStart =>
    refine ⟨0, _, Nat.zero_le _, rfl, rfl, by rw [app_size, hs1, hs2]; omega, ⟨?_, rfl⟩, HB.out⟩
    rw [app_list, HP.out.1, HP.out.2]; simp
  case round =>
    obtain ⟨k, b, hk, rfl, rfl, hbs, HK, HB2⟩ := hrel
    clear HP hs1 hs2
    by_cases hlt : k < m
    · obtain ⟨g, off, rfl, hg, hcell⟩ : ∃ g off, a = some ⟨g, off, none⟩ ∧ g < w.heap.size ∧ _ := (HR.out.cells).resolve_left (by omega)
      have hkr : k < rs.length := by rw [HR.out.len]; exact hlt
      obtain ⟨c1, c2, c3, c4⟩ := hcell k rs[k] (List.getElem?_eq_getElem hkr)
      have hts := HR.out.small rs[k] (List.getElem_mem hkr)
      have HRk : Hid ((recs rs)[k]? = some rs[k].told) := by show _ = _; simp [recs, hkr]
      clear hcell
      generalize rs[k] = r at *
      obtain ⟨rc, ri, rl, rt⟩ := r
      simp only at c1 c2 c3 c4 hts
      have e1 := (HB2.out.cell (p := ⟨g, off + k * 4, none⟩) hg).trans c1
      have e2 := (HB2.out.cell (p := ⟨g, off + k * 4 + 1, none⟩) hg).trans c2
      have e3 := (HB2.out.cell (p := ⟨g, off + k * 4 + 2, none⟩) hg).trans c3
      have e4 := (HB2.out.cell (p := ⟨g, off + k * 4 + 3, none⟩) hg).trans c4
      have hgr : g < wr.heap.size := Nat.lt_of_lt_of_le hg HB2.out.size
      clear c1 c2 c3 c4
      go_wp2_with fail
      refine (sound_any rc ri rl rt _ hts).mono ?_
      rintro e w3 ⟨rfl, hb3⟩
      have a1 := (hb3.cell (p := ⟨g, off + k * 4, none⟩) hgr).trans e1
      have a2 := (hb3.cell (p := ⟨g, off + k * 4 + 1, none⟩) hgr).trans e2
      have a3 := (hb3.cell (p := ⟨g, off + k * 4 + 2, none⟩) hgr).trans e3
      have a4 := (hb3.cell (p := ⟨g, off + k * 4 + 3, none⟩) hgr).trans e4
      have hg3 : g < w3.heap.size := Nat.lt_of_lt_of_le hgr hb3.size
      have HB3 : Hid (Below w.heap.size w w3) := HB2.out.trans (hb3.mono HB2.out.size)
      clear hb3 e1 e2 e3 e4
      cases hok : Dk.recOk (recOf rc ri rl rt)
      · have HN : Hid (Dk.frameOk n (recs rs) = false) := by
          show _ = _
          rw [HF.out, List.all_eq_false]
          exact ⟨_, List.mem_of_getElem? HRk.out, by show ¬ Dk.recOk (recOf rc ri rl rt) = true; rw [hok]; simp⟩
        clear hok
        go_wp2
        go_ret2
        exact ⟨⟨#[]⟩, by rw [HN.out]; rfl, by rw [HN.out]; rfl, HB3.out⟩
      · have hrec := rec_parts hok
        have HOk : Hid _ := hok
        clear hok
        obtain ⟨q0, q1, q2, q3, q4⟩ := hrec
        cases rl
        · go_wp2
          go_region_held3 (fun W => Below w3.heap.size w3 W ∧ (∀ b x, b < w3.heap.size → W.cell? ⟨b, x, none⟩ = w3.cell? ⟨b, x, none⟩))
            (first | (with_reducible exact doS_0) | (with_reducible exact doS_b1 hB1) | (with_reducible exact doS_b2 hB2 hB1) | (with_reducible exact doS_b3 hB3 hB2 hB1) | (with_reducible exact doS_b4 hB4 hB3 hB2 hB1))
            (first | (go_at_call_of 68 (Value.int IntKind.i64 rc); refine (bytes1 _ _ ?_ ?_).mono ?_; exact q0; omega; rintro e w4 ⟨d1, rfl, hd1, ht1, hB1⟩; have x1 : ¬ 9223372036854775807 < b.size + d1.size := (by omega); have D1 : Hid (_ ∧ _) := ⟨hd1, ht1⟩; clear hd1 ht1) | (go_at_call_of 68 (Value.int IntKind.i64 ri); refine (bytes3 _ _ ?_ ?_).mono ?_; exact q2; omega; rintro e w5 ⟨d2, rfl, hd2, ht2, hB2⟩; have x2 : ¬ 9223372036854775807 < b.size + d1.size + d2.size := (by have := D1.out.2; omega); have D2 : Hid (_ ∧ _) := ⟨hd2, ht2⟩; clear hd2 ht2) | (go_at_call_of 68 (Value.int IntKind.i64 (rt.size : Int)); refine (bytes1 _ _ ?_ ?_).mono ?_; omega; omega; rintro e w7 ⟨d4, rfl, hd4, ht4, hB4⟩; have x4 : ¬ 9223372036854775807 < b.size + d1.size + d2.size + d3.size + d4.size := (by have := D1.out.2; have := D2.out.2; have := D3.out.2; omega); have x5 : ¬ 9223372036854775807 < b.size + d1.size + d2.size + d3.size + d4.size + rt.size := (by have := D1.out.2; have := D2.out.2; have := D3.out.2; omega); have D4 : Hid (_ ∧ _) := ⟨hd4, ht4⟩; clear hd4 ht4) | (go_at_call_of 68 (Value.int IntKind.i64 0); refine (bytes1 _ _ ?_ ?_).mono ?_; omega; omega; rintro e w6 ⟨d3, rfl, hd3, ht3, hB3⟩; have x3 : ¬ 9223372036854775807 < b.size + d1.size + d2.size + d3.size := (by have := D1.out.2; have := D2.out.2; omega); have D3 : Hid (_ ∧ _) := ⟨hd3, ht3⟩; clear hd3 ht3))
          have HB4 : Hid (Below w.heap.size w w7) := HB3.out.trans ((doS_b4 hB4 hB3 hB2 hB1).1.mono HB3.out.size)
          have HL : Hid ((b ++ d1 ++ d2 ++ d3 ++ d4 ++ rt).data.toList = Dk.be n.toNat 1 ++ Dk.be m 1 ++ ((recs rs).take (k + 1)).flatMap Dk.recBytes) := by
            show _ = _
            rw [flat_snoc _ _ _ HRk.out, app_list, app_list, app_list, app_list, app_list, HK.out.1, D1.out.1, D2.out.1, D3.out.1, D4.out.1]
            show _ = _ ++ (_ ++ (Dk.be rc.toNat 1 ++ Dk.be ri.toNat 3 ++ Dk.be 0 1 ++ Dk.be rt.data.toList.length 1 ++ rt.data.toList))
            rw [len_list]
            simp only [List.append_assoc, Int.toNat_natCast]
            rfl
          have HS : Hid ((b ++ d1 ++ d2 ++ d3 ++ d4 ++ rt).size ≤ 2 + 66 * (k + 1)) := by
            show _ ≤ _
            rw [app_size, app_size, app_size, app_size, app_size]
            have := D1.out.2
            have := D2.out.2
            have := D3.out.2
            have := D4.out.2
            omega
          have HA : Hid (((recs rs).take (k + 1)).all Dk.recOk = true) := all_snoc HRk.out HK.out.2 HOk.out
          clear hB1 hB2 hB3 hB4 x1 x2 x3 x4 x5
          go_wp2
          go_roundw
          case rel => exact ⟨k + 1, _, by omega, by go_num, rfl, HS.out, ⟨HL.out, HA.out⟩, HB4.out⟩
          case measure => simp [intOf]; omega
        · go_wp2
          go_region_held3 (fun W => Below w3.heap.size w3 W ∧ (∀ b x, b < w3.heap.size → W.cell? ⟨b, x, none⟩ = w3.cell? ⟨b, x, none⟩))
            (first | (with_reducible exact doS_0) | (with_reducible exact doS_b1 hB1) | (with_reducible exact doS_b2 hB2 hB1) | (with_reducible exact doS_b3 hB3 hB2 hB1) | (with_reducible exact doS_b4 hB4 hB3 hB2 hB1))
            (first | (go_at_call_of 68 (Value.int IntKind.i64 rc); refine (bytes1 _ _ ?_ ?_).mono ?_; exact q0; omega; rintro e w4 ⟨d1, rfl, hd1, ht1, hB1⟩; have x1 : ¬ 9223372036854775807 < b.size + d1.size := (by omega); have D1 : Hid (_ ∧ _) := ⟨hd1, ht1⟩; clear hd1 ht1) | (go_at_call_of 68 (Value.int IntKind.i64 ri); refine (bytes3 _ _ ?_ ?_).mono ?_; exact q2; omega; rintro e w5 ⟨d2, rfl, hd2, ht2, hB2⟩; have x2 : ¬ 9223372036854775807 < b.size + d1.size + d2.size := (by have := D1.out.2; omega); have D2 : Hid (_ ∧ _) := ⟨hd2, ht2⟩; clear hd2 ht2) | (go_at_call_of 68 (Value.int IntKind.i64 (rt.size : Int)); refine (bytes1 _ _ ?_ ?_).mono ?_; omega; omega; rintro e w7 ⟨d4, rfl, hd4, ht4, hB4⟩; have x4 : ¬ 9223372036854775807 < b.size + d1.size + d2.size + d3.size + d4.size := (by have := D1.out.2; have := D2.out.2; have := D3.out.2; omega); have x5 : ¬ 9223372036854775807 < b.size + d1.size + d2.size + d3.size + d4.size + rt.size := (by have := D1.out.2; have := D2.out.2; have := D3.out.2; omega); have D4 : Hid (_ ∧ _) := ⟨hd4, ht4⟩; clear hd4 ht4) | (go_at_call_of 68 (Value.int IntKind.i64 1); refine (bytes1 _ _ ?_ ?_).mono ?_; omega; omega; rintro e w6 ⟨d3, rfl, hd3, ht3, hB3⟩; have x3 : ¬ 9223372036854775807 < b.size + d1.size + d2.size + d3.size := (by have := D1.out.2; have := D2.out.2; omega); have D3 : Hid (_ ∧ _) := ⟨hd3, ht3⟩; clear hd3 ht3))
          have HB4 : Hid (Below w.heap.size w w7) := HB3.out.trans ((doS_b4 hB4 hB3 hB2 hB1).1.mono HB3.out.size)
          have HL : Hid ((b ++ d1 ++ d2 ++ d3 ++ d4 ++ rt).data.toList = Dk.be n.toNat 1 ++ Dk.be m 1 ++ ((recs rs).take (k + 1)).flatMap Dk.recBytes) := by
            show _ = _
            rw [flat_snoc _ _ _ HRk.out, app_list, app_list, app_list, app_list, app_list, HK.out.1, D1.out.1, D2.out.1, D3.out.1, D4.out.1]
            show _ = _ ++ (_ ++ (Dk.be rc.toNat 1 ++ Dk.be ri.toNat 3 ++ Dk.be 1 1 ++ Dk.be rt.data.toList.length 1 ++ rt.data.toList))
            rw [len_list]
            simp only [List.append_assoc, Int.toNat_natCast]
            rfl
          have HS : Hid ((b ++ d1 ++ d2 ++ d3 ++ d4 ++ rt).size ≤ 2 + 66 * (k + 1)) := by
            show _ ≤ _
            rw [app_size, app_size, app_size, app_size, app_size]
            have := D1.out.2
            have := D2.out.2
            have := D3.out.2
            have := D4.out.2
            omega
          have HA : Hid (((recs rs).take (k + 1)).all Dk.recOk = true) := all_snoc HRk.out HK.out.2 HOk.out
          clear hB1 hB2 hB3 hB4 x1 x2 x3 x4 x5
          go_wp2
          go_roundw
          case rel => exact ⟨k + 1, _, by omega, by go_num, rfl, HS.out, ⟨HL.out, HA.out⟩, HB4.out⟩
          case measure => simp [intOf]; omega
    · have HA : Hid (Dk.frameOk n (recs rs) = true) := by
        show _ = _
        have := HK.out.2
        rw [List.take_of_length_le (by rw [recs, List.length_map, HR.out.len]; omega)] at this
        rw [HF.out, this]
      have HL : Hid (b.data.toList = Dk.payload n.toNat (recs rs)) := by
        show _ = _
        have := HK.out.1
        rw [List.take_of_length_le (by rw [recs, List.length_map, HR.out.len]; omega)] at this
        rw [this]
        unfold Dk.payload
        rw [show (recs rs).length = m from by rw [recs, List.length_map, HR.out.len]]
      have hbm : b.size ≤ 8000 := by omega
      have hsl := Dk.sumV_lt b.data.toList
      go_wp2_with fail
      refine (sum_any b _ (by unfold maxLen; omega)).mono ?_
      rintro e w' ⟨rfl, rfl⟩
      generalize hsv : Dk.sumV b.data.toList = sv at *
      have HSv : Hid _ := hsv
      clear hsv
      go_wp2_with fail
      refine (bytes2 (b.size : Int) _ (by omega) (by omega)).mono ?_
      rintro e w4 ⟨d1, rfl, hd1, ht1, hB1⟩
      have y1 : ¬ 9223372036854775807 < d1.size + b.size := (by omega)
      have HT1 : Hid _ := ht1
      clear ht1
      go_wp2_with fail
      refine (bytes4 (sv : Int) _ (by omega) (by omega)).mono ?_
      rintro e w5 ⟨d2, rfl, hd2, ht2, hB2⟩
      have y2 : ¬ 9223372036854775807 < d1.size + b.size + d2.size := (by have := HT1.out; omega)
      have HB5 : Hid (Below w.heap.size w w5) := (HB2.out.trans (hB1.mono HB2.out.size)).trans (hB2.mono (Nat.le_trans HB2.out.size hB1.size))
      have HD : Hid (_ ∧ _) := ⟨hd1, hd2⟩
      clear ht2 hd1 hd2 hB1 hB2
      go_wp2
      go_ret2
      refine ⟨d1 ++ b ++ d2, by rw [HA.out]; rfl, ?_, HB5.out⟩
      rw [HA.out, app_list, app_list, HD.out.1, HD.out.2]
      show _ = Dk.be _ 2 ++ Dk.payload n.toNat (recs rs) ++ Dk.be _ 4
      rw [← HL.out, HSv.out, len_list]
      simp only [Int.toNat_natCast]

end Go.Proofs.Ytccckonckddadaa
namespace Go.Proofs.Ytccckonckddadaa
open Go.RowKit
set_option linter.unusedVariables false

/-! ### sumOf -/
theorem sum_u32 (h : Nat) (b : UInt8) (hh : h < 4294967296) :
    IntKind.u32.wrap (bits BinOp.xor IntKind.u32 (h : Int) (b.toNat : Int) * 16777619) = (Dk.sumStep h b : Nat) := by
  have hb := b.toNat_lt
  rw [u32_xor_nat h b.toNat hh (by omega), IntKind.wrap_u32']
  unfold Dk.sumStep
  omega

set_option maxHeartbeats 1000000 in
theorem sumOf_any (s : ByteArray) (w : World) (hs : s.size ≤ maxLen) :
    Calls Try.prog 101 #[.string s] w fun e w' => e = .returned (.int .u32 (Dk.sumV s.data.toList)) ∧ w' = w := by
  unfold maxLen at hs
  go_enter Try.func101, Try.ntmps101
  go_wp2
  go_loop [3, 4] (fun h i => ∃ k : Nat, k ≤ s.size ∧ i = .int .i64 k ∧ h = .int .u32 (Dk.sumV (s.data.toList.take k))) (fun _ i => s.size - (intOf i).toNat)
  case atStart => exact ⟨0, Nat.zero_le _, rfl, by rw [List.take_zero, Dk.sumV_nil]; unfold Dk.sum0; rfl⟩
  case round =>
    obtain ⟨k, hk, rfl, rfl⟩ := hrel
    have hl := Dk.sumV_lt (s.data.toList.take k)
    by_cases hlt : k < s.size
    · have hb := byte_bd s[k]
      have HT : Hid (Dk.sumV (s.data.toList.take (k + 1)) = Dk.sumStep (Dk.sumV (s.data.toList.take k)) s[k]) := by
        show _ = _
        rw [take_snoc s k hlt, Dk.sumV_snoc]
      generalize Dk.sumV (s.data.toList.take k) = h at *
      go_wp2
      go_round
      case rel => exact ⟨k + 1, by omega, by go_num, by rw [HT.out, ← sum_u32 h s[k] hl]; rfl⟩
      case measure => simp [intOf]; omega
    · go_wp2
      go_ret
      exact ⟨by rw [take_all s k (by omega)]; rfl, rfl⟩

/-! ### writeNumber -/
set_option maxHeartbeats 1000000 in
theorem writeNumber_any (n : Nat) (size : Nat) (w : World) (hn : n < 4294967296) (hs : size ≤ 8) :
    Calls Try.prog 100 #[.int .u32 n, .int .i64 size] w fun e w' => ∃ b : ByteArray, e = .returned (.string b) ∧ b.data.toList = Dk.be n size ∧ b.size = size ∧ Below w.heap.size w w' := by
  go_enter Try.func100, Try.ntmps100
  go_wp2
  go_loopw [0, 5, 6] (fun m v i wr => ∃ (k q : Nat) (b : ByteArray), k ≤ size ∧ i = .int .i64 k ∧ m = .int .u32 q ∧ v = .string b ∧ q < 4294967296 ∧ Hid (Dk.be n size = Dk.be q (size - k) ++ b.data.toList ∧ b.size = k) ∧ Hid (Below w.heap.size w wr)) (fun _ _ i _ => size - (intOf i).toNat)
  case atStart => exact ⟨0, n, ⟨#[]⟩, Nat.zero_le _, rfl, rfl, rfl, hn, ⟨by simp, rfl⟩, Below.refl _ _⟩
  case round =>
    obtain ⟨k, q, b, hk, rfl, rfl, rfl, hq, HR, HB⟩ := hrel
    by_cases hlt : k < size
    · have hcv := conv_one
      have hbs := HR.out.2
      have hbm : b.size ≤ 8 := by omega
      have HS : Hid (b.size = k) := hbs
      have HBe : Hid (Dk.be n size = Dk.be (q / 256) (size - (k + 1)) ++ ((⟨#[UInt8.ofNat (q % 256)]⟩ : ByteArray) ++ b).data.toList) := by
        show _ = _
        rw [app_list, HR.out.1, show size - k = size - (k + 1) + 1 from by omega, be_front, List.append_assoc]
      have hq2 : q / 256 < 4294967296 := by omega
      clear hbs
      go_wp2
      go_roundw
      case rel => exact ⟨k + 1, q / 256, _, by omega, by go_num, by go_num, rfl, hq2, ⟨HBe.out, by rw [app_size, HS.out]; simp [ByteArray.size]; omega⟩, HB.out.alloc HB.out.size _⟩
      case measure => simp [intOf]; omega
    · go_wp2
      go_ret
      have hkk : k = size := by omega
      refine ⟨b, rfl, ?_, by rw [HR.out.2, hkk], HB.out⟩
      have := HR.out.1
      rw [show size - k = 0 from by omega] at this
      exact this.symm

/-! ### readNumber -/
theorem num_u32 (h : Nat) (b : UInt8) (hh : h < 16777216) :
    bits BinOp.or IntKind.u32 ((h * 256 : Nat) : Int) (b.toNat : Int) = (Dk.numStep h b : Nat) := by
  have hb := b.toNat_lt
  rw [u32_or_nat (h * 256) b.toNat (by omega) (by omega)]
  unfold Dk.numStep
  have : h * 256 ||| b.toNat = h * 256 + b.toNat := by
    have := Nat.shiftLeft_add_eq_or_of_lt (i := 8) (b := b.toNat) (by omega) h
    rw [Nat.shiftLeft_eq] at this
    exact this.symm
  rw [this]

theorem num_lt : ∀ (l : List UInt8) (k : Nat), l.length ≤ k → Dk.num l < 256 ^ k := by
  intro l
  induction h : l.length generalizing l with
  | zero =>
    intro k _
    have : l = [] := by simpa using h
    subst this
    rw [Dk.num_nil]
    exact Nat.pow_pos (by omega)
  | succ n ih =>
    intro k hk
    have hne : l ≠ [] := by intro h0; rw [h0] at h; simp at h
    have hd := List.dropLast_concat_getLast hne
    have hl : l.dropLast.length = n := by rw [List.length_dropLast, h]; omega
    obtain ⟨k, rfl⟩ : ∃ j, k = j + 1 := ⟨k - 1, by omega⟩
    have h1 := ih l.dropLast hl k (by omega)
    have h2 := (l.getLast hne).toNat_lt
    rw [← hd, Dk.num_snoc, Nat.pow_succ]
    omega

set_option maxHeartbeats 1000000 in
theorem readNumber_any (s : ByteArray) (w : World) (hs : s.size ≤ 4) :
    Calls Try.prog 115 #[.string s] w fun e w' => e = .returned (.int .u32 (Dk.num s.data.toList)) ∧ w' = w := by
  go_enter Try.func115, Try.ntmps115
  go_wp2
  go_loop [3, 4] (fun h i => ∃ k : Nat, k ≤ s.size ∧ i = .int .i64 k ∧ h = .int .u32 (Dk.num (s.data.toList.take k))) (fun _ i => s.size - (intOf i).toNat)
  case atStart => exact ⟨0, Nat.zero_le _, rfl, by rw [List.take_zero, Dk.num_nil]; rfl⟩
  case round =>
    obtain ⟨k, hk, rfl, rfl⟩ := hrel
    by_cases hlt : k < s.size
    · have hl := num_lt (s.data.toList.take k) 3 (by rw [List.length_take]; omega)
      have hb := byte_bd s[k]
      have HT : Hid (Dk.num (s.data.toList.take (k + 1)) = Dk.numStep (Dk.num (s.data.toList.take k)) s[k]) := by
        show _ = _
        rw [take_snoc s k hlt, Dk.num_snoc]; rfl
      generalize Dk.num (s.data.toList.take k) = h at *
      go_wp2
      go_round
      case rel => exact ⟨k + 1, by omega, by go_num, by rw [HT.out, ← num_u32 h s[k] hl]; rfl⟩
      case measure => simp [intOf]; omega
    · go_wp2
      go_ret
      exact ⟨by rw [take_all s k (by omega)]; rfl, rfl⟩

end Go.Proofs.Ytccckonckddadaa
namespace Go.Proofs.Ytccckonckddadaa
open Go.RowKit
set_option linter.unusedVariables false

/-! ### isRecord -/
set_option maxHeartbeats 1000000 in
theorem isRecord_any (c i : Int) (l : Bool) (t : ByteArray) (w : World) (ht : t.size ≤ maxLen) :
    Calls Try.prog 99 #[.agg #[.int .i64 c, .int .i64 i, .bool l, .string t]] w fun e w' => e = .returned (.bool (Dk.recOk (recOf c i l t))) ∧ Below w.heap.size w w' := by
  have HR : Hid (Dk.recOk (recOf c i l t) = ((if l then t.data.toList == [] else Dk.parseOk t.data.toList) && decide (0 ≤ c ∧ c < 8) && decide (0 ≤ i ∧ i ≤ 999999))) := rfl
  have HB : Hid (∀ o, Below w.heap.size w (w.alloc o)) := fun o => (Below.refl _ _).alloc (Nat.le_refl _) _
  by_cases hc : 0 ≤ c ∧ c < 8
  · obtain ⟨hc0, hc8⟩ := hc
    have HC : Hid (decide (0 ≤ c ∧ c < 8) = true) := decide_eq_true ⟨hc0, hc8⟩
    by_cases hi : 0 ≤ i ∧ i ≤ 999999
    · obtain ⟨hi0, hi9⟩ := hi
      have HI : Hid (decide (0 ≤ i ∧ i ≤ 999999) = true) := decide_eq_true ⟨hi0, hi9⟩
      cases l
      · have HR2 : Hid (Dk.recOk (recOf c i false t) = Dk.parseOk t.data.toList) := by
          show _ = _
          rw [HR.out, HC.out, HI.out]; simp
        go_enter Try.func99, Try.ntmps99
        go_wp2_with fail
        refine (parse_any t _ ht).mono ?_
        rintro e w1 ⟨b0, b1, b2, b3, b4, b5, b6, b7, a, n, cc, rfl, _, hb⟩
        have hb1 : Below w.heap.size w w1 := by
          first
          | exact (below_one hb).2
          | exact (below_two hb).2.2
        have HB1 : Hid _ := hb1
        clear hb hb1
        go_wp2
        go_ret
        exact ⟨by rw [HR2.out]; rfl, by first | exact HB1.out | exact HB1.out.alloc HB1.out.size _⟩
      · have HR2 : Hid (Dk.recOk (recOf c i true t) = t.toList.isEmpty) := by
          show _ = _
          rw [HR.out, HC.out, HI.out, bytes_toList]; cases t.data.toList <;> rfl
        go_enter Try.func99, Try.ntmps99
        go_wp2
        go_ret
        exact ⟨by rw [HR2.out]; rfl, HB.out _⟩
    · have HI : Hid (decide (0 ≤ i ∧ i ≤ 999999) = false) := decide_eq_false hi
      have hi' : i < 0 ∨ 999999 < i := by omega
      clear hi
      rcases hi' with hi' | hi'
      all_goals
        go_enter Try.func99, Try.ntmps99
        go_wp2
        go_ret
        exact ⟨by rw [HR.out, HI.out]; simp, HB.out _⟩
  · have HC : Hid (decide (0 ≤ c ∧ c < 8) = false) := decide_eq_false hc
    have hc' : c < 0 ∨ 8 ≤ c := by omega
    clear hc
    rcases hc' with hc' | hc'
    all_goals
      go_enter Try.func99, Try.ntmps99
      go_wp2
      go_ret
      exact ⟨by rw [HR.out, HC.out]; simp, HB.out _⟩

/-! ### isEpoch -/
theorem isEpoch_bad (n : Int) (a : Option Addr) (m c : Nat) (rs : List RecV) (w : World) (hm : m ≤ maxLen) (hr : RecRow w a m rs) (h : n < 0 ∨ 200 ≤ n ∨ (0 ≤ n ∧ n < 200 ∧ 64 < m)) :
    Calls Try.prog 73 #[.int .i64 n, .slice a m c] w fun e w' => e = .returned (.bool (Dk.frameOk n (recs rs))) ∧ Below w.heap.size w w' := by
  have HF : Hid (Dk.frameOk n (recs rs) = false) := by
    show _ = _
    unfold Dk.frameOk
    rcases h with h | h | h
    · rw [decide_eq_false (by omega)]; rfl
    · rw [decide_eq_false (by omega)]; rfl
    · have : (recs rs).length = m := by rw [recs, List.length_map, hr.len]
      rw [this, decide_eq_false (by omega : ¬ m ≤ 64)]; simp
  unfold maxLen at hm
  clear hr
  rcases h with h | h | ⟨h1, h2, h⟩
  all_goals
    go_enter Try.func73, Try.ntmps73
    go_wp2
    go_ret
    exact ⟨by rw [HF.out]; rfl, Below.refl _ _⟩

set_option maxHeartbeats 1000000 in
theorem isEpoch_good (n : Int) (a : Option Addr) (m c : Nat) (rs : List RecV) (w : World) (h0 : 0 ≤ n) (h2 : n < 200) (hm : m ≤ 64) (hr : RecRow w a m rs) :
    Calls Try.prog 73 #[.int .i64 n, .slice a m c] w fun e w' => e = .returned (.bool (Dk.frameOk n (recs rs))) ∧ Below w.heap.size w w' := by
  have HF : Hid (Dk.frameOk n (recs rs) = (recs rs).all Dk.recOk) := by
    show _ = _
    unfold Dk.frameOk
    rw [decide_eq_true ⟨h0, h2⟩, decide_eq_true (by rw [recs, List.length_map, hr.len]; exact hm)]; rfl
  have HR : Hid _ := hr
  clear hr
  go_enter Try.func73, Try.ntmps73
  go_wp2
  go_loopw [5] (fun i wr => ∃ (k : Nat), k ≤ m ∧ i = .int .i64 k ∧ Hid (((recs rs).take k).all Dk.recOk = true) ∧ Hid (Below w.heap.size w wr)) (fun i _ => m - (intOf i).toNat)
  case atStart => exact ⟨0, Nat.zero_le _, rfl, rfl, Below.refl _ _⟩
  case round =>
    obtain ⟨k, hk, rfl, HK, HB2⟩ := hrel
    by_cases hlt : k < m
    · obtain ⟨g, off, rfl, hg, hcell⟩ : ∃ g off, a = some ⟨g, off, none⟩ ∧ g < w.heap.size ∧ _ := (HR.out.cells).resolve_left (by omega)
      have hkr : k < rs.length := by rw [HR.out.len]; exact hlt
      obtain ⟨c1, c2, c3, c4⟩ := hcell k rs[k] (List.getElem?_eq_getElem hkr)
      have hts := HR.out.small rs[k] (List.getElem_mem hkr)
      have HRk : Hid ((recs rs)[k]? = some rs[k].told) := by show _ = _; simp [recs, hkr]
      clear hcell
      generalize rs[k] = r at *
      obtain ⟨rc, ri, rl, rt⟩ := r
      simp only at c1 c2 c3 c4 hts
      have e1 := (HB2.out.cell (p := ⟨g, off + k * 4, none⟩) hg).trans c1
      have e2 := (HB2.out.cell (p := ⟨g, off + k * 4 + 1, none⟩) hg).trans c2
      have e3 := (HB2.out.cell (p := ⟨g, off + k * 4 + 2, none⟩) hg).trans c3
      have e4 := (HB2.out.cell (p := ⟨g, off + k * 4 + 3, none⟩) hg).trans c4
      have hgr : g < wr.heap.size := Nat.lt_of_lt_of_le hg HB2.out.size
      clear c1 c2 c3 c4
      go_wp2_with fail
      refine (isRecord_any rc ri rl rt _ hts).mono ?_
      rintro e w3 ⟨rfl, hb3⟩
      have HB3 : Hid (Below w.heap.size w w3) := HB2.out.trans (hb3.mono HB2.out.size)
      clear hb3 e1 e2 e3 e4
      cases hok : Dk.recOk (recOf rc ri rl rt)
      · have HN : Hid (Dk.frameOk n (recs rs) = false) := by
          show _ = _
          rw [HF.out, List.all_eq_false]
          exact ⟨_, List.mem_of_getElem? HRk.out, by show ¬ Dk.recOk (recOf rc ri rl rt) = true; rw [hok]; simp⟩
        clear hok
        go_wp2
        go_ret
        exact ⟨by rw [HN.out]; rfl, HB3.out⟩
      · have HA : Hid (((recs rs).take (k + 1)).all Dk.recOk = true) := all_snoc HRk.out HK.out hok
        clear hok
        go_wp2
        go_roundw
        case rel => exact ⟨k + 1, by omega, by go_num, HA, HB3⟩
        case measure => simp [intOf]; omega
    · have HA : Hid (Dk.frameOk n (recs rs) = true) := by
        show _ = _
        have := HK.out
        rw [List.take_of_length_le (by rw [recs, List.length_map, HR.out.len]; omega)] at this
        rw [HF.out, this]
      go_wp2
      go_ret
      exact ⟨by rw [HA.out]; rfl, HB2.out⟩

theorem isEpoch_any (n : Int) (a : Option Addr) (m c : Nat) (rs : List RecV) (w : World) (hm : m ≤ maxLen) (hr : RecRow w a m rs) :
    Calls Try.prog 73 #[.int .i64 n, .slice a m c] w fun e w' => e = .returned (.bool (Dk.frameOk n (recs rs))) ∧ Below w.heap.size w w' := by
  by_cases h : 0 ≤ n ∧ n < 200 ∧ m ≤ 64
  · exact isEpoch_good n a m c rs w h.1 h.2.1 h.2.2 hr
  · exact isEpoch_bad n a m c rs w hm hr (by omega)

end Go.Proofs.Ytccckonckddadaa
