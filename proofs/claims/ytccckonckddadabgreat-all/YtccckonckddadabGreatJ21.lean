import Derived.Test.YtccckonckddadabGreatJ19
import Derived.Test.YtccckonckddadabGreatJ03
import Derived.Test.YtccckonckddadabGreatJ20
import Derived.Test.YtccckonckddadabGreatJ06
import Derived.Test.YtccckonckddadabGreatJ16
import Derived.Laws.BitsAllLaws
namespace Go.Proofs.YtccckonckddadabGreat
open Go.RowKit
set_option linter.unusedVariables false

/-! ### sumOf -/
theorem sum_u32 (h : Nat) (b : UInt8) (hh : h < 4294967296) :
    IntKind.u32.wrap (bits BinOp.xor IntKind.u32 (h : Int) (b.toNat : Int) * 16777619) = (Dk.sumStep h b : Nat) := by
  have hb := b.toNat_lt
  rw [u32_xor_nat h b.toNat hh (by omega), IntKind.wrap_u32']
  unfold Dk.sumStep
  omega

set_option maxHeartbeats 1000000 in
theorem sumOf_any (s : ByteArray) (w : World) (hs : s.size ≤ maxLen) :
    Calls Tryz.prog 111 #[.string s] w fun e w' => e = .returned (.int .u32 (Dk.sumV s.data.toList)) ∧ w' = w := by
  unfold maxLen at hs
  go_enter Tryz.func111, Tryz.ntmps111
  go_wp2
  go_loop [3, 4] (fun h i => ∃ k : Nat, k ≤ s.size ∧ i = .int .i64 k ∧ h = .int .u32 (Dk.sumV (s.data.toList.take k))) (fun _ i => s.size - (intOf i).toNat)
  case atStart => exact ⟨0, Nat.zero_le _, rfl, by rw [List.take_zero, Dk.sumV_nil]; unfold Dk.sum0; rfl⟩
  case round =>
    obtain ⟨k, hk, rfl, rfl⟩ := hrel
    have hl := Dk.sumV_lt (s.data.toList.take k)
    by_cases hlt : k < s.size
    · have hb := byte_bd s[k]
      have HT : Hid (Dk.sumV (s.data.toList.take (k + 1)) = Dk.sumStep (Dk.sumV (s.data.toList.take k)) s[k]) := by
        show _ = _
        rw [take_snoc s k hlt, Dk.sumV_snoc]
      generalize Dk.sumV (s.data.toList.take k) = h at *
      go_wp2
      go_round
      case rel => exact ⟨k + 1, by omega, by go_num, by rw [HT.out, ← sum_u32 h s[k] hl]; rfl⟩
      case measure => simp [intOf]; omega
    · go_wp2
      go_ret
      exact ⟨by rw [take_all s k (by omega)]; rfl, rfl⟩

/-! ### writeNumber -/
set_option maxHeartbeats 1000000 in
theorem writeNumber_any (n : Nat) (size : Nat) (w : World) (hn : n < 4294967296) (hs : size ≤ 8) :
    Calls Tryz.prog 110 #[.int .u32 n, .int .i64 size] w fun e w' => ∃ b : ByteArray, e = .returned (.string b) ∧ b.data.toList = Dk.be n size ∧ b.size = size ∧ Below w.heap.size w w' := by
  go_enter Tryz.func110, Tryz.ntmps110
  go_wp2
  go_loopw [0, 5, 6] (fun m v i wr => ∃ (k q : Nat) (b : ByteArray), k ≤ size ∧ i = .int .i64 k ∧ m = .int .u32 q ∧ v = .string b ∧ q < 4294967296 ∧ Hid (Dk.be n size = Dk.be q (size - k) ++ b.data.toList ∧ b.size = k) ∧ Hid (Below w.heap.size w wr)) (fun _ _ i _ => size - (intOf i).toNat)
  case atStart => exact ⟨0, n, ⟨#[]⟩, Nat.zero_le _, rfl, rfl, rfl, hn, ⟨by simp, rfl⟩, Below.refl _ _⟩
  case round =>
    obtain ⟨k, q, b, hk, rfl, rfl, rfl, hq, HR, HB⟩ := hrel
    by_cases hlt : k < size
    · have hcv := conv_one
      have hbs := HR.out.2
      have hbm : b.size ≤ 8 := by omega
      have HS : Hid (b.size = k) := hbs
      have HBe : Hid (Dk.be n size = Dk.be (q / 256) (size - (k + 1)) ++ ((⟨#[UInt8.ofNat (q % 256)]⟩ : ByteArray) ++ b).data.toList) := by
        show _ = _
        rw [app_list, HR.out.1, show size - k = size - (k + 1) + 1 from by omega, be_front, List.append_assoc]
      have hq2 : q / 256 < 4294967296 := by omega
      clear hbs
      go_wp2
      go_roundw
      case rel => exact ⟨k + 1, q / 256, _, by omega, by go_num, by go_num, rfl, hq2, ⟨HBe.out, by rw [app_size, HS.out]; simp [ByteArray.size]; omega⟩, HB.out.alloc HB.out.size _⟩
      case measure => simp [intOf]; omega
    · go_wp2
      go_ret
      have hkk : k = size := by omega
      refine ⟨b, rfl, ?_, by rw [HR.out.2, hkk], HB.out⟩
      have := HR.out.1
      rw [show size - k = 0 from by omega] at this
      exact this.symm

/-! ### readNumber -/
theorem num_u32 (h : Nat) (b : UInt8) (hh : h < 16777216) :
    bits BinOp.or IntKind.u32 ((h * 256 : Nat) : Int) (b.toNat : Int) = (Dk.numStep h b : Nat) := by
  have hb := b.toNat_lt
  rw [u32_or_nat (h * 256) b.toNat (by omega) (by omega)]
  unfold Dk.numStep
  have : h * 256 ||| b.toNat = h * 256 + b.toNat := by
    have := Nat.shiftLeft_add_eq_or_of_lt (i := 8) (b := b.toNat) (by omega) h
    rw [Nat.shiftLeft_eq] at this
    exact this.symm
  rw [this]

theorem num_lt : ∀ (l : List UInt8) (k : Nat), l.length ≤ k → Dk.num l < 256 ^ k := by
  intro l
  induction h : l.length generalizing l with
  | zero =>
    intro k _
    have : l = [] := by simpa using h
    subst this
    rw [Dk.num_nil]
    exact Nat.pow_pos (by omega)
  | succ n ih =>
    intro k hk
    have hne : l ≠ [] := by intro h0; rw [h0] at h; simp at h
    have hd := List.dropLast_concat_getLast hne
    have hl : l.dropLast.length = n := by rw [List.length_dropLast, h]; omega
    obtain ⟨k, rfl⟩ : ∃ j, k = j + 1 := ⟨k - 1, by omega⟩
    have h1 := ih l.dropLast hl k (by omega)
    have h2 := (l.getLast hne).toNat_lt
    rw [← hd, Dk.num_snoc, Nat.pow_succ]
    omega

set_option maxHeartbeats 1000000 in
theorem readNumber_any (s : ByteArray) (w : World) (hs : s.size ≤ 4) :
    Calls Tryz.prog 122 #[.string s] w fun e w' => e = .returned (.int .u32 (Dk.num s.data.toList)) ∧ w' = w := by
  go_enter Tryz.func122, Tryz.ntmps122
  go_wp2
  go_loop [3, 4] (fun h i => ∃ k : Nat, k ≤ s.size ∧ i = .int .i64 k ∧ h = .int .u32 (Dk.num (s.data.toList.take k))) (fun _ i => s.size - (intOf i).toNat)
  case atStart => exact ⟨0, Nat.zero_le _, rfl, by rw [List.take_zero, Dk.num_nil]; rfl⟩
  case round =>
    obtain ⟨k, hk, rfl, rfl⟩ := hrel
    by_cases hlt : k < s.size
    · have hl := num_lt (s.data.toList.take k) 3 (by rw [List.length_take]; omega)
      have hb := byte_bd s[k]
      have HT : Hid (Dk.num (s.data.toList.take (k + 1)) = Dk.numStep (Dk.num (s.data.toList.take k)) s[k]) := by
        show _ = _
        rw [take_snoc s k hlt, Dk.num_snoc]; rfl
      generalize Dk.num (s.data.toList.take k) = h at *
      go_wp2
      go_round
      case rel => exact ⟨k + 1, by omega, by go_num, by rw [HT.out, ← num_u32 h s[k] hl]; rfl⟩
      case measure => simp [intOf]; omega
    · go_wp2
      go_ret
      exact ⟨by rw [take_all s k (by omega)]; rfl, rfl⟩

end Go.Proofs.YtccckonckddadabGreat
namespace Go.Proofs.YtccckonckddadabGreat
open Go.RowKit
set_option linter.unusedVariables false

/-! ### isRecord -/
set_option maxHeartbeats 1000000 in
theorem isRecord_any (c i : Int) (l : Bool) (t : ByteArray) (w : World) (ht : t.size ≤ maxLen) :
    Calls Tryz.prog 109 #[.agg #[.int .i64 c, .int .i64 i, .bool l, .string t]] w fun e w' => e = .returned (.bool (Dk.recOk (recOf c i l t))) ∧ Below w.heap.size w w' := by
  have HR : Hid (Dk.recOk (recOf c i l t) = ((if l then t.data.toList == [] else Dk.parseOk t.data.toList) && decide (0 ≤ c ∧ c < 8) && decide (0 ≤ i ∧ i ≤ 999999))) := rfl
  have HB : Hid (∀ o, Below w.heap.size w (w.alloc o)) := fun o => (Below.refl _ _).alloc (Nat.le_refl _) _
  by_cases hc : 0 ≤ c ∧ c < 8
  · obtain ⟨hc0, hc8⟩ := hc
    have HC : Hid (decide (0 ≤ c ∧ c < 8) = true) := decide_eq_true ⟨hc0, hc8⟩
    by_cases hi : 0 ≤ i ∧ i ≤ 999999
    · obtain ⟨hi0, hi9⟩ := hi
      have HI : Hid (decide (0 ≤ i ∧ i ≤ 999999) = true) := decide_eq_true ⟨hi0, hi9⟩
      cases l
      · have HR2 : Hid (Dk.recOk (recOf c i false t) = Dk.parseOk t.data.toList) := by
          show _ = _
          rw [HR.out, HC.out, HI.out]; simp
        go_enter Tryz.func109, Tryz.ntmps109
        go_wp2_with fail
        refine (parse_any t _ ht).mono ?_
        rintro e w1 ⟨b0, b1, b2, b3, b4, b5, b6, b7, a, n, cc, rfl, _, hb⟩
        have hb1 : Below w.heap.size w w1 := by
          first
          | exact (below_one hb).2
          | exact (below_two hb).2.2
        have HB1 : Hid _ := hb1
        clear hb hb1
        go_wp2
        go_ret
        exact ⟨by rw [HR2.out]; rfl, by first | exact HB1.out | exact HB1.out.alloc HB1.out.size _⟩
      · have HR2 : Hid (Dk.recOk (recOf c i true t) = t.toList.isEmpty) := by
          show _ = _
          rw [HR.out, HC.out, HI.out, bytes_toList]; cases t.data.toList <;> rfl
        go_enter Tryz.func109, Tryz.ntmps109
        go_wp2
        go_ret
        exact ⟨by rw [HR2.out]; rfl, HB.out _⟩
    · have HI : Hid (decide (0 ≤ i ∧ i ≤ 999999) = false) := decide_eq_false hi
      have hi' : i < 0 ∨ 999999 < i := by omega
      clear hi
      rcases hi' with hi' | hi'
      all_goals
        go_enter Tryz.func109, Tryz.ntmps109
        go_wp2
        go_ret
        exact ⟨by rw [HR.out, HI.out]; simp, HB.out _⟩
  · have HC : Hid (decide (0 ≤ c ∧ c < 8) = false) := decide_eq_false hc
    have hc' : c < 0 ∨ 8 ≤ c := by omega
    clear hc
    rcases hc' with hc' | hc'
    all_goals
      go_enter Tryz.func109, Tryz.ntmps109
      go_wp2
      go_ret
      exact ⟨by rw [HR.out, HC.out]; simp, HB.out _⟩

/-! ### isEpoch -/
theorem isEpoch_bad (n : Int) (a : Option Addr) (m c : Nat) (rs : List RecV) (w : World) (hm : m ≤ maxLen) (hr : RecRow w a m rs) (h : n < 0 ∨ 200 ≤ n ∨ (0 ≤ n ∧ n < 200 ∧ 64 < m)) :
    Calls Tryz.prog 88 #[.int .i64 n, .slice a m c] w fun e w' => e = .returned (.bool (Dk.frameOk n (recs rs))) ∧ Below w.heap.size w w' := by
  have HF : Hid (Dk.frameOk n (recs rs) = false) := by
    show _ = _
    unfold Dk.frameOk
    rcases h with h | h | h
    · rw [decide_eq_false (by omega)]; rfl
    · rw [decide_eq_false (by omega)]; rfl
    · have : (recs rs).length = m := by rw [recs, List.length_map, hr.len]
      rw [this, decide_eq_false (by omega : ¬ m ≤ 64)]; simp
  unfold maxLen at hm
  clear hr
  rcases h with h | h | ⟨h1, h2, h⟩
  all_goals
    go_enter Tryz.func88, Tryz.ntmps88
    go_wp2
    go_ret
    exact ⟨by rw [HF.out]; rfl, Below.refl _ _⟩

set_option maxHeartbeats 1000000 in
theorem isEpoch_good (n : Int) (a : Option Addr) (m c : Nat) (rs : List RecV) (w : World) (h0 : 0 ≤ n) (h2 : n < 200) (hm : m ≤ 64) (hr : RecRow w a m rs) :
    Calls Tryz.prog 88 #[.int .i64 n, .slice a m c] w fun e w' => e = .returned (.bool (Dk.frameOk n (recs rs))) ∧ Below w.heap.size w w' := by
  have HF : Hid (Dk.frameOk n (recs rs) = (recs rs).all Dk.recOk) := by
    show _ = _
    unfold Dk.frameOk
    rw [decide_eq_true ⟨h0, h2⟩, decide_eq_true (by rw [recs, List.length_map, hr.len]; exact hm)]; rfl
  have HR : Hid _ := hr
  clear hr
  go_enter Tryz.func88, Tryz.ntmps88
  go_wp2
  go_loopw [5] (fun i wr => ∃ (k : Nat), k ≤ m ∧ i = .int .i64 k ∧ Hid (((recs rs).take k).all Dk.recOk = true) ∧ Hid (Below w.heap.size w wr)) (fun i _ => m - (intOf i).toNat)
  case atStart => exact ⟨0, Nat.zero_le _, rfl, rfl, Below.refl _ _⟩
  case round =>
    obtain ⟨k, hk, rfl, HK, HB2⟩ := hrel
    by_cases hlt : k < m
    · obtain ⟨g, off, rfl, hg, hcell⟩ : ∃ g off, a = some ⟨g, off, none⟩ ∧ g < w.heap.size ∧ _ := (HR.out.cells).resolve_left (by omega)
      have hkr : k < rs.length := by rw [HR.out.len]; exact hlt
      obtain ⟨c1, c2, c3, c4⟩ := hcell k rs[k] (List.getElem?_eq_getElem hkr)
      have hts := HR.out.small rs[k] (List.getElem_mem hkr)
      have HRk : Hid ((recs rs)[k]? = some rs[k].told) := by show _ = _; simp [recs, hkr]
      clear hcell
      generalize rs[k] = r at *
      obtain ⟨rc, ri, rl, rt⟩ := r
      simp only at c1 c2 c3 c4 hts
      have e1 := (HB2.out.cell (p := ⟨g, off + k * 4, none⟩) hg).trans c1
      have e2 := (HB2.out.cell (p := ⟨g, off + k * 4 + 1, none⟩) hg).trans c2
      have e3 := (HB2.out.cell (p := ⟨g, off + k * 4 + 2, none⟩) hg).trans c3
      have e4 := (HB2.out.cell (p := ⟨g, off + k * 4 + 3, none⟩) hg).trans c4
      have hgr : g < wr.heap.size := Nat.lt_of_lt_of_le hg HB2.out.size
      clear c1 c2 c3 c4
      go_wp2_with fail
      refine (isRecord_any rc ri rl rt _ hts).mono ?_
      rintro e w3 ⟨rfl, hb3⟩
      have HB3 : Hid (Below w.heap.size w w3) := HB2.out.trans (hb3.mono HB2.out.size)
      clear hb3 e1 e2 e3 e4
      cases hok : Dk.recOk (recOf rc ri rl rt)
      · have HN : Hid (Dk.frameOk n (recs rs) = false) := by
          show _ = _
          rw [HF.out, List.all_eq_false]
          exact ⟨_, List.mem_of_getElem? HRk.out, by show ¬ Dk.recOk (recOf rc ri rl rt) = true; rw [hok]; simp⟩
        clear hok
        go_wp2
        go_ret
        exact ⟨by rw [HN.out]; rfl, HB3.out⟩
      · have HA : Hid (((recs rs).take (k + 1)).all Dk.recOk = true) := all_snoc HRk.out HK.out hok
        clear hok
        go_wp2
        go_roundw
        case rel => exact ⟨k + 1, by omega, by go_num, HA, HB3⟩
        case measure => simp [intOf]; omega
    · have HA : Hid (Dk.frameOk n (recs rs) = true) := by
        show _ = _
        have := HK.out
        rw [List.take_of_length_le (by rw [recs, List.length_map, HR.out.len]; omega)] at this
        rw [HF.out, this]
      go_wp2
      go_ret
      exact ⟨by rw [HA.out]; rfl, HB2.out⟩

theorem isEpoch_any (n : Int) (a : Option Addr) (m c : Nat) (rs : List RecV) (w : World) (hm : m ≤ maxLen) (hr : RecRow w a m rs) :
    Calls Tryz.prog 88 #[.int .i64 n, .slice a m c] w fun e w' => e = .returned (.bool (Dk.frameOk n (recs rs))) ∧ Below w.heap.size w w' := by
  by_cases h : 0 ≤ n ∧ n < 200 ∧ m ≤ 64
  · exact isEpoch_good n a m c rs w h.1 h.2.1 h.2.2 hr
  · exact isEpoch_bad n a m c rs w hm hr (by omega)

end Go.Proofs.YtccckonckddadabGreat
namespace Go.Proofs.YtccckonckddadabGreat
open Go.RowKit
set_option linter.unusedVariables false

theorem writeNumber_int (n : Int) (size : Nat) (w : World) (h0 : 0 ≤ n) (hn : n < 4294967296) (hs : size ≤ 8) :
    Calls Tryz.prog 110 #[.int .u32 n, .int .i64 size] w fun e w' => ∃ b : ByteArray, e = .returned (.string b) ∧ b.data.toList = Dk.be n.toNat size ∧ b.size = size ∧ Below w.heap.size w w' := by
  obtain ⟨m, rfl⟩ := Int.eq_ofNat_of_zero_le h0
  rw [Int.toNat_natCast]
  exact writeNumber_any m size w (by omega) hs
theorem writeNumber2 (n : Int) (w : World) (h0 : 0 ≤ n) (hn : n < 4294967296) :
    Calls Tryz.prog 110 #[.int .u32 n, .int .i64 2] w fun e w' => ∃ b : ByteArray, e = .returned (.string b) ∧ b.data.toList = Dk.be n.toNat 2 ∧ b.size = 2 ∧ Below w.heap.size w w' := writeNumber_int n 2 w h0 hn (by omega)
theorem writeNumber3 (n : Int) (w : World) (h0 : 0 ≤ n) (hn : n < 4294967296) :
    Calls Tryz.prog 110 #[.int .u32 n, .int .i64 3] w fun e w' => ∃ b : ByteArray, e = .returned (.string b) ∧ b.data.toList = Dk.be n.toNat 3 ∧ b.size = 3 ∧ Below w.heap.size w w' := writeNumber_int n 3 w h0 hn (by omega)
theorem writeNumber4 (n : Int) (w : World) (h0 : 0 ≤ n) (hn : n < 4294967296) :
    Calls Tryz.prog 110 #[.int .u32 n, .int .i64 4] w fun e w' => ∃ b : ByteArray, e = .returned (.string b) ∧ b.data.toList = Dk.be n.toNat 4 ∧ b.size = 4 ∧ Below w.heap.size w w' := writeNumber_int n 4 w h0 hn (by omega)

theorem conv_two (W : World) (x y : Int) : (convert 169 9 (.slice (some ⟨W.heap.size, 0, none⟩) 2 2)).run Tryz.prog (W.alloc (.cells #[.int .u8 x, .int .u8 y] 5)) =
    .ok (.string ⟨#[UInt8.ofNat x.toNat, UInt8.ofNat y.toNat]⟩) (W.alloc (.cells #[.int .u8 x, .int .u8 y] 5)) := by
  rw [run_convert_bytes_string _ 169 9 5 _ _ _ Tryz.underlying169 Tryz.underlying5 Tryz.underlying9]
  rw [run_bytesToString _ _ _ _ [x, y] (by simp [go_sem])]
  rfl

theorem conv_two' (W : World) (o : Obj) (x y : Int) : (convert 169 9 (.slice (some ⟨W.heap.size + 1, 0, none⟩) 2 2)).run Tryz.prog ((W.alloc o).alloc (.cells #[.int .u8 x, .int .u8 y] 5)) =
    .ok (.string ⟨#[UInt8.ofNat x.toNat, UInt8.ofNat y.toNat]⟩) ((W.alloc o).alloc (.cells #[.int .u8 x, .int .u8 y] 5)) := by
  have := conv_two (W.alloc o) x y
  rw [show (W.alloc o).heap.size = W.heap.size + 1 from by simp] at this
  exact this

/-! ### seal -/
theorem seal_any (p : ByteArray) (w : World) (hp : p.size ≤ 8000) :
    Calls Tryz.prog 89 #[.string p] w fun e w' => ∃ b : ByteArray, e = .returned (.string b) ∧ b.data.toList = Dk.sealV p.data.toList ∧ Below w.heap.size w w' := by
  have hw : IntKind.u32.wrap (p.size : Int) = p.size := by rw [IntKind.wrap_u32']; omega
  have hsl := Dk.sumV_lt p.data.toList
  go_enter Tryz.func89, Tryz.ntmps89
  go_wp2_with fail
  refine (writeNumber2 (p.size : Int) _ (by omega) (by omega)).mono ?_
  rintro e w1 ⟨b1, rfl, hb1, hs1, hB1⟩
  go_wp2_with fail
  refine (sumOf_any p _ (by unfold maxLen; omega)).mono ?_
  rintro e w2 ⟨rfl, rfl⟩
  generalize hsv : Dk.sumV p.data.toList = sv at *
  go_wp2_with fail
  refine (writeNumber4 (sv : Int) _ (by omega) (by omega)).mono ?_
  rintro e w3 ⟨b2, rfl, hb2, hs2, hB2⟩
  have y1 : ¬ 9223372036854775807 < b1.size + p.size := (by omega)
  have y2 : ¬ 9223372036854775807 < b1.size + p.size + b2.size := (by omega)
  have HB : Hid (Below w.heap.size w w3) := hB1.trans (hB2.mono hB1.size)
  have HD : Hid (_ ∧ _ ∧ _) := ⟨hb1, hb2, hsv⟩
  clear hb1 hb2 hB1 hB2 hsv
  go_wp2
  go_ret
  refine ⟨b1 ++ p ++ b2, rfl, ?_, HB.out⟩
  rw [app_list, app_list, HD.out.1, HD.out.2.1]
  unfold Dk.sealV
  rw [HD.out.2.2, len_list]
  simp only [Int.toNat_natCast]

/-! ### writeRecord -/
set_option maxRecDepth 100000 in
set_option maxHeartbeats 1000000 in
theorem writeRecord_any (c i : Int) (l : Bool) (t : ByteArray) (w : World) (hok : Dk.recOk (recOf c i l t) = true) :
    Calls Tryz.prog 112 #[.agg #[.int .i64 c, .int .i64 i, .bool l, .string t]] w fun e w' => ∃ b : ByteArray, e = .returned (.string b) ∧ b.data.toList = Dk.recBytes (recOf c i l t) ∧ b.size = 6 + t.size ∧ Below w.heap.size w w' := by
  obtain ⟨q0, q1, q2, q3, q4⟩ := rec_parts hok
  clear hok
  have hw1 : IntKind.u32.wrap i = i := by rw [IntKind.wrap_u32']; omega
  have hcv := conv_one
  have hcw := conv_two'
  have HL : Hid (Dk.recBytes (recOf c i l t) = [Dk.b8 c.toNat] ++ Dk.be i.toNat 3 ++ [Dk.b8 (if l then 1 else 0), Dk.b8 t.size] ++ t.data.toList) := by
    show _ = _
    rw [← len_list]; rfl
  have HC : Hid (Dk.b8 c.toNat = UInt8.ofNat c.toNat) := by
    show _ = _
    unfold Dk.b8
    rw [Nat.mod_eq_of_lt (by omega)]
  have HT : Hid (Dk.b8 t.size = UInt8.ofNat t.size) := by
    show _ = _
    unfold Dk.b8
    rw [Nat.mod_eq_of_lt (by omega)]
  go_enter Tryz.func112, Tryz.ntmps112
  go_wp2_with fail
  refine (writeNumber3 i _ q2 (by omega)).mono ?_
  rintro e w1 ⟨d, rfl, hd, hds, hb⟩
  obtain ⟨g0, hb1⟩ := below_one hb
  obtain ⟨c0, f0, z0⟩ := heap_cells g0
  have HB : Hid (Below w.heap.size w w1) := hb1
  have HD : Hid _ := hd
  clear hb hb1 g0 hd
  cases l
  all_goals
    go_wp2
    go_ret
    refine ⟨_, rfl, ?_, ?_, (HB.out.alloc HB.out.size _).alloc (by simp; have := HB.out.size; omega) _⟩
    · rw [app_list, app_list, app_list, HD.out, HL.out, HC.out, HT.out]
      rfl
    · rw [app_size, app_size, app_size, hds]
      show 1 + 3 + 2 + t.size = _
      omega

/-! ### writePayload -/
set_option maxHeartbeats 1000000 in
theorem writePayload_any (n : Int) (a : Option Addr) (m c : Nat) (rs : List RecV) (w : World) (h0 : 0 ≤ n) (h2 : n < 200) (hm : m ≤ 64) (hr : RecRow w a m rs) (ha : (recs rs).all Dk.recOk = true) :
    Calls Tryz.prog 90 #[.int .i64 n, .slice a m c] w fun e w' => ∃ b : ByteArray, e = .returned (.string b) ∧ b.data.toList = Dk.payload n.toNat (recs rs) ∧ b.size ≤ 8000 ∧ Below w.heap.size w w' := by
  have HR : Hid _ := hr
  have HA : Hid _ := ha
  have HP : Hid (Dk.payload n.toNat (recs rs) = Dk.b8 n.toNat :: Dk.b8 m :: (recs rs).flatMap Dk.recBytes) := by
    show _ = _
    rw [Dk.payload_eq, recs, List.length_map, hr.len]
  clear hr ha
  have hcw := conv_two
  have hw1 : IntKind.u8.wrap n = n := by rw [IntKind.wrap_u8']; omega
  have hw2 : IntKind.u8.wrap (m : Int) = m := by rw [IntKind.wrap_u8']; omega
  go_enter Tryz.func90, Tryz.ntmps90
  go_wp2
  go_loopw [5, 6] (fun p i wr => ∃ (k : Nat) (b : ByteArray), k ≤ m ∧ i = .int .i64 k ∧ p = .string b ∧ b.size ≤ 2 + 66 * k ∧ Hid (b.data.toList = Dk.b8 n.toNat :: Dk.b8 m :: ((recs rs).take k).flatMap Dk.recBytes) ∧ Hid (Below w.heap.size w wr)) (fun _ i _ => m - (intOf i).toNat)
  case atStart =>
    refine ⟨0, _, Nat.zero_le _, rfl, rfl, Nat.le_refl _, ?_, (Below.refl _ _).alloc (Nat.le_refl _) _⟩
    show [_, _] = [_, _]
    unfold Dk.b8
    rw [Nat.mod_eq_of_lt (by omega), Nat.mod_eq_of_lt (by omega)]
  case round =>
    obtain ⟨k, b, hk, rfl, rfl, hbs, HK, HB2⟩ := hrel
    by_cases hlt : k < m
    · obtain ⟨g, off, rfl, hg, hcell⟩ : ∃ g off, a = some ⟨g, off, none⟩ ∧ g < w.heap.size ∧ _ := (HR.out.cells).resolve_left (by omega)
      have hkr : k < rs.length := by rw [HR.out.len]; exact hlt
      obtain ⟨c1, c2, c3, c4⟩ := hcell k rs[k] (List.getElem?_eq_getElem hkr)
      have HRk : Hid ((recs rs)[k]? = some rs[k].told) := by show _ = _; simp [recs, hkr]
      clear hcell
      generalize rs[k] = r at *
      obtain ⟨rc, ri, rl, rt⟩ := r
      simp only at c1 c2 c3 c4
      have hok : Dk.recOk (recOf rc ri rl rt) = true := List.all_eq_true.1 HA.out _ (List.mem_of_getElem? HRk.out)
      have hq4 := (rec_parts hok).2.2.2.2
      have e1 := (HB2.out.cell (p := ⟨g, off + k * 4, none⟩) hg).trans c1
      have e2 := (HB2.out.cell (p := ⟨g, off + k * 4 + 1, none⟩) hg).trans c2
      have e3 := (HB2.out.cell (p := ⟨g, off + k * 4 + 2, none⟩) hg).trans c3
      have e4 := (HB2.out.cell (p := ⟨g, off + k * 4 + 3, none⟩) hg).trans c4
      have hgr : g < wr.heap.size := Nat.lt_of_lt_of_le hg HB2.out.size
      have HOk : Hid _ := hok
      clear c1 c2 c3 c4 hok
      go_wp2_with fail
      refine (writeRecord_any rc ri rl rt _ HOk.out).mono ?_
      rintro e w3 ⟨d, rfl, hd, hds, hb3⟩
      have HB3 : Hid (Below w.heap.size w w3) := HB2.out.trans (hb3.mono HB2.out.size)
      have y1 : ¬ 9223372036854775807 < b.size + d.size := (by omega)
      have HS : Hid ((b ++ d).size ≤ 2 + 66 * (k + 1)) := by show _ ≤ _; rw [app_size]; omega
      have HL : Hid ((b ++ d).data.toList = Dk.b8 n.toNat :: Dk.b8 m :: ((recs rs).take (k + 1)).flatMap Dk.recBytes) := by
        show _ = _
        rw [flat_snoc _ _ _ HRk.out, app_list, HK.out, hd]
        rfl
      clear hb3 e1 e2 e3 e4 hd hds
      go_wp2
      go_roundw
      case rel => exact ⟨k + 1, _, by omega, by go_num, rfl, HS.out, HL, HB3⟩
      case measure => simp [intOf]; omega
    · go_wp2
      go_ret
      refine ⟨b, rfl, ?_, by omega, HB2.out⟩
      have := HK.out
      rw [List.take_of_length_le (by rw [recs, List.length_map, HR.out.len]; omega)] at this
      rw [this, HP.out]

/-! ### Write, Frame -/
def WritePost (n : Int) (rs : List Dk.Rec) (w : World) (e : Ending) (w' : World) : Prop :=
  ∃ b : ByteArray, e = .returned (.tuple #[.string b, .bool (Dk.frameOk n rs)]) ∧ b.data.toList = (if Dk.frameOk n rs then Dk.epoch n.toNat rs else []) ∧ Below w.heap.size w w'

theorem write_any (n : Int) (a : Option Addr) (m c : Nat) (rs : List RecV) (w : World) (hm : m ≤ maxLen) (hr : RecRow w a m rs) :
    Calls Tryz.prog 53 #[.int .i64 n, .slice a m c] w (WritePost n (recs rs) w) := by
  have HR : Hid _ := hr
  clear hr
  go_enter Tryz.func53, Tryz.ntmps53
  go_wp2_with fail
  refine (isEpoch_any n a m c rs _ hm HR.out).mono ?_
  rintro e w1 ⟨rfl, hb1⟩
  cases hf : Dk.frameOk n (recs rs)
  · have HF : Hid _ := hf
    have HB : Hid _ := hb1
    clear hf hb1
    go_wp2
    go_ret2
    exact ⟨⟨#[]⟩, by rw [HF.out]; rfl, by rw [HF.out]; rfl, HB.out⟩
  · obtain ⟨f1, f2, f3, f4⟩ := Dk.frame_parts hf
    have HF : Hid _ := hf
    have HB : Hid _ := hb1
    have HR2 : Hid _ := HR.out.kept hb1
    have hm2 : m ≤ 64 := by rw [recs, List.length_map, HR.out.len] at f3; exact f3
    clear hf hb1
    go_wp2_with fail
    refine (writePayload_any n a m c rs _ f1 f2 hm2 HR2.out f4).mono ?_
    rintro e w2 ⟨p, rfl, hp, hps, hb2⟩
    have HB2 : Hid (Below w.heap.size w w2) := HB.out.trans (hb2.mono HB.out.size)
    have HP : Hid _ := hp
    clear hp hb2
    go_wp2_with fail
    refine (seal_any p _ hps).mono ?_
    rintro e w3 ⟨b, rfl, hbl, hb3⟩
    have HB3 : Hid (Below w.heap.size w w3) := HB2.out.trans (hb3.mono HB2.out.size)
    have HBl : Hid _ := hbl
    clear hbl hb3
    go_wp2
    go_ret2
    exact ⟨b, by rw [HF.out]; rfl, by rw [HF.out, HBl.out, HP.out]; rfl, HB3.out⟩

theorem pframe_any (n : Int) (a : Option Addr) (m c : Nat) (rs : List RecV) (w : World) (hm : m ≤ maxLen) (hr : RecRow w a m rs) :
    Calls Tryz.prog 21 #[.int .i64 n, .slice a m c] w (FrameRPost n (recs rs) w) := by
  have HR : Hid _ := hr
  clear hr
  go_enter Tryz.func21, Tryz.ntmps21
  go_wp2_with fail
  refine (write_any n a m c rs _ hm HR.out).mono ?_
  rintro e w1 ⟨b, rfl, hbl, hb⟩
  cases hf : Dk.frameOk n (recs rs)
  · rw [hf] at hbl
    have HF : Hid _ := hf
    have HB : Hid _ := hb
    clear hf hb
    go_wp2
    go_ret2
    exact ⟨⟨#[]⟩, by rw [HF.out]; rfl, by rw [HF.out]; rfl, HB.out⟩
  · rw [hf] at hbl
    have HF : Hid _ := hf
    have HB : Hid (_ ∧ _) := ⟨hb, hbl⟩
    clear hf hb hbl
    go_wp2
    go_ret2
    exact ⟨b, by rw [HF.out]; rfl, by rw [HF.out, HB.out.2]; rfl, HB.out.1⟩

end Go.Proofs.YtccckonckddadabGreat
