import Derived.Test.YtccckonckddadaaWalkT1
import Derived.Test.YtccckonckddadaaWalkS2
import Derived.Test.YtccckonckddadaaWalkI
namespace Go.Proofs.Ytccckonckddadaa
open Go.RowKit
set_option linter.unusedVariables false

/-! ### isRecord -/
set_option maxHeartbeats 1000000 in
theorem isRecord_any (c i : Int) (l : Bool) (t : ByteArray) (w : World) (ht : t.size ≤ maxLen) :
    Calls Try.prog 99 #[.agg #[.int .i64 c, .int .i64 i, .bool l, .string t]] w fun e w' => e = .returned (.bool (Dk.recOk (recOf c i l t))) ∧ Below w.heap.size w w' := by
  have HR : Hid (Dk.recOk (recOf c i l t) = ((if l then t.data.toList == [] else Dk.parseOk t.data.toList) && decide (0 ≤ c ∧ c < 8) && decide (0 ≤ i ∧ i ≤ 999999))) := rfl
  have HB : Hid (∀ o, Below w.heap.size w (w.alloc o)) := fun o => (Below.refl _ _).alloc (Nat.le_refl _) _
  by_cases hc : 0 ≤ c ∧ c < 8
  · obtain ⟨hc0, hc8⟩ := hc
    have HC : Hid (decide (0 ≤ c ∧ c < 8) = true) := decide_eq_true ⟨hc0, hc8⟩
    by_cases hi : 0 ≤ i ∧ i ≤ 999999
    · obtain ⟨hi0, hi9⟩ := hi
      have HI : Hid (decide (0 ≤ i ∧ i ≤ 999999) = true) := decide_eq_true ⟨hi0, hi9⟩
      cases l
      · have HR2 : Hid (Dk.recOk (recOf c i false t) = Dk.parseOk t.data.toList) := by
          show _ = _
          rw [HR.out, HC.out, HI.out]; simp
        go_enter Try.func99, Try.ntmps99
        go_wp2_with fail
        refine (parse_any t _ ht).mono ?_
        rintro e w1 ⟨b0, b1, b2, b3, b4, b5, b6, b7, a, n, cc, rfl, _, hb⟩
        have hb1 : Below w.heap.size w w1 := by
          first
          | exact (below_one hb).2
          | exact (below_two hb).2.2
        have HB1 : Hid _ := hb1
        clear hb hb1
        go_wp2
        go_ret
        exact ⟨by rw [HR2.out]; rfl, by first | exact HB1.out | exact HB1.out.alloc HB1.out.size _⟩
      · have HR2 : Hid (Dk.recOk (recOf c i true t) = t.toList.isEmpty) := by
          show _ = _
          rw [HR.out, HC.out, HI.out, bytes_toList]; cases t.data.toList <;> rfl
        go_enter Try.func99, Try.ntmps99
        go_wp2
        go_ret
        exact ⟨by rw [HR2.out]; rfl, HB.out _⟩
    · have HI : Hid (decide (0 ≤ i ∧ i ≤ 999999) = false) := decide_eq_false hi
      have hi' : i < 0 ∨ 999999 < i := by omega
      clear hi
      rcases hi' with hi' | hi'
      all_goals
        go_enter Try.func99, Try.ntmps99
        go_wp2
        go_ret
        exact ⟨by rw [HR.out, HI.out]; simp, HB.out _⟩
  · have HC : Hid (decide (0 ≤ c ∧ c < 8) = false) := decide_eq_false hc
    have hc' : c < 0 ∨ 8 ≤ c := by omega
    clear hc
    rcases hc' with hc' | hc'
    all_goals
      go_enter Try.func99, Try.ntmps99
      go_wp2
      go_ret
      exact ⟨by rw [HR.out, HC.out]; simp, HB.out _⟩

/-! ### isEpoch -/
theorem isEpoch_bad (n : Int) (a : Option Addr) (m c : Nat) (rs : List RecV) (w : World) (hm : m ≤ maxLen) (hr : RecRow w a m rs) (h : n < 0 ∨ 200 ≤ n ∨ (0 ≤ n ∧ n < 200 ∧ 64 < m)) :
    Calls Try.prog 73 #[.int .i64 n, .slice a m c] w fun e w' => e = .returned (.bool (Dk.frameOk n (recs rs))) ∧ Below w.heap.size w w' := by
  have HF : Hid (Dk.frameOk n (recs rs) = false) := by
    show _ = _
    unfold Dk.frameOk
    rcases h with h | h | h
    · rw [decide_eq_false (by omega)]; rfl
    · rw [decide_eq_false (by omega)]; rfl
    · have : (recs rs).length = m := by rw [recs, List.length_map, hr.len]
      rw [this, decide_eq_false (by omega : ¬ m ≤ 64)]; simp
  unfold maxLen at hm
  clear hr
  rcases h with h | h | ⟨h1, h2, h⟩
  all_goals
    go_enter Try.func73, Try.ntmps73
    go_wp2
    go_ret
    exact ⟨by rw [HF.out]; rfl, Below.refl _ _⟩

set_option maxHeartbeats 1000000 in
theorem isEpoch_good (n : Int) (a : Option Addr) (m c : Nat) (rs : List RecV) (w : World) (h0 : 0 ≤ n) (h2 : n < 200) (hm : m ≤ 64) (hr : RecRow w a m rs) :
    Calls Try.prog 73 #[.int .i64 n, .slice a m c] w fun e w' => e = .returned (.bool (Dk.frameOk n (recs rs))) ∧ Below w.heap.size w w' := by
  have HF : Hid (Dk.frameOk n (recs rs) = (recs rs).all Dk.recOk) := by
    show _ = _
    unfold Dk.frameOk
    rw [decide_eq_true ⟨h0, h2⟩, decide_eq_true (by rw [recs, List.length_map, hr.len]; exact hm)]; rfl
  have HR : Hid _ := hr
  clear hr
  go_enter Try.func73, Try.ntmps73
  go_wp2
  go_loopw [5] (fun i wr => ∃ (k : Nat), k ≤ m ∧ i = .int .i64 k ∧ Hid (((recs rs).take k).all Dk.recOk = true) ∧ Hid (Below w.heap.size w wr)) (fun i _ => m - (intOf i).toNat)
  case atStart => exact ⟨0, Nat.zero_le _, rfl, rfl, Below.refl _ _⟩
  case round =>
    obtain ⟨k, hk, rfl, HK, HB2⟩ := hrel
    by_cases hlt : k < m
    · obtain ⟨g, off, rfl, hg, hcell⟩ : ∃ g off, a = some ⟨g, off, none⟩ ∧ g < w.heap.size ∧ _ := (HR.out.cells).resolve_left (by omega)
      have hkr : k < rs.length := by rw [HR.out.len]; exact hlt
      obtain ⟨c1, c2, c3, c4⟩ := hcell k rs[k] (List.getElem?_eq_getElem hkr)
      have hts := HR.out.small rs[k] (List.getElem_mem hkr)
      have HRk : Hid ((recs rs)[k]? = some rs[k].told) := by show _ = _; simp [recs, hkr]
      clear hcell
      generalize rs[k] = r at *
      obtain ⟨rc, ri, rl, rt⟩ := r
      simp only at c1 c2 c3 c4 hts
      have e1 := (HB2.out.cell (p := ⟨g, off + k * 4, none⟩) hg).trans c1
      have e2 := (HB2.out.cell (p := ⟨g, off + k * 4 + 1, none⟩) hg).trans c2
      have e3 := (HB2.out.cell (p := ⟨g, off + k * 4 + 2, none⟩) hg).trans c3
      have e4 := (HB2.out.cell (p := ⟨g, off + k * 4 + 3, none⟩) hg).trans c4
      have hgr : g < wr.heap.size := Nat.lt_of_lt_of_le hg HB2.out.size
      clear c1 c2 c3 c4
      go_wp2_with fail
      refine (isRecord_any rc ri rl rt _ hts).mono ?_
      rintro e w3 ⟨rfl, hb3⟩
      have HB3 : Hid (Below w.heap.size w w3) := HB2.out.trans (hb3.mono HB2.out.size)
      clear hb3 e1 e2 e3 e4
      cases hok : Dk.recOk (recOf rc ri rl rt)
      · have HN : Hid (Dk.frameOk n (recs rs) = false) := by
          show _ = _
          rw [HF.out, List.all_eq_false]
          exact ⟨_, List.mem_of_getElem? HRk.out, by show ¬ Dk.recOk (recOf rc ri rl rt) = true; rw [hok]; simp⟩
        clear hok
        go_wp2
        go_ret
        exact ⟨by rw [HN.out]; rfl, HB3.out⟩
      · have HA : Hid (((recs rs).take (k + 1)).all Dk.recOk = true) := all_snoc HRk.out HK.out hok
        clear hok
        go_wp2
        go_roundw
        case rel => exact ⟨k + 1, by omega, by go_num, HA, HB3⟩
        case measure => simp [intOf]; omega
    · have HA : Hid (Dk.frameOk n (recs rs) = true) := by
        show _ = _
        have := HK.out
        rw [List.take_of_length_le (by rw [recs, List.length_map, HR.out.len]; omega)] at this
        rw [HF.out, this]
      go_wp2
      go_ret
      exact ⟨by rw [HA.out]; rfl, HB2.out⟩

theorem isEpoch_any (n : Int) (a : Option Addr) (m c : Nat) (rs : List RecV) (w : World) (hm : m ≤ maxLen) (hr : RecRow w a m rs) :
    Calls Try.prog 73 #[.int .i64 n, .slice a m c] w fun e w' => e = .returned (.bool (Dk.frameOk n (recs rs))) ∧ Below w.heap.size w w' := by
  by_cases h : 0 ≤ n ∧ n < 200 ∧ m ≤ 64
  · exact isEpoch_good n a m c rs w h.1 h.2.1 h.2.2 hr
  · exact isEpoch_bad n a m c rs w hm hr (by omega)

end Go.Proofs.Ytccckonckddadaa
