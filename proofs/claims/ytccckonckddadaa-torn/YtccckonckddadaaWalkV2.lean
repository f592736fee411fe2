import Derived.Test.YtccckonckddadaaWalkV1
namespace Go.Proofs.Ytccckonckddadaa
open Go.RowKit
set_option linter.unusedVariables false

/-- Lists of raw records in a row. -/
structure EpochsRow (w : World) (a : Option Addr) (m : Nat) : Prop where
  len : m ≤ maxLen
  cells : m = 0 ∨ ∃ g off, a = some ⟨g, off, none⟩ ∧ g < w.heap.size ∧ ∀ k, k < m → ∃ ak nk ck, w.cell? ⟨g, off + k, none⟩ = some (.slice ak nk ck) ∧ RawRow w ak nk

def endsCells (es : List (List Dk.Rec)) : List Value := (List.range es.length).map fun i => .int .i64 ((Dk.logFrom 0 (es.take (i + 1))).length : Nat)
theorem ends_at {es : List (List Dk.Rec)} {i : Nat} (h : i < es.length) : (endsCells es)[i]? = some (.int .i64 ((Dk.logFrom 0 (es.take (i + 1))).length : Nat)) := by
  unfold endsCells
  rw [List.getElem?_map, List.getElem?_range h]; rfl
theorem ends_snoc (es : List (List Dk.Rec)) (rs : List Dk.Rec) : endsCells (es ++ [rs]) = endsCells es ++ [.int .i64 ((Dk.logFrom 0 (es ++ [rs])).length : Nat)] := by
  unfold endsCells
  rw [List.length_append, List.length_singleton, List.range_succ, List.map_append]
  congr 1
  · apply List.map_congr_left
    intro i hi
    rw [List.mem_range] at hi
    rw [List.take_append_of_le_length (by omega)]
  · rw [List.map_singleton, List.take_of_length_le (by simp)]
theorem ends_one (es : List (List Dk.Rec)) : ∀ v ∈ endsCells es, v.oneCell' = true := by
  intro v hv
  unfold endsCells at hv
  obtain ⟨i, _, rfl⟩ := List.mem_map.1 hv
  rfl

structure TornAt (w wr : World) (a : Option Addr) (n c : Nat) (es : List (List Dk.Rec)) (lg : List UInt8) : Prop where
  snd : Dk.Sound 0 es
  log : lg = Dk.logFrom 0 es
  own : wr.ownsRow w.heap.size 3 1 (.slice a n c) n (endsCells es)
  len : es.length = n
  bel : Below w.heap.size w wr

theorem sound_snoc {es : List (List Dk.Rec)} {rs : List Dk.Rec} (h : Dk.Sound 0 es) (hf : Dk.frameOk (es.length : Int) rs = true) : Dk.Sound 0 (es ++ [rs]) := by
  intro i x hx
  by_cases hi : i < es.length
  · rw [List.getElem?_append_left hi] at hx
    exact h i x hx
  · rw [List.getElem?_append_right (by omega)] at hx
    have hi0 : i - es.length = 0 := by
      have := (List.getElem?_eq_some_iff.1 hx).1
      simp at this
      omega
    rw [hi0] at hx
    have : rs = x := by simpa using hx
    subst this
    rw [Nat.zero_add, show i = es.length from by omega]
    exact hf

theorem TornAt.step {w wr w2 : World} {a a' : Option Addr} {n c c' : Nat} {es : List (List Dk.Rec)} {lg s : List UInt8} {rs : List Dk.Rec} (h : TornAt w wr a n c es lg) (hf : Dk.frameOk (n : Int) rs = true) (hs : s = Dk.epoch n rs) (hB : Below w.heap.size w w2)
    (hown : w2.ownsRow w.heap.size 3 1 (.slice a' (n + 1) c') (n + 1) (endsCells es ++ [.int .i64 ((lg ++ s).length : Nat)])) : TornAt w w2 a' (n + 1) c' (es ++ [rs]) (lg ++ s) := by
  have hl : lg ++ s = Dk.logFrom 0 (es ++ [rs]) := by rw [h.log, hs, Dk.logFrom_snoc, h.len, Nat.zero_add]
  refine ⟨sound_snoc h.snd (by rw [h.len]; exact hf), hl, ?_, by simp [h.len], hB⟩
  rw [ends_snoc, ← hl]
  exact hown

theorem ends_cell {w : World} {B n c : Nat} {a : Option Addr} {es : List (List Dk.Rec)} (h : w.ownsRow B 3 1 (.slice a n c) n (endsCells es)) (hn : es.length = n) {i : Nat} (hi : i < n) :
    ∃ g, a = some ⟨g, 0, none⟩ ∧ g < w.heap.size ∧ w.cell? ⟨g, i, none⟩ = some (.int .i64 ((Dk.logFrom 0 (es.take (i + 1))).length : Nat)) := by
  rcases h.2 with ⟨_, h0⟩ | ⟨g, cap, cur, hv, _, hg, _, _, hcs, ht⟩
  · omega
  · obtain ⟨rfl, _⟩ : a = some ⟨g, 0, none⟩ ∧ c = cap := by simpa using hv
    refine ⟨g, rfl, (heap_cells hg).2.2, ?_⟩
    rw [(heap_cells hg).1, ← ends_at (by omega), ← ht, ← Array.getElem?_toList, List.getElem?_take_of_lt (by omega)]

theorem info_int : (Try.prog.info? 3).map (fun i => (i.zero, i.size, i.bytes)) = some (some (.int .i64 0), 1, 8) := by kernel_rfl

theorem log_take (es : List (List Dk.Rec)) (k : Nat) : (Dk.logFrom 0 (es.take k)).length ≤ (Dk.logFrom 0 es).length := by
  have h : Dk.logFrom 0 es = Dk.logFrom 0 (es.take k ++ es.drop k) := by rw [List.take_append_drop]
  rw [h, Dk.logFrom_append, List.length_append]; omega

theorem scan_is (s : ByteArray) (x y : Int) (w : World) (hs : s.size ≤ maxLen) (h1 : ((Dk.scanV s.data.toList).1 : Int) = x) (h2 : ((Dk.scanV s.data.toList).2 : Int) = y) :
    Calls Try.prog 23 #[.string s] w fun e w' => e = .returned (.tuple #[.int .i64 x, .int .i64 y]) ∧ Below w.heap.size w w' := by
  rw [← h1, ← h2]
  exact pscan_any s w hs

set_option maxRecDepth 100000 in
set_option maxHeartbeats 4000000 in
theorem torn_walk (a : Option Addr) (m c : Nat) (cut : Int) (tail : ByteArray) (w : World) (hrow : EpochsRow w a m) (hc0 : -9223372036854775808 ≤ cut) (hc1 : cut < 9223372036854775808) (ht : tail.size ≤ 140737488355328) :
    Calls Try.prog 8 #[.slice a m c, .int .i64 cut, .string tail] w fun e w' => e = .returned (.bool true) ∧ Below w.heap.size w w' := by
  obtain ⟨ti, hi, hz0, hz1, hz2⟩ := info_parts info_int
  have HI : Hid (_ ∧ _ ∧ _ ∧ _) := ⟨hi, hz0, hz1, hz2⟩
  clear hi hz0 hz1 hz2
  have HR : Hid _ := hrow
  have hmM : (m : Int) ≤ 9223372036854775807 := by have := hrow.len; unfold maxLen at this; omega
  clear hrow
  go_enter Try.func8, Try.ntmps8
  go_wp2
  go_loopw [7, 8, 11, 12] (fun v7 v8 v11 v12 wr => ∃ (aE : Option Addr) (n cE : Nat) (es : List (List Dk.Rec)) (lg : ByteArray), v7 = .string lg ∧ v8 = .int .i64 n ∧ v11 = .slice aE n cE ∧ v12 = .int .i64 n ∧ n ≤ m ∧ n ≤ 200 ∧ lg.size ≤ 4232 * n ∧ Hid (TornAt w wr aE n cE es lg.data.toList)) (fun _ _ _ v12 _ => 200 - (intOf v12).toNat)
  case atStart => exact ⟨none, 0, 0, [], ⟨#[]⟩, rfl, rfl, rfl, rfl, by omega, by omega, by decide, ⟨(fun i rs hi => by simp at hi), rfl, World.ownsRow_nil _ _ _ _, rfl, Below.refl _ _⟩⟩
  case round =>
    obtain ⟨aE, n, cE, es, lg, rfl, rfl, rfl, rfl, hnm, hn2, hls, HT⟩ := hrel
    by_cases hlt : n < m ∧ n < 200
    · obtain ⟨hnm', hn2'⟩ := hlt
      have i1 : (n : Int) < (m : Int) := by omega
      have i2 : (n : Int) < 200 := by omega
      have i0 : (0 : Int) ≤ (n : Int) := by omega
      obtain ⟨g, off, rfl, hg, hcell⟩ : ∃ g off, a = some ⟨g, off, none⟩ ∧ g < w.heap.size ∧ _ := (HR.out.cells).resolve_left (by omega)
      obtain ⟨ak, nk, ck, d0, hraw⟩ := hcell n hnm'
      have e0 := (HT.out.bel.cell (p := ⟨g, off + n, none⟩) hg).trans d0
      have hgr : g < wr.heap.size := Nat.lt_of_lt_of_le hg HT.out.bel.size
      have HRaw : Hid (RawRow wr ak nk) := hraw.kept HT.out.bel
      clear hcell d0 hraw
      go_wp2_with fail
      refine (records_any ak nk ck _ HRaw.out).mono ?_
      rintro e w3 ⟨aR, mR, cR, rs, rfl, hmR, hRow, hOk, hB3⟩
      have HRow : Hid _ := hRow
      have hB3' : Below w.heap.size w w3 := HT.out.bel.trans (hB3.mono HT.out.bel.size)
      have HB3 : Hid (Below wr.heap.size wr w3) := hB3
      have HF : Hid (Dk.frameOk (n : Int) (recs rs) = true) := by
        show _ = _
        unfold Dk.frameOk
        rw [decide_eq_true ⟨i0, i2⟩, decide_eq_true (by rw [recs, List.length_map, hRow.len]; exact hmR), hOk]; rfl
      have HB3' : Hid _ := hB3'
      clear hRow hOk hB3 hB3' e0 HRaw
      go_wp2_with fail
      refine (pframe_any (n : Int) aR mR cR rs _ (by unfold maxLen; omega) HRow.out).mono ?_
      rintro e w4 ⟨s, rfl, hs, hB4⟩
      rewrite [HF.out]
      rw [HF.out] at hs
      have HS : Hid (s.data.toList = Dk.epoch n (recs rs)) := hs
      have hss : s.size ≤ 4232 := by
        have := epoch_small HF.out
        have h2 := congrArg List.length HS.out
        rw [len_list] at h2
        rw [Int.toNat_natCast] at this
        omega
      have HB4 : Hid (Below wr.heap.size wr w4) := HB3.out.trans (hB4.mono HB3.out.size)
      have HRow4 : Hid (RecRow w4 aR mR rs) := HRow.out.kept hB4
      clear hs hB4 HRow HB3
      have hwant : Hid ((s.size : Int) = 8 + (((recs rs).flatMap Dk.recBytes).length : Nat)) := by
        show _ = _
        have h2 := congrArg List.length HS.out
        rw [len_list, epoch_len] at h2
        omega
      have hrl : rs.length = mR := HRow4.out.len
      go_wp2
      go_loop [16, 17] (fun v i => ∃ k : Nat, k ≤ mR ∧ v = .int .i64 ((8 + (((recs rs).take k).flatMap Dk.recBytes).length : Nat) : Int) ∧ i = .int .i64 k ∧ (((recs rs).take k).flatMap Dk.recBytes).length ≤ 66 * k) (fun _ i => mR - (intOf i).toNat)
      case atStart => exact ⟨0, Nat.zero_le _, rfl, rfl, by simp⟩
      case round =>
        obtain ⟨k, hk, rfl, rfl, hle⟩ := hrel
        by_cases hkl : k < mR
        · obtain ⟨g2, off2, rfl, hg2, hcell2⟩ : ∃ g off, aR = some ⟨g, off, none⟩ ∧ g < w4.heap.size ∧ _ := (HRow4.out.cells).resolve_left (by omega)
          have hkr : k < rs.length := by omega
          obtain ⟨_, _, _, d3⟩ := hcell2 k rs[k] (List.getElem?_eq_getElem hkr)
          have HRk : Hid ((recs rs)[k]? = some rs[k].told) := by show _ = _; simp [recs, hkr]
          have htx : rs[k].t.size ≤ 60 := by
            have h1 := (Dk.frame_parts HF.out).2.2.2
            have h2 := List.all_eq_true.1 h1 _ (List.mem_of_getElem? HRk.out)
            exact (rec_parts h2).2.2.2.2
          have HE : Hid ((((recs rs).take (k + 1)).flatMap Dk.recBytes).length = (((recs rs).take k).flatMap Dk.recBytes).length + (6 + rs[k].t.size)) := by
            show _ = _
            rw [flat_snoc _ _ _ HRk.out, List.length_append, Dk.recBytes_len]
            show _ + (6 + rs[k].t.data.toList.length) = _
            rw [len_list]
          clear hcell2
          generalize rs[k].t = tx at *
          generalize (((recs rs).take k).flatMap Dk.recBytes).length = L at *
          have hkI : (k : Int) < (mR : Int) := by omega
          clear HRk
          go_wp2
          go_round
          case rel => exact ⟨k + 1, by omega, by rw [HE.out]; congr 1; omega, by go_num, by rw [HE.out]; omega⟩
          case measure => simp [intOf]; omega
        · have hkm : k = mR := by omega
          have hw2 : ((8 + (((recs rs).take k).flatMap Dk.recBytes).length : Nat) : Int) = (s.size : Int) := by
            rw [List.take_of_length_le (by rw [recs, List.length_map]; omega)]
            have := hwant.out
            omega
          rewrite [hw2]
          have HO : Hid (w4.ownsRow w.heap.size 3 1 (.slice aE n cE) n (endsCells es)) := own_below HT.out.own HB4.out
          have HBw : Hid (Below w.heap.size w w4) := HT.out.bel.trans (HB4.out.mono HT.out.bel.size)
          have hzw : w.heap.size ≤ w4.heap.size := HBw.out.size
          have hkI : ¬ (k : Int) < (mR : Int) := by omega
          have y1 : ¬ 9223372036854775807 < lg.size + s.size := by omega
          clear hw2 hle hwant
          go_wp2_with (at_builtin; refine wpList_append_own _ rfl (.tmp 77) (.tmp 80) 43 rfl w.heap.size 3 ti (.int .i64 0) 1 8 Try.underlying43 HI.out.1 HI.out.2.1 HI.out.2.2.1 HI.out.2.2.2 rfl (by decide) (.slice aE n cE) n (endsCells es) rfl (HO.out.alloc _) ⟨w4.heap.size, 0, none⟩ 1 1 [.int .i64 ((lg.size : Int) + (s.size : Int))] rfl rfl ?c1 ?c2 ?c3 ?c4 ?c5 ?_)
          try (case c1 => exact cells_new _ _ rfl [.int .i64 ((lg.size : Int) + (s.size : Int))] _)
          try (case c2 => rfl)
          case c3 => unfold maxLen; omega
          case c4 => omega
          case c5 => first | omega | (simp; omega)
          intro v' w5 hown hgr2 _
          have HW : Hid (Below w.heap.size w w5) := (HBw.out.alloc hzw _).grown hgr2 (by simp; omega) (fun k hk => (HO.out.lt k hk).1)
          obtain ⟨a2, c2, rfl⟩ : ∃ a' c', v' = .slice a' (n + 1) c' := by
            rcases hown.2 with ⟨_, h⟩ | ⟨g, cap, _, h, _⟩
            · omega
            · exact ⟨_, _, h⟩
          have HN : Hid (TornAt w w5 a2 (n + 1) c2 (es ++ [recs rs]) (lg ++ s).data.toList) := by
            show TornAt _ _ _ _ _ _ _
            rw [app_list]
            refine HT.out.step HF.out HS.out HW.out ?_
            rw [List.length_append, len_list, len_list]
            exact hown
          have hls2 : (lg ++ s).size ≤ 4232 * (n + 1) := by rw [app_size]; omega
          clear hown hgr2
          go_wp2
          go_roundw
          case rel => exact ⟨a2, n + 1, c2, _, lg ++ s, rfl, by go_num, rfl, by go_num, by omega, by omega, hls2, HN⟩
          case measure => simp [intOf]; omega
    · have HE : Hid (n = m ∨ n = 200) := by show _ ∨ _; omega
      have HT1 : Hid ((0 : Int) < (lg.size : Int) + 1) := by show _ < _; omega
      have HT2 : Hid ((lg.size : Int) + 1 < 4611686018427387904) := by show _ < _; omega
      have hl9 : (lg.size : Int) ≤ 846400 := by omega
      have HL : Hid (lg.size ≤ 846400 ∧ n ≤ 200) := ⟨by omega, hn2⟩
      have hcase : ((n : Int) < (m : Int) ∧ (200 : Int) ≤ (n : Int) ∧ decide ((n : Int) < 200) = false) ∨ (n = m ∧ decide ((m : Int) < (m : Int)) = false) := by
        by_cases hnm' : n < m
        · exact .inl ⟨by omega, by omega, decide_eq_false (by omega)⟩
        · exact .inr ⟨by omega, decide_eq_false (by omega)⟩
      obtain ⟨f, hf⟩ : ∃ f : Nat → Nat, ∀ k, f k = (Dk.logFrom 0 (es.take k)).length := ⟨_, fun _ => rfl⟩
      have HF : Hid _ := hf
      have hf0 : f 0 = 0 := by rw [hf]; rfl
      have hb0 : Hid (f 0 = 0) := hf0
      clear hlt hn2 hnm hls hf hf0
      rcases hcase with ⟨i1, i2, i3⟩ | ⟨rfl, i3⟩
      all_goals
        go_wp2_with fail
        refine (pick_any cut ((lg.size : Int) + 1) _ hc0 hc1 HT1.out HT2.out).mono ?_
        rintro e w3 ⟨r, rfl, hr0, hr1, rfl⟩
        go_wp2
        go_loop [9, 10, 19] (fun v9 v10 v19 => ∃ i k : Nat, i ≤ n ∧ k ≤ i ∧ v9 = .int .i64 (k : Int) ∧ v10 = .int .i64 (f k : Int) ∧ v19 = .int .i64 (i : Int) ∧ Hid ((f k : Int) ≤ r ∧ ∀ j, k < j → j ≤ i → r < (f j : Int))) (fun _ _ v19 => n - (intOf v19).toNat)
        case atStart => exact ⟨0, 0, Nat.zero_le _, Nat.le_refl _, rfl, by rw [hb0.out]; rfl, rfl, ⟨by rw [hb0.out]; exact hr0, fun j h1 h2 => by omega⟩⟩
        case round =>
          obtain ⟨i, k, hin, hki, rfl, rfl, rfl, HK⟩ := hrel
          by_cases hil : i < n
          · obtain ⟨g3, rfl, hg3, d0⟩ := ends_cell HT.out.own HT.out.len hil
            rw [← HF.out (i + 1)] at d0
            have hiI : (i : Int) < (n : Int) := by omega
            have hi0 : (0 : Int) ≤ (i : Int) := by omega
            by_cases hle : (f (i + 1) : Int) ≤ r
            · go_wp2
              go_round
              case rel => exact ⟨i + 1, i + 1, by omega, Nat.le_refl _, by go_num, rfl, by go_num, ⟨hle, fun j h1 h2 => by omega⟩⟩
              case measure => simp [intOf]; omega
            · have hle' : r < (f (i + 1) : Int) := by omega
              go_wp2
              go_round
              case rel =>
                refine ⟨i + 1, k, by omega, by omega, rfl, rfl, by go_num, ⟨HK.out.1, fun j h1 h2 => ?_⟩⟩
                by_cases hj : j = i + 1
                · rw [hj]; exact hle'
                · exact HK.out.2 j h1 (by omega)
              case measure => simp [intOf]; omega
          · obtain rfl : i = n := by omega
            have hel := HT.out.len
            have hlz : (Dk.logFrom 0 es).length = lg.size := by rw [← HT.out.log, len_list]
            have hrn : (r.toNat : Int) = r := Int.toNat_of_nonneg hr0
            have hrl : r ≤ (lg.size : Int) := by omega
            have S0 : Dk.scanV (⟨#[0, 2, 0, 0, 17, 118, 151, 205]⟩ : ByteArray).data.toList = (1, 8) := Dk.scan_empty
            have S1 : Dk.scanV lg.data.toList = (i, lg.size) := by
              have h := Dk.scan_log [] HT.out.snd (by rw [hel]; exact HL.out.2) (Dk.read_nil _)
              rw [List.append_nil, hel, hlz] at h
              rw [HT.out.log]; exact h
            have S2 : Dk.scanV (lg.extract 0 r.toNat).data.toList = (k, f k) := by
              have h := Dk.scan_front HT.out.snd (by rw [hel]; exact HL.out.2) (at' := r.toNat) (k := k) (by omega)
                (by rw [← HF.out k]; have := HK.out.1; omega) (fun hlt => by rw [← HF.out (k + 1)]; have := HK.out.2 (k + 1) (by omega) (by omega); omega)
              rw [ext_list, List.drop_zero, HT.out.log, HF.out k]
              exact h
            have S3 : Dk.scanV (lg ++ (⟨#[0, 0]⟩ : ByteArray) ++ tail).data.toList = (i, lg.size) := by
              have h := Dk.scan_log (0 :: 0 :: tail.data.toList) HT.out.snd (by rw [hel]; exact HL.out.2) (Dk.read_zeros _ _)
              rw [hel, hlz] at h
              rw [app_list, app_list, HT.out.log, List.append_assoc]
              exact h
            have HS0 : Hid _ := S0
            have HS1 : Hid _ := S1
            have HS2 : Hid _ := S2
            have HBt : Hid (Below w.heap.size w w3) := HT.out.bel
            have hb9 := HL.out.1
            have y1 : ¬ 9223372036854775807 < lg.size + (⟨#[0, 0]⟩ : ByteArray).size := by show ¬ 9223372036854775807 < lg.size + 2; omega
            have y2 : ¬ 9223372036854775807 < lg.size + (⟨#[0, 0]⟩ : ByteArray).size + tail.size := by show ¬ 9223372036854775807 < lg.size + 2 + tail.size; omega
            have hii : decide ((i : Int) < (i : Int)) = false := decide_eq_false (by omega)
            have hz3 : (lg ++ (⟨#[0, 0]⟩ : ByteArray) ++ tail).size ≤ maxLen := by
              rw [app_size, app_size]
              have h2 : (⟨#[0, 0]⟩ : ByteArray).size = 2 := rfl
              rw [h2]
              unfold maxLen
              omega
            have HC3 : Hid (∀ W, Calls Try.prog 23 #[.string (lg ++ (⟨#[0, 0]⟩ : ByteArray) ++ tail)] W fun e w' => e = .returned (.tuple #[.int .i64 (i : Int), .int .i64 (lg.size : Int)]) ∧ Below W.heap.size W w') :=
              fun W => scan_is _ (i : Int) (lg.size : Int) W hz3 (by rw [S3]) (by rw [S3])
            clear hz3
            clear S0 S1 S2 S3 hel hlz HT HK hrn
            go_wp2_with fail
            refine (scan_is ⟨#[0, 2, 0, 0, 17, 118, 151, 205]⟩ 1 8 _ (by unfold maxLen; decide) (by rw [HS0.out]; rfl) (by rw [HS0.out]; rfl)).mono ?_
            rintro e w4 ⟨rfl, hB4⟩
            have HB4 : Hid (Below w.heap.size w w4) := HBt.out.trans (hB4.mono HBt.out.size)
            clear hB4 HBt
            go_wp2_with fail
            refine (scan_is lg (i : Int) (lg.size : Int) _ (by unfold maxLen; omega) (by rw [HS1.out]) (by rw [HS1.out])).mono ?_
            rintro e w5 ⟨rfl, hB5⟩
            have HB5 : Hid (Below w.heap.size w w5) := HB4.out.trans (hB5.mono HB4.out.size)
            clear hB5 HB4
            go_wp2_with fail
            refine (scan_is (lg.extract 0 r.toNat) (k : Int) (f k : Int) _ (by rw [ByteArray.size_extract]; unfold maxLen; omega) (by rw [HS2.out]) (by rw [HS2.out])).mono ?_
            rintro e w6 ⟨rfl, hB6⟩
            have HB6 : Hid (Below w.heap.size w w6) := HB5.out.trans (hB6.mono HB5.out.size)
            clear hB6 HB5
            go_wp2_with fail
            refine Calls.mono (HC3.out w6) ?_
            rintro e w7 ⟨rfl, hB7⟩
            have HB7 : Hid (Below w.heap.size w w7) := HB6.out.trans (hB7.mono HB6.out.size)
            clear hB7 HB6
            go_wp2
            go_ret
            exact ⟨rfl, HB7.out⟩

end Go.Proofs.Ytccckonckddadaa
