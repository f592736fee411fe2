import Derived.Test.YtccckonckddadabGreatJ19
namespace Go.Proofs.YtccckonckddadabGreat
open Go.RowKit
set_option linter.unusedVariables false

theorem bytes_int (n : Int) (size : Nat) (w : World) (h0 : 0 ≤ n) (hn : n < 4611686018427387904) (hs : size ≤ 8) :
    Calls Tryz.prog 54 #[.int .i64 n, .int .i64 size] w fun e w' => ∃ b : ByteArray, e = .returned (.string b) ∧ b.data.toList = Dk.be n.toNat size ∧ b.size = size ∧ Below w.heap.size w w' := by
  obtain ⟨m, rfl⟩ := Int.eq_ofNat_of_zero_le h0
  refine (bytes_any m size w (by omega) hs).mono ?_
  rintro e w' ⟨b, rfl, hb, hB⟩
  refine ⟨b, rfl, by rw [hb]; simp, ?_, hB⟩
  have := congrArg List.length hb
  rw [Dk.be_len] at this
  exact this
theorem bytes1 (n : Int) (w : World) (h0 : 0 ≤ n) (hn : n < 4611686018427387904) :
    Calls Tryz.prog 54 #[.int .i64 n, .int .i64 1] w fun e w' => ∃ b : ByteArray, e = .returned (.string b) ∧ b.data.toList = Dk.be n.toNat 1 ∧ b.size = 1 ∧ Below w.heap.size w w' := bytes_int n 1 w h0 hn (by omega)
theorem bytes2 (n : Int) (w : World) (h0 : 0 ≤ n) (hn : n < 4611686018427387904) :
    Calls Tryz.prog 54 #[.int .i64 n, .int .i64 2] w fun e w' => ∃ b : ByteArray, e = .returned (.string b) ∧ b.data.toList = Dk.be n.toNat 2 ∧ b.size = 2 ∧ Below w.heap.size w w' := bytes_int n 2 w h0 hn (by omega)
theorem bytes3 (n : Int) (w : World) (h0 : 0 ≤ n) (hn : n < 4611686018427387904) :
    Calls Tryz.prog 54 #[.int .i64 n, .int .i64 3] w fun e w' => ∃ b : ByteArray, e = .returned (.string b) ∧ b.data.toList = Dk.be n.toNat 3 ∧ b.size = 3 ∧ Below w.heap.size w w' := bytes_int n 3 w h0 hn (by omega)
theorem bytes4 (n : Int) (w : World) (h0 : 0 ≤ n) (hn : n < 4611686018427387904) :
    Calls Tryz.prog 54 #[.int .i64 n, .int .i64 4] w fun e w' => ∃ b : ByteArray, e = .returned (.string b) ∧ b.data.toList = Dk.be n.toNat 4 ∧ b.size = 4 ∧ Below w.heap.size w w' := bytes_int n 4 w h0 hn (by omega)

/-- A record in memory. -/
structure RecV where
  c : Int
  i : Int
  l : Bool
  t : ByteArray

def RecV.told (r : RecV) : Dk.Rec := recOf r.c r.i r.l r.t
def recs (rs : List RecV) : List Dk.Rec := rs.map RecV.told

/-- Records in a row. -/
structure RecRow (w : World) (a : Option Addr) (n : Nat) (rs : List RecV) : Prop where
  len : rs.length = n
  small : ∀ r ∈ rs, r.t.size ≤ maxLen
  cells : n = 0 ∨ ∃ g off, a = some ⟨g, off, none⟩ ∧ g < w.heap.size ∧ ∀ (k : Nat) (r : RecV), rs[k]? = some r →
    w.cell? ⟨g, off + k * 4, none⟩ = some (.int .i64 r.c) ∧ w.cell? ⟨g, off + k * 4 + 1, none⟩ = some (.int .i64 r.i) ∧ w.cell? ⟨g, off + k * 4 + 2, none⟩ = some (.bool r.l) ∧ w.cell? ⟨g, off + k * 4 + 3, none⟩ = some (.string r.t)

theorem RecRow.kept {w W : World} {a : Option Addr} {n : Nat} {rs : List RecV} (h : RecRow w a n rs) (hb : Below w.heap.size w W) : RecRow W a n rs := by
  refine ⟨h.len, h.small, ?_⟩
  rcases h.cells with h0 | ⟨g, off, rfl, hg, hc⟩
  · exact .inl h0
  · refine .inr ⟨g, off, rfl, Nat.lt_of_lt_of_le hg hb.size, fun k r hr => ?_⟩
    obtain ⟨c1, c2, c3, c4⟩ := hc k r hr
    exact ⟨(hb.cell (p := ⟨g, _, none⟩) hg).trans c1, (hb.cell (p := ⟨g, _, none⟩) hg).trans c2, (hb.cell (p := ⟨g, _, none⟩) hg).trans c3, (hb.cell (p := ⟨g, _, none⟩) hg).trans c4⟩

def FrameRPost (n : Int) (rs : List Dk.Rec) (w : World) (e : Ending) (w' : World) : Prop :=
  ∃ b : ByteArray, e = .returned (.tuple #[.string b, .int .i64 (if Dk.frameOk n rs then 0 else 2)]) ∧ b.data.toList = (if Dk.frameOk n rs then Dk.epoch n.toNat rs else []) ∧ Below w.heap.size w w'

theorem doS_call' {wr W W' : World} (hb : Below W.heap.size W W') (h : Below wr.heap.size wr W ∧ (∀ b x, b < wr.heap.size → W.cell? ⟨b, x, none⟩ = wr.cell? ⟨b, x, none⟩)) :
    Below wr.heap.size wr W' ∧ (∀ b x, b < wr.heap.size → W'.cell? ⟨b, x, none⟩ = wr.cell? ⟨b, x, none⟩) := doS_of (h.1.trans (hb.mono h.1.size))

theorem doS_b1 {wr W1 : World} (h1 : Below wr.drew.heap.size wr.drew W1) : Below wr.heap.size wr W1 ∧ (∀ b x, b < wr.heap.size → W1.cell? ⟨b, x, none⟩ = wr.cell? ⟨b, x, none⟩) := doS_2 h1
theorem doS_b2 {wr W1 W2 : World} (h2 : Below W1.heap.size W1 W2) (h1 : Below wr.drew.heap.size wr.drew W1) : Below wr.heap.size wr W2 ∧ (∀ b x, b < wr.heap.size → W2.cell? ⟨b, x, none⟩ = wr.cell? ⟨b, x, none⟩) := doS_call' h2 (doS_b1 h1)
theorem doS_b3 {wr W1 W2 W3 : World} (h3 : Below W2.heap.size W2 W3) (h2 : Below W1.heap.size W1 W2) (h1 : Below wr.drew.heap.size wr.drew W1) : Below wr.heap.size wr W3 ∧ (∀ b x, b < wr.heap.size → W3.cell? ⟨b, x, none⟩ = wr.cell? ⟨b, x, none⟩) := doS_call' h3 (doS_b2 h2 h1)
theorem doS_b4 {wr W1 W2 W3 W4 : World} (h4 : Below W3.heap.size W3 W4) (h3 : Below W2.heap.size W2 W3) (h2 : Below W1.heap.size W1 W2) (h1 : Below wr.drew.heap.size wr.drew W1) : Below wr.heap.size wr W4 ∧ (∀ b x, b < wr.heap.size → W4.cell? ⟨b, x, none⟩ = wr.cell? ⟨b, x, none⟩) := doS_call' h4 (doS_b3 h3 h2 h1)

theorem frame_bad (n : Int) (a : Option Addr) (m c : Nat) (rs : List RecV) (w : World) (hm : m ≤ maxLen) (hr : RecRow w a m rs) (h : n < 0 ∨ 200 ≤ n ∨ (0 ≤ n ∧ n < 200 ∧ 64 < m)) :
    Calls Tryz.prog 22 #[.int .i64 n, .slice a m c] w (FrameRPost n (recs rs) w) := by
  have HF : Hid (Dk.frameOk n (recs rs) = false) := by
    show _ = _
    unfold Dk.frameOk
    rcases h with h | h | h
    · rw [decide_eq_false (by omega)]; rfl
    · rw [decide_eq_false (by omega)]; rfl
    · have : (recs rs).length = m := by rw [recs, List.length_map, hr.len]
      rw [this, decide_eq_false (by omega : ¬ m ≤ 64)]; simp
  unfold maxLen at hm
  clear hr
  rcases h with h | h | ⟨h1, h2, h⟩
  all_goals
    go_enter Tryz.func22, Tryz.ntmps22
    go_wp2
    go_ret2
    exact ⟨⟨#[]⟩, by rw [HF.out]; rfl, by rw [HF.out]; rfl, Below.refl _ _⟩

theorem flat_snoc (rs : List Dk.Rec) (k : Nat) (r : Dk.Rec) (h : rs[k]? = some r) : (rs.take (k + 1)).flatMap Dk.recBytes = (rs.take k).flatMap Dk.recBytes ++ Dk.recBytes r := by
  obtain ⟨hk, rfl⟩ := List.getElem?_eq_some_iff.1 h
  rw [List.take_succ_eq_append_getElem hk, List.flatMap_append]
  simp

theorem rec_parts {c i : Int} {l : Bool} {t : ByteArray} (h : Dk.recOk (recOf c i l t) = true) : 0 ≤ c ∧ c < 8 ∧ 0 ≤ i ∧ i ≤ 999999 ∧ t.size ≤ 60 := by
  have h' : ((if l then t.data.toList == [] else Dk.parseOk t.data.toList) && decide (0 ≤ c ∧ c < 8) && decide (0 ≤ i ∧ i ≤ 999999)) = true := h
  rw [Bool.and_eq_true, Bool.and_eq_true, decide_eq_true_eq, decide_eq_true_eq] at h'
  obtain ⟨⟨h1, h2⟩, h3⟩ := h'
  refine ⟨h2.1, h2.2, h3.1, h3.2, ?_⟩
  cases l
  · have h4 : Dk.parseOk t.data.toList = true := h1
    unfold Dk.parseOk at h4
    rw [Bool.and_eq_true, Bool.and_eq_true, Bool.and_eq_true, decide_eq_true_eq] at h4
    exact h4.1.1.1
  · have h4 : (t.data.toList == []) = true := h1
    have h5 : t.size = 0 := congrArg List.length (eq_of_beq h4)
    omega

theorem all_snoc {rs : List Dk.Rec} {k : Nat} {r : Dk.Rec} (h : rs[k]? = some r) (ha : (rs.take k).all Dk.recOk = true) (hr : Dk.recOk r = true) : (rs.take (k + 1)).all Dk.recOk = true := by
  obtain ⟨hk, rfl⟩ := List.getElem?_eq_some_iff.1 h
  rw [List.take_succ_eq_append_getElem hk, List.all_append, ha]
  simp [hr]

set_option maxHeartbeats 2000000 in
theorem frame_good (n : Int) (a : Option Addr) (m c : Nat) (rs : List RecV) (w : World) (h0 : 0 ≤ n) (h2 : n < 200) (hm : m ≤ 64) (hr : RecRow w a m rs) :
    Calls Tryz.prog 22 #[.int .i64 n, .slice a m c] w (FrameRPost n (recs rs) w) := by
  have HF : Hid (Dk.frameOk n (recs rs) = (recs rs).all Dk.recOk) := by
    show _ = _
    unfold Dk.frameOk
    rw [decide_eq_true ⟨h0, h2⟩, decide_eq_true (by rw [recs, List.length_map, hr.len]; exact hm)]; rfl
  have HR : Hid _ := hr
  clear hr
  go_enter Tryz.func22, Tryz.ntmps22
  go_wp2_with fail
  refine (bytes1 n _ h0 (by omega)).mono ?_
  rintro e w1 ⟨b1, rfl, hb1, hs1, hB1⟩
  go_wp2_with fail
  refine (bytes1 (m : Int) _ (by omega) (by omega)).mono ?_
  rintro e w2 ⟨b2, rfl, hb2, hs2, hB2⟩
  have HB : Hid (Below w.heap.size w w2) := hB1.trans (hB2.mono hB1.size)
  have HP : Hid (_ ∧ _) := ⟨hb1, hb2⟩
  clear hb1 hb2 hB1 hB2
  go_wp2
  go_loopw [6, 7] (fun p i wr => ∃ (k : Nat) (b : ByteArray), k ≤ m ∧ i = .int .i64 k ∧ p = .string b ∧ b.size ≤ 2 + 66 * k ∧ Hid (b.data.toList = Dk.be n.toNat 1 ++ Dk.be m 1 ++ ((recs rs).take k).flatMap Dk.recBytes ∧ ((recs rs).take k).all Dk.recOk = true) ∧ Hid (Below w.heap.size w wr)) (fun _ i _ => m - (intOf i).toNat)
  case atStart =>
    refine ⟨0, _, Nat.zero_le _, rfl, rfl, by rw [app_size, hs1, hs2]; omega, ⟨?_, rfl⟩, HB.out⟩
    rw [app_list, HP.out.1, HP.out.2]; simp
  case round =>
    obtain ⟨k, b, hk, rfl, rfl, hbs, HK, HB2⟩ := hrel
    clear HP hs1 hs2
    by_cases hlt : k < m
    · obtain ⟨g, off, rfl, hg, hcell⟩ : ∃ g off, a = some ⟨g, off, none⟩ ∧ g < w.heap.size ∧ _ := (HR.out.cells).resolve_left (by omega)
      have hkr : k < rs.length := by rw [HR.out.len]; exact hlt
      obtain ⟨c1, c2, c3, c4⟩ := hcell k rs[k] (List.getElem?_eq_getElem hkr)
      have hts := HR.out.small rs[k] (List.getElem_mem hkr)
      have HRk : Hid ((recs rs)[k]? = some rs[k].told) := by show _ = _; simp [recs, hkr]
      clear hcell
      generalize rs[k] = r at *
      obtain ⟨rc, ri, rl, rt⟩ := r
      simp only at c1 c2 c3 c4 hts
      have e1 := (HB2.out.cell (p := ⟨g, off + k * 4, none⟩) hg).trans c1
      have e2 := (HB2.out.cell (p := ⟨g, off + k * 4 + 1, none⟩) hg).trans c2
      have e3 := (HB2.out.cell (p := ⟨g, off + k * 4 + 2, none⟩) hg).trans c3
      have e4 := (HB2.out.cell (p := ⟨g, off + k * 4 + 3, none⟩) hg).trans c4
      have hgr : g < wr.heap.size := Nat.lt_of_lt_of_le hg HB2.out.size
      clear c1 c2 c3 c4
      go_wp2_with fail
      refine (sound_any rc ri rl rt _ hts).mono ?_
      rintro e w3 ⟨rfl, hb3⟩
      have a1 := (hb3.cell (p := ⟨g, off + k * 4, none⟩) hgr).trans e1
      have a2 := (hb3.cell (p := ⟨g, off + k * 4 + 1, none⟩) hgr).trans e2
      have a3 := (hb3.cell (p := ⟨g, off + k * 4 + 2, none⟩) hgr).trans e3
      have a4 := (hb3.cell (p := ⟨g, off + k * 4 + 3, none⟩) hgr).trans e4
      have hg3 : g < w3.heap.size := Nat.lt_of_lt_of_le hgr hb3.size
      have HB3 : Hid (Below w.heap.size w w3) := HB2.out.trans (hb3.mono HB2.out.size)
      clear hb3 e1 e2 e3 e4
      cases hok : Dk.recOk (recOf rc ri rl rt)
      · have HN : Hid (Dk.frameOk n (recs rs) = false) := by
          show _ = _
          rw [HF.out, List.all_eq_false]
          exact ⟨_, List.mem_of_getElem? HRk.out, by show ¬ Dk.recOk (recOf rc ri rl rt) = true; rw [hok]; simp⟩
        clear hok
        go_wp2
        go_ret2
        exact ⟨⟨#[]⟩, by rw [HN.out]; rfl, by rw [HN.out]; rfl, HB3.out⟩
      · have hrec := rec_parts hok
        have HOk : Hid _ := hok
        clear hok
        obtain ⟨q0, q1, q2, q3, q4⟩ := hrec
        cases rl
        · go_wp2
          go_region_held3 (fun W => Below w3.heap.size w3 W ∧ (∀ b x, b < w3.heap.size → W.cell? ⟨b, x, none⟩ = w3.cell? ⟨b, x, none⟩))
            (first | (with_reducible exact doS_0) | (with_reducible exact doS_b1 hB1) | (with_reducible exact doS_b2 hB2 hB1) | (with_reducible exact doS_b3 hB3 hB2 hB1) | (with_reducible exact doS_b4 hB4 hB3 hB2 hB1))
            (first | (go_at_call_of 54 (Value.int IntKind.i64 rc); refine (bytes1 _ _ ?_ ?_).mono ?_; exact q0; omega; rintro e w4 ⟨d1, rfl, hd1, ht1, hB1⟩; have x1 : ¬ 9223372036854775807 < b.size + d1.size := (by omega); have D1 : Hid (_ ∧ _) := ⟨hd1, ht1⟩; clear hd1 ht1) | (go_at_call_of 54 (Value.int IntKind.i64 ri); refine (bytes3 _ _ ?_ ?_).mono ?_; exact q2; omega; rintro e w5 ⟨d2, rfl, hd2, ht2, hB2⟩; have x2 : ¬ 9223372036854775807 < b.size + d1.size + d2.size := (by have := D1.out.2; omega); have D2 : Hid (_ ∧ _) := ⟨hd2, ht2⟩; clear hd2 ht2) | (go_at_call_of 54 (Value.int IntKind.i64 (rt.size : Int)); refine (bytes1 _ _ ?_ ?_).mono ?_; omega; omega; rintro e w7 ⟨d4, rfl, hd4, ht4, hB4⟩; have x4 : ¬ 9223372036854775807 < b.size + d1.size + d2.size + d3.size + d4.size := (by have := D1.out.2; have := D2.out.2; have := D3.out.2; omega); have x5 : ¬ 9223372036854775807 < b.size + d1.size + d2.size + d3.size + d4.size + rt.size := (by have := D1.out.2; have := D2.out.2; have := D3.out.2; omega); have D4 : Hid (_ ∧ _) := ⟨hd4, ht4⟩; clear hd4 ht4) | (go_at_call_of 54 (Value.int IntKind.i64 0); refine (bytes1 _ _ ?_ ?_).mono ?_; omega; omega; rintro e w6 ⟨d3, rfl, hd3, ht3, hB3⟩; have x3 : ¬ 9223372036854775807 < b.size + d1.size + d2.size + d3.size := (by have := D1.out.2; have := D2.out.2; omega); have D3 : Hid (_ ∧ _) := ⟨hd3, ht3⟩; clear hd3 ht3))
          have HB4 : Hid (Below w.heap.size w w7) := HB3.out.trans ((doS_b4 hB4 hB3 hB2 hB1).1.mono HB3.out.size)
          have HL : Hid ((b ++ d1 ++ d2 ++ d3 ++ d4 ++ rt).data.toList = Dk.be n.toNat 1 ++ Dk.be m 1 ++ ((recs rs).take (k + 1)).flatMap Dk.recBytes) := by
            show _ = _
            rw [flat_snoc _ _ _ HRk.out, app_list, app_list, app_list, app_list, app_list, HK.out.1, D1.out.1, D2.out.1, D3.out.1, D4.out.1]
            show _ = _ ++ (_ ++ (Dk.be rc.toNat 1 ++ Dk.be ri.toNat 3 ++ Dk.be 0 1 ++ Dk.be rt.data.toList.length 1 ++ rt.data.toList))
            rw [len_list]
            simp only [List.append_assoc, Int.toNat_natCast]
            rfl
          have HS : Hid ((b ++ d1 ++ d2 ++ d3 ++ d4 ++ rt).size ≤ 2 + 66 * (k + 1)) := by
            show _ ≤ _
            rw [app_size, app_size, app_size, app_size, app_size]
            have := D1.out.2
            have := D2.out.2
            have := D3.out.2
            have := D4.out.2
            omega
          have HA : Hid (((recs rs).take (k + 1)).all Dk.recOk = true) := all_snoc HRk.out HK.out.2 HOk.out
          clear hB1 hB2 hB3 hB4 x1 x2 x3 x4 x5
          go_wp2
          go_roundw
          case rel => exact ⟨k + 1, _, by omega, by go_num, rfl, HS.out, ⟨HL.out, HA.out⟩, HB4.out⟩
          case measure => simp [intOf]; omega
        · go_wp2
          go_region_held3 (fun W => Below w3.heap.size w3 W ∧ (∀ b x, b < w3.heap.size → W.cell? ⟨b, x, none⟩ = w3.cell? ⟨b, x, none⟩))
            (first | (with_reducible exact doS_0) | (with_reducible exact doS_b1 hB1) | (with_reducible exact doS_b2 hB2 hB1) | (with_reducible exact doS_b3 hB3 hB2 hB1) | (with_reducible exact doS_b4 hB4 hB3 hB2 hB1))
            (first | (go_at_call_of 54 (Value.int IntKind.i64 rc); refine (bytes1 _ _ ?_ ?_).mono ?_; exact q0; omega; rintro e w4 ⟨d1, rfl, hd1, ht1, hB1⟩; have x1 : ¬ 9223372036854775807 < b.size + d1.size := (by omega); have D1 : Hid (_ ∧ _) := ⟨hd1, ht1⟩; clear hd1 ht1) | (go_at_call_of 54 (Value.int IntKind.i64 ri); refine (bytes3 _ _ ?_ ?_).mono ?_; exact q2; omega; rintro e w5 ⟨d2, rfl, hd2, ht2, hB2⟩; have x2 : ¬ 9223372036854775807 < b.size + d1.size + d2.size := (by have := D1.out.2; omega); have D2 : Hid (_ ∧ _) := ⟨hd2, ht2⟩; clear hd2 ht2) | (go_at_call_of 54 (Value.int IntKind.i64 (rt.size : Int)); refine (bytes1 _ _ ?_ ?_).mono ?_; omega; omega; rintro e w7 ⟨d4, rfl, hd4, ht4, hB4⟩; have x4 : ¬ 9223372036854775807 < b.size + d1.size + d2.size + d3.size + d4.size := (by have := D1.out.2; have := D2.out.2; have := D3.out.2; omega); have x5 : ¬ 9223372036854775807 < b.size + d1.size + d2.size + d3.size + d4.size + rt.size := (by have := D1.out.2; have := D2.out.2; have := D3.out.2; omega); have D4 : Hid (_ ∧ _) := ⟨hd4, ht4⟩; clear hd4 ht4) | (go_at_call_of 54 (Value.int IntKind.i64 1); refine (bytes1 _ _ ?_ ?_).mono ?_; omega; omega; rintro e w6 ⟨d3, rfl, hd3, ht3, hB3⟩; have x3 : ¬ 9223372036854775807 < b.size + d1.size + d2.size + d3.size := (by have := D1.out.2; have := D2.out.2; omega); have D3 : Hid (_ ∧ _) := ⟨hd3, ht3⟩; clear hd3 ht3))
          have HB4 : Hid (Below w.heap.size w w7) := HB3.out.trans ((doS_b4 hB4 hB3 hB2 hB1).1.mono HB3.out.size)
          have HL : Hid ((b ++ d1 ++ d2 ++ d3 ++ d4 ++ rt).data.toList = Dk.be n.toNat 1 ++ Dk.be m 1 ++ ((recs rs).take (k + 1)).flatMap Dk.recBytes) := by
            show _ = _
            rw [flat_snoc _ _ _ HRk.out, app_list, app_list, app_list, app_list, app_list, HK.out.1, D1.out.1, D2.out.1, D3.out.1, D4.out.1]
            show _ = _ ++ (_ ++ (Dk.be rc.toNat 1 ++ Dk.be ri.toNat 3 ++ Dk.be 1 1 ++ Dk.be rt.data.toList.length 1 ++ rt.data.toList))
            rw [len_list]
            simp only [List.append_assoc, Int.toNat_natCast]
            rfl
          have HS : Hid ((b ++ d1 ++ d2 ++ d3 ++ d4 ++ rt).size ≤ 2 + 66 * (k + 1)) := by
            show _ ≤ _
            rw [app_size, app_size, app_size, app_size, app_size]
            have := D1.out.2
            have := D2.out.2
            have := D3.out.2
            have := D4.out.2
            omega
          have HA : Hid (((recs rs).take (k + 1)).all Dk.recOk = true) := all_snoc HRk.out HK.out.2 HOk.out
          clear hB1 hB2 hB3 hB4 x1 x2 x3 x4 x5
          go_wp2
          go_roundw
          case rel => exact ⟨k + 1, _, by omega, by go_num, rfl, HS.out, ⟨HL.out, HA.out⟩, HB4.out⟩
          case measure => simp [intOf]; omega
    · have HA : Hid (Dk.frameOk n (recs rs) = true) := by
        show _ = _
        have := HK.out.2
        rw [List.take_of_length_le (by rw [recs, List.length_map, HR.out.len]; omega)] at this
        rw [HF.out, this]
      have HL : Hid (b.data.toList = Dk.payload n.toNat (recs rs)) := by
        show _ = _
        have := HK.out.1
        rw [List.take_of_length_le (by rw [recs, List.length_map, HR.out.len]; omega)] at this
        rw [this]
        unfold Dk.payload
        rw [show (recs rs).length = m from by rw [recs, List.length_map, HR.out.len]]
      have hbm : b.size ≤ 8000 := by omega
      have hsl := Dk.sumV_lt b.data.toList
      go_wp2_with fail
      refine (sum_any b _ (by unfold maxLen; omega)).mono ?_
      rintro e w' ⟨rfl, rfl⟩
      generalize hsv : Dk.sumV b.data.toList = sv at *
      have HSv : Hid _ := hsv
      clear hsv
      go_wp2_with fail
      refine (bytes2 (b.size : Int) _ (by omega) (by omega)).mono ?_
      rintro e w4 ⟨d1, rfl, hd1, ht1, hB1⟩
      have y1 : ¬ 9223372036854775807 < d1.size + b.size := (by omega)
      have HT1 : Hid _ := ht1
      clear ht1
      go_wp2_with fail
      refine (bytes4 (sv : Int) _ (by omega) (by omega)).mono ?_
      rintro e w5 ⟨d2, rfl, hd2, ht2, hB2⟩
      have y2 : ¬ 9223372036854775807 < d1.size + b.size + d2.size := (by have := HT1.out; omega)
      have HB5 : Hid (Below w.heap.size w w5) := (HB2.out.trans (hB1.mono HB2.out.size)).trans (hB2.mono (Nat.le_trans HB2.out.size hB1.size))
      have HD : Hid (_ ∧ _) := ⟨hd1, hd2⟩
      clear ht2 hd1 hd2 hB1 hB2
      go_wp2
      go_ret2
      refine ⟨d1 ++ b ++ d2, by rw [HA.out]; rfl, ?_, HB5.out⟩
      rw [HA.out, app_list, app_list, HD.out.1, HD.out.2]
      show _ = Dk.be _ 2 ++ Dk.payload n.toNat (recs rs) ++ Dk.be _ 4
      rw [← HL.out, HSv.out, len_list]
      simp only [Int.toNat_natCast]

end Go.Proofs.YtccckonckddadabGreat
