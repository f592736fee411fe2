import Derived.Test.YtccckonckddadabGreatJ25
import Derived.Test.YtccckonckddadabGreatJ24
namespace Go.Proofs.YtccckonckddadabGreat
open Go.RowKit
set_option linter.unusedVariables false

def ReadPost (n : Nat) (l : List UInt8) (w : World) (e : Ending) (w' : World) : Prop :=
  ∃ (a : Option Addr) (m c : Nat) (b : ByteArray), e = .returned (.tuple #[.slice a m c, .string b, .bool (Dk.readV n l).isSome]) ∧ (∀ rs q, Dk.readV n l = some (rs, q) → b.data.toList = q ∧ ∃ rv : List RecV, rs = recs rv ∧ RecRow w' a m rv ∧ m ≤ 255 ∧ ∀ ad, a = some ad → w.heap.size ≤ ad.block ∧ ad.block < w'.heap.size) ∧ Below w.heap.size w w'

theorem ReadPost.no {n : Nat} {l : List UInt8} {w w' : World} {e : Ending} (h : Dk.readV n l = none) (he : e = .returned (.tuple #[.slice none 0 0, .string ⟨#[]⟩, .bool false])) (hB : Below w.heap.size w w') : ReadPost n l w e w' :=
  ⟨none, 0, 0, ⟨#[]⟩, by rw [h]; exact he, (by rw [h]; intro _ _ hx; cases hx), hB⟩

set_option maxRecDepth 100000 in
set_option maxHeartbeats 4000000 in
theorem read_any (n : Nat) (s : ByteArray) (w : World) (hn : n ≤ 200) (hs : s.size ≤ maxLen) : Calls Tryz.prog 91 #[.int .i64 n, .string s] w (ReadPost n s.data.toList w) := by
  go_enter Tryz.func91, Tryz.ntmps91
  go_wp2_with fail
  refine (unseal_any s _ hs).mono ?_
  rintro e w1 ⟨p, b, rfl, hv, hB⟩
  have HB : Hid _ := hB
  clear hB
  cases hu : Dk.unsealV s.data.toList with
  | none =>
    have HN : Hid (Dk.readV n s.data.toList = none) := by
      show _ = _
      unfold Dk.readV
      rw [hu]
    clear hv hu
    go_wp2
    go_ret3
    exact ReadPost.no HN.out rfl HB.out
  | some y =>
    obtain ⟨pp, qq⟩ := y
    obtain ⟨rfl, rfl⟩ := hv pp qq hu
    have hps : p.size < 65536 := (Dk.unseal_some hu).2
    have HU : Hid (Dk.readV n s.data.toList = if p.size < 2 ∨ (p.data.toList.getD 0 0).toNat ≠ n then none else match Dk.readRecs (p.data.toList.getD 1 0).toNat (p.data.toList.drop 2) with | none => none | some (rs, c) => if c = [] ∧ Dk.frameOk n rs = true then some (rs, b.data.toList) else none) := by
      show _ = _
      unfold Dk.readV
      rw [hu]
      simp only [len_list]
      rfl
    clear hv hu
    by_cases h2 : p.size < 2
    · have HN : Hid (Dk.readV n s.data.toList = none) := by
        show _ = _
        rw [HU.out, if_pos (.inl h2)]
      have h2' : (p.size : Int) < 2 := by omega
      go_wp2
      go_ret3
      exact ReadPost.no HN.out rfl HB.out
    · have h2' : ¬ (p.size : Int) < 2 := by omega
      have j0 : (0 : Int) < (p.size : Int) := by omega
      have j1 : (1 : Int) < (p.size : Int) := by omega
      have j2 : (2 : Int) ≤ (p.size : Int) := by omega
      have k0 : 0 < p.size := by omega
      have k1 : 1 < p.size := by omega
      have k2 : 2 ≤ p.size := by omega
      have b0 := byte_bd (p[0]'(by omega))
      have b1 := byte_bd (p[1]'(by omega))
      have g0 : (p.data.toList.getD 0 0).toNat = (p[0]'(by omega)).toNat := by rw [getD_list p 0 (by omega)]
      have g1 : (p.data.toList.getD 1 0).toNat = (p[1]'(by omega)).toNat := by rw [getD_list p 1 (by omega)]
      by_cases h0 : (p[0]'(by omega)).toNat = n
      · have HU2 : Hid (Dk.readV n s.data.toList = match Dk.readRecs (p[1]'(by omega)).toNat (p.extract 2 p.size).data.toList with | none => none | some (rs, c) => if c = [] ∧ Dk.frameOk n rs = true then some (rs, b.data.toList) else none) := by
          show _ = _
          rw [HU.out, if_neg (by rw [g0]; omega), g1, ext_drop]
        have h0' : (((p[0]'(by omega)).toNat : Int) != (n : Int)) = false := by
          rw [bne_eq_false_iff_eq]; omega
        have h0i : ((p[0]'(by omega)).toNat : Int) = (n : Int) := by omega
        have hw1 : IntKind.i64.wrap ((p[1]'(by omega)).toNat : Int) = ((p[1]'(by omega)).toNat : Int) := by
          unfold IntKind.wrap; simp [IntKind.bits, IntKind.signed]; omega
        have hi1 : ∀ W, (Instr.index 9 (.string p) (.int .i64 1)).run Tryz.prog W = .ok (.int .u8 ((p[1]'(by omega)).toNat : Int)) W := fun W => by
          rw [run_index_string _ _ _ _ _ Tryz.underlying9, dif_pos ⟨by omega, j1⟩]
          rfl
        clear g0 g1
        go_wp2
        go_region_held3 (fun W => True) (trivial)
          (first | (go_at_call 114; refine (readRecords_any (p[1]'(by omega)).toNat (p.extract 2 p.size) _ (by omega) (by rw [ByteArray.size_extract]; unfold maxLen; omega)).mono ?_; rintro e w2 ⟨a, m, c, ok, rfl, hy, hno, hB2⟩))
        have HB2 : Hid (Below w.heap.size w w2) := HB.out.trans (((Below.refl _ _).drew.trans hB2).mono HB.out.size)
        have HZ2 : Hid (w.heap.size ≤ w1.heap.size) := HB.out.size
        clear hB2
        cases ok
        · have HN : Hid (Dk.readV n s.data.toList = none) := by
            show _ = _
            rw [HU2.out]
            have hno' := hno rfl
            cases hq : Dk.readRecs (p[1]'(by omega)).toNat (p.extract 2 p.size).data.toList with
            | none => rfl
            | some y =>
              obtain ⟨rs, c⟩ := y
              simp only
              rw [if_neg]
              rintro ⟨rfl, _⟩
              exact hno' _ hq
          clear hy hno
          go_wp2
          go_ret3
          exact ReadPost.no HN.out rfl HB2.out
        · obtain ⟨hm, hfresh, rs, hrow, hq⟩ := hy rfl
          have HFr : Hid _ := hfresh
          clear hfresh
          have HU3 : Hid (Dk.readV n s.data.toList = if Dk.frameOk n (recs rs) = true then some (recs rs, b.data.toList) else none) := by
            show _ = _
            rw [HU2.out, hq]
            simp only [true_and]
          have HRow : Hid _ := hrow
          clear hy hno hq hrow HU2
          go_wp2_with fail
          refine (isEpoch_any (n : Int) a m c rs _ (by unfold maxLen; omega) HRow.out).mono ?_
          rintro e w3 ⟨rfl, hB3⟩
          have HB3 : Hid (Below w.heap.size w w3) := HB2.out.trans (hB3.mono HB2.out.size)
          have HR3 : Hid (RecRow w3 a m rs ∧ ∀ ad, a = some ad → w.heap.size ≤ ad.block ∧ ad.block < w3.heap.size) := ⟨HRow.out.kept hB3, fun ad had => by
            have h1 := HFr.out ad had
            have h2 := hB3.size
            have h3 := HZ2.out
            exact ⟨Nat.le_trans h3 h1.1, Nat.lt_of_lt_of_le h1.2 h2⟩⟩
          clear hB3
          cases hf : Dk.frameOk (n : Int) (recs rs)
          · have HN : Hid (Dk.readV n s.data.toList = none) := by
              show _ = _
              rw [HU3.out, hf]; rfl
            clear hf
            go_wp2
            go_ret3
            exact ReadPost.no HN.out rfl HB3.out
          · have HY : Hid (Dk.readV n s.data.toList = some (recs rs, b.data.toList)) := by
              show _ = _
              rw [HU3.out, hf]; rfl
            clear hf
            go_wp2
            go_ret3
            exact ⟨a, m, c, b, by rw [HY.out]; rfl, (by rw [HY.out]; intro _ _ hx; cases hx; exact ⟨rfl, rs, rfl, HR3.out.1, hm, HR3.out.2⟩), HB3.out⟩
      · have HN : Hid (Dk.readV n s.data.toList = none) := by
          show _ = _
          rw [HU.out, if_pos (.inr (by rw [g0]; exact h0))]
        have h0' : (((p[0]'(by omega)).toNat : Int) != (n : Int)) = true := by
          rw [bne_iff_ne]; omega
        have h0i : ((p[0]'(by omega)).toNat : Int) ≠ (n : Int) := by omega
        clear g0 g1
        go_wp2
        go_ret3
        exact ReadPost.no HN.out rfl HB.out

/-- No epoch in no bytes. -/
theorem read_none (n : Int) (w : World) : Calls Tryz.prog 91 #[.int .i64 n, .string ⟨#[]⟩] w fun e w' => e = .returned (.tuple #[.slice none 0 0, .string ⟨#[]⟩, .bool false]) ∧ Below w.heap.size w w' := by
  go_enter Tryz.func91, Tryz.ntmps91
  go_wp2_with fail
  refine (unseal_any ⟨#[]⟩ _ (Nat.zero_le _)).mono ?_
  rintro e w1 ⟨p, b, rfl, hv, hB⟩
  have HB : Hid _ := hB
  clear hB
  rewrite [show Dk.unsealV (⟨#[]⟩ : ByteArray).data.toList = none from rfl]
  clear hv
  go_wp2
  go_ret3
  exact ⟨rfl, HB.out⟩

/-! ### Scan -/
theorem read_len {n : Nat} {l b : List UInt8} {rs : List Dk.Rec} {p : Nat} (h : Dk.readV n (l.drop p) = some (rs, b)) (hp : p ≤ l.length) : p + (Dk.epoch n rs).length ≤ l.length := by
  have := congrArg List.length (Dk.read_some h).2
  rw [List.length_drop, List.length_append] at this
  omega

set_option maxRecDepth 100000 in
set_option maxHeartbeats 2000000 in
theorem escan_any (s : ByteArray) (w : World) (hs : s.size ≤ maxLen) :
    Calls Tryz.prog 57 #[.string s] w fun e w' => e = .returned (.tuple #[.int .i64 (Dk.scanV s.data.toList).1, .int .i64 (Dk.scanV s.data.toList).2]) ∧ Below w.heap.size w w' := by
  go_enter Tryz.func57, Tryz.ntmps57
  go_wp2
  go_loopw [4, 5] (fun q v wr => ∃ (k p : Nat) (rest : ByteArray), k ≤ 200 ∧ q = .string rest ∧ v = .int .i64 k ∧ p ≤ s.size ∧ rest.size + p = s.size ∧ Hid (rest.data.toList = s.data.toList.drop p ∧ Dk.scanV s.data.toList = Dk.scanFrom s.data.toList (201 - k) k p) ∧ Hid (Below w.heap.size w wr)) (fun _ v _ => 200 - (intOf v).toNat)
  case atStart => exact ⟨0, 0, s, by omega, rfl, rfl, by omega, rfl, ⟨rfl, rfl⟩, Below.refl _ _⟩
  case round =>
    obtain ⟨k, p, rest, hk, rfl, rfl, hp, hrs, HS, HB⟩ := hrel
    have hs' := hs
    unfold maxLen at hs'
    have hd : (s.size : Int) - (rest.size : Int) = (p : Int) := by omega
    by_cases hlt : k < 200
    · go_wp2_with fail
      refine (read_any k rest _ hk (by omega)).mono ?_
      rintro e w1 ⟨a, m, c, b, rfl, hv, hB1⟩
      have HB1 : Hid (Below w.heap.size w w1) := HB.out.trans (hB1.mono HB.out.size)
      rw [HS.out.1] at hv
      rewrite [HS.out.1]
      clear hB1 HB
      cases hr : Dk.readV k (s.data.toList.drop p) with
      | none =>
        have HE : Hid (Dk.scanV s.data.toList = (k, p)) := HS.out.2.trans (Dk.scan_read_none hr)
        clear hv hr
        go_wp2
        go_ret2
        exact ⟨by rw [HE.out]; simp only [← hd]; rfl, HB1.out⟩
      | some y =>
        obtain ⟨rs, qb⟩ := y
        have hb := (hv rs qb hr).1
        have hle := read_len hr (by rw [len_list]; exact hp)
        rw [len_list] at hle
        obtain ⟨h1, h2⟩ := Dk.scan_read_some (k := 201 - (k + 1)) hr
        have HE : Hid (b.data.toList = s.data.toList.drop (p + (Dk.epoch k rs).length) ∧ Dk.scanV s.data.toList = Dk.scanFrom s.data.toList (201 - (k + 1)) (k + 1) (p + (Dk.epoch k rs).length)) := by
          refine ⟨by rw [hb, h2], ?_⟩
          rw [HS.out.2, show 201 - k = (201 - (k + 1)) + 1 from by omega]
          exact h1
        have hbs : b.size + (p + (Dk.epoch k rs).length) = s.size := by
          have := congrArg List.length HE.out.1
          rw [len_list, List.length_drop, len_list] at this
          omega
        clear hv hr h1 h2 hb
        go_wp2
        go_roundw
        case rel => exact ⟨k + 1, _, b, by omega, rfl, by go_num, hle, hbs, HE, HB1⟩
        case measure => simp [intOf]; omega
    · have hk2 : k = 200 := by omega
      subst hk2
      have HE : Hid (Dk.scanV s.data.toList = (200, p)) := HS.out.2.trans (Dk.scan_read_none (Dk.read_high (by omega) _))
      go_wp2
      go_ret2
      exact ⟨by rw [HE.out]; simp only [← hd]; rfl, HB.out⟩

theorem pscan_any (s : ByteArray) (w : World) (hs : s.size ≤ maxLen) :
    Calls Tryz.prog 23 #[.string s] w fun e w' => e = .returned (.tuple #[.int .i64 (Dk.scanV s.data.toList).1, .int .i64 (Dk.scanV s.data.toList).2]) ∧ Below w.heap.size w w' := by
  go_enter Tryz.func23, Tryz.ntmps23
  go_wp2_with fail
  refine (escan_any s _ hs).mono ?_
  rintro e w1 ⟨rfl, hB⟩
  have HB : Hid _ := hB
  clear hB
  go_wp2
  go_ret2
  exact ⟨rfl, HB.out⟩

end Go.Proofs.YtccckonckddadabGreat
namespace Go.Proofs.YtccckonckddadabGreat
open Go.RowKit
set_option linter.unusedVariables false

theorem lawscan_any (s : ByteArray) (w : World) (hs : s.size ≤ 140737488355328) :
    Calls Tryz.prog 11 #[.string s] w fun e w' => e = .returned (.bool true) ∧ Below w.heap.size w w' := by
  go_enter Tryz.func11, Tryz.ntmps11
  go_wp2_with fail
  refine (pscan_any s _ (by unfold maxLen; omega)).mono ?_
  rintro e w1 ⟨rfl, hB⟩
  have HB : Hid _ := hB
  clear hB
  go_wp2_with fail
  refine (scan_any s _ hs).mono ?_
  rintro e w2 ⟨rfl, hB2⟩
  have HB2 : Hid (Below w.heap.size w w2) := HB.out.trans (hB2.mono HB.out.size)
  clear hB2
  generalize (Dk.scanV s.data.toList).1 = x
  generalize (Dk.scanV s.data.toList).2 = y
  go_wp2
  go_ret
  exact ⟨rfl, HB2.out⟩

end Go.Proofs.YtccckonckddadabGreat
