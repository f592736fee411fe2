import Derived.Test.YtccckonckddadabGreatJ05
import Derived.Test.YtccckonckddadabGreatJ01
import Derived.Test.YtccckonckddadabGreatJ02
namespace Go.Proofs.YtccckonckddadabGreat
open Go.RowKit
set_option linter.unusedVariables false

theorem no_of {p : Bool} {Q : Prop} (h : p = false) : p = true → Q := fun h' => by rw [h] at h'; cases h'

theorem below_keep {w1 w2 : World} {b : Nat} (hb : Below w1.heap.size w1 w2) (hz : b < w1.heap.size) :
    (∀ x, w2.cell? ⟨b, x, none⟩ = w1.cell? ⟨b, x, none⟩) ∧ (∀ x, w2.frozen? ⟨b, x, none⟩ = w1.frozen? ⟨b, x, none⟩) ∧ b < w2.heap.size :=
  ⟨fun x => hb.cell (p := ⟨b, x, none⟩) hz, fun x => hb.frozen (p := ⟨b, x, none⟩) hz, Nat.lt_of_lt_of_le hz hb.size⟩

theorem below_drawn {w w1 : World} {n : Nat} (h : w1 = w.drewN n) : Below w.heap.size w w1 := h ▸ below_drewN (Below.refl _ _) n

theorem own_base {w : World} {B B' e size n : Nat} {v : Value} {xs : List Value} (h : w.ownsRow B e size v n xs) (hB : B' ≤ B) : w.ownsRow B' e size v n xs := by
  refine ⟨h.1, ?_⟩
  rcases h.2 with hn | ⟨g, cap, cur, hv, hg, rest⟩
  · exact .inl hn
  · exact .inr ⟨g, cap, cur, hv, Nat.le_trans hB hg, rest⟩

def ParsePost (l : List UInt8) (w : World) (e : Ending) (w' : World) : Prop :=
  ∃ (b0 b1 b2 b3 b4 b5 b6 b7 : Bool) (a : Option Addr) (n c : Nat), e = .returned (.tuple #[.agg #[.bool b0, .bool b1, .bool b2, .bool b3, .bool b4, .bool b5, .bool b6, .bool b7, .slice a n c], .bool (Dk.parseOk l)]) ∧
    (Dk.parseOk l = true → [b0, b1, b2, b3, b4, b5, b6, b7] = Dk.keysOf l ∧ n = (Dk.opsOf l).length ∧ w'.ownsRow w.heap.size 163 5 (.slice a n c) n (opsCells (Dk.opsOf l))) ∧ Below w.heap.size w w'

set_option maxHeartbeats 1000000 in
theorem parse_big (s : ByteArray) (w : World) (h : 60 < s.size) (hs : s.size ≤ maxLen) :
    Calls Tryz.prog 47 #[.string s] w (ParsePost s.data.toList w) := by
  have H : Hid (Dk.parseOk s.data.toList = false) := Dk.parse_long h
  unfold maxLen at hs
  go_enter Tryz.func47, Tryz.ntmps47
  go_wp2
  exact bodyPost_ret (v := .tuple #[.agg #[.bool false, .bool false, .bool false, .bool false, .bool false, .bool false, .bool false, .bool false, .slice none 0 0], .bool false]) (by simp [results, Tryz.results47, go_sem]) rfl
    ⟨_, _, _, _, _, _, _, _, _, _, _, by rw [H.out], by rw [H.out]; simp, (Below.refl _ _).alloc (Nat.le_refl _) _⟩

set_option maxHeartbeats 1000000 in
theorem parse_small (s : ByteArray) (w : World) (h : s.size ≤ 60) :
    Calls Tryz.prog 47 #[.string s] w (ParsePost s.data.toList w) := by
  have HP : Hid (Dk.parseOk s.data.toList = ((Dk.cutAt 124 s.data.toList).2.2 && Dk.rise (-1) (Dk.cutAt 124 s.data.toList).1 && Dk.opsOk (Dk.cutAt 124 s.data.toList).2.1)) := Dk.parse_at h rfl rfl rfl
  have HK : Hid (Dk.keysOf s.data.toList = [0, 1, 2, 3, 4, 5, 6, 7].map (Dk.hasKey (Dk.cutAt 124 s.data.toList).1)) := rfl
  have HO : Hid (Dk.opsOf s.data.toList = Dk.opsV (Dk.cutAt 124 s.data.toList).2.1) := rfl
  have hml : 60 ≤ maxLen := by unfold maxLen; omega
  go_enter Tryz.func47, Tryz.ntmps47
  go_wp2_with fail
  refine (cut_any s 124 _ (by omega)).mono ?_
  rintro e w1 ⟨hd, tl, rfl, hh, ht, nq, hw⟩
  have hb := below_drawn hw
  clear hw
  obtain ⟨hc1, hf1, hz1⟩ := below_new hb
  have HB1 : Hid (Below w.heap.size w w1) := below_of_new hb
  clear hb
  have l1 := (Dk.cut_len (m := 124) s.data.toList).1
  rw [← hh, ← ht] at l1 HP
  rw [← hh] at HK
  rw [← ht] at HO
  simp only [len_list] at l1
  clear hh ht
  generalize (Dk.cutAt 124 s.data.toList).2.2 = fd at *
  cases fd
  · go_wp2
    refine bodyPost_ret (v := .tuple #[.agg #[.bool false, .bool false, .bool false, .bool false, .bool false, .bool false, .bool false, .bool false, .slice none 0 0], .bool false]) (by simp [results, Tryz.results47, go_sem, hc1]) rfl ?_
    refine ⟨_, _, _, _, _, _, _, _, _, _, _, by rw [HP.out]; rfl, no_of (HP.out.trans (by simp)), ?_⟩
    iterate 9 refine Below.setCell ?_ (by exact Nat.le_refl _) _
    exact HB1.out
  go_wp2_with fail
  refine (keys_any hd _ (by omega)).mono ?_
  rintro e w2 ⟨b0, b1, b2, b3, b4, b5, b6, b7, rfl, hx, hb⟩
  have HX : Hid _ := hx
  clear hx
  obtain ⟨hc, hf, hz⟩ := below_keep hb hz1
  have HB2 : Hid (Below w.heap.size w w2) := HB1.out.trans (hb.mono HB1.out.size)
  clear hb
  generalize Dk.rise (-1) hd.data.toList = rs at *
  cases rs
  · go_wp2
    refine bodyPost_ret (v := .tuple #[.agg #[.bool false, .bool false, .bool false, .bool false, .bool false, .bool false, .bool false, .bool false, .slice none 0 0], .bool false]) (by simp [results, Tryz.results47, go_sem, hc, hc1, hz]) rfl ?_
    refine ⟨_, _, _, _, _, _, _, _, _, _, _, by rw [HP.out]; rfl, no_of (HP.out.trans (by simp)), ?_⟩
    refine Below.alloc ?_ (by simp; omega) _
    iterate 9 refine Below.setCell ?_ (by exact Nat.le_refl _) _
    exact HB2.out
  go_wp2_with fail
  refine (ops_any tl _ (by omega)).mono ?_
  rintro e w3 ⟨a, n, c, rfl, hy, hb⟩
  have HY : Hid _ := hy
  clear hy
  obtain ⟨hc3, hf3, hz3⟩ := below_new hb
  have HB3 : Hid (Below w2.heap.size w2 w3) := below_of_new hb
  obtain ⟨hc4, hf4, hz4⟩ := below_keep HB3.out hz
  have HBw : Hid (Below w.heap.size w w3) := HB2.out.trans (HB3.out.mono HB2.out.size)
  clear hb
  generalize Dk.opsOk tl.data.toList = ok at *
  cases ok
  · go_wp2
    refine bodyPost_ret (v := .tuple #[.agg #[.bool false, .bool false, .bool false, .bool false, .bool false, .bool false, .bool false, .bool false, .slice none 0 0], .bool false]) (by simp [results, Tryz.results47, go_sem, hc, hc1, hc4]) rfl ?_
    refine ⟨_, _, _, _, _, _, _, _, _, _, _, by rw [HP.out]; rfl, no_of (HP.out.trans (by simp)), ?_⟩
    iterate 9 refine Below.setCell ?_ (by exact Nat.le_refl _) _
    exact HBw.out
  · go_wp2
    refine bodyPost_ret (v := .tuple #[.agg #[.bool b0, .bool b1, .bool b2, .bool b3, .bool b4, .bool b5, .bool b6, .bool b7, .slice a n c], .bool true]) (by simp [results, Tryz.results47, go_sem, hc, hc1, hc4]) rfl ?_
    refine ⟨_, _, _, _, _, _, _, _, _, _, _, by rw [HP.out]; rfl, fun _ => ⟨by rw [HK.out]; exact HX.out trivial, by rw [HO.out]; exact (HY.out trivial).1, ?_⟩, ?_⟩
    · rw [HO.out]
      have hY := own_base (B' := w2.heap.size + 1) (HY.out trivial).2 (by simp)
      refine own_base (B := w2.heap.size + 1) ?_ (by omega)
      iterate 9 refine ownsRow_setCell_below ?_ (by show w.heap.size < w2.heap.size + 1; omega) _
      exact hY
    · iterate 9 refine Below.setCell ?_ (by exact Nat.le_refl _) _
      exact HBw.out

theorem parse_any (s : ByteArray) (w : World) (hs : s.size ≤ maxLen) :
    Calls Tryz.prog 47 #[.string s] w (ParsePost s.data.toList w) := by
  by_cases h : s.size ≤ 60
  · exact parse_small s w h
  · exact parse_big s w (by omega) hs

end Go.Proofs.YtccckonckddadabGreat
namespace Go.Proofs.YtccckonckddadabGreat
open Go.RowKit
set_option linter.unusedVariables false

set_option maxHeartbeats 400000 in
theorem in_any (s : ByteArray) (c : Int) (w : World) (hs : s.size ≤ maxLen) :
    Calls Tryz.prog 77 #[.string s, .int .u8 c] w fun e w' => e = .returned (.bool (Dk.inB s.data.toList c)) ∧ w' = w := by
  unfold maxLen at hs
  go_enter Tryz.func77, Tryz.ntmps77
  go_wp2
  go_loop [5] (fun i => ∃ k : Nat, k ≤ s.size ∧ i = .int .i64 k ∧ Hid (∀ j (hj : j < k) (hj' : j < s.data.toList.length), (s.data.toList[j].toNat : Int) ≠ c)) (fun i => s.size - (intOf i).toNat)
  case atStart => exact ⟨0, Nat.zero_le _, rfl, fun j hj => absurd hj (by omega)⟩
  case round =>
    obtain ⟨k, hk, rfl, HN⟩ := hrel
    by_cases hlt : k < s.size
    · cases he : ((s[k].toNat : Int) == c)
      · go_wp2
        go_round
        case rel =>
          refine ⟨k + 1, by omega, by go_num, fun j hj hj' => ?_⟩
          by_cases e : j = k
          · subst e; exact beq_eq_false_iff_ne.1 he
          · exact HN.out j (by omega) hj'
        case measure => simp [intOf]; omega
      · have HY : Hid (Dk.inB s.data.toList c = true) := Dk.inB_yes (k := k) hlt (eq_of_beq he)
        go_wp2
        go_ret
        exact ⟨by rw [HY.out]; rfl, rfl⟩
    · have HY : Hid (Dk.inB s.data.toList c = false) := Dk.inB_no (fun j hj => HN.out j (by have : j < s.size := hj; omega) hj)
      go_wp2
      go_ret
      exact ⟨by rw [HY.out]; rfl, rfl⟩

theorem inK_any (c : Int) (w : World) : Calls Tryz.prog 77 #[.string ⟨#[97, 98, 99, 100, 101, 102, 103, 104]⟩, .int .u8 c] w fun e w' => e = .returned (.bool (Dk.isK c)) ∧ w' = w :=
  (in_any ⟨#[97, 98, 99, 100, 101, 102, 103, 104]⟩ c w (by decide)).mono (by rintro e w' ⟨rfl, rfl⟩; exact ⟨by rw [← Dk.inB_keys], rfl⟩)
theorem inS_any (c : Int) (w : World) : Calls Tryz.prog 77 #[.string ⟨#[61, 43, 45, 42, 60, 62, 126]⟩, .int .u8 c] w fun e w' => e = .returned (.bool (Dk.isSign c)) ∧ w' = w :=
  (in_any ⟨#[61, 43, 45, 42, 60, 62, 126]⟩ c w (by decide)).mono (by rintro e w' ⟨rfl, rfl⟩; exact ⟨by rw [← Dk.inB_signs], rfl⟩)
theorem inD_any (c : Int) (w : World) : Calls Tryz.prog 77 #[.string ⟨#[48, 49, 50, 51, 52, 53, 54, 55, 56, 57]⟩, .int .u8 c] w fun e w' => e = .returned (.bool (decide (48 ≤ c ∧ c ≤ 57))) ∧ w' = w :=
  (in_any ⟨#[48, 49, 50, 51, 52, 53, 54, 55, 56, 57]⟩ c w (by decide)).mono (by rintro e w' ⟨rfl, rfl⟩; exact ⟨by rw [← Dk.inB_digits], rfl⟩)

theorem wrap_any (n : Int) (w : World) (h0 : -4611686018427387904 ≤ n) (h1 : n ≤ 4611686018427387904) :
    Calls Tryz.prog 87 #[.int .i64 n] w fun e w' => e = .returned (.int .i64 (Dk.wrap16 n)) ∧ w' = w := by
  have hb := Dk.tmod_range n
  by_cases hp : 32767 < n.tmod 65536
  · have HW : Hid _ := Dk.wrap_pos hp
    go_enter Tryz.func87, Tryz.ntmps87
    go_wp2
    go_ret
    exact ⟨ret_int (by rw [HW.out]), rfl⟩
  · by_cases hn : n.tmod 65536 < -32768
    · have HW : Hid _ := Dk.wrap_neg hn
      go_enter Tryz.func87, Tryz.ntmps87
      go_wp2
      go_ret
      exact ⟨ret_int (by rw [HW.out]), rfl⟩
    · have HW : Hid _ := Dk.wrap_mid (by omega) (by omega : -32768 ≤ n.tmod 65536)
      go_enter Tryz.func87, Tryz.ntmps87
      go_wp2
      go_ret
      exact ⟨ret_int (by rw [HW.out]), rfl⟩

/-- The one of number's walks that goes through the digits. -/
theorem dash_list {s : ByteArray} (h0 : s.size = 1) (h : ((s[0]'(by omega)).toNat : Int) = 45) : s.data.toList = [45] := by
  have hl : s.data.toList.length = 1 := h0
  match hs : s.data.toList, hl with
  | [b], _ =>
    have e : s[0]'(by omega) = b := by rw [get_list s 0 (by omega)]; simp [hs]
    rw [e] at h
    have : b = 45 := UInt8.toNat_inj.1 (by show _ = 45; omega)
    rw [this]

def NumPost (l : List UInt8) (w : World) (e : Ending) (w' : World) : Prop :=
  ∃ v : Int, e = .returned (.tuple #[.int .i64 v, .bool (Dk.numOk l)]) ∧ (Dk.numOk l = true → v = Dk.numV l) ∧ w' = w

theorem ref_zero (s : ByteArray) (w : World) (h : s.data.toList = [48]) : Calls Tryz.prog 108 #[.string s] w (NumPost s.data.toList w) := by
  have e1 : Dk.numV s.data.toList = 0 := by rw [h]; rfl
  have e2 : Dk.numOk s.data.toList = true := by rw [h]; rfl
  have H : Hid (_ ∧ _) := ⟨e1, e2⟩
  clear e1 e2
  have h0 : (s.toList == [48]) = true := by rw [bytes_toList, h]; rfl
  have h1 : s.size = 1 := congrArg List.length h
  clear h
  go_enter Tryz.func108, Tryz.ntmps108
  go_wp2
  go_ret2
  exact ⟨0, by rw [H.out.2]; rfl, fun _ => H.out.1.symm, rfl⟩

theorem ref_short (s : ByteArray) (w : World) (hs : s.size ≤ maxLen) (hz : (s.toList == [48]) = false) (hn : s.size = 0 ∨ (5 < s.size ∧ ∃ h : 0 < s.size, ((s[0].toNat : Int) == 45) = false)) (h : Dk.numOk s.data.toList = false) :
    Calls Tryz.prog 108 #[.string s] w (NumPost s.data.toList w) := by
  have H : Hid _ := h
  clear h
  unfold maxLen at hs
  rcases hn with hn | ⟨h5, h0, hn⟩
  · have h0 : ((s.size : Int) == 0) = true := by rw [hn]; rfl
    go_enter Tryz.func108, Tryz.ntmps108
    go_wp2
    go_ret2
    exact ⟨0, by rw [H.out]; rfl, by rw [H.out]; simp, rfl⟩
  · have h1 : ((s.size : Int) == 0) = false := beq_eq_false_iff_ne.2 (by omega)
    go_enter Tryz.func108, Tryz.ntmps108
    go_wp2
    go_ret2
    exact ⟨0, by rw [H.out]; rfl, by rw [H.out]; simp, rfl⟩

theorem ref_lead (s : ByteArray) (w : World) (h5 : s.size ≤ 5) (hz : (s.toList == [48]) = false) (h0 : 0 < s.size) (hf : ((s[0].toNat : Int) == 48) = true) (hn : ((s[0].toNat : Int) == 45) = false) (h : Dk.numOk s.data.toList = false) :
    Calls Tryz.prog 108 #[.string s] w (NumPost s.data.toList w) := by
  have H : Hid _ := h
  clear h
  have h1 : ((s.size : Int) == 0) = false := beq_eq_false_iff_ne.2 (by omega)
  by_cases h2 : 1 < s.size
  all_goals
    go_enter Tryz.func108, Tryz.ntmps108
    go_wp2
    go_ret2
    exact ⟨0, by rw [H.out]; rfl, by rw [H.out]; simp, rfl⟩

set_option maxHeartbeats 1000000 in
theorem ref_loop (s : ByteArray) (w : World) (h0 : 0 < s.size) (h5 : s.size ≤ 5) (hz : (s.toList == [48]) = false) (hf : ((s[0].toNat : Int) == 48) = false) (hng : s.size ≤ 1 ∨ (1 < s.size ∧ ((s[0].toNat : Int) == 45) = false))
    (hq : Dk.numOk s.data.toList = (Dk.allDig s.data.toList && Dk.inNum (Dk.val s.data.toList)) ∧ (Dk.numOk s.data.toList = true → Dk.numV s.data.toList = Dk.val s.data.toList)) :
    Calls Tryz.prog 108 #[.string s] w (NumPost s.data.toList w) := by
  have HQ : Hid _ := hq
  clear hq
  have h1 : ((s.size : Int) == 0) = false := beq_eq_false_iff_ne.2 (by omega)
  rcases hng with hng | ⟨hlg, hng⟩
  all_goals
    go_enter Tryz.func108, Tryz.ntmps108
    go_wp2
    go_loop [5, 6] (fun n i => ∃ k : Nat, k ≤ s.size ∧ i = .int .i64 k ∧ n = .int .i64 (Dk.val (s.data.toList.take k)) ∧ Hid (Dk.allDig (s.data.toList.take k) = true)) (fun _ i => s.size - (intOf i).toNat)
    case atStart => exact ⟨0, Nat.zero_le _, rfl, rfl, rfl⟩
    case round =>
      obtain ⟨k, hk, rfl, rfl, hd⟩ := hrel
      have hv : Dk.val (s.data.toList.take k) < 100000 := Dk.val_lt5 _ hd.out (by rw [List.length_take, len_list]; omega)
      by_cases hlt : k < s.size
      · have HT : Hid (s.data.toList.take (k + 1) = s.data.toList.take k ++ [s[k]]) := take_snoc s k (hlt)
        have hb := byte_bd (s[k])
        go_wp2_with fail
        refine (inD_any _ _).mono ?_
        rintro e w' ⟨rfl, rfl⟩
        by_cases hdg : 48 ≤ ((s[k]).toNat : Int) ∧ ((s[k]).toNat : Int) ≤ 57
        · rewrite [decide_eq_true hdg]
          go_wp2
          go_round
          case rel =>
            refine ⟨k + 1, by omega, by go_num, ?_, ?_⟩
            · rw [HT.out, Dk.val_snoc]
              congr 1
              omega
            · show _ = true
              rw [HT.out, Dk.allDig_snoc, hd.out, decide_eq_true (by omega)]; rfl
          case measure => simp [intOf]; omega
        · rewrite [decide_eq_false hdg]
          have HF : Hid (Dk.allDig s.data.toList = false) := digits_fail s k (hlt) (by omega)
          clear hdg
          go_wp2
          go_ret2
          exact ⟨0, by rw [HQ.out.1, HF.out]; rfl, by rw [HQ.out.1, HF.out]; simp, rfl⟩
      · have HA : Hid (Dk.allDig s.data.toList = true) := by
          have := hd.out
          rw [take_all s k (by omega)] at this
          exact this
        have HV : Hid (s.data.toList.take k = s.data.toList) := take_all s k (by omega)
        have hq1 := HQ.out.1
        rw [HA.out] at hq1
        rewrite [HV.out] at hv ⊢
        have HQ2 : Hid _ := HQ.out.2
        generalize Dk.val s.data.toList = v at *
        by_cases hin : v ≤ 32767
        · have HO : Hid (Dk.numOk s.data.toList = true) := by show _ = _; rw [hq1, Dk.inNum_yes (by omega) (by omega)]; rfl
          clear hq1 HQ
          go_wp2
          go_ret2
          refine ⟨v, ?_, fun _ => (HQ2.out HO.out).symm, rfl⟩
          rw [HO.out]
          exact tuple2_int rfl (decide_eq_true (by omega))
        · have HO : Hid (Dk.numOk s.data.toList = false) := by show _ = _; rw [hq1, Dk.inNum_no (by omega)]; rfl
          clear hq1 HQ
          go_wp2
          go_ret2
          refine ⟨v, ?_, by rw [HO.out]; simp, rfl⟩
          rw [HO.out]
          exact tuple2_int rfl (decide_eq_false (by omega))

end Go.Proofs.YtccckonckddadabGreat
