import Derived.Test.YtccckonckddadaaGreatJ13
import Derived.Test.YtccckonckddadaaGreatJ14
namespace Go.Proofs.YtccckonckddadaaGreat
open Go.RowKit
set_option linter.unusedVariables false

namespace Dk
theorem readRecs_none {l : List UInt8} (h : readRec l = none) (k : Nat) : readRecs (k + 1) l = none := by rw [readRecs, h]
theorem readRecs_cons {l b : List UInt8} {r : Rec} (h : readRec l = some (r, b)) (k : Nat) : readRecs (k + 1) l = (readRecs k b).map (fun x => (r :: x.1, x.2)) := by
  rw [readRecs, h]
  simp only
  cases readRecs k b with
  | none => rfl
  | some x => rfl
end Dk

def ReadRecsPost (k : Nat) (l : List UInt8) (w : World) (e : Ending) (w' : World) : Prop :=
  ∃ (a : Option Addr) (n c : Nat) (ok : Bool), e = .returned (.tuple #[.slice a n c, .bool ok]) ∧
    (ok = true → n ≤ 255 ∧ (∀ ad, a = some ad → w.heap.size ≤ ad.block ∧ ad.block < w'.heap.size) ∧ ∃ rs : List RecV, RecRow w' a n rs ∧ Dk.readRecs k l = some (recs rs, [])) ∧ (ok = false → ∀ x, Dk.readRecs k l ≠ some (x, [])) ∧ Below w.heap.size w w'

/-- Where a round of readRecords stands. -/
structure ReadAt (l : List UInt8) (w wr : World) (N : Nat) (a : Option Addr) (n c : Nat) (rs : List RecV) (rest : List UInt8) : Prop where
  len : rs.length = n
  small : ∀ r ∈ rs, r.t.size ≤ maxLen
  own : wr.ownsRow w.heap.size 83 4 (.slice a n c) n (recsCells rs)
  bel : Below w.heap.size w wr
  left : Dk.readRecs N l = (Dk.readRecs (N - n) rest).map (fun x => (recs rs ++ x.1, x.2))

theorem ReadAt.step {l rest b : List UInt8} {w wr w2 : World} {N : Nat} {a a' : Option Addr} {n c c' : Nat} {rs : List RecV} {rv : RecV} (h : ReadAt l w wr N a n c rs rest) (hlt : n < N) (hr : Dk.readRec rest = some (rv.told, b)) (hs : rv.t.size ≤ maxLen) (hB : Below w.heap.size w w2)
    (hown : w2.ownsRow w.heap.size 83 4 (.slice a' (n + 1) c') (n + 1) (recsCells rs ++ recCells rv)) : ReadAt l w w2 N a' (n + 1) c' (rs ++ [rv]) b where
  len := by simp [h.len]
  small := by
    intro r hr
    rcases List.mem_append.1 hr with hr | hr
    · exact h.small r hr
    · have : r = rv := by simpa using hr
      subst this
      exact hs
  own := by rw [recsCells_snoc]; exact hown
  bel := hB
  left := by
    rw [h.left, show N - n = (N - (n + 1)) + 1 from by omega, Dk.readRecs_cons hr, Option.map_map]
    congr 1
    funext x
    simp [recs]

set_option maxRecDepth 100000 in
set_option maxHeartbeats 1000000 in
theorem readRecords_any (N : Nat) (s : ByteArray) (w : World) (hN : N ≤ 255) (hs : s.size ≤ maxLen) : Calls Tryz.prog 115 #[.int .i64 N, .string s] w (ReadRecsPost N s.data.toList w) := by
  obtain ⟨ti, hi, hz0, hz1, hz2⟩ := info_parts info_rec
  have HI : Hid (_ ∧ _ ∧ _ ∧ _) := ⟨hi, hz0, hz1, hz2⟩
  clear hi hz0 hz1 hz2
  go_enter Tryz.func115, Tryz.ntmps115
  go_wp2
  go_loopw [6, 7, 8] (fun v q i wr => ∃ (a : Option Addr) (n c : Nat) (rs : List RecV) (rest : ByteArray), v = .slice a n c ∧ q = .string rest ∧ i = .int .i64 n ∧ n ≤ N ∧ rest.size ≤ s.size ∧ Hid (ReadAt s.data.toList w wr N a n c rs rest.data.toList)) (fun _ _ i _ => N - (intOf i).toNat)
  case atStart => exact ⟨none, 0, 0, [], s, rfl, rfl, rfl, by omega, Nat.le_refl _, ⟨rfl, by simp, World.ownsRow_nil _ _ _ _, Below.refl _ _, by cases Dk.readRecs N s.data.toList <;> simp [recs]⟩⟩
  case round =>
    obtain ⟨a, n, c, rs, rest, rfl, rfl, rfl, hn, hrs, HR⟩ := hrel
    by_cases hlt : n < N
    · go_wp2_with fail
      refine (readRecord_any rest _ (Nat.le_trans hrs hs)).mono ?_
      rintro e w1 ⟨rc, ri, rx, rt, b, rfl, hv, ht, hb, hB⟩
      have hb' : b.size ≤ s.size := by rw [len_list] at hb; omega
      have HB1 : Hid (Below w.heap.size w w1) := HR.out.bel.trans (hB.mono HR.out.bel.size)
      have HO : Hid (w1.ownsRow w.heap.size 83 4 (.slice a n c) n (recsCells rs)) := own_below HR.out.own hB
      have hz1 : w.heap.size ≤ w1.heap.size := HB1.out.size
      clear hB hb
      cases hr : Dk.readRec rest.data.toList with
      | none =>
        have HN : Hid (Dk.readRecs N s.data.toList = none) := by
          show _ = _
          rw [HR.out.left, show N - n = (N - (n + 1)) + 1 from by omega, Dk.readRecs_none hr]; rfl
        clear hv hr
        go_wp2
        go_ret2
        exact ⟨none, 0, 0, false, rfl, (fun h => by cases h), (fun _ x hx => by rw [HN.out] at hx; cases hx), HB1.out.alloc hz1 _⟩
      | some y =>
        obtain ⟨r, qb⟩ := y
        have HV : Hid (Dk.readRec rest.data.toList = some ((⟨rc, ri, rx, rt⟩ : RecV).told, b.data.toList)) := by
          show _ = _
          obtain ⟨h1, h2⟩ := hv r qb hr
          rw [hr, ← h1, ← h2]; rfl
        clear hv hr
        go_wp2_with (at_builtin; refine wpList_append_own _ rfl (.tmp 26) (.tmp 28) 36 rfl w.heap.size 83 ti (.agg #[.int .i64 0, .int .i64 0, .bool false, .string ⟨#[]⟩]) 4 40 Tryz.underlying36 HI.out.1 HI.out.2.1 HI.out.2.2.1 HI.out.2.2.2 rfl (by decide) (.slice a n c) n (recsCells rs) rfl ((HO.out.alloc _).alloc _) ⟨w1.heap.size + 1, 0, none⟩ 1 1 [.int .i64 rc, .int .i64 ri, .bool rx, .string rt] rfl rfl ?c1 ?c2 ?c3 ?c4 ?c5 ?_)
        case c1 => exact cells_new _ _ (by simp) [.int .i64 rc, .int .i64 ri, .bool rx, .string rt] _
        case c2 => intro u hu; simp at hu; rcases hu with rfl | rfl | rfl | rfl <;> rfl
        case c3 => unfold maxLen; omega
        case c4 => omega
        case c5 => simp; omega
        intro v' w3 hown hgr _
        have HW : Hid (Below w.heap.size w w3) := ((HB1.out.alloc hz1 _).alloc (by simp; omega) _).grown hgr (by simp; omega) (fun k hk => (HO.out.lt k hk).1)
        obtain ⟨a', c', rfl⟩ : ∃ a' c', v' = .slice a' (n + 1) c' := by
          rcases hown.2 with ⟨_, h⟩ | ⟨g, cap, _, h, _⟩
          · omega
          · exact ⟨_, _, h⟩
        have HN : Hid _ := HR.out.step (rv := ⟨rc, ri, rx, rt⟩) hlt HV.out (by show rt.size ≤ _; unfold maxLen; omega) HW.out hown
        clear hown hgr
        go_wp2
        go_roundw
        case rel => exact ⟨a', n + 1, c', _, b, rfl, rfl, by go_num, by omega, hb', HN⟩
        case measure => simp [intOf]; omega
    · have HE : Hid (Dk.readRecs N s.data.toList = some (recs rs, rest.data.toList)) := by
        show _ = _
        rw [HR.out.left, show N - n = 0 from by omega]
        simp [Dk.readRecs]
      cases hre : rest.toList.isEmpty
      · have HE2 : Hid (rest.data.toList ≠ []) := by
          show _ ≠ _
          intro h
          rw [bytes_toList, h] at hre; cases hre
        go_wp2
        go_ret2
        exact ⟨a, n, c, false, rfl, (fun h => by cases h), (fun _ x hx => by rw [HE.out] at hx; exact HE2.out (congrArg Prod.snd (Option.some.inj hx))), HR.out.bel⟩
      · have HE2 : Hid (rest.data.toList = []) := by
          show _ = _
          rw [bytes_toList] at hre
          exact List.isEmpty_iff.1 hre
        go_wp2
        go_ret2
        exact ⟨a, n, c, true, rfl, (fun _ => ⟨by omega, (fun ad had => HR.out.own.lt ad.block (by rw [had]; rfl)), rs, recrow_own HR.out.own HR.out.len HR.out.small, by rw [HE.out, HE2.out]⟩), (fun h => by cases h), HR.out.bel⟩

end Go.Proofs.YtccckonckddadaaGreat
namespace Go.Proofs.YtccckonckddadaaGreat
open Go.RowKit
set_option linter.unusedVariables false

def ReadPost (n : Nat) (l : List UInt8) (w : World) (e : Ending) (w' : World) : Prop :=
  ∃ (a : Option Addr) (m c : Nat) (b : ByteArray), e = .returned (.tuple #[.slice a m c, .string b, .bool (Dk.readV n l).isSome]) ∧ (∀ rs q, Dk.readV n l = some (rs, q) → b.data.toList = q ∧ ∃ rv : List RecV, rs = recs rv ∧ RecRow w' a m rv ∧ m ≤ 255 ∧ ∀ ad, a = some ad → w.heap.size ≤ ad.block ∧ ad.block < w'.heap.size) ∧ Below w.heap.size w w'

theorem ReadPost.no {n : Nat} {l : List UInt8} {w w' : World} {e : Ending} (h : Dk.readV n l = none) (he : e = .returned (.tuple #[.slice none 0 0, .string ⟨#[]⟩, .bool false])) (hB : Below w.heap.size w w') : ReadPost n l w e w' :=
  ⟨none, 0, 0, ⟨#[]⟩, by rw [h]; exact he, (by rw [h]; intro _ _ hx; cases hx), hB⟩

set_option maxRecDepth 100000 in
set_option maxHeartbeats 4000000 in
theorem read_any (n : Nat) (s : ByteArray) (w : World) (hn : n ≤ 200) (hs : s.size ≤ maxLen) : Calls Tryz.prog 93 #[.int .i64 n, .string s] w (ReadPost n s.data.toList w) := by
  go_enter Tryz.func93, Tryz.ntmps93
  go_wp2_with fail
  refine (unseal_any s _ hs).mono ?_
  rintro e w1 ⟨p, b, rfl, hv, hB⟩
  have HB : Hid _ := hB
  clear hB
  cases hu : Dk.unsealV s.data.toList with
  | none =>
    have HN : Hid (Dk.readV n s.data.toList = none) := by
      show _ = _
      unfold Dk.readV
      rw [hu]
    clear hv hu
    go_wp2
    go_ret3
    exact ReadPost.no HN.out rfl HB.out
  | some y =>
    obtain ⟨pp, qq⟩ := y
    obtain ⟨rfl, rfl⟩ := hv pp qq hu
    have hps : p.size < 65536 := (Dk.unseal_some hu).2
    have HU : Hid (Dk.readV n s.data.toList = if p.size < 2 ∨ (p.data.toList.getD 0 0).toNat ≠ n then none else match Dk.readRecs (p.data.toList.getD 1 0).toNat (p.data.toList.drop 2) with | none => none | some (rs, c) => if c = [] ∧ Dk.frameOk n rs = true then some (rs, b.data.toList) else none) := by
      show _ = _
      unfold Dk.readV
      rw [hu]
      simp only [len_list]
      rfl
    clear hv hu
    by_cases h2 : p.size < 2
    · have HN : Hid (Dk.readV n s.data.toList = none) := by
        show _ = _
        rw [HU.out, if_pos (.inl h2)]
      have h2' : (p.size : Int) < 2 := by omega
      go_wp2
      go_ret3
      exact ReadPost.no HN.out rfl HB.out
    · have h2' : ¬ (p.size : Int) < 2 := by omega
      have j0 : (0 : Int) < (p.size : Int) := by omega
      have j1 : (1 : Int) < (p.size : Int) := by omega
      have j2 : (2 : Int) ≤ (p.size : Int) := by omega
      have k0 : 0 < p.size := by omega
      have k1 : 1 < p.size := by omega
      have k2 : 2 ≤ p.size := by omega
      have b0 := byte_bd (p[0]'(by omega))
      have b1 := byte_bd (p[1]'(by omega))
      have g0 : (p.data.toList.getD 0 0).toNat = (p[0]'(by omega)).toNat := by rw [getD_list p 0 (by omega)]
      have g1 : (p.data.toList.getD 1 0).toNat = (p[1]'(by omega)).toNat := by rw [getD_list p 1 (by omega)]
      by_cases h0 : (p[0]'(by omega)).toNat = n
      · have HU2 : Hid (Dk.readV n s.data.toList = match Dk.readRecs (p[1]'(by omega)).toNat (p.extract 2 p.size).data.toList with | none => none | some (rs, c) => if c = [] ∧ Dk.frameOk n rs = true then some (rs, b.data.toList) else none) := by
          show _ = _
          rw [HU.out, if_neg (by rw [g0]; omega), g1, ext_drop]
        have h0' : (((p[0]'(by omega)).toNat : Int) != (n : Int)) = false := by
          rw [bne_eq_false_iff_eq]; omega
        have h0i : ((p[0]'(by omega)).toNat : Int) = (n : Int) := by omega
        have hw1 : IntKind.i64.wrap ((p[1]'(by omega)).toNat : Int) = ((p[1]'(by omega)).toNat : Int) := by
          unfold IntKind.wrap; simp [IntKind.bits, IntKind.signed]; omega
        have hi1 : ∀ W, (Instr.index 9 (.string p) (.int .i64 1)).run Tryz.prog W = .ok (.int .u8 ((p[1]'(by omega)).toNat : Int)) W := fun W => by
          rw [run_index_string _ _ _ _ _ Tryz.underlying9, dif_pos ⟨by omega, j1⟩]
          rfl
        clear g0 g1
        go_wp2
        go_region_held3 (fun W => True) (trivial)
          (first | (go_at_call 115; refine (readRecords_any (p[1]'(by omega)).toNat (p.extract 2 p.size) _ (by omega) (by rw [ByteArray.size_extract]; unfold maxLen; omega)).mono ?_; rintro e w2 ⟨a, m, c, ok, rfl, hy, hno, hB2⟩))
        have HB2 : Hid (Below w.heap.size w w2) := HB.out.trans (((Below.refl _ _).drew.trans hB2).mono HB.out.size)
        have HZ2 : Hid (w.heap.size ≤ w1.heap.size) := HB.out.size
        clear hB2
        cases ok
        · have HN : Hid (Dk.readV n s.data.toList = none) := by
            show _ = _
            rw [HU2.out]
            have hno' := hno rfl
            cases hq : Dk.readRecs (p[1]'(by omega)).toNat (p.extract 2 p.size).data.toList with
            | none => rfl
            | some y =>
              obtain ⟨rs, c⟩ := y
              simp only
              rw [if_neg]
              rintro ⟨rfl, _⟩
              exact hno' _ hq
          clear hy hno
          go_wp2
          go_ret3
          exact ReadPost.no HN.out rfl HB2.out
        · obtain ⟨hm, hfresh, rs, hrow, hq⟩ := hy rfl
          have HFr : Hid _ := hfresh
          clear hfresh
          have HU3 : Hid (Dk.readV n s.data.toList = if Dk.frameOk n (recs rs) = true then some (recs rs, b.data.toList) else none) := by
            show _ = _
            rw [HU2.out, hq]
            simp only [true_and]
          have HRow : Hid _ := hrow
          clear hy hno hq hrow HU2
          go_wp2_with fail
          refine (isEpoch_any (n : Int) a m c rs _ (by unfold maxLen; omega) HRow.out).mono ?_
          rintro e w3 ⟨rfl, hB3⟩
          have HB3 : Hid (Below w.heap.size w w3) := HB2.out.trans (hB3.mono HB2.out.size)
          have HR3 : Hid (RecRow w3 a m rs ∧ ∀ ad, a = some ad → w.heap.size ≤ ad.block ∧ ad.block < w3.heap.size) := ⟨HRow.out.kept hB3, fun ad had => by
            have h1 := HFr.out ad had
            have h2 := hB3.size
            have h3 := HZ2.out
            exact ⟨Nat.le_trans h3 h1.1, Nat.lt_of_lt_of_le h1.2 h2⟩⟩
          clear hB3
          cases hf : Dk.frameOk (n : Int) (recs rs)
          · have HN : Hid (Dk.readV n s.data.toList = none) := by
              show _ = _
              rw [HU3.out, hf]; rfl
            clear hf
            go_wp2
            go_ret3
            exact ReadPost.no HN.out rfl HB3.out
          · have HY : Hid (Dk.readV n s.data.toList = some (recs rs, b.data.toList)) := by
              show _ = _
              rw [HU3.out, hf]; rfl
            clear hf
            go_wp2
            go_ret3
            exact ⟨a, m, c, b, by rw [HY.out]; rfl, (by rw [HY.out]; intro _ _ hx; cases hx; exact ⟨rfl, rs, rfl, HR3.out.1, hm, HR3.out.2⟩), HB3.out⟩
      · have HN : Hid (Dk.readV n s.data.toList = none) := by
          show _ = _
          rw [HU.out, if_pos (.inr (by rw [g0]; exact h0))]
        have h0' : (((p[0]'(by omega)).toNat : Int) != (n : Int)) = true := by
          rw [bne_iff_ne]; omega
        have h0i : ((p[0]'(by omega)).toNat : Int) ≠ (n : Int) := by omega
        clear g0 g1
        go_wp2
        go_ret3
        exact ReadPost.no HN.out rfl HB.out

/-- No epoch in no bytes. -/
theorem read_none (n : Int) (w : World) : Calls Tryz.prog 93 #[.int .i64 n, .string ⟨#[]⟩] w fun e w' => e = .returned (.tuple #[.slice none 0 0, .string ⟨#[]⟩, .bool false]) ∧ Below w.heap.size w w' := by
  go_enter Tryz.func93, Tryz.ntmps93
  go_wp2_with fail
  refine (unseal_any ⟨#[]⟩ _ (Nat.zero_le _)).mono ?_
  rintro e w1 ⟨p, b, rfl, hv, hB⟩
  have HB : Hid _ := hB
  clear hB
  rewrite [show Dk.unsealV (⟨#[]⟩ : ByteArray).data.toList = none from rfl]
  clear hv
  go_wp2
  go_ret3
  exact ⟨rfl, HB.out⟩

/-! ### Scan -/
theorem read_len {n : Nat} {l b : List UInt8} {rs : List Dk.Rec} {p : Nat} (h : Dk.readV n (l.drop p) = some (rs, b)) (hp : p ≤ l.length) : p + (Dk.epoch n rs).length ≤ l.length := by
  have := congrArg List.length (Dk.read_some h).2
  rw [List.length_drop, List.length_append] at this
  omega

set_option maxRecDepth 100000 in
set_option maxHeartbeats 2000000 in
theorem escan_any (s : ByteArray) (w : World) (hs : s.size ≤ maxLen) :
    Calls Tryz.prog 67 #[.string s] w fun e w' => e = .returned (.tuple #[.int .i64 (Dk.scanV s.data.toList).1, .int .i64 (Dk.scanV s.data.toList).2]) ∧ Below w.heap.size w w' := by
  go_enter Tryz.func67, Tryz.ntmps67
  go_wp2
  go_loopw [4, 5] (fun q v wr => ∃ (k p : Nat) (rest : ByteArray), k ≤ 200 ∧ q = .string rest ∧ v = .int .i64 k ∧ p ≤ s.size ∧ rest.size + p = s.size ∧ Hid (rest.data.toList = s.data.toList.drop p ∧ Dk.scanV s.data.toList = Dk.scanFrom s.data.toList (201 - k) k p) ∧ Hid (Below w.heap.size w wr)) (fun _ v _ => 200 - (intOf v).toNat)
  case atStart => exact ⟨0, 0, s, by omega, rfl, rfl, by omega, rfl, ⟨rfl, rfl⟩, Below.refl _ _⟩
  case round =>
    obtain ⟨k, p, rest, hk, rfl, rfl, hp, hrs, HS, HB⟩ := hrel
    have hs' := hs
    unfold maxLen at hs'
    have hd : (s.size : Int) - (rest.size : Int) = (p : Int) := by omega
    by_cases hlt : k < 200
    · go_wp2_with fail
      refine (read_any k rest _ hk (by omega)).mono ?_
      rintro e w1 ⟨a, m, c, b, rfl, hv, hB1⟩
      have HB1 : Hid (Below w.heap.size w w1) := HB.out.trans (hB1.mono HB.out.size)
      rw [HS.out.1] at hv
      rewrite [HS.out.1]
      clear hB1 HB
      cases hr : Dk.readV k (s.data.toList.drop p) with
      | none =>
        have HE : Hid (Dk.scanV s.data.toList = (k, p)) := HS.out.2.trans (Dk.scan_read_none hr)
        clear hv hr
        go_wp2
        go_ret2
        exact ⟨by rw [HE.out]; simp only [← hd]; rfl, HB1.out⟩
      | some y =>
        obtain ⟨rs, qb⟩ := y
        have hb := (hv rs qb hr).1
        have hle := read_len hr (by rw [len_list]; exact hp)
        rw [len_list] at hle
        obtain ⟨h1, h2⟩ := Dk.scan_read_some (k := 201 - (k + 1)) hr
        have HE : Hid (b.data.toList = s.data.toList.drop (p + (Dk.epoch k rs).length) ∧ Dk.scanV s.data.toList = Dk.scanFrom s.data.toList (201 - (k + 1)) (k + 1) (p + (Dk.epoch k rs).length)) := by
          refine ⟨by rw [hb, h2], ?_⟩
          rw [HS.out.2, show 201 - k = (201 - (k + 1)) + 1 from by omega]
          exact h1
        have hbs : b.size + (p + (Dk.epoch k rs).length) = s.size := by
          have := congrArg List.length HE.out.1
          rw [len_list, List.length_drop, len_list] at this
          omega
        clear hv hr h1 h2 hb
        go_wp2
        go_roundw
        case rel => exact ⟨k + 1, _, b, by omega, rfl, by go_num, hle, hbs, HE, HB1⟩
        case measure => simp [intOf]; omega
    · have hk2 : k = 200 := by omega
      subst hk2
      have HE : Hid (Dk.scanV s.data.toList = (200, p)) := HS.out.2.trans (Dk.scan_read_none (Dk.read_high (by omega) _))
      go_wp2
      go_ret2
      exact ⟨by rw [HE.out]; simp only [← hd]; rfl, HB.out⟩

theorem pscan_any (s : ByteArray) (w : World) (hs : s.size ≤ maxLen) :
    Calls Tryz.prog 34 #[.string s] w fun e w' => e = .returned (.tuple #[.int .i64 (Dk.scanV s.data.toList).1, .int .i64 (Dk.scanV s.data.toList).2]) ∧ Below w.heap.size w w' := by
  go_enter Tryz.func34, Tryz.ntmps34
  go_wp2_with fail
  refine (escan_any s _ hs).mono ?_
  rintro e w1 ⟨rfl, hB⟩
  have HB : Hid _ := hB
  clear hB
  go_wp2
  go_ret2
  exact ⟨rfl, HB.out⟩

end Go.Proofs.YtccckonckddadaaGreat
