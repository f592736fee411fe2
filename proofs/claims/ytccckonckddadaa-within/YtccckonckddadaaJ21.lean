import Derived.Test.YtccckonckddadaaJ19
import Derived.Test.YtccckonckddadaaJ20
import Derived.Test.YtccckonckddadaaJ17
import Derived.Test.YtccckonckddadaaJ02
import Derived.Test.YtccckonckddadaaJ13
namespace Go.Proofs.Ytccckonckddadaa
open Go.RowKit
set_option linter.unusedVariables false

namespace Dk
theorem readRecs_none {l : List UInt8} (h : readRec l = none) (k : Nat) : readRecs (k + 1) l = none := by rw [readRecs, h]
theorem readRecs_cons {l b : List UInt8} {r : Rec} (h : readRec l = some (r, b)) (k : Nat) : readRecs (k + 1) l = (readRecs k b).map (fun x => (r :: x.1, x.2)) := by
  rw [readRecs, h]
  simp only
  cases readRecs k b with
  | none => rfl
  | some x => rfl
end Dk

def ReadRecsPost (k : Nat) (l : List UInt8) (w : World) (e : Ending) (w' : World) : Prop :=
  ∃ (a : Option Addr) (n c : Nat) (ok : Bool), e = .returned (.tuple #[.slice a n c, .bool ok]) ∧
    (ok = true → n ≤ 255 ∧ (∀ ad, a = some ad → w.heap.size ≤ ad.block ∧ ad.block < w'.heap.size) ∧ ∃ rs : List RecV, RecRow w' a n rs ∧ Dk.readRecs k l = some (recs rs, [])) ∧ (ok = false → ∀ x, Dk.readRecs k l ≠ some (x, [])) ∧ Below w.heap.size w w'

/-- Where a round of readRecords stands. -/
structure ReadAt (l : List UInt8) (w wr : World) (N : Nat) (a : Option Addr) (n c : Nat) (rs : List RecV) (rest : List UInt8) : Prop where
  len : rs.length = n
  small : ∀ r ∈ rs, r.t.size ≤ maxLen
  own : wr.ownsRow w.heap.size 49 4 (.slice a n c) n (recsCells rs)
  bel : Below w.heap.size w wr
  left : Dk.readRecs N l = (Dk.readRecs (N - n) rest).map (fun x => (recs rs ++ x.1, x.2))

theorem ReadAt.step {l rest b : List UInt8} {w wr w2 : World} {N : Nat} {a a' : Option Addr} {n c c' : Nat} {rs : List RecV} {rv : RecV} (h : ReadAt l w wr N a n c rs rest) (hlt : n < N) (hr : Dk.readRec rest = some (rv.told, b)) (hs : rv.t.size ≤ maxLen) (hB : Below w.heap.size w w2)
    (hown : w2.ownsRow w.heap.size 49 4 (.slice a' (n + 1) c') (n + 1) (recsCells rs ++ recCells rv)) : ReadAt l w w2 N a' (n + 1) c' (rs ++ [rv]) b where
  len := by simp [h.len]
  small := by
    intro r hr
    rcases List.mem_append.1 hr with hr | hr
    · exact h.small r hr
    · have : r = rv := by simpa using hr
      subst this
      exact hs
  own := by rw [recsCells_snoc]; exact hown
  bel := hB
  left := by
    rw [h.left, show N - n = (N - (n + 1)) + 1 from by omega, Dk.readRecs_cons hr, Option.map_map]
    congr 1
    funext x
    simp [recs]

set_option maxRecDepth 100000 in
set_option maxHeartbeats 1000000 in
theorem readRecords_any (N : Nat) (s : ByteArray) (w : World) (hN : N ≤ 255) (hs : s.size ≤ maxLen) : Calls Try.prog 104 #[.int .i64 N, .string s] w (ReadRecsPost N s.data.toList w) := by
  obtain ⟨ti, hi, hz0, hz1, hz2⟩ := info_parts info_rec
  have HI : Hid (_ ∧ _ ∧ _ ∧ _) := ⟨hi, hz0, hz1, hz2⟩
  clear hi hz0 hz1 hz2
  go_enter Try.func104, Try.ntmps104
  go_wp2
  go_loopw [6, 7, 8] (fun v q i wr => ∃ (a : Option Addr) (n c : Nat) (rs : List RecV) (rest : ByteArray), v = .slice a n c ∧ q = .string rest ∧ i = .int .i64 n ∧ n ≤ N ∧ rest.size ≤ s.size ∧ Hid (ReadAt s.data.toList w wr N a n c rs rest.data.toList)) (fun _ _ i _ => N - (intOf i).toNat)
  case atStart => exact ⟨none, 0, 0, [], s, rfl, rfl, rfl, by omega, Nat.le_refl _, ⟨rfl, by simp, World.ownsRow_nil _ _ _ _, Below.refl _ _, by cases Dk.readRecs N s.data.toList <;> simp [recs]⟩⟩
  case round =>
    obtain ⟨a, n, c, rs, rest, rfl, rfl, rfl, hn, hrs, HR⟩ := hrel
    by_cases hlt : n < N
    · go_wp2_with fail
      refine (readRecord_any rest _ (Nat.le_trans hrs hs)).mono ?_
      rintro e w1 ⟨rc, ri, rx, rt, b, rfl, hv, ht, hb, hB⟩
      have hb' : b.size ≤ s.size := by rw [len_list] at hb; omega
      have HB1 : Hid (Below w.heap.size w w1) := HR.out.bel.trans (hB.mono HR.out.bel.size)
      have HO : Hid (w1.ownsRow w.heap.size 49 4 (.slice a n c) n (recsCells rs)) := own_below HR.out.own hB
      have hz1 : w.heap.size ≤ w1.heap.size := HB1.out.size
      clear hB hb
      cases hr : Dk.readRec rest.data.toList with
      | none =>
        have HN : Hid (Dk.readRecs N s.data.toList = none) := by
          show _ = _
          rw [HR.out.left, show N - n = (N - (n + 1)) + 1 from by omega, Dk.readRecs_none hr]; rfl
        clear hv hr
        go_wp2
        go_ret2
        exact ⟨none, 0, 0, false, rfl, (fun h => by cases h), (fun _ x hx => by rw [HN.out] at hx; cases hx), HB1.out.alloc hz1 _⟩
      | some y =>
        obtain ⟨r, qb⟩ := y
        have HV : Hid (Dk.readRec rest.data.toList = some ((⟨rc, ri, rx, rt⟩ : RecV).told, b.data.toList)) := by
          show _ = _
          obtain ⟨h1, h2⟩ := hv r qb hr
          rw [hr, ← h1, ← h2]; rfl
        clear hv hr
        go_wp2_with (at_builtin; refine wpList_append_own _ rfl (.tmp 26) (.tmp 28) 34 rfl w.heap.size 49 ti (.agg #[.int .i64 0, .int .i64 0, .bool false, .string ⟨#[]⟩]) 4 40 Try.underlying34 HI.out.1 HI.out.2.1 HI.out.2.2.1 HI.out.2.2.2 rfl (by decide) (.slice a n c) n (recsCells rs) rfl ((HO.out.alloc _).alloc _) ⟨w1.heap.size + 1, 0, none⟩ 1 1 [.int .i64 rc, .int .i64 ri, .bool rx, .string rt] rfl rfl ?c1 ?c2 ?c3 ?c4 ?c5 ?_)
        case c1 => exact cells_new _ _ (by simp) [.int .i64 rc, .int .i64 ri, .bool rx, .string rt] _
        case c2 => intro u hu; simp at hu; rcases hu with rfl | rfl | rfl | rfl <;> rfl
        case c3 => unfold maxLen; omega
        case c4 => omega
        case c5 => simp; omega
        intro v' w3 hown hgr _
        have HW : Hid (Below w.heap.size w w3) := ((HB1.out.alloc hz1 _).alloc (by simp; omega) _).grown hgr (by simp; omega) (fun k hk => (HO.out.lt k hk).1)
        obtain ⟨a', c', rfl⟩ : ∃ a' c', v' = .slice a' (n + 1) c' := by
          rcases hown.2 with ⟨_, h⟩ | ⟨g, cap, _, h, _⟩
          · omega
          · exact ⟨_, _, h⟩
        have HN : Hid _ := HR.out.step (rv := ⟨rc, ri, rx, rt⟩) hlt HV.out (by show rt.size ≤ _; unfold maxLen; omega) HW.out hown
        clear hown hgr
        go_wp2
        go_roundw
        case rel => exact ⟨a', n + 1, c', _, b, rfl, rfl, by go_num, by omega, hb', HN⟩
        case measure => simp [intOf]; omega
    · have HE : Hid (Dk.readRecs N s.data.toList = some (recs rs, rest.data.toList)) := by
        show _ = _
        rw [HR.out.left, show N - n = 0 from by omega]
        simp [Dk.readRecs]
      cases hre : rest.toList.isEmpty
      · have HE2 : Hid (rest.data.toList ≠ []) := by
          show _ ≠ _
          intro h
          rw [bytes_toList, h] at hre; cases hre
        go_wp2
        go_ret2
        exact ⟨a, n, c, false, rfl, (fun h => by cases h), (fun _ x hx => by rw [HE.out] at hx; exact HE2.out (congrArg Prod.snd (Option.some.inj hx))), HR.out.bel⟩
      · have HE2 : Hid (rest.data.toList = []) := by
          show _ = _
          rw [bytes_toList] at hre
          exact List.isEmpty_iff.1 hre
        go_wp2
        go_ret2
        exact ⟨a, n, c, true, rfl, (fun _ => ⟨by omega, (fun ad had => HR.out.own.lt ad.block (by rw [had]; rfl)), rs, recrow_own HR.out.own HR.out.len HR.out.small, by rw [HE.out, HE2.out]⟩), (fun h => by cases h), HR.out.bel⟩

end Go.Proofs.Ytccckonckddadaa
namespace Go.Proofs.Ytccckonckddadaa
open Go.RowKit
set_option linter.unusedVariables false

def ReadPost (n : Nat) (l : List UInt8) (w : World) (e : Ending) (w' : World) : Prop :=
  ∃ (a : Option Addr) (m c : Nat) (b : ByteArray), e = .returned (.tuple #[.slice a m c, .string b, .bool (Dk.readV n l).isSome]) ∧ (∀ rs q, Dk.readV n l = some (rs, q) → b.data.toList = q ∧ ∃ rv : List RecV, rs = recs rv ∧ RecRow w' a m rv ∧ m ≤ 255 ∧ ∀ ad, a = some ad → w.heap.size ≤ ad.block ∧ ad.block < w'.heap.size) ∧ Below w.heap.size w w'

theorem ReadPost.no {n : Nat} {l : List UInt8} {w w' : World} {e : Ending} (h : Dk.readV n l = none) (he : e = .returned (.tuple #[.slice none 0 0, .string ⟨#[]⟩, .bool false])) (hB : Below w.heap.size w w') : ReadPost n l w e w' :=
  ⟨none, 0, 0, ⟨#[]⟩, by rw [h]; exact he, (by rw [h]; intro _ _ hx; cases hx), hB⟩

set_option maxRecDepth 100000 in
set_option maxHeartbeats 4000000 in
theorem read_any (n : Nat) (s : ByteArray) (w : World) (hn : n ≤ 200) (hs : s.size ≤ maxLen) : Calls Try.prog 76 #[.int .i64 n, .string s] w (ReadPost n s.data.toList w) := by
  go_enter Try.func76, Try.ntmps76
  go_wp2_with fail
  refine (unseal_any s _ hs).mono ?_
  rintro e w1 ⟨p, b, rfl, hv, hB⟩
  have HB : Hid _ := hB
  clear hB
  cases hu : Dk.unsealV s.data.toList with
  | none =>
    have HN : Hid (Dk.readV n s.data.toList = none) := by
      show _ = _
      unfold Dk.readV
      rw [hu]
    clear hv hu
    go_wp2
    go_ret3
    exact ReadPost.no HN.out rfl HB.out
  | some y =>
    obtain ⟨pp, qq⟩ := y
    obtain ⟨rfl, rfl⟩ := hv pp qq hu
    have hps : p.size < 65536 := (Dk.unseal_some hu).2
    have HU : Hid (Dk.readV n s.data.toList = if p.size < 2 ∨ (p.data.toList.getD 0 0).toNat ≠ n then none else match Dk.readRecs (p.data.toList.getD 1 0).toNat (p.data.toList.drop 2) with | none => none | some (rs, c) => if c = [] ∧ Dk.frameOk n rs = true then some (rs, b.data.toList) else none) := by
      show _ = _
      unfold Dk.readV
      rw [hu]
      simp only [len_list]
      rfl
    clear hv hu
    by_cases h2 : p.size < 2
    · have HN : Hid (Dk.readV n s.data.toList = none) := by
        show _ = _
        rw [HU.out, if_pos (.inl h2)]
      have h2' : (p.size : Int) < 2 := by omega
      go_wp2
      go_ret3
      exact ReadPost.no HN.out rfl HB.out
    · have h2' : ¬ (p.size : Int) < 2 := by omega
      have j0 : (0 : Int) < (p.size : Int) := by omega
      have j1 : (1 : Int) < (p.size : Int) := by omega
      have j2 : (2 : Int) ≤ (p.size : Int) := by omega
      have k0 : 0 < p.size := by omega
      have k1 : 1 < p.size := by omega
      have k2 : 2 ≤ p.size := by omega
      have b0 := byte_bd (p[0]'(by omega))
      have b1 := byte_bd (p[1]'(by omega))
      have g0 : (p.data.toList.getD 0 0).toNat = (p[0]'(by omega)).toNat := by rw [getD_list p 0 (by omega)]
      have g1 : (p.data.toList.getD 1 0).toNat = (p[1]'(by omega)).toNat := by rw [getD_list p 1 (by omega)]
      by_cases h0 : (p[0]'(by omega)).toNat = n
      · have HU2 : Hid (Dk.readV n s.data.toList = match Dk.readRecs (p[1]'(by omega)).toNat (p.extract 2 p.size).data.toList with | none => none | some (rs, c) => if c = [] ∧ Dk.frameOk n rs = true then some (rs, b.data.toList) else none) := by
          show _ = _
          rw [HU.out, if_neg (by rw [g0]; omega), g1, ext_drop]
        have h0' : (((p[0]'(by omega)).toNat : Int) != (n : Int)) = false := by
          rw [bne_eq_false_iff_eq]; omega
        have h0i : ((p[0]'(by omega)).toNat : Int) = (n : Int) := by omega
        have hw1 : IntKind.i64.wrap ((p[1]'(by omega)).toNat : Int) = ((p[1]'(by omega)).toNat : Int) := by
          unfold IntKind.wrap; simp [IntKind.bits, IntKind.signed]; omega
        have hi1 : ∀ W, (Instr.index 9 (.string p) (.int .i64 1)).run Try.prog W = .ok (.int .u8 ((p[1]'(by omega)).toNat : Int)) W := fun W => by
          rw [run_index_string _ _ _ _ _ Try.underlying9, dif_pos ⟨by omega, j1⟩]
          rfl
        clear g0 g1
        go_wp2
        go_region_held3 (fun W => True) (trivial)
          (first | (go_at_call 104; refine (readRecords_any (p[1]'(by omega)).toNat (p.extract 2 p.size) _ (by omega) (by rw [ByteArray.size_extract]; unfold maxLen; omega)).mono ?_; rintro e w2 ⟨a, m, c, ok, rfl, hy, hno, hB2⟩))
        have HB2 : Hid (Below w.heap.size w w2) := HB.out.trans (((Below.refl _ _).drew.trans hB2).mono HB.out.size)
        have HZ2 : Hid (w.heap.size ≤ w1.heap.size) := HB.out.size
        clear hB2
        cases ok
        · have HN : Hid (Dk.readV n s.data.toList = none) := by
            show _ = _
            rw [HU2.out]
            have hno' := hno rfl
            cases hq : Dk.readRecs (p[1]'(by omega)).toNat (p.extract 2 p.size).data.toList with
            | none => rfl
            | some y =>
              obtain ⟨rs, c⟩ := y
              simp only
              rw [if_neg]
              rintro ⟨rfl, _⟩
              exact hno' _ hq
          clear hy hno
          go_wp2
          go_ret3
          exact ReadPost.no HN.out rfl HB2.out
        · obtain ⟨hm, hfresh, rs, hrow, hq⟩ := hy rfl
          have HFr : Hid _ := hfresh
          clear hfresh
          have HU3 : Hid (Dk.readV n s.data.toList = if Dk.frameOk n (recs rs) = true then some (recs rs, b.data.toList) else none) := by
            show _ = _
            rw [HU2.out, hq]
            simp only [true_and]
          have HRow : Hid _ := hrow
          clear hy hno hq hrow HU2
          go_wp2_with fail
          refine (isEpoch_any (n : Int) a m c rs _ (by unfold maxLen; omega) HRow.out).mono ?_
          rintro e w3 ⟨rfl, hB3⟩
          have HB3 : Hid (Below w.heap.size w w3) := HB2.out.trans (hB3.mono HB2.out.size)
          have HR3 : Hid (RecRow w3 a m rs ∧ ∀ ad, a = some ad → w.heap.size ≤ ad.block ∧ ad.block < w3.heap.size) := ⟨HRow.out.kept hB3, fun ad had => by
            have h1 := HFr.out ad had
            have h2 := hB3.size
            have h3 := HZ2.out
            exact ⟨Nat.le_trans h3 h1.1, Nat.lt_of_lt_of_le h1.2 h2⟩⟩
          clear hB3
          cases hf : Dk.frameOk (n : Int) (recs rs)
          · have HN : Hid (Dk.readV n s.data.toList = none) := by
              show _ = _
              rw [HU3.out, hf]; rfl
            clear hf
            go_wp2
            go_ret3
            exact ReadPost.no HN.out rfl HB3.out
          · have HY : Hid (Dk.readV n s.data.toList = some (recs rs, b.data.toList)) := by
              show _ = _
              rw [HU3.out, hf]; rfl
            clear hf
            go_wp2
            go_ret3
            exact ⟨a, m, c, b, by rw [HY.out]; rfl, (by rw [HY.out]; intro _ _ hx; cases hx; exact ⟨rfl, rs, rfl, HR3.out.1, hm, HR3.out.2⟩), HB3.out⟩
      · have HN : Hid (Dk.readV n s.data.toList = none) := by
          show _ = _
          rw [HU.out, if_pos (.inr (by rw [g0]; exact h0))]
        have h0' : (((p[0]'(by omega)).toNat : Int) != (n : Int)) = true := by
          rw [bne_iff_ne]; omega
        have h0i : ((p[0]'(by omega)).toNat : Int) ≠ (n : Int) := by omega
        clear g0 g1
        go_wp2
        go_ret3
        exact ReadPost.no HN.out rfl HB.out

/-- No epoch in no bytes. -/
theorem read_none (n : Int) (w : World) : Calls Try.prog 76 #[.int .i64 n, .string ⟨#[]⟩] w fun e w' => e = .returned (.tuple #[.slice none 0 0, .string ⟨#[]⟩, .bool false]) ∧ Below w.heap.size w w' := by
  go_enter Try.func76, Try.ntmps76
  go_wp2_with fail
  refine (unseal_any ⟨#[]⟩ _ (Nat.zero_le _)).mono ?_
  rintro e w1 ⟨p, b, rfl, hv, hB⟩
  have HB : Hid _ := hB
  clear hB
  rewrite [show Dk.unsealV (⟨#[]⟩ : ByteArray).data.toList = none from rfl]
  clear hv
  go_wp2
  go_ret3
  exact ⟨rfl, HB.out⟩

/-! ### Scan -/
theorem read_len {n : Nat} {l b : List UInt8} {rs : List Dk.Rec} {p : Nat} (h : Dk.readV n (l.drop p) = some (rs, b)) (hp : p ≤ l.length) : p + (Dk.epoch n rs).length ≤ l.length := by
  have := congrArg List.length (Dk.read_some h).2
  rw [List.length_drop, List.length_append] at this
  omega

set_option maxRecDepth 100000 in
set_option maxHeartbeats 2000000 in
theorem escan_any (s : ByteArray) (w : World) (hs : s.size ≤ maxLen) :
    Calls Try.prog 46 #[.string s] w fun e w' => e = .returned (.tuple #[.int .i64 (Dk.scanV s.data.toList).1, .int .i64 (Dk.scanV s.data.toList).2]) ∧ Below w.heap.size w w' := by
  go_enter Try.func46, Try.ntmps46
  go_wp2
  go_loopw [4, 5] (fun q v wr => ∃ (k p : Nat) (rest : ByteArray), k ≤ 200 ∧ q = .string rest ∧ v = .int .i64 k ∧ p ≤ s.size ∧ rest.size + p = s.size ∧ Hid (rest.data.toList = s.data.toList.drop p ∧ Dk.scanV s.data.toList = Dk.scanFrom s.data.toList (201 - k) k p) ∧ Hid (Below w.heap.size w wr)) (fun _ v _ => 200 - (intOf v).toNat)
  case atStart => exact ⟨0, 0, s, by omega, rfl, rfl, by omega, rfl, ⟨rfl, rfl⟩, Below.refl _ _⟩
  case round =>
    obtain ⟨k, p, rest, hk, rfl, rfl, hp, hrs, HS, HB⟩ := hrel
    have hs' := hs
    unfold maxLen at hs'
    have hd : (s.size : Int) - (rest.size : Int) = (p : Int) := by omega
    by_cases hlt : k < 200
    · go_wp2_with fail
      refine (read_any k rest _ hk (by omega)).mono ?_
      rintro e w1 ⟨a, m, c, b, rfl, hv, hB1⟩
      have HB1 : Hid (Below w.heap.size w w1) := HB.out.trans (hB1.mono HB.out.size)
      rw [HS.out.1] at hv
      rewrite [HS.out.1]
      clear hB1 HB
      cases hr : Dk.readV k (s.data.toList.drop p) with
      | none =>
        have HE : Hid (Dk.scanV s.data.toList = (k, p)) := HS.out.2.trans (Dk.scan_read_none hr)
        clear hv hr
        go_wp2
        go_ret2
        exact ⟨by rw [HE.out]; simp only [← hd]; rfl, HB1.out⟩
      | some y =>
        obtain ⟨rs, qb⟩ := y
        have hb := (hv rs qb hr).1
        have hle := read_len hr (by rw [len_list]; exact hp)
        rw [len_list] at hle
        obtain ⟨h1, h2⟩ := Dk.scan_read_some (k := 201 - (k + 1)) hr
        have HE : Hid (b.data.toList = s.data.toList.drop (p + (Dk.epoch k rs).length) ∧ Dk.scanV s.data.toList = Dk.scanFrom s.data.toList (201 - (k + 1)) (k + 1) (p + (Dk.epoch k rs).length)) := by
          refine ⟨by rw [hb, h2], ?_⟩
          rw [HS.out.2, show 201 - k = (201 - (k + 1)) + 1 from by omega]
          exact h1
        have hbs : b.size + (p + (Dk.epoch k rs).length) = s.size := by
          have := congrArg List.length HE.out.1
          rw [len_list, List.length_drop, len_list] at this
          omega
        clear hv hr h1 h2 hb
        go_wp2
        go_roundw
        case rel => exact ⟨k + 1, _, b, by omega, rfl, by go_num, hle, hbs, HE, HB1⟩
        case measure => simp [intOf]; omega
    · have hk2 : k = 200 := by omega
      subst hk2
      have HE : Hid (Dk.scanV s.data.toList = (200, p)) := HS.out.2.trans (Dk.scan_read_none (Dk.read_high (by omega) _))
      go_wp2
      go_ret2
      exact ⟨by rw [HE.out]; simp only [← hd]; rfl, HB.out⟩

theorem pscan_any (s : ByteArray) (w : World) (hs : s.size ≤ maxLen) :
    Calls Try.prog 23 #[.string s] w fun e w' => e = .returned (.tuple #[.int .i64 (Dk.scanV s.data.toList).1, .int .i64 (Dk.scanV s.data.toList).2]) ∧ Below w.heap.size w w' := by
  go_enter Try.func23, Try.ntmps23
  go_wp2_with fail
  refine (escan_any s _ hs).mono ?_
  rintro e w1 ⟨rfl, hB⟩
  have HB : Hid _ := hB
  clear hB
  go_wp2
  go_ret2
  exact ⟨rfl, HB.out⟩

end Go.Proofs.Ytccckonckddadaa
namespace Go.Proofs.Ytccckonckddadaa
open Go.RowKit
set_option linter.unusedVariables false

/-! ### pick -/
theorem pick_any (c n : Int) (w : World) (h0 : -9223372036854775808 ≤ c) (h1 : c < 9223372036854775808) (hn : 0 < n) (hn2 : n < 4611686018427387904) :
    Calls Try.prog 22 #[.int .i64 c, .int .i64 n] w fun e w' => ∃ r : Int, e = .returned (.int .i64 r) ∧ 0 ≤ r ∧ r < n ∧ w' = w := by
  have hne : n ≠ 0 := by omega
  have hnb : (n == 0) = false := by rw [beq_eq_false_iff_ne]; exact hne
  by_cases hc : c < 0
  · have hc2 : (0 : Int) ≤ -(c + 1) := by omega
    go_enter Try.func22, Try.ntmps22
    go_wp2
    go_ret
    have r0 := Int.tmod_nonneg n hc2
    have r1 := Int.tmod_lt_of_pos (-(c + 1)) hn
    rw [Int.neg_tmod] at r0 r1
    exact ⟨_, rfl, r0, r1, rfl⟩
  · have hc2 : (0 : Int) ≤ c := by omega
    go_enter Try.func22, Try.ntmps22
    go_wp2
    go_ret
    exact ⟨_, rfl, Int.emod_nonneg _ hne, Int.emod_lt_of_pos _ hn, rfl⟩

/-! ### texts -/
def someTexts : List ByteArray := [⟨#[97, 124, 97, 43, 49]⟩, ⟨#[97, 98, 124, 97, 61, 53, 59, 98, 43, 97]⟩, ⟨#[97, 98, 99, 124, 99, 61, 97, 59, 99, 42, 98, 59, 97, 45, 51]⟩, ⟨#[98, 124, 98, 43, 55, 59, 98, 42, 51, 59, 98, 45, 49, 59, 98, 43, 50]⟩, ⟨#[97, 124, 97, 60, 48]⟩, ⟨#[97, 98, 124, 98, 62, 97, 59, 98, 61, 48]⟩, ⟨#[124, 97, 61, 49]⟩, ⟨#[97, 98, 99, 100, 101, 102, 103, 104, 124, 97, 43, 49, 59, 98, 43, 49, 59, 99, 43, 49, 59, 100, 43, 49, 59, 101, 43, 49, 59, 102, 43, 49, 59, 103, 43, 49, 59, 104, 43, 49]⟩, ⟨#[97, 124, 97, 61, 51, 50, 55, 54, 55, 59, 97, 43, 49]⟩, ⟨#[104, 124, 104, 126, 48, 59, 104, 61, 57]⟩, ⟨#[99, 124, 99, 43, 49, 59, 100, 43, 49]⟩, ⟨#[97, 124, 97, 42, 97, 59, 97, 43, 51]⟩]
theorem texts_parse : ∀ t ∈ someTexts, Dk.parseOk t.data.toList = true := by decide +kernel

set_option maxRecDepth 100000 in
set_option maxHeartbeats 1000000 in
theorem texts_any (c : Int) (w : World) (h0 : -9223372036854775808 ≤ c) (h1 : c < 9223372036854775808) :
    Calls Try.prog 35 #[.int .i64 c] w fun e w' => ∃ t : ByteArray, e = .returned (.string t) ∧ Dk.parseOk t.data.toList = true ∧ Below w.heap.size w w' := by
  go_enter Try.func35, Try.ntmps35
  go_wp2_with fail
  refine (pick_any c 12 _ h0 h1 (by omega) (by omega)).mono ?_
  rintro e w1 ⟨r, rfl, hr0, hr1, rfl⟩
  have HB : Hid (Below w.heap.size w (w.alloc (.cells #[.string ⟨#[97, 124, 97, 43, 49]⟩, .string ⟨#[97, 98, 124, 97, 61, 53, 59, 98, 43, 97]⟩, .string ⟨#[97, 98, 99, 124, 99, 61, 97, 59, 99, 42, 98, 59, 97, 45, 51]⟩, .string ⟨#[98, 124, 98, 43, 55, 59, 98, 42, 51, 59, 98, 45, 49, 59, 98, 43, 50]⟩, .string ⟨#[97, 124, 97, 60, 48]⟩, .string ⟨#[97, 98, 124, 98, 62, 97, 59, 98, 61, 48]⟩, .string ⟨#[124, 97, 61, 49]⟩, .string ⟨#[97, 98, 99, 100, 101, 102, 103, 104, 124, 97, 43, 49, 59, 98, 43, 49, 59, 99, 43, 49, 59, 100, 43, 49, 59, 101, 43, 49, 59, 102, 43, 49, 59, 103, 43, 49, 59, 104, 43, 49]⟩, .string ⟨#[97, 124, 97, 61, 51, 50, 55, 54, 55, 59, 97, 43, 49]⟩, .string ⟨#[104, 124, 104, 126, 48, 59, 104, 61, 57]⟩, .string ⟨#[99, 124, 99, 43, 49, 59, 100, 43, 49]⟩, .string ⟨#[97, 124, 97, 42, 97, 59, 97, 43, 51]⟩] 9))) := (Below.refl _ _).alloc (Nat.le_refl _) _
  have hg : (w.alloc (.cells #[.string ⟨#[97, 124, 97, 43, 49]⟩, .string ⟨#[97, 98, 124, 97, 61, 53, 59, 98, 43, 97]⟩, .string ⟨#[97, 98, 99, 124, 99, 61, 97, 59, 99, 42, 98, 59, 97, 45, 51]⟩, .string ⟨#[98, 124, 98, 43, 55, 59, 98, 42, 51, 59, 98, 45, 49, 59, 98, 43, 50]⟩, .string ⟨#[97, 124, 97, 60, 48]⟩, .string ⟨#[97, 98, 124, 98, 62, 97, 59, 98, 61, 48]⟩, .string ⟨#[124, 97, 61, 49]⟩, .string ⟨#[97, 98, 99, 100, 101, 102, 103, 104, 124, 97, 43, 49, 59, 98, 43, 49, 59, 99, 43, 49, 59, 100, 43, 49, 59, 101, 43, 49, 59, 102, 43, 49, 59, 103, 43, 49, 59, 104, 43, 49]⟩, .string ⟨#[97, 124, 97, 61, 51, 50, 55, 54, 55, 59, 97, 43, 49]⟩, .string ⟨#[104, 124, 104, 126, 48, 59, 104, 61, 57]⟩, .string ⟨#[99, 124, 99, 43, 49, 59, 100, 43, 49]⟩, .string ⟨#[97, 124, 97, 42, 97, 59, 97, 43, 51]⟩] 9)).heap[w.heap.size]? = some (.cells #[.string ⟨#[97, 124, 97, 43, 49]⟩, .string ⟨#[97, 98, 124, 97, 61, 53, 59, 98, 43, 97]⟩, .string ⟨#[97, 98, 99, 124, 99, 61, 97, 59, 99, 42, 98, 59, 97, 45, 51]⟩, .string ⟨#[98, 124, 98, 43, 55, 59, 98, 42, 51, 59, 98, 45, 49, 59, 98, 43, 50]⟩, .string ⟨#[97, 124, 97, 60, 48]⟩, .string ⟨#[97, 98, 124, 98, 62, 97, 59, 98, 61, 48]⟩, .string ⟨#[124, 97, 61, 49]⟩, .string ⟨#[97, 98, 99, 100, 101, 102, 103, 104, 124, 97, 43, 49, 59, 98, 43, 49, 59, 99, 43, 49, 59, 100, 43, 49, 59, 101, 43, 49, 59, 102, 43, 49, 59, 103, 43, 49, 59, 104, 43, 49]⟩, .string ⟨#[97, 124, 97, 61, 51, 50, 55, 54, 55, 59, 97, 43, 49]⟩, .string ⟨#[104, 124, 104, 126, 48, 59, 104, 61, 57]⟩, .string ⟨#[99, 124, 99, 43, 49, 59, 100, 43, 49]⟩, .string ⟨#[97, 124, 97, 42, 97, 59, 97, 43, 51]⟩] 9) := heap_at rfl
  generalize w.alloc (.cells #[.string ⟨#[97, 124, 97, 43, 49]⟩, .string ⟨#[97, 98, 124, 97, 61, 53, 59, 98, 43, 97]⟩, .string ⟨#[97, 98, 99, 124, 99, 61, 97, 59, 99, 42, 98, 59, 97, 45, 51]⟩, .string ⟨#[98, 124, 98, 43, 55, 59, 98, 42, 51, 59, 98, 45, 49, 59, 98, 43, 50]⟩, .string ⟨#[97, 124, 97, 60, 48]⟩, .string ⟨#[97, 98, 124, 98, 62, 97, 59, 98, 61, 48]⟩, .string ⟨#[124, 97, 61, 49]⟩, .string ⟨#[97, 98, 99, 100, 101, 102, 103, 104, 124, 97, 43, 49, 59, 98, 43, 49, 59, 99, 43, 49, 59, 100, 43, 49, 59, 101, 43, 49, 59, 102, 43, 49, 59, 103, 43, 49, 59, 104, 43, 49]⟩, .string ⟨#[97, 124, 97, 61, 51, 50, 55, 54, 55, 59, 97, 43, 49]⟩, .string ⟨#[104, 124, 104, 126, 48, 59, 104, 61, 57]⟩, .string ⟨#[99, 124, 99, 43, 49, 59, 100, 43, 49]⟩, .string ⟨#[97, 124, 97, 42, 97, 59, 97, 43, 51]⟩] 9) = W at *
  obtain ⟨t, ht, hc⟩ : ∃ t, t ∈ someTexts ∧ W.cell? ⟨w.heap.size, r.toNat, none⟩ = some (.string t) := by
    have hk : r.toNat < someTexts.length := by show r.toNat < 12; omega
    refine ⟨someTexts[r.toNat], List.getElem_mem hk, ?_⟩
    rw [(heap_cells hg).1]
    have e : (#[.string ⟨#[97, 124, 97, 43, 49]⟩, .string ⟨#[97, 98, 124, 97, 61, 53, 59, 98, 43, 97]⟩, .string ⟨#[97, 98, 99, 124, 99, 61, 97, 59, 99, 42, 98, 59, 97, 45, 51]⟩, .string ⟨#[98, 124, 98, 43, 55, 59, 98, 42, 51, 59, 98, 45, 49, 59, 98, 43, 50]⟩, .string ⟨#[97, 124, 97, 60, 48]⟩, .string ⟨#[97, 98, 124, 98, 62, 97, 59, 98, 61, 48]⟩, .string ⟨#[124, 97, 61, 49]⟩, .string ⟨#[97, 98, 99, 100, 101, 102, 103, 104, 124, 97, 43, 49, 59, 98, 43, 49, 59, 99, 43, 49, 59, 100, 43, 49, 59, 101, 43, 49, 59, 102, 43, 49, 59, 103, 43, 49, 59, 104, 43, 49]⟩, .string ⟨#[97, 124, 97, 61, 51, 50, 55, 54, 55, 59, 97, 43, 49]⟩, .string ⟨#[104, 124, 104, 126, 48, 59, 104, 61, 57]⟩, .string ⟨#[99, 124, 99, 43, 49, 59, 100, 43, 49]⟩, .string ⟨#[97, 124, 97, 42, 97, 59, 97, 43, 51]⟩] : Array Value) = (someTexts.map Value.string).toArray := rfl
    rw [e, List.getElem?_toArray, List.getElem?_map, List.getElem?_eq_getElem hk]
    rfl
  have HT : Hid _ := texts_parse t ht
  clear ht hg
  go_wp2
  go_ret
  exact ⟨t, rfl, HT.out, HB.out⟩

/-! ### records -/
/-- Raw records in a row. -/
structure RawRow (w : World) (a : Option Addr) (n : Nat) : Prop where
  len : n ≤ maxLen
  cells : n = 0 ∨ ∃ g off, a = some ⟨g, off, none⟩ ∧ g < w.heap.size ∧ ∀ k, k < n → ∃ x0 x1 x2 x3 : Int,
    (w.cell? ⟨g, off + k * 4, none⟩ = some (.int .i64 x0) ∧ w.cell? ⟨g, off + k * 4 + 1, none⟩ = some (.int .i64 x1) ∧ w.cell? ⟨g, off + k * 4 + 2, none⟩ = some (.int .i64 x2) ∧ w.cell? ⟨g, off + k * 4 + 3, none⟩ = some (.int .i64 x3)) ∧
    (-9223372036854775808 ≤ x0 ∧ x0 < 9223372036854775808) ∧ (-9223372036854775808 ≤ x1 ∧ x1 < 9223372036854775808) ∧ (-9223372036854775808 ≤ x2 ∧ x2 < 9223372036854775808) ∧ (-9223372036854775808 ≤ x3 ∧ x3 < 9223372036854775808)

theorem RawRow.kept {w W : World} {a : Option Addr} {n : Nat} (h : RawRow w a n) (hb : Below w.heap.size w W) : RawRow W a n := by
  refine ⟨h.len, ?_⟩
  rcases h.cells with h0 | ⟨g, off, rfl, hg, hc⟩
  · exact .inl h0
  · refine .inr ⟨g, off, rfl, Nat.lt_of_lt_of_le hg hb.size, fun k hk => ?_⟩
    obtain ⟨x0, x1, x2, x3, ⟨c1, c2, c3, c4⟩, hx⟩ := hc k hk
    exact ⟨x0, x1, x2, x3, ⟨(hb.cell (p := ⟨g, _, none⟩) hg).trans c1, (hb.cell (p := ⟨g, _, none⟩) hg).trans c2, (hb.cell (p := ⟨g, _, none⟩) hg).trans c3, (hb.cell (p := ⟨g, _, none⟩) hg).trans c4⟩, hx⟩

def RecordsPost (w : World) (e : Ending) (w' : World) : Prop :=
  ∃ (a : Option Addr) (m c : Nat) (rs : List RecV), e = .returned (.slice a m c) ∧ m ≤ 64 ∧ RecRow w' a m rs ∧ (recs rs).all Dk.recOk = true ∧ Below w.heap.size w w'

/-- Where a round of records stands. -/
structure MakeAt (w wr : World) (a : Option Addr) (n c : Nat) (rs : List RecV) : Prop where
  len : rs.length = n
  small : ∀ r ∈ rs, r.t.size ≤ maxLen
  own : wr.ownsRow w.heap.size 49 4 (.slice a n c) n (recsCells rs)
  bel : Below w.heap.size w wr
  ok : (recs rs).all Dk.recOk = true

theorem MakeAt.step {w wr w2 : World} {a a' : Option Addr} {n c c' : Nat} {rs : List RecV} {rv : RecV} (h : MakeAt w wr a n c rs) (hr : Dk.recOk rv.told = true) (hs : rv.t.size ≤ maxLen) (hB : Below w.heap.size w w2)
    (hown : w2.ownsRow w.heap.size 49 4 (.slice a' (n + 1) c') (n + 1) (recsCells rs ++ recCells rv)) : MakeAt w w2 a' (n + 1) c' (rs ++ [rv]) where
  len := by simp [h.len]
  small := by
    intro r hr
    rcases List.mem_append.1 hr with hr | hr
    · exact h.small r hr
    · have : r = rv := by simpa using hr
      subst this
      exact hs
  own := by rw [recsCells_snoc]; exact hown
  bel := hB
  ok := by
    unfold recs
    rw [List.map_append, List.all_append]
    have h2 := h.ok
    unfold recs at h2
    rw [h2]
    simp [hr]

theorem made_ok {c i : Int} {l : Bool} {t : ByteArray} (hc0 : 0 ≤ c) (hc8 : c < 8) (hi0 : 0 ≤ i) (hi9 : i < 1000000) (ht : if l then t.data.toList = [] else Dk.parseOk t.data.toList = true) : Dk.recOk (recOf c i l t) = true := by
  have h : Dk.recOk (recOf c i l t) = ((if l then t.data.toList == [] else Dk.parseOk t.data.toList) && decide (0 ≤ c ∧ c < 8) && decide (0 ≤ i ∧ i ≤ 999999)) := rfl
  rw [h, decide_eq_true ⟨hc0, hc8⟩, decide_eq_true (by omega : 0 ≤ i ∧ i ≤ 999999)]
  cases l
  · have ht' : Dk.parseOk t.data.toList = true := ht
    simp [ht']
  · have ht' : t.data.toList = [] := ht
    rw [ht']; rfl

set_option maxRecDepth 100000 in
set_option maxHeartbeats 4000000 in
theorem records_any (a : Option Addr) (n c : Nat) (w : World) (hrow : RawRow w a n) : Calls Try.prog 20 #[.slice a n c] w (RecordsPost w) := by
  obtain ⟨ti, hi, hz0, hz1, hz2⟩ := info_parts info_rec
  have HI : Hid (_ ∧ _ ∧ _ ∧ _) := ⟨hi, hz0, hz1, hz2⟩
  clear hi hz0 hz1 hz2
  have HR : Hid _ := hrow
  have hnM : (n : Int) ≤ 9223372036854775807 := by have := hrow.len; unfold maxLen at this; omega
  clear hrow
  go_enter Try.func20, Try.ntmps20
  go_wp2
  go_loopw [3, 4] (fun v i wr => ∃ (a' : Option Addr) (k c' : Nat) (rs : List RecV), v = .slice a' k c' ∧ i = .int .i64 k ∧ k ≤ n ∧ k ≤ 64 ∧ Hid (MakeAt w wr a' k c' rs)) (fun _ i _ => 64 - (intOf i).toNat)
  case atStart => exact ⟨none, 0, 0, [], rfl, rfl, by omega, by omega, ⟨rfl, by simp, World.ownsRow_nil _ _ _ _, Below.refl _ _, rfl⟩⟩
  case round =>
    obtain ⟨a', k, c', rs, rfl, rfl, hk, hk64, HM⟩ := hrel
    by_cases hlt : k < n ∧ k < 64
    · obtain ⟨hkn, hk6⟩ := hlt
      have hknI : (k : Int) < (n : Int) := by omega
      have hk6I : (k : Int) < 64 := by omega
      have hk0I : (0 : Int) ≤ (k : Int) := by omega
      obtain ⟨g, off, rfl, hg, hcell⟩ : ∃ g off, a = some ⟨g, off, none⟩ ∧ g < w.heap.size ∧ _ := (HR.out.cells).resolve_left (by omega)
      obtain ⟨x0, x1, x2, x3, ⟨d0, d1, d2, d3⟩, ⟨l0, u0⟩, ⟨l1, u1⟩, ⟨l2, u2⟩, ⟨l3, u3⟩⟩ := hcell k hkn
      clear hcell
      have e0 := (HM.out.bel.cell (p := ⟨g, off + k * 4, none⟩) hg).trans d0
      have e1 := (HM.out.bel.cell (p := ⟨g, off + k * 4 + 1, none⟩) hg).trans d1
      have e2 := (HM.out.bel.cell (p := ⟨g, off + k * 4 + 2, none⟩) hg).trans d2
      have e3 := (HM.out.bel.cell (p := ⟨g, off + k * 4 + 3, none⟩) hg).trans d3
      have hgr : g < wr.heap.size := Nat.lt_of_lt_of_le hg HM.out.bel.size
      clear d0 d1 d2 d3
      go_wp2
      go_region_held3 (fun W => Below wr.heap.size wr W ∧ (∀ b x, b < wr.heap.size → W.cell? ⟨b, x, none⟩ = wr.cell? ⟨b, x, none⟩))
        (first | (with_reducible exact doS_0) | (with_reducible exact doS_1) | (with_reducible exact doS_2 ‹_›) | (with_reducible exact doS_3 ‹_›))
        (first | (go_at_call_of 22 (Value.int IntKind.i64 8); refine (pick_any x0 8 _ l0 u0 (by omega) (by omega)).mono ?_; rintro e w1 ⟨r0, rfl, p0, q0, rfl⟩) | (go_at_call_of 22 (Value.int IntKind.i64 1000000); refine (pick_any x1 1000000 _ l1 u1 (by omega) (by omega)).mono ?_; rintro e w1 ⟨r1, rfl, p1, q1, rfl⟩))
      all_goals
        clear e0 e1 e3
        have HX : Hid ((wr.alloc (.cells #[.int .i64 r0, .int .i64 r1, .bool (x3.tmod 2 != 0), .string ⟨#[]⟩] 49)).drew.heap[wr.heap.size]? = some (.cells #[.int .i64 r0, .int .i64 r1, .bool (x3.tmod 2 != 0), .string ⟨#[]⟩] 49) ∧ Below wr.heap.size wr (wr.alloc (.cells #[.int .i64 r0, .int .i64 r1, .bool (x3.tmod 2 != 0), .string ⟨#[]⟩] 49)).drew) :=
          ⟨heap_at rfl, ((Below.refl _ _).alloc (Nat.le_refl _) _).drew⟩
        generalize (wr.alloc (.cells #[.int .i64 r0, .int .i64 r1, .bool (x3.tmod 2 != 0), .string ⟨#[]⟩] 49)).drew = W2 at *
        have e4 := (HX.out.2.cell (p := ⟨g, off + k * 4 + 2, none⟩) hgr).trans e2
        have hgW : g < W2.heap.size := Nat.lt_of_lt_of_le hgr HX.out.2.size
        have HBX : Hid (Below w.heap.size w W2) := HM.out.bel.trans (HX.out.2.mono HM.out.bel.size)
        have hzr : w.heap.size ≤ wr.heap.size := HM.out.bel.size
        generalize hgx : wr.heap.size = gx at *
        generalize (x3.tmod 2 != 0) = b at *
        clear e2
        obtain ⟨c0, f0, z0⟩ := heap_cells HX.out.1
        cases b
        · go_wp2_with fail
          refine (texts_any x2 _ l2 u2).mono ?_
          rintro e w4 ⟨t, rfl, hpt, hB4⟩
          obtain ⟨c4, f4, z4⟩ := heap_cells ((hB4.block gx z0).trans HX.out.1)
          have HBs : Hid (Below gx wr (w4.setCell ⟨gx, 3, none⟩ (.string t))) := (HX.out.2.trans (hB4.mono (Nat.le_of_lt z0))).setCell (Nat.le_refl _) _
          have HO : Hid ((w4.setCell ⟨gx, 3, none⟩ (.string t)).ownsRow w.heap.size 49 4 (.slice a' k c') k (recsCells rs)) := own_below HM.out.own (by rw [hgx]; exact HBs.out)
          have HBw : Hid (Below w.heap.size w (w4.setCell ⟨gx, 3, none⟩ (.string t))) := HM.out.bel.trans (HBs.out.mono (by rw [← hgx]; exact HM.out.bel.size))
          have hz4 : w.heap.size ≤ w4.heap.size := Nat.le_trans HBX.out.size hB4.size
          have hzw : w.heap.size ≤ (w4.setCell ⟨gx, 3, none⟩ (.string t)).heap.size := by simp [World.setCell]; exact hz4
          have HOk : Hid (Dk.recOk (⟨r0, r1, false, t⟩ : RecV).told = true) := made_ok p0 q0 p1 q1 hpt
          have HSz : Hid (t.size ≤ maxLen) := by
            show _ ≤ _
            have := parse_len hpt
            rw [len_list] at this
            unfold maxLen; omega
          clear hB4 hpt c0 f0
          go_wp2_with (at_builtin; refine wpList_append_own _ rfl (.tmp 46) (.tmp 48) 34 rfl w.heap.size 49 ti (.agg #[.int .i64 0, .int .i64 0, .bool false, .string ⟨#[]⟩]) 4 40 Try.underlying34 HI.out.1 HI.out.2.1 HI.out.2.2.1 HI.out.2.2.2 rfl (by decide) (.slice a' k c') k (recsCells rs) rfl (HO.out.alloc _) ⟨w4.heap.size, 0, none⟩ 1 1 [.int .i64 r0, .int .i64 r1, .bool false, .string t] rfl rfl ?c1 ?c2 ?c3 ?c4 ?c5 ?_)
          case c1 => exact cells_new _ _ (by simp) [.int .i64 r0, .int .i64 r1, .bool false, .string t] _
          case c2 => intro u hu; simp at hu; rcases hu with rfl | rfl | rfl | rfl <;> rfl
          case c3 => unfold maxLen; omega
          case c4 => omega
          case c5 => simp; omega
          intro v' w3 hown hgr2 _
          have HW : Hid (Below w.heap.size w w3) := (HBw.out.alloc hzw _).grown hgr2 (by simp; omega) (fun k hk => (HO.out.lt k hk).1)
          obtain ⟨a2, c2, rfl⟩ : ∃ a' c', v' = .slice a' (k + 1) c' := by
            rcases hown.2 with ⟨_, h⟩ | ⟨g, cap, _, h, _⟩
            · omega
            · exact ⟨_, _, h⟩
          have HN : Hid _ := HM.out.step (rv := ⟨r0, r1, false, t⟩) HOk.out HSz.out HW.out hown
          clear hown hgr2 c4 f4
          go_wp2
          go_roundw
          case rel => exact ⟨a2, k + 1, c2, _, rfl, by go_num, by omega, by omega, HN⟩
          case measure => simp [intOf]; omega
        · have HO : Hid (W2.ownsRow w.heap.size 49 4 (.slice a' k c') k (recsCells rs)) := own_below HM.out.own (by rw [hgx]; exact HX.out.2)
          have HBw : Hid _ := HBX
          have hzw : w.heap.size ≤ W2.heap.size := HBX.out.size
          have HOk : Hid (Dk.recOk (⟨r0, r1, true, ⟨#[]⟩⟩ : RecV).told = true) := made_ok p0 q0 p1 q1 rfl
          have HSz : Hid ((⟨#[]⟩ : ByteArray).size ≤ maxLen) := Nat.zero_le _
          go_wp2_with (at_builtin; refine wpList_append_own _ rfl (.tmp 46) (.tmp 48) 34 rfl w.heap.size 49 ti (.agg #[.int .i64 0, .int .i64 0, .bool false, .string ⟨#[]⟩]) 4 40 Try.underlying34 HI.out.1 HI.out.2.1 HI.out.2.2.1 HI.out.2.2.2 rfl (by decide) (.slice a' k c') k (recsCells rs) rfl (HO.out.alloc _) ⟨W2.heap.size, 0, none⟩ 1 1 [.int .i64 r0, .int .i64 r1, .bool true, .string ⟨#[]⟩] rfl rfl ?c1 ?c2 ?c3 ?c4 ?c5 ?_)
          case c1 => exact cells_new _ _ rfl [.int .i64 r0, .int .i64 r1, .bool true, .string ⟨#[]⟩] _
          case c2 => intro u hu; simp at hu; rcases hu with rfl | rfl | rfl | rfl <;> rfl
          case c3 => unfold maxLen; omega
          case c4 => omega
          case c5 => simp; omega
          intro v' w3 hown hgr2 _
          have HW : Hid (Below w.heap.size w w3) := (HBw.out.alloc hzw _).grown hgr2 (by simp; omega) (fun k hk => (HO.out.lt k hk).1)
          obtain ⟨a2, c2, rfl⟩ : ∃ a' c', v' = .slice a' (k + 1) c' := by
            rcases hown.2 with ⟨_, h⟩ | ⟨g, cap, _, h, _⟩
            · omega
            · exact ⟨_, _, h⟩
          have HN : Hid _ := HM.out.step (rv := ⟨r0, r1, true, ⟨#[]⟩⟩) HOk.out HSz.out HW.out hown
          clear hown hgr2 c0 f0
          go_wp2
          go_roundw
          case rel => exact ⟨a2, k + 1, c2, _, rfl, by go_num, by omega, by omega, HN⟩
          case measure => simp [intOf]; omega
    · by_cases hkn : k < n
      · have hknI : (k : Int) < (n : Int) := by omega
        have hk6I : (64 : Int) ≤ (k : Int) := by omega
        go_wp2
        go_ret
        exact ⟨a', k, c', rs, rfl, hk64, recrow_own HM.out.own HM.out.len HM.out.small, HM.out.ok, HM.out.bel⟩
      · have hknI : (n : Int) ≤ (k : Int) := by omega
        go_wp2
        go_ret
        exact ⟨a', k, c', rs, rfl, hk64, recrow_own HM.out.own HM.out.len HM.out.small, HM.out.ok, HM.out.bel⟩

end Go.Proofs.Ytccckonckddadaa
namespace Go.Proofs.Ytccckonckddadaa
open Go.RowKit
set_option linter.unusedVariables false

/-- Lists of raw records in a row. -/
structure EpochsRow (w : World) (a : Option Addr) (m : Nat) : Prop where
  len : m ≤ maxLen
  cells : m = 0 ∨ ∃ g off, a = some ⟨g, off, none⟩ ∧ g < w.heap.size ∧ ∀ k, k < m → ∃ ak nk ck, w.cell? ⟨g, off + k, none⟩ = some (.slice ak nk ck) ∧ RawRow w ak nk

def endsCells (es : List (List Dk.Rec)) : List Value := (List.range es.length).map fun i => .int .i64 ((Dk.logFrom 0 (es.take (i + 1))).length : Nat)
theorem ends_at {es : List (List Dk.Rec)} {i : Nat} (h : i < es.length) : (endsCells es)[i]? = some (.int .i64 ((Dk.logFrom 0 (es.take (i + 1))).length : Nat)) := by
  unfold endsCells
  rw [List.getElem?_map, List.getElem?_range h]; rfl
theorem ends_snoc (es : List (List Dk.Rec)) (rs : List Dk.Rec) : endsCells (es ++ [rs]) = endsCells es ++ [.int .i64 ((Dk.logFrom 0 (es ++ [rs])).length : Nat)] := by
  unfold endsCells
  rw [List.length_append, List.length_singleton, List.range_succ, List.map_append]
  congr 1
  · apply List.map_congr_left
    intro i hi
    rw [List.mem_range] at hi
    rw [List.take_append_of_le_length (by omega)]
  · rw [List.map_singleton, List.take_of_length_le (by simp)]
theorem ends_one (es : List (List Dk.Rec)) : ∀ v ∈ endsCells es, v.oneCell' = true := by
  intro v hv
  unfold endsCells at hv
  obtain ⟨i, _, rfl⟩ := List.mem_map.1 hv
  rfl

structure TornAt (w wr : World) (a : Option Addr) (n c : Nat) (es : List (List Dk.Rec)) (lg : List UInt8) : Prop where
  snd : Dk.Sound 0 es
  log : lg = Dk.logFrom 0 es
  own : wr.ownsRow w.heap.size 3 1 (.slice a n c) n (endsCells es)
  len : es.length = n
  bel : Below w.heap.size w wr

theorem sound_snoc {es : List (List Dk.Rec)} {rs : List Dk.Rec} (h : Dk.Sound 0 es) (hf : Dk.frameOk (es.length : Int) rs = true) : Dk.Sound 0 (es ++ [rs]) := by
  intro i x hx
  by_cases hi : i < es.length
  · rw [List.getElem?_append_left hi] at hx
    exact h i x hx
  · rw [List.getElem?_append_right (by omega)] at hx
    have hi0 : i - es.length = 0 := by
      have := (List.getElem?_eq_some_iff.1 hx).1
      simp at this
      omega
    rw [hi0] at hx
    have : rs = x := by simpa using hx
    subst this
    rw [Nat.zero_add, show i = es.length from by omega]
    exact hf

theorem TornAt.step {w wr w2 : World} {a a' : Option Addr} {n c c' : Nat} {es : List (List Dk.Rec)} {lg s : List UInt8} {rs : List Dk.Rec} (h : TornAt w wr a n c es lg) (hf : Dk.frameOk (n : Int) rs = true) (hs : s = Dk.epoch n rs) (hB : Below w.heap.size w w2)
    (hown : w2.ownsRow w.heap.size 3 1 (.slice a' (n + 1) c') (n + 1) (endsCells es ++ [.int .i64 ((lg ++ s).length : Nat)])) : TornAt w w2 a' (n + 1) c' (es ++ [rs]) (lg ++ s) := by
  have hl : lg ++ s = Dk.logFrom 0 (es ++ [rs]) := by rw [h.log, hs, Dk.logFrom_snoc, h.len, Nat.zero_add]
  refine ⟨sound_snoc h.snd (by rw [h.len]; exact hf), hl, ?_, by simp [h.len], hB⟩
  rw [ends_snoc, ← hl]
  exact hown

theorem ends_cell {w : World} {B n c : Nat} {a : Option Addr} {es : List (List Dk.Rec)} (h : w.ownsRow B 3 1 (.slice a n c) n (endsCells es)) (hn : es.length = n) {i : Nat} (hi : i < n) :
    ∃ g, a = some ⟨g, 0, none⟩ ∧ g < w.heap.size ∧ w.cell? ⟨g, i, none⟩ = some (.int .i64 ((Dk.logFrom 0 (es.take (i + 1))).length : Nat)) := by
  rcases h.2 with ⟨_, h0⟩ | ⟨g, cap, cur, hv, _, hg, _, _, hcs, ht⟩
  · omega
  · obtain ⟨rfl, _⟩ : a = some ⟨g, 0, none⟩ ∧ c = cap := by simpa using hv
    refine ⟨g, rfl, (heap_cells hg).2.2, ?_⟩
    rw [(heap_cells hg).1, ← ends_at (by omega), ← ht, ← Array.getElem?_toList, List.getElem?_take_of_lt (by omega)]

theorem info_int : (Try.prog.info? 3).map (fun i => (i.zero, i.size, i.bytes)) = some (some (.int .i64 0), 1, 8) := by kernel_rfl

theorem log_take (es : List (List Dk.Rec)) (k : Nat) : (Dk.logFrom 0 (es.take k)).length ≤ (Dk.logFrom 0 es).length := by
  have h : Dk.logFrom 0 es = Dk.logFrom 0 (es.take k ++ es.drop k) := by rw [List.take_append_drop]
  rw [h, Dk.logFrom_append, List.length_append]; omega

theorem scan_is (s : ByteArray) (x y : Int) (w : World) (hs : s.size ≤ maxLen) (h1 : ((Dk.scanV s.data.toList).1 : Int) = x) (h2 : ((Dk.scanV s.data.toList).2 : Int) = y) :
    Calls Try.prog 23 #[.string s] w fun e w' => e = .returned (.tuple #[.int .i64 x, .int .i64 y]) ∧ Below w.heap.size w w' := by
  rw [← h1, ← h2]
  exact pscan_any s w hs

set_option maxRecDepth 100000 in
set_option maxHeartbeats 4000000 in
theorem torn_walk (a : Option Addr) (m c : Nat) (cut : Int) (tail : ByteArray) (w : World) (hrow : EpochsRow w a m) (hc0 : -9223372036854775808 ≤ cut) (hc1 : cut < 9223372036854775808) (ht : tail.size ≤ 140737488355328) :
    Calls Try.prog 8 #[.slice a m c, .int .i64 cut, .string tail] w fun e w' => e = .returned (.bool true) ∧ Below w.heap.size w w' := by
  obtain ⟨ti, hi, hz0, hz1, hz2⟩ := info_parts info_int
  have HI : Hid (_ ∧ _ ∧ _ ∧ _) := ⟨hi, hz0, hz1, hz2⟩
  clear hi hz0 hz1 hz2
  have HR : Hid _ := hrow
  have hmM : (m : Int) ≤ 9223372036854775807 := by have := hrow.len; unfold maxLen at this; omega
  clear hrow
  go_enter Try.func8, Try.ntmps8
  go_wp2
  go_loopw [7, 8, 11, 12] (fun v7 v8 v11 v12 wr => ∃ (aE : Option Addr) (n cE : Nat) (es : List (List Dk.Rec)) (lg : ByteArray), v7 = .string lg ∧ v8 = .int .i64 n ∧ v11 = .slice aE n cE ∧ v12 = .int .i64 n ∧ n ≤ m ∧ n ≤ 200 ∧ lg.size ≤ 4232 * n ∧ Hid (TornAt w wr aE n cE es lg.data.toList)) (fun _ _ _ v12 _ => 200 - (intOf v12).toNat)
  case atStart => exact ⟨none, 0, 0, [], ⟨#[]⟩, rfl, rfl, rfl, rfl, by omega, by omega, by decide, ⟨(fun i rs hi => by simp at hi), rfl, World.ownsRow_nil _ _ _ _, rfl, Below.refl _ _⟩⟩
  case round =>
    obtain ⟨aE, n, cE, es, lg, rfl, rfl, rfl, rfl, hnm, hn2, hls, HT⟩ := hrel
    by_cases hlt : n < m ∧ n < 200
    · obtain ⟨hnm', hn2'⟩ := hlt
      have i1 : (n : Int) < (m : Int) := by omega
      have i2 : (n : Int) < 200 := by omega
      have i0 : (0 : Int) ≤ (n : Int) := by omega
      obtain ⟨g, off, rfl, hg, hcell⟩ : ∃ g off, a = some ⟨g, off, none⟩ ∧ g < w.heap.size ∧ _ := (HR.out.cells).resolve_left (by omega)
      obtain ⟨ak, nk, ck, d0, hraw⟩ := hcell n hnm'
      have e0 := (HT.out.bel.cell (p := ⟨g, off + n, none⟩) hg).trans d0
      have hgr : g < wr.heap.size := Nat.lt_of_lt_of_le hg HT.out.bel.size
      have HRaw : Hid (RawRow wr ak nk) := hraw.kept HT.out.bel
      clear hcell d0 hraw
      go_wp2_with fail
      refine (records_any ak nk ck _ HRaw.out).mono ?_
      rintro e w3 ⟨aR, mR, cR, rs, rfl, hmR, hRow, hOk, hB3⟩
      have HRow : Hid _ := hRow
      have hB3' : Below w.heap.size w w3 := HT.out.bel.trans (hB3.mono HT.out.bel.size)
      have HB3 : Hid (Below wr.heap.size wr w3) := hB3
      have HF : Hid (Dk.frameOk (n : Int) (recs rs) = true) := by
        show _ = _
        unfold Dk.frameOk
        rw [decide_eq_true ⟨i0, i2⟩, decide_eq_true (by rw [recs, List.length_map, hRow.len]; exact hmR), hOk]; rfl
      have HB3' : Hid _ := hB3'
      clear hRow hOk hB3 hB3' e0 HRaw
      go_wp2_with fail
      refine (pframe_any (n : Int) aR mR cR rs _ (by unfold maxLen; omega) HRow.out).mono ?_
      rintro e w4 ⟨s, rfl, hs, hB4⟩
      rewrite [HF.out]
      rw [HF.out] at hs
      have HS : Hid (s.data.toList = Dk.epoch n (recs rs)) := hs
      have hss : s.size ≤ 4232 := by
        have := epoch_small HF.out
        have h2 := congrArg List.length HS.out
        rw [len_list] at h2
        rw [Int.toNat_natCast] at this
        omega
      have HB4 : Hid (Below wr.heap.size wr w4) := HB3.out.trans (hB4.mono HB3.out.size)
      have HRow4 : Hid (RecRow w4 aR mR rs) := HRow.out.kept hB4
      clear hs hB4 HRow HB3
      have hwant : Hid ((s.size : Int) = 8 + (((recs rs).flatMap Dk.recBytes).length : Nat)) := by
        show _ = _
        have h2 := congrArg List.length HS.out
        rw [len_list, epoch_len] at h2
        omega
      have hrl : rs.length = mR := HRow4.out.len
      go_wp2
      go_loop [16, 17] (fun v i => ∃ k : Nat, k ≤ mR ∧ v = .int .i64 ((8 + (((recs rs).take k).flatMap Dk.recBytes).length : Nat) : Int) ∧ i = .int .i64 k ∧ (((recs rs).take k).flatMap Dk.recBytes).length ≤ 66 * k) (fun _ i => mR - (intOf i).toNat)
      case atStart => exact ⟨0, Nat.zero_le _, rfl, rfl, by simp⟩
      case round =>
        obtain ⟨k, hk, rfl, rfl, hle⟩ := hrel
        by_cases hkl : k < mR
        · obtain ⟨g2, off2, rfl, hg2, hcell2⟩ : ∃ g off, aR = some ⟨g, off, none⟩ ∧ g < w4.heap.size ∧ _ := (HRow4.out.cells).resolve_left (by omega)
          have hkr : k < rs.length := by omega
          obtain ⟨_, _, _, d3⟩ := hcell2 k rs[k] (List.getElem?_eq_getElem hkr)
          have HRk : Hid ((recs rs)[k]? = some rs[k].told) := by show _ = _; simp [recs, hkr]
          have htx : rs[k].t.size ≤ 60 := by
            have h1 := (Dk.frame_parts HF.out).2.2.2
            have h2 := List.all_eq_true.1 h1 _ (List.mem_of_getElem? HRk.out)
            exact (rec_parts h2).2.2.2.2
          have HE : Hid ((((recs rs).take (k + 1)).flatMap Dk.recBytes).length = (((recs rs).take k).flatMap Dk.recBytes).length + (6 + rs[k].t.size)) := by
            show _ = _
            rw [flat_snoc _ _ _ HRk.out, List.length_append, Dk.recBytes_len]
            show _ + (6 + rs[k].t.data.toList.length) = _
            rw [len_list]
          clear hcell2
          generalize rs[k].t = tx at *
          generalize (((recs rs).take k).flatMap Dk.recBytes).length = L at *
          have hkI : (k : Int) < (mR : Int) := by omega
          clear HRk
          go_wp2
          go_round
          case rel => exact ⟨k + 1, by omega, by rw [HE.out]; congr 1; omega, by go_num, by rw [HE.out]; omega⟩
          case measure => simp [intOf]; omega
        · have hkm : k = mR := by omega
          have hw2 : ((8 + (((recs rs).take k).flatMap Dk.recBytes).length : Nat) : Int) = (s.size : Int) := by
            rw [List.take_of_length_le (by rw [recs, List.length_map]; omega)]
            have := hwant.out
            omega
          rewrite [hw2]
          have HO : Hid (w4.ownsRow w.heap.size 3 1 (.slice aE n cE) n (endsCells es)) := own_below HT.out.own HB4.out
          have HBw : Hid (Below w.heap.size w w4) := HT.out.bel.trans (HB4.out.mono HT.out.bel.size)
          have hzw : w.heap.size ≤ w4.heap.size := HBw.out.size
          have hkI : ¬ (k : Int) < (mR : Int) := by omega
          have y1 : ¬ 9223372036854775807 < lg.size + s.size := by omega
          clear hw2 hle hwant
          go_wp2_with (at_builtin; refine wpList_append_own _ rfl (.tmp 77) (.tmp 80) 43 rfl w.heap.size 3 ti (.int .i64 0) 1 8 Try.underlying43 HI.out.1 HI.out.2.1 HI.out.2.2.1 HI.out.2.2.2 rfl (by decide) (.slice aE n cE) n (endsCells es) rfl (HO.out.alloc _) ⟨w4.heap.size, 0, none⟩ 1 1 [.int .i64 ((lg.size : Int) + (s.size : Int))] rfl rfl ?c1 ?c2 ?c3 ?c4 ?c5 ?_)
          try (case c1 => exact cells_new _ _ rfl [.int .i64 ((lg.size : Int) + (s.size : Int))] _)
          try (case c2 => rfl)
          case c3 => unfold maxLen; omega
          case c4 => omega
          case c5 => first | omega | (simp; omega)
          intro v' w5 hown hgr2 _
          have HW : Hid (Below w.heap.size w w5) := (HBw.out.alloc hzw _).grown hgr2 (by simp; omega) (fun k hk => (HO.out.lt k hk).1)
          obtain ⟨a2, c2, rfl⟩ : ∃ a' c', v' = .slice a' (n + 1) c' := by
            rcases hown.2 with ⟨_, h⟩ | ⟨g, cap, _, h, _⟩
            · omega
            · exact ⟨_, _, h⟩
          have HN : Hid (TornAt w w5 a2 (n + 1) c2 (es ++ [recs rs]) (lg ++ s).data.toList) := by
            show TornAt _ _ _ _ _ _ _
            rw [app_list]
            refine HT.out.step HF.out HS.out HW.out ?_
            rw [List.length_append, len_list, len_list]
            exact hown
          have hls2 : (lg ++ s).size ≤ 4232 * (n + 1) := by rw [app_size]; omega
          clear hown hgr2
          go_wp2
          go_roundw
          case rel => exact ⟨a2, n + 1, c2, _, lg ++ s, rfl, by go_num, rfl, by go_num, by omega, by omega, hls2, HN⟩
          case measure => simp [intOf]; omega
    · have HE : Hid (n = m ∨ n = 200) := by show _ ∨ _; omega
      have HT1 : Hid ((0 : Int) < (lg.size : Int) + 1) := by show _ < _; omega
      have HT2 : Hid ((lg.size : Int) + 1 < 4611686018427387904) := by show _ < _; omega
      have hl9 : (lg.size : Int) ≤ 846400 := by omega
      have HL : Hid (lg.size ≤ 846400 ∧ n ≤ 200) := ⟨by omega, hn2⟩
      have hcase : ((n : Int) < (m : Int) ∧ (200 : Int) ≤ (n : Int) ∧ decide ((n : Int) < 200) = false) ∨ (n = m ∧ decide ((m : Int) < (m : Int)) = false) := by
        by_cases hnm' : n < m
        · exact .inl ⟨by omega, by omega, decide_eq_false (by omega)⟩
        · exact .inr ⟨by omega, decide_eq_false (by omega)⟩
      obtain ⟨f, hf⟩ : ∃ f : Nat → Nat, ∀ k, f k = (Dk.logFrom 0 (es.take k)).length := ⟨_, fun _ => rfl⟩
      have HF : Hid _ := hf
      have hf0 : f 0 = 0 := by rw [hf]; rfl
      have hb0 : Hid (f 0 = 0) := hf0
      clear hlt hn2 hnm hls hf hf0
      rcases hcase with ⟨i1, i2, i3⟩ | ⟨rfl, i3⟩
      all_goals
        go_wp2_with fail
        refine (pick_any cut ((lg.size : Int) + 1) _ hc0 hc1 HT1.out HT2.out).mono ?_
        rintro e w3 ⟨r, rfl, hr0, hr1, rfl⟩
        go_wp2
        go_loop [9, 10, 19] (fun v9 v10 v19 => ∃ i k : Nat, i ≤ n ∧ k ≤ i ∧ v9 = .int .i64 (k : Int) ∧ v10 = .int .i64 (f k : Int) ∧ v19 = .int .i64 (i : Int) ∧ Hid ((f k : Int) ≤ r ∧ ∀ j, k < j → j ≤ i → r < (f j : Int))) (fun _ _ v19 => n - (intOf v19).toNat)
        case atStart => exact ⟨0, 0, Nat.zero_le _, Nat.le_refl _, rfl, by rw [hb0.out]; rfl, rfl, ⟨by rw [hb0.out]; exact hr0, fun j h1 h2 => by omega⟩⟩
        case round =>
          obtain ⟨i, k, hin, hki, rfl, rfl, rfl, HK⟩ := hrel
          by_cases hil : i < n
          · obtain ⟨g3, rfl, hg3, d0⟩ := ends_cell HT.out.own HT.out.len hil
            rw [← HF.out (i + 1)] at d0
            have hiI : (i : Int) < (n : Int) := by omega
            have hi0 : (0 : Int) ≤ (i : Int) := by omega
            by_cases hle : (f (i + 1) : Int) ≤ r
            · go_wp2
              go_round
              case rel => exact ⟨i + 1, i + 1, by omega, Nat.le_refl _, by go_num, rfl, by go_num, ⟨hle, fun j h1 h2 => by omega⟩⟩
              case measure => simp [intOf]; omega
            · have hle' : r < (f (i + 1) : Int) := by omega
              go_wp2
              go_round
              case rel =>
                refine ⟨i + 1, k, by omega, by omega, rfl, rfl, by go_num, ⟨HK.out.1, fun j h1 h2 => ?_⟩⟩
                by_cases hj : j = i + 1
                · rw [hj]; exact hle'
                · exact HK.out.2 j h1 (by omega)
              case measure => simp [intOf]; omega
          · obtain rfl : i = n := by omega
            have hel := HT.out.len
            have hlz : (Dk.logFrom 0 es).length = lg.size := by rw [← HT.out.log, len_list]
            have hrn : (r.toNat : Int) = r := Int.toNat_of_nonneg hr0
            have hrl : r ≤ (lg.size : Int) := by omega
            have S0 : Dk.scanV (⟨#[0, 2, 0, 0, 17, 118, 151, 205]⟩ : ByteArray).data.toList = (1, 8) := Dk.scan_empty
            have S1 : Dk.scanV lg.data.toList = (i, lg.size) := by
              have h := Dk.scan_log [] HT.out.snd (by rw [hel]; exact HL.out.2) (Dk.read_nil _)
              rw [List.append_nil, hel, hlz] at h
              rw [HT.out.log]; exact h
            have S2 : Dk.scanV (lg.extract 0 r.toNat).data.toList = (k, f k) := by
              have h := Dk.scan_front HT.out.snd (by rw [hel]; exact HL.out.2) (at' := r.toNat) (k := k) (by omega)
                (by rw [← HF.out k]; have := HK.out.1; omega) (fun hlt => by rw [← HF.out (k + 1)]; have := HK.out.2 (k + 1) (by omega) (by omega); omega)
              rw [ext_list, List.drop_zero, HT.out.log, HF.out k]
              exact h
            have S3 : Dk.scanV (lg ++ (⟨#[0, 0]⟩ : ByteArray) ++ tail).data.toList = (i, lg.size) := by
              have h := Dk.scan_log (0 :: 0 :: tail.data.toList) HT.out.snd (by rw [hel]; exact HL.out.2) (Dk.read_zeros _ _)
              rw [hel, hlz] at h
              rw [app_list, app_list, HT.out.log, List.append_assoc]
              exact h
            have HS0 : Hid _ := S0
            have HS1 : Hid _ := S1
            have HS2 : Hid _ := S2
            have HBt : Hid (Below w.heap.size w w3) := HT.out.bel
            have hb9 := HL.out.1
            have y1 : ¬ 9223372036854775807 < lg.size + (⟨#[0, 0]⟩ : ByteArray).size := by show ¬ 9223372036854775807 < lg.size + 2; omega
            have y2 : ¬ 9223372036854775807 < lg.size + (⟨#[0, 0]⟩ : ByteArray).size + tail.size := by show ¬ 9223372036854775807 < lg.size + 2 + tail.size; omega
            have hii : decide ((i : Int) < (i : Int)) = false := decide_eq_false (by omega)
            have hz3 : (lg ++ (⟨#[0, 0]⟩ : ByteArray) ++ tail).size ≤ maxLen := by
              rw [app_size, app_size]
              have h2 : (⟨#[0, 0]⟩ : ByteArray).size = 2 := rfl
              rw [h2]
              unfold maxLen
              omega
            have HC3 : Hid (∀ W, Calls Try.prog 23 #[.string (lg ++ (⟨#[0, 0]⟩ : ByteArray) ++ tail)] W fun e w' => e = .returned (.tuple #[.int .i64 (i : Int), .int .i64 (lg.size : Int)]) ∧ Below W.heap.size W w') :=
              fun W => scan_is _ (i : Int) (lg.size : Int) W hz3 (by rw [S3]) (by rw [S3])
            clear hz3
            clear S0 S1 S2 S3 hel hlz HT HK hrn
            go_wp2_with fail
            refine (scan_is ⟨#[0, 2, 0, 0, 17, 118, 151, 205]⟩ 1 8 _ (by unfold maxLen; decide) (by rw [HS0.out]; rfl) (by rw [HS0.out]; rfl)).mono ?_
            rintro e w4 ⟨rfl, hB4⟩
            have HB4 : Hid (Below w.heap.size w w4) := HBt.out.trans (hB4.mono HBt.out.size)
            clear hB4 HBt
            go_wp2_with fail
            refine (scan_is lg (i : Int) (lg.size : Int) _ (by unfold maxLen; omega) (by rw [HS1.out]) (by rw [HS1.out])).mono ?_
            rintro e w5 ⟨rfl, hB5⟩
            have HB5 : Hid (Below w.heap.size w w5) := HB4.out.trans (hB5.mono HB4.out.size)
            clear hB5 HB4
            go_wp2_with fail
            refine (scan_is (lg.extract 0 r.toNat) (k : Int) (f k : Int) _ (by rw [ByteArray.size_extract]; unfold maxLen; omega) (by rw [HS2.out]) (by rw [HS2.out])).mono ?_
            rintro e w6 ⟨rfl, hB6⟩
            have HB6 : Hid (Below w.heap.size w w6) := HB5.out.trans (hB6.mono HB5.out.size)
            clear hB6 HB5
            go_wp2_with fail
            refine Calls.mono (HC3.out w6) ?_
            rintro e w7 ⟨rfl, hB7⟩
            have HB7 : Hid (Below w.heap.size w w7) := HB6.out.trans (hB7.mono HB6.out.size)
            clear hB7 HB6
            go_wp2
            go_ret
            exact ⟨rfl, HB7.out⟩

end Go.Proofs.Ytccckonckddadaa
