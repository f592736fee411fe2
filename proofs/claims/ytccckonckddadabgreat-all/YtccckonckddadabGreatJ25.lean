import Derived.Test.YtccckonckddadabGreatJ23
import Derived.Test.YtccckonckddadabGreatJ24
namespace Go.Proofs.YtccckonckddadabGreat
open Go.RowKit
set_option linter.unusedVariables false

namespace Dk
theorem readRecs_none {l : List UInt8} (h : readRec l = none) (k : Nat) : readRecs (k + 1) l = none := by rw [readRecs, h]
theorem readRecs_cons {l b : List UInt8} {r : Rec} (h : readRec l = some (r, b)) (k : Nat) : readRecs (k + 1) l = (readRecs k b).map (fun x => (r :: x.1, x.2)) := by
  rw [readRecs, h]
  simp only
  cases readRecs k b with
  | none => rfl
  | some x => rfl
end Dk

def ReadRecsPost (k : Nat) (l : List UInt8) (w : World) (e : Ending) (w' : World) : Prop :=
  ∃ (a : Option Addr) (n c : Nat) (ok : Bool), e = .returned (.tuple #[.slice a n c, .bool ok]) ∧
    (ok = true → n ≤ 255 ∧ (∀ ad, a = some ad → w.heap.size ≤ ad.block ∧ ad.block < w'.heap.size) ∧ ∃ rs : List RecV, RecRow w' a n rs ∧ Dk.readRecs k l = some (recs rs, [])) ∧ (ok = false → ∀ x, Dk.readRecs k l ≠ some (x, [])) ∧ Below w.heap.size w w'

/-- Where a round of readRecords stands. -/
structure ReadAt (l : List UInt8) (w wr : World) (N : Nat) (a : Option Addr) (n c : Nat) (rs : List RecV) (rest : List UInt8) : Prop where
  len : rs.length = n
  small : ∀ r ∈ rs, r.t.size ≤ maxLen
  own : wr.ownsRow w.heap.size 55 4 (.slice a n c) n (recsCells rs)
  bel : Below w.heap.size w wr
  left : Dk.readRecs N l = (Dk.readRecs (N - n) rest).map (fun x => (recs rs ++ x.1, x.2))

theorem ReadAt.step {l rest b : List UInt8} {w wr w2 : World} {N : Nat} {a a' : Option Addr} {n c c' : Nat} {rs : List RecV} {rv : RecV} (h : ReadAt l w wr N a n c rs rest) (hlt : n < N) (hr : Dk.readRec rest = some (rv.told, b)) (hs : rv.t.size ≤ maxLen) (hB : Below w.heap.size w w2)
    (hown : w2.ownsRow w.heap.size 55 4 (.slice a' (n + 1) c') (n + 1) (recsCells rs ++ recCells rv)) : ReadAt l w w2 N a' (n + 1) c' (rs ++ [rv]) b where
  len := by simp [h.len]
  small := by
    intro r hr
    rcases List.mem_append.1 hr with hr | hr
    · exact h.small r hr
    · have : r = rv := by simpa using hr
      subst this
      exact hs
  own := by rw [recsCells_snoc]; exact hown
  bel := hB
  left := by
    rw [h.left, show N - n = (N - (n + 1)) + 1 from by omega, Dk.readRecs_cons hr, Option.map_map]
    congr 1
    funext x
    simp [recs]

set_option maxRecDepth 100000 in
set_option maxHeartbeats 1000000 in
theorem readRecords_any (N : Nat) (s : ByteArray) (w : World) (hN : N ≤ 255) (hs : s.size ≤ maxLen) : Calls Tryz.prog 114 #[.int .i64 N, .string s] w (ReadRecsPost N s.data.toList w) := by
  obtain ⟨ti, hi, hz0, hz1, hz2⟩ := info_parts info_rec
  have HI : Hid (_ ∧ _ ∧ _ ∧ _) := ⟨hi, hz0, hz1, hz2⟩
  clear hi hz0 hz1 hz2
  go_enter Tryz.func114, Tryz.ntmps114
  go_wp2
  go_loopw [6, 7, 8] (fun v q i wr => ∃ (a : Option Addr) (n c : Nat) (rs : List RecV) (rest : ByteArray), v = .slice a n c ∧ q = .string rest ∧ i = .int .i64 n ∧ n ≤ N ∧ rest.size ≤ s.size ∧ Hid (ReadAt s.data.toList w wr N a n c rs rest.data.toList)) (fun _ _ i _ => N - (intOf i).toNat)
  case atStart => exact ⟨none, 0, 0, [], s, rfl, rfl, rfl, by omega, Nat.le_refl _, ⟨rfl, by simp, World.ownsRow_nil _ _ _ _, Below.refl _ _, by cases Dk.readRecs N s.data.toList <;> simp [recs]⟩⟩
  case round =>
    obtain ⟨a, n, c, rs, rest, rfl, rfl, rfl, hn, hrs, HR⟩ := hrel
    by_cases hlt : n < N
    · go_wp2_with fail
      refine (readRecord_any rest _ (Nat.le_trans hrs hs)).mono ?_
      rintro e w1 ⟨rc, ri, rx, rt, b, rfl, hv, ht, hb, hB⟩
      have hb' : b.size ≤ s.size := by rw [len_list] at hb; omega
      have HB1 : Hid (Below w.heap.size w w1) := HR.out.bel.trans (hB.mono HR.out.bel.size)
      have HO : Hid (w1.ownsRow w.heap.size 55 4 (.slice a n c) n (recsCells rs)) := own_below HR.out.own hB
      have hz1 : w.heap.size ≤ w1.heap.size := HB1.out.size
      clear hB hb
      cases hr : Dk.readRec rest.data.toList with
      | none =>
        have HN : Hid (Dk.readRecs N s.data.toList = none) := by
          show _ = _
          rw [HR.out.left, show N - n = (N - (n + 1)) + 1 from by omega, Dk.readRecs_none hr]; rfl
        clear hv hr
        go_wp2
        go_ret2
        exact ⟨none, 0, 0, false, rfl, (fun h => by cases h), (fun _ x hx => by rw [HN.out] at hx; cases hx), HB1.out.alloc hz1 _⟩
      | some y =>
        obtain ⟨r, qb⟩ := y
        have HV : Hid (Dk.readRec rest.data.toList = some ((⟨rc, ri, rx, rt⟩ : RecV).told, b.data.toList)) := by
          show _ = _
          obtain ⟨h1, h2⟩ := hv r qb hr
          rw [hr, ← h1, ← h2]; rfl
        clear hv hr
        go_wp2_with (at_builtin; refine wpList_append_own _ rfl (.tmp 26) (.tmp 28) 38 rfl w.heap.size 55 ti (.agg #[.int .i64 0, .int .i64 0, .bool false, .string ⟨#[]⟩]) 4 40 Tryz.underlying38 HI.out.1 HI.out.2.1 HI.out.2.2.1 HI.out.2.2.2 rfl (by decide) (.slice a n c) n (recsCells rs) rfl ((HO.out.alloc _).alloc _) ⟨w1.heap.size + 1, 0, none⟩ 1 1 [.int .i64 rc, .int .i64 ri, .bool rx, .string rt] rfl rfl ?c1 ?c2 ?c3 ?c4 ?c5 ?_)
        case c1 => exact cells_new _ _ (by simp) [.int .i64 rc, .int .i64 ri, .bool rx, .string rt] _
        case c2 => intro u hu; simp at hu; rcases hu with rfl | rfl | rfl | rfl <;> rfl
        case c3 => unfold maxLen; omega
        case c4 => omega
        case c5 => simp; omega
        intro v' w3 hown hgr _
        have HW : Hid (Below w.heap.size w w3) := ((HB1.out.alloc hz1 _).alloc (by simp; omega) _).grown hgr (by simp; omega) (fun k hk => (HO.out.lt k hk).1)
        obtain ⟨a', c', rfl⟩ : ∃ a' c', v' = .slice a' (n + 1) c' := by
          rcases hown.2 with ⟨_, h⟩ | ⟨g, cap, _, h, _⟩
          · omega
          · exact ⟨_, _, h⟩
        have HN : Hid _ := HR.out.step (rv := ⟨rc, ri, rx, rt⟩) hlt HV.out (by show rt.size ≤ _; unfold maxLen; omega) HW.out hown
        clear hown hgr
        go_wp2
        go_roundw
        case rel => exact ⟨a', n + 1, c', _, b, rfl, rfl, by go_num, by omega, hb', HN⟩
        case measure => simp [intOf]; omega
    · have HE : Hid (Dk.readRecs N s.data.toList = some (recs rs, rest.data.toList)) := by
        show _ = _
        rw [HR.out.left, show N - n = 0 from by omega]
        simp [Dk.readRecs]
      cases hre : rest.toList.isEmpty
      · have HE2 : Hid (rest.data.toList ≠ []) := by
          show _ ≠ _
          intro h
          rw [bytes_toList, h] at hre; cases hre
        go_wp2
        go_ret2
        exact ⟨a, n, c, false, rfl, (fun h => by cases h), (fun _ x hx => by rw [HE.out] at hx; exact HE2.out (congrArg Prod.snd (Option.some.inj hx))), HR.out.bel⟩
      · have HE2 : Hid (rest.data.toList = []) := by
          show _ = _
          rw [bytes_toList] at hre
          exact List.isEmpty_iff.1 hre
        go_wp2
        go_ret2
        exact ⟨a, n, c, true, rfl, (fun _ => ⟨by omega, (fun ad had => HR.out.own.lt ad.block (by rw [had]; rfl)), rs, recrow_own HR.out.own HR.out.len HR.out.small, by rw [HE.out, HE2.out]⟩), (fun h => by cases h), HR.out.bel⟩

end Go.Proofs.YtccckonckddadabGreat
