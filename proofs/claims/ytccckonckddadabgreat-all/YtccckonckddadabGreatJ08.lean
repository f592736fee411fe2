import Derived.Test.YtccckonckddadabGreatJ07
import Derived.Test.YtccckonckddadabGreatJ05
import Derived.Test.YtccckonckddadabGreatJ06
import Derived.Test.YtccckonckddadabGreatJ01
namespace Go.Proofs.YtccckonckddadabGreat
open Go.RowKit
set_option linter.unusedVariables false

/-! ### rising -/
def lastAt (l : List UInt8) : Nat → Int
  | 0 => -1
  | k + 1 => ((l.getD k 0).toNat : Int) - 97

theorem getD_list (s : ByteArray) (k : Nat) (h : k < s.size) : s.data.toList.getD k 0 = s[k] := by
  rw [List.getD_eq_getElem?_getD, List.getElem?_eq_getElem h]; rfl

set_option maxHeartbeats 1000000 in
theorem rising_any (s : ByteArray) (w : World) (hs : s.size ≤ maxLen) :
    Calls Tryz.prog 84 #[.string s] w fun e w' => e = .returned (.bool (Dk.rise (-1) s.data.toList)) ∧ ∃ n, w' = w.drewN n := by
  unfold maxLen at hs
  go_enter Tryz.func84, Tryz.ntmps84
  go_wp2
  go_loopw [3] (fun i wr => ∃ k n : Nat, k ≤ s.size ∧ i = .int .i64 k ∧ wr = w.drewN n ∧ Hid (Dk.rise (-1) s.data.toList = Dk.rise (lastAt s.data.toList k) (s.data.toList.drop k))) (fun i _ => s.size - (intOf i).toNat)
  case atStart => exact ⟨0, 0, Nat.zero_le _, rfl, rfl, rfl⟩
  case round =>
    obtain ⟨k, n, hk, rfl, rfl, HR⟩ := hrel
    by_cases hlt : k < s.size
    · have hb := byte_bd s[k]
      go_wp2_with fail
      refine (inK_any _ _).mono ?_
      rintro e w' ⟨rfl, rfl⟩
      cases hK : Dk.isK s[k].toNat
      · have HF : Hid (Dk.rise (-1) s.data.toList = false) := by
          show _ = _
          rw [HR.out]; exact Dk.rise_drop_no hlt (.inl hK)
        clear hK HR
        go_wp2
        go_quiet (fail)
        go_wp2
        go_ret
        exact ⟨by rw [HF.out]; rfl, _, World.drewN_drewN ..⟩
      · have hk97 := Dk.of_isK hK
        cases k with
        | zero =>
          have HN : Hid (Dk.rise (-1) s.data.toList = Dk.rise (lastAt s.data.toList 1) (s.data.toList.drop 1)) := by
            show _ = _
            rw [HR.out, Dk.rise_drop_yes hlt hK (by show (-1 : Int) < (s[0].toNat : Int) - 97; omega)]
            show _ = Dk.rise (((s.data.toList.getD 0 0).toNat : Int) - 97) _
            rw [getD_list s 0 hlt]; rfl
          clear hK HR
          go_wp2
          go_quiet (fail)
          go_wp2
          go_roundw
          case rel => exact ⟨1, _, by omega, rfl, rfl, HN.out⟩
          case measure => simp [intOf]; omega
        | succ j =>
          have hj : j < s.size := by omega
          have hb2 := byte_bd s[j]
          have i1 : (j : Int) + 1 < (s.size : Int) := by omega
          have i2 : (0 : Int) ≤ (j : Int) + 1 := by omega
          have i3 : (j : Int) < (s.size : Int) := by omega
          have hla : Hid (lastAt s.data.toList (j + 1) = (s[j].toNat : Int) - 97) := by
            show ((s.data.toList.getD j 0).toNat : Int) - 97 = _
            rw [getD_list s j hj]
          by_cases hle : (s[j + 1].toNat : Int) ≤ (s[j].toNat : Int)
          · have HF : Hid (Dk.rise (-1) s.data.toList = false) := by
              show _ = _
              rw [HR.out]; exact Dk.rise_drop_no hlt (.inr (by rw [hla.out]; show (s[j + 1].toNat : Int) - 97 ≤ _; omega))
            clear hK HR
            go_wp2
            go_quiet (fail)
            go_wp2
            go_ret
            exact ⟨by rw [HF.out]; rfl, _, World.drewN_drewN ..⟩
          · have HN : Hid (Dk.rise (-1) s.data.toList = Dk.rise (lastAt s.data.toList (j + 1 + 1)) (s.data.toList.drop (j + 1 + 1))) := by
              show _ = _
              rw [HR.out, Dk.rise_drop_yes hlt hK (by rw [hla.out]; show _ < (s[j + 1].toNat : Int) - 97; omega)]
              show _ = Dk.rise (((s.data.toList.getD (j + 1) 0).toNat : Int) - 97) _
              rw [getD_list s (j + 1) hlt]; rfl
            clear hK HR
            go_wp2
            go_quiet (fail)
            go_wp2
            go_roundw
            case rel => exact ⟨j + 1 + 1, _, by omega, by go_num, rfl, HN.out⟩
            case measure => simp [intOf]; omega
    · have HF : Hid (Dk.rise (-1) s.data.toList = true) := by
        show _ = _
        rw [HR.out, List.drop_eq_nil_of_le (by rw [len_list]; omega)]; rfl
      go_wp2
      go_ret
      exact ⟨by rw [HF.out]; rfl, _, rfl⟩

end Go.Proofs.YtccckonckddadabGreat
namespace Go.Proofs.YtccckonckddadabGreat
open Go.RowKit
set_option linter.unusedVariables false

/-! ### operation -/
theorem refop_small (s : ByteArray) (w : World) (h : s.size < 3) :
    Calls Tryz.prog 85 #[.string s] w fun e w' => e = .returned (.bool (Dk.opOk s.data.toList)) ∧ w' = w := by
  have H : Hid (Dk.opOk s.data.toList = false) := Dk.op_short h
  go_enter Tryz.func85, Tryz.ntmps85
  go_wp2
  go_ret
  exact ⟨by rw [H.out]; rfl, rfl⟩

theorem drop2_head (s : ByteArray) (h : 2 < s.size) : (s.data.toList.drop 2).headD 0 = s[2] := by
  have : 0 < (s.data.toList.drop 2).length := by rw [List.length_drop, len_list]; omega
  rw [Dk.headD_get _ this, List.getElem_drop]; rfl

set_option maxHeartbeats 1000000 in
theorem refop_big (s : ByteArray) (w : World) (h : 3 ≤ s.size) (hs : s.size ≤ maxLen) :
    Calls Tryz.prog 85 #[.string s] w fun e w' => e = .returned (.bool (Dk.opOk s.data.toList)) ∧ w' = w := by
  have h0 : 0 < s.size := by omega
  have h1 : 1 < s.size := by omega
  have h2 : 2 < s.size := by omega
  have hb0 := byte_bd s[0]
  have hb1 := byte_bd s[1]
  have hb2 := byte_bd s[2]
  have ht : (s.extract 2 s.size).size ≤ maxLen := by simp; omega
  unfold maxLen at hs
  have HD0 : Hid (s.data.toList.headD 0 = s[0]) := headD_list s h0
  have HD1 : Hid ((s.data.toList.drop 1).headD 0 = s[1]) := drop1_list s h1
  have HD2 : Hid ((s.extract 2 s.size).data.toList = s.data.toList.drop 2) := drop2_list s
  have HA : Hid (Dk.argKey (s.data.toList.drop 2) = (((s.size : Int) == 3) && Dk.isK s[2].toNat)) := by
    show _ = _
    unfold Dk.argKey
    rw [drop2_head s h2]
    congr 1
    rw [Bool.eq_iff_iff, decide_eq_true_eq, List.length_drop, len_list, beq_iff_eq]; omega
  have HO : Hid (Dk.opOk s.data.toList = (Dk.isK s[0].toNat && Dk.isSign s[1].toNat && (Dk.argKey (s.data.toList.drop 2) || Dk.numOk (s.data.toList.drop 2)))) := Dk.op_long h (by rw [HD0.out]) (by rw [HD1.out]) rfl
  generalize hak : Dk.argKey (s.data.toList.drop 2) = ak at *
  clear hak
  cases h3 : ((s.size : Int) == 3)
  · go_enter Tryz.func85, Tryz.ntmps85
    go_wp2_with fail
    refine (inK_any _ _).mono ?_
    rintro e w' ⟨rfl, rfl⟩
    generalize Dk.isK s[0].toNat = k0 at *
    go_wp2_with fail
    refine (inS_any _ _).mono ?_
    rintro e w' ⟨rfl, rfl⟩
    generalize Dk.isSign s[1].toNat = k1 at *
    go_wp2_with fail
    refine (refnum_any _ _ ht).mono ?_
    rintro e w' ⟨v, rfl, hv, rfl⟩
    rewrite [HD2.out]
    clear hv
    generalize Dk.numOk (s.data.toList.drop 2) = n at *
    cases k0 <;> cases k1 <;> cases n
    all_goals
      go_wp2
      go_ret
      exact ⟨by rw [HO.out, HA.out, h3]; rfl, rfl⟩
  · go_enter Tryz.func85, Tryz.ntmps85
    go_wp2_with fail
    refine (inK_any _ _).mono ?_
    rintro e w' ⟨rfl, rfl⟩
    generalize Dk.isK s[0].toNat = k0 at *
    go_wp2_with fail
    refine (inS_any _ _).mono ?_
    rintro e w' ⟨rfl, rfl⟩
    generalize Dk.isSign s[1].toNat = k1 at *
    go_wp2_with fail
    refine (inK_any _ _).mono ?_
    rintro e w' ⟨rfl, rfl⟩
    generalize Dk.isK s[2].toNat = k2 at *
    go_wp2_with fail
    refine (refnum_any _ _ ht).mono ?_
    rintro e w' ⟨v, rfl, hv, rfl⟩
    rewrite [HD2.out]
    clear hv
    generalize Dk.numOk (s.data.toList.drop 2) = n at *
    cases k0 <;> cases k1 <;> cases k2 <;> cases n
    all_goals
      go_wp2
      go_ret
      exact ⟨by rw [HO.out, HA.out, h3]; rfl, rfl⟩

theorem refop_any (s : ByteArray) (w : World) (hs : s.size ≤ maxLen) :
    Calls Tryz.prog 85 #[.string s] w fun e w' => e = .returned (.bool (Dk.opOk s.data.toList)) ∧ w' = w := by
  by_cases h : s.size < 3
  · exact refop_small s w h
  · exact refop_big s w (by omega) hs

end Go.Proofs.YtccckonckddadabGreat
namespace Go.Proofs.YtccckonckddadabGreat
open Go.RowKit
set_option linter.unusedVariables false

theorem info_str : (Tryz.prog.info? 9).map (fun i => (i.zero, i.size, i.bytes)) = some (some (.string ⟨#[]⟩), 1, 16) := by kernel_rfl

def strs (ps : List ByteArray) : List Value := ps.map Value.string
def lists (ps : List ByteArray) : List (List UInt8) := ps.map fun p => p.data.toList

def SplitPost (m : Int) (l : List UInt8) (w : World) (e : Ending) (w' : World) : Prop :=
  ∃ (a : Option Addr) (n c : Nat) (ps : List ByteArray), e = .returned (.slice a n c) ∧ n = ps.length ∧ lists ps = Dk.splitAll m l ∧ w'.ownsRow w.heap.size 9 1 (.slice a n c) n (strs ps) ∧ Below w.heap.size w w'

/-- Where a round of split stands. -/
structure SplitAt (m : Int) (l : List UInt8) (w wr : World) (a : Option Addr) (n c : Nat) (ps : List ByteArray) (f k : Nat) : Prop where
  len : n = ps.length
  own : wr.ownsRow w.heap.size 9 1 (.slice a n c) n (strs ps)
  bel : Below w.heap.size w wr
  mid : k ≤ l.length → Dk.splitAll m l = lists ps ++ Dk.splitAll m (l.drop f) ∧ ∀ j (_ : f ≤ j) (_ : j < k) (hj : j < l.length), (l[j].toNat : Int) ≠ m
  fin : k = l.length + 1 → Dk.splitAll m l = lists ps

set_option maxHeartbeats 1000000 in
theorem split_any (s : ByteArray) (m : Int) (w : World) (hs : s.size ≤ 60) :
    Calls Tryz.prog 83 #[.string s, .int .u8 m] w (SplitPost m s.data.toList w) := by
  obtain ⟨i0, hi, hz0, hz1, hz2⟩ := info_parts info_str
  have HI : Hid (_ ∧ _ ∧ _ ∧ _) := ⟨hi, hz0, hz1, hz2⟩
  clear hi hz0 hz1 hz2
  go_enter Tryz.func83, Tryz.ntmps83
  go_wp2
  go_loopw [5, 6, 7] (fun v f i wr => ∃ (a : Option Addr) (n c : Nat) (ps : List ByteArray) (fk k : Nat), v = .slice a n c ∧ f = .int .i64 fk ∧ i = .int .i64 k ∧ k ≤ s.size + 1 ∧ fk ≤ k ∧ n ≤ k ∧ Hid (SplitAt m s.data.toList w wr a n c ps fk k)) (fun _ _ i _ => s.size + 1 - (intOf i).toNat)
  case atStart =>
    refine ⟨none, 0, 0, [], 0, 0, rfl, rfl, rfl, by omega, by omega, by omega, ⟨rfl, World.ownsRow_nil _ _ _ _, Below.refl _ _, fun _ => ⟨rfl, fun j _ h => absurd h (by omega)⟩, fun h => absurd h (by omega)⟩⟩
  case round =>
    obtain ⟨a, n, c, ps, fk, k, rfl, rfl, rfl, hk, hfk, hnk, HR⟩ := hrel
    have hzr : w.heap.size ≤ wr.heap.size := HR.out.bel.size
    by_cases hle : k ≤ s.size
    · obtain ⟨hm1, hm2⟩ := HR.out.mid (by rw [len_list]; exact hle)
      have HM : Hid (_ ∧ _) := ⟨hm1, hm2⟩
      clear hm1 hm2
      by_cases hend : k = s.size
      · have he : ((k : Int) == (s.size : Int)) = true := beq_iff_eq.2 (by omega)
        have HE : Hid _ := hend
        clear hend
        go_wp2_with (at_builtin; refine wpList_append_own _ rfl (.tmp 25) (.tmp 30) 98 rfl w.heap.size 9 i0 (.string ⟨#[]⟩) 1 16 Tryz.underlying98 HI.out.1 HI.out.2.1 HI.out.2.2.1 HI.out.2.2.2 rfl (by decide) (.slice a n c) n (strs ps) rfl (HR.out.own.alloc _) ⟨wr.heap.size, 0, none⟩ 1 1 [.string (s.extract fk k)] rfl rfl ?c1 ?c2 ?c3 ?c4 ?c5 ?_)
        case c1 => exact cells_new _ _ rfl [.string (s.extract fk k)] _
        case c2 => intro u hu; simp at hu; subst hu; rfl
        case c3 => unfold maxLen; omega
        case c4 => omega
        case c5 => simp; omega
        intro v' w3 hown hgr _
        have HB : Hid (Below w.heap.size w w3) := (HR.out.bel.alloc hzr _).grown hgr (by simp; omega) (fun k hk => (HR.out.own.lt k hk).1)
        obtain ⟨a', c', rfl⟩ : ∃ a' c', v' = .slice a' (n + 1) c' := by
          rcases hown.2 with ⟨_, h⟩ | ⟨g, cap, _, h, _⟩
          · omega
          · exact ⟨_, _, h⟩
        have HW : Hid (w3.ownsRow w.heap.size 9 1 (.slice a' (n + 1) c') (n + 1) (strs (ps ++ [s.extract fk k]))) := by
          show World.ownsRow _ _ _ _ _ _ _
          rw [show strs (ps ++ [s.extract fk k]) = strs ps ++ [.string (s.extract fk k)] from by simp [strs]]
          exact hown
        have HP : Hid (lists (ps ++ [s.extract fk k]) = lists ps ++ [(s.data.toList.take k).drop fk]) := by
          show _ = _
          simp only [lists, List.map_append, List.map_cons, List.map_nil, ext_list]
        clear hown hgr
        go_wp2
        go_roundw
        case rel =>
          refine ⟨a', n + 1, c', ps ++ [s.extract fk k], k + 1, k + 1, rfl, by go_num, by go_num, by omega, by omega, by omega, ?_⟩
          show SplitAt _ _ _ _ _ _ _ _ _ _
          refine ⟨by rw [List.length_append, ← HR.out.len]; rfl, HW.out, HB.out, ?_, ?_⟩
          · intro h; rw [len_list] at h; have := HE.out; omega
          · intro _; rw [HP.out]; exact Dk.split_end HM.out.1 (by rw [len_list]; exact HE.out) HM.out.2
        case measure => simp [intOf]; omega
      · have he : ((k : Int) == (s.size : Int)) = false := beq_eq_false_iff_ne.2 (by omega)
        have hlt : k < s.size := by omega
        clear hend
        cases hc : ((s[k].toNat : Int) == m)
        · go_wp2
          go_roundw
          case rel =>
            refine ⟨a, n, c, ps, fk, k + 1, rfl, rfl, by go_num, by omega, by omega, by omega, HR.out.len, HR.out.own, HR.out.bel, fun _ => ⟨HM.out.1, fun j hj hj' hjl => ?_⟩, fun h => absurd h (by rw [len_list]; omega)⟩
            by_cases e : j = k
            · subst e; exact beq_eq_false_iff_ne.1 hc
            · exact HM.out.2 j hj (by omega) hjl
          case measure => simp [intOf]; omega
        · have hzz : True := trivial
          go_wp2_with (at_builtin; refine wpList_append_own _ rfl (.tmp 25) (.tmp 30) 98 rfl w.heap.size 9 i0 (.string ⟨#[]⟩) 1 16 Tryz.underlying98 HI.out.1 HI.out.2.1 HI.out.2.2.1 HI.out.2.2.2 rfl (by decide) (.slice a n c) n (strs ps) rfl (HR.out.own.alloc _) ⟨wr.heap.size, 0, none⟩ 1 1 [.string (s.extract fk k)] rfl rfl ?c1 ?c2 ?c3 ?c4 ?c5 ?_)
          case c1 => exact cells_new _ _ rfl [.string (s.extract fk k)] _
          case c2 => intro u hu; simp at hu; subst hu; rfl
          case c3 => unfold maxLen; omega
          case c4 => omega
          case c5 => simp; omega
          intro v' w3 hown hgr _
          have HB : Hid (Below w.heap.size w w3) := (HR.out.bel.alloc hzr _).grown hgr (by simp; omega) (fun k hk => (HR.out.own.lt k hk).1)
          obtain ⟨a', c', rfl⟩ : ∃ a' c', v' = .slice a' (n + 1) c' := by
            rcases hown.2 with ⟨_, h⟩ | ⟨g, cap, _, h, _⟩
            · omega
            · exact ⟨_, _, h⟩
          have HW : Hid (w3.ownsRow w.heap.size 9 1 (.slice a' (n + 1) c') (n + 1) (strs (ps ++ [s.extract fk k]))) := by
            show World.ownsRow _ _ _ _ _ _ _
            rw [show strs (ps ++ [s.extract fk k]) = strs ps ++ [.string (s.extract fk k)] from by simp [strs]]
            exact hown
          have HP : Hid (lists (ps ++ [s.extract fk k]) = lists ps ++ [(s.data.toList.take k).drop fk]) := by
            show _ = _
            simp only [lists, List.map_append, List.map_cons, List.map_nil, ext_list]
          clear hown hgr
          go_wp2
          go_roundw
          case rel =>
            refine ⟨a', n + 1, c', ps ++ [s.extract fk k], k + 1, k + 1, rfl, by go_num, by go_num, by omega, by omega, by omega, ?_⟩
            show SplitAt _ _ _ _ _ _ _ _ _ _
            refine ⟨by rw [List.length_append, ← HR.out.len]; rfl, HW.out, HB.out, ?_, ?_⟩
            · intro _
              refine ⟨?_, fun j h1 h2 => absurd h2 (by omega)⟩
              rw [HP.out]
              exact Dk.split_next HM.out.1 hfk hlt HM.out.2 (eq_of_beq hc)
            · intro h; rw [len_list] at h; omega
          case measure => simp [intOf]; omega
    · have HF : Hid _ := HR.out.fin (by rw [len_list]; omega)
      go_wp2
      go_ret
      exact ⟨a, n, c, ps, rfl, HR.out.len, HF.out.symm, HR.out.own, HR.out.bel⟩

end Go.Proofs.YtccckonckddadabGreat
namespace Go.Proofs.YtccckonckddadabGreat
open Go.RowKit
set_option linter.unusedVariables false

theorem key8 {k : Int} (h0 : 0 ≤ k) (h8 : k < 8) : k = 0 ∨ k = 1 ∨ k = 2 ∨ k = 3 ∨ k = 4 ∨ k = 5 ∨ k = 6 ∨ k = 7 := by omega

set_option maxHeartbeats 1000000 in
theorem declares_any (b0 b1 b2 b3 b4 b5 b6 b7 : Bool) (sl : Value) (k : Int) (w : World) (h1 : sl.cells = #[sl]) :
    Calls Tryz.prog 106 #[.agg #[.bool b0, .bool b1, .bool b2, .bool b3, .bool b4, .bool b5, .bool b6, .bool b7, sl], .int .i64 k] w fun e w' =>
      e = .returned (.bool (Dk.decl [b0, b1, b2, b3, b4, b5, b6, b7] k)) ∧ w' = w.alloc (.cells #[.bool b0, .bool b1, .bool b2, .bool b3, .bool b4, .bool b5, .bool b6, .bool b7, sl] 119) := by
  by_cases hk : 0 ≤ k ∧ k < 8
  · obtain ⟨h0, h8⟩ := hk
    obtain rfl | rfl | rfl | rfl | rfl | rfl | rfl | rfl := key8 h0 h8
    all_goals
      go_enter Tryz.func106, Tryz.ntmps106
      go_wp2_with fail
      refine (isKey_any _ _).mono ?_
      rintro e w' ⟨rfl, rfl⟩
      go_wp2
      go_ret
      exact ⟨by simp [Dk.decl], rfl⟩
  · have hd : decide (0 ≤ k ∧ k < 8) = false := decide_eq_false hk
    have HD : Hid (decide (0 ≤ k ∧ k < 8) = false) := hd
    go_enter Tryz.func106, Tryz.ntmps106
    go_wp2_with fail
    refine (isKey_any _ _).mono ?_
    rintro e w' ⟨rfl, rfl⟩
    rewrite [hd]
    clear hd hk
    go_wp2
    go_ret
    exact ⟨by unfold Dk.decl; rw [HD.out]; rfl, rfl⟩

set_option maxHeartbeats 1000000 in
theorem value_any (b : Bool) (k n x0 x1 x2 x3 x4 x5 x6 x7 : Int) (w : World) (h0 : 0 ≤ k) (h8 : k < 8) :
    Calls Tryz.prog 107 #[.agg #[.bool b, .int .i64 k, .int .i16 n], .agg #[.int .i16 x0, .int .i16 x1, .int .i16 x2, .int .i16 x3, .int .i16 x4, .int .i16 x5, .int .i16 x6, .int .i16 x7]] w fun e w' =>
      e = .returned (.int .i16 (if b then [x0, x1, x2, x3, x4, x5, x6, x7].getD k.toNat 0 else n)) ∧ w' = (w.alloc (.cells #[.bool b, .int .i64 k, .int .i16 n] 161)).alloc (.cells #[.int .i16 x0, .int .i16 x1, .int .i16 x2, .int .i16 x3, .int .i16 x4, .int .i16 x5, .int .i16 x6, .int .i16 x7] 37) := by
  cases b
  · go_enter Tryz.func107, Tryz.ntmps107
    go_wp2
    go_ret
    exact ⟨rfl, rfl⟩
  · obtain rfl | rfl | rfl | rfl | rfl | rfl | rfl | rfl := key8 h0 h8
    all_goals
      go_enter Tryz.func107, Tryz.ntmps107
      go_wp2_with fail
      refine (isKey_any _ _).mono ?_
      rintro e w' ⟨rfl, rfl⟩
      go_wp2
      go_ret
      exact ⟨rfl, rfl⟩

end Go.Proofs.YtccckonckddadabGreat
namespace Go.Proofs.YtccckonckddadabGreat
open Go.RowKit
set_option linter.unusedVariables false

theorem wrap16_eq (n : Int) : IntKind.i16.wrap n = Dk.wrap16 n := by
  have e1 : (2 : Int) ^ IntKind.i16.bits = 65536 := rfl
  have e2 : (2 : Int) ^ (IntKind.i16.bits - 1) = 32768 := rfl
  have e3 : IntKind.i16.signed = true := rfl
  simp only [IntKind.wrap, Dk.wrap16, e1, e2, e3, Bool.true_and, ge_iff_le, decide_eq_true_eq]
  split <;> omega

def StepPost (ks : List Bool) (o : Dk.Op) (cs : List Int) (w : World) (e : Ending) (w' : World) : Prop :=
  ∃ y0 y1 y2 y3 y4 y5 y6 y7 : Int, e = .returned (.tuple #[.agg #[.int .i16 y0, .int .i16 y1, .int .i16 y2, .int .i16 y3, .int .i16 y4, .int .i16 y5, .int .i16 y6, .int .i16 y7], .bool (Dk.stepV ks o cs).2]) ∧
    (Dk.stepV ks o cs).1 = [y0, y1, y2, y3, y4, y5, y6, y7] ∧ Below w.heap.size w w'

set_option maxHeartbeats 1000000 in
theorem step_undeclared (b0 b1 b2 b3 b4 b5 b6 b7 : Bool) (a : Option Addr) (n c : Nat) (k sg : Int) (ab : Bool) (ak nm : Int) (x0 x1 x2 x3 x4 x5 x6 x7 : Int) (w : World)
    (h : Dk.decl [b0, b1, b2, b3, b4, b5, b6, b7] k = false) :
    Calls Tryz.prog 82 #[.agg #[.bool b0, .bool b1, .bool b2, .bool b3, .bool b4, .bool b5, .bool b6, .bool b7, .slice a n c], .agg #[.int .i64 k, .int .u8 sg, .bool ab, .int .i64 ak, .int .i16 nm],
      .agg #[.int .i16 x0, .int .i16 x1, .int .i16 x2, .int .i16 x3, .int .i16 x4, .int .i16 x5, .int .i16 x6, .int .i16 x7]] w (StepPost [b0, b1, b2, b3, b4, b5, b6, b7] ⟨k, sg, ab, ak, nm⟩ [x0, x1, x2, x3, x4, x5, x6, x7] w) := by
  have HS : Hid (Dk.stepV [b0, b1, b2, b3, b4, b5, b6, b7] ⟨k, sg, ab, ak, nm⟩ [x0, x1, x2, x3, x4, x5, x6, x7] = ([x0, x1, x2, x3, x4, x5, x6, x7], false)) := Dk.stepV_key h
  have HD : Hid (Dk.decl [b0, b1, b2, b3, b4, b5, b6, b7] k = false) := h
  clear h
  go_enter Tryz.func82, Tryz.ntmps82
  go_wp2_with fail
  refine (declares_any b0 b1 b2 b3 b4 b5 b6 b7 (.slice a n c) k _ rfl).mono ?_
  rintro e w1 ⟨rfl, rfl⟩
  rewrite [HD.out]
  go_wp2
  refine bodyPost_ret (v := .tuple #[.agg #[.int .i16 x0, .int .i16 x1, .int .i16 x2, .int .i16 x3, .int .i16 x4, .int .i16 x5, .int .i16 x6, .int .i16 x7], .bool false]) (by simp [results, Tryz.results82, go_sem]) rfl ?_
  refine ⟨x0, x1, x2, x3, x4, x5, x6, x7, by rw [HS.out], by rw [HS.out], ?_⟩
  repeat (first | exact Below.refl _ _ | refine Below.alloc ?_ (by simp <;> omega) _)

set_option maxHeartbeats 1000000 in
theorem step_argundeclared (b0 b1 b2 b3 b4 b5 b6 b7 : Bool) (a : Option Addr) (n c : Nat) (k sg : Int) (ab : Bool) (ak nm : Int) (x0 x1 x2 x3 x4 x5 x6 x7 : Int) (w : World)
    (h : Dk.decl [b0, b1, b2, b3, b4, b5, b6, b7] k = true) (h' : Dk.decl [b0, b1, b2, b3, b4, b5, b6, b7] ak = false) :
    Calls Tryz.prog 82 #[.agg #[.bool b0, .bool b1, .bool b2, .bool b3, .bool b4, .bool b5, .bool b6, .bool b7, .slice a n c], .agg #[.int .i64 k, .int .u8 sg, .bool true, .int .i64 ak, .int .i16 nm],
      .agg #[.int .i16 x0, .int .i16 x1, .int .i16 x2, .int .i16 x3, .int .i16 x4, .int .i16 x5, .int .i16 x6, .int .i16 x7]] w (StepPost [b0, b1, b2, b3, b4, b5, b6, b7] ⟨k, sg, true, ak, nm⟩ [x0, x1, x2, x3, x4, x5, x6, x7] w) := by
  have HS : Hid (Dk.stepV [b0, b1, b2, b3, b4, b5, b6, b7] ⟨k, sg, true, ak, nm⟩ [x0, x1, x2, x3, x4, x5, x6, x7] = ([x0, x1, x2, x3, x4, x5, x6, x7], false)) := Dk.stepV_arg h rfl h'
  have HD : Hid (Dk.decl [b0, b1, b2, b3, b4, b5, b6, b7] k = true) := h
  have HE : Hid (Dk.decl [b0, b1, b2, b3, b4, b5, b6, b7] ak = false) := h'
  clear h h'
  go_enter Tryz.func82, Tryz.ntmps82
  go_wp2_with fail
  refine (declares_any b0 b1 b2 b3 b4 b5 b6 b7 (.slice a n c) k _ rfl).mono ?_
  rintro e w1 ⟨rfl, rfl⟩
  rewrite [HD.out]
  go_wp2_with fail
  refine (declares_any b0 b1 b2 b3 b4 b5 b6 b7 (.slice a n c) ak _ rfl).mono ?_
  rintro e w1 ⟨rfl, rfl⟩
  rewrite [HE.out]
  go_wp2
  refine bodyPost_ret (v := .tuple #[.agg #[.int .i16 x0, .int .i16 x1, .int .i16 x2, .int .i16 x3, .int .i16 x4, .int .i16 x5, .int .i16 x6, .int .i16 x7], .bool false]) (by simp [results, Tryz.results82, go_sem]) rfl ?_
  refine ⟨x0, x1, x2, x3, x4, x5, x6, x7, by rw [HS.out], by rw [HS.out], ?_⟩
  repeat (first | exact Below.refl _ _ | refine Below.alloc ?_ (by simp <;> omega) _)

end Go.Proofs.YtccckonckddadabGreat
