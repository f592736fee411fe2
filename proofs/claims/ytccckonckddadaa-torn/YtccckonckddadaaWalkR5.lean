import Derived.Test.YtccckonckddadaaWalkE
import Derived.Test.YtccckonckddadaaWalkI
import Derived.Test.YtccckonckddadaaWalkR4
namespace Go.Proofs.Ytccckonckddadaa
open Go.RowKit
set_option linter.unusedVariables false

theorem info_str : (Try.prog.info? 9).map (fun i => (i.zero, i.size, i.bytes)) = some (some (.string ⟨#[]⟩), 1, 16) := by kernel_rfl

def strs (ps : List ByteArray) : List Value := ps.map Value.string
def lists (ps : List ByteArray) : List (List UInt8) := ps.map fun p => p.data.toList

def SplitPost (m : Int) (l : List UInt8) (w : World) (e : Ending) (w' : World) : Prop :=
  ∃ (a : Option Addr) (n c : Nat) (ps : List ByteArray), e = .returned (.slice a n c) ∧ n = ps.length ∧ lists ps = Dk.splitAll m l ∧ w'.ownsRow w.heap.size 9 1 (.slice a n c) n (strs ps) ∧ Below w.heap.size w w'

/-- Where a round of split stands. -/
structure SplitAt (m : Int) (l : List UInt8) (w wr : World) (a : Option Addr) (n c : Nat) (ps : List ByteArray) (f k : Nat) : Prop where
  len : n = ps.length
  own : wr.ownsRow w.heap.size 9 1 (.slice a n c) n (strs ps)
  bel : Below w.heap.size w wr
  mid : k ≤ l.length → Dk.splitAll m l = lists ps ++ Dk.splitAll m (l.drop f) ∧ ∀ j (_ : f ≤ j) (_ : j < k) (hj : j < l.length), (l[j].toNat : Int) ≠ m
  fin : k = l.length + 1 → Dk.splitAll m l = lists ps

set_option maxHeartbeats 1000000 in
theorem split_any (s : ByteArray) (m : Int) (w : World) (hs : s.size ≤ 60) :
    Calls Try.prog 89 #[.string s, .int .u8 m] w (SplitPost m s.data.toList w) := by
  obtain ⟨i0, hi, hz0, hz1, hz2⟩ := info_parts info_str
  have HI : Hid (_ ∧ _ ∧ _ ∧ _) := ⟨hi, hz0, hz1, hz2⟩
  clear hi hz0 hz1 hz2
  go_enter Try.func89, Try.ntmps89
  go_wp2
  go_loopw [5, 6, 7] (fun v f i wr => ∃ (a : Option Addr) (n c : Nat) (ps : List ByteArray) (fk k : Nat), v = .slice a n c ∧ f = .int .i64 fk ∧ i = .int .i64 k ∧ k ≤ s.size + 1 ∧ fk ≤ k ∧ n ≤ k ∧ Hid (SplitAt m s.data.toList w wr a n c ps fk k)) (fun _ _ i _ => s.size + 1 - (intOf i).toNat)
  case atStart =>
    refine ⟨none, 0, 0, [], 0, 0, rfl, rfl, rfl, by omega, by omega, by omega, ⟨rfl, World.ownsRow_nil _ _ _ _, Below.refl _ _, fun _ => ⟨rfl, fun j _ h => absurd h (by omega)⟩, fun h => absurd h (by omega)⟩⟩
  case round =>
    obtain ⟨a, n, c, ps, fk, k, rfl, rfl, rfl, hk, hfk, hnk, HR⟩ := hrel
    have hzr : w.heap.size ≤ wr.heap.size := HR.out.bel.size
    by_cases hle : k ≤ s.size
    · obtain ⟨hm1, hm2⟩ := HR.out.mid (by rw [len_list]; exact hle)
      have HM : Hid (_ ∧ _) := ⟨hm1, hm2⟩
      clear hm1 hm2
      by_cases hend : k = s.size
      · have he : ((k : Int) == (s.size : Int)) = true := beq_iff_eq.2 (by omega)
        have HE : Hid _ := hend
        clear hend
        go_wp2_with (at_builtin; refine wpList_append_own _ rfl (.tmp 25) (.tmp 30) 111 rfl w.heap.size 9 i0 (.string ⟨#[]⟩) 1 16 Try.underlying111 HI.out.1 HI.out.2.1 HI.out.2.2.1 HI.out.2.2.2 rfl (by decide) (.slice a n c) n (strs ps) rfl (HR.out.own.alloc _) ⟨wr.heap.size, 0, none⟩ 1 1 [.string (s.extract fk k)] rfl rfl ?c1 ?c2 ?c3 ?c4 ?c5 ?_)
        case c1 => exact cells_new _ _ rfl [.string (s.extract fk k)] _
        case c2 => intro u hu; simp at hu; subst hu; rfl
        case c3 => unfold maxLen; omega
        case c4 => omega
        case c5 => simp; omega
        intro v' w3 hown hgr _
        have HB : Hid (Below w.heap.size w w3) := (HR.out.bel.alloc hzr _).grown hgr (by simp; omega) (fun k hk => (HR.out.own.lt k hk).1)
        obtain ⟨a', c', rfl⟩ : ∃ a' c', v' = .slice a' (n + 1) c' := by
          rcases hown.2 with ⟨_, h⟩ | ⟨g, cap, _, h, _⟩
          · omega
          · exact ⟨_, _, h⟩
        have HW : Hid (w3.ownsRow w.heap.size 9 1 (.slice a' (n + 1) c') (n + 1) (strs (ps ++ [s.extract fk k]))) := by
          show World.ownsRow _ _ _ _ _ _ _
          rw [show strs (ps ++ [s.extract fk k]) = strs ps ++ [.string (s.extract fk k)] from by simp [strs]]
          exact hown
        have HP : Hid (lists (ps ++ [s.extract fk k]) = lists ps ++ [(s.data.toList.take k).drop fk]) := by
          show _ = _
          simp only [lists, List.map_append, List.map_cons, List.map_nil, ext_list]
        clear hown hgr
        go_wp2
        go_roundw
        case rel =>
          refine ⟨a', n + 1, c', ps ++ [s.extract fk k], k + 1, k + 1, rfl, by go_num, by go_num, by omega, by omega, by omega, ?_⟩
          show SplitAt _ _ _ _ _ _ _ _ _ _
          refine ⟨by rw [List.length_append, ← HR.out.len]; rfl, HW.out, HB.out, ?_, ?_⟩
          · intro h; rw [len_list] at h; have := HE.out; omega
          · intro _; rw [HP.out]; exact Dk.split_end HM.out.1 (by rw [len_list]; exact HE.out) HM.out.2
        case measure => simp [intOf]; omega
      · have he : ((k : Int) == (s.size : Int)) = false := beq_eq_false_iff_ne.2 (by omega)
        have hlt : k < s.size := by omega
        clear hend
        cases hc : ((s[k].toNat : Int) == m)
        · go_wp2
          go_roundw
          case rel =>
            refine ⟨a, n, c, ps, fk, k + 1, rfl, rfl, by go_num, by omega, by omega, by omega, HR.out.len, HR.out.own, HR.out.bel, fun _ => ⟨HM.out.1, fun j hj hj' hjl => ?_⟩, fun h => absurd h (by rw [len_list]; omega)⟩
            by_cases e : j = k
            · subst e; exact beq_eq_false_iff_ne.1 hc
            · exact HM.out.2 j hj (by omega) hjl
          case measure => simp [intOf]; omega
        · have hzz : True := trivial
          go_wp2_with (at_builtin; refine wpList_append_own _ rfl (.tmp 25) (.tmp 30) 111 rfl w.heap.size 9 i0 (.string ⟨#[]⟩) 1 16 Try.underlying111 HI.out.1 HI.out.2.1 HI.out.2.2.1 HI.out.2.2.2 rfl (by decide) (.slice a n c) n (strs ps) rfl (HR.out.own.alloc _) ⟨wr.heap.size, 0, none⟩ 1 1 [.string (s.extract fk k)] rfl rfl ?c1 ?c2 ?c3 ?c4 ?c5 ?_)
          case c1 => exact cells_new _ _ rfl [.string (s.extract fk k)] _
          case c2 => intro u hu; simp at hu; subst hu; rfl
          case c3 => unfold maxLen; omega
          case c4 => omega
          case c5 => simp; omega
          intro v' w3 hown hgr _
          have HB : Hid (Below w.heap.size w w3) := (HR.out.bel.alloc hzr _).grown hgr (by simp; omega) (fun k hk => (HR.out.own.lt k hk).1)
          obtain ⟨a', c', rfl⟩ : ∃ a' c', v' = .slice a' (n + 1) c' := by
            rcases hown.2 with ⟨_, h⟩ | ⟨g, cap, _, h, _⟩
            · omega
            · exact ⟨_, _, h⟩
          have HW : Hid (w3.ownsRow w.heap.size 9 1 (.slice a' (n + 1) c') (n + 1) (strs (ps ++ [s.extract fk k]))) := by
            show World.ownsRow _ _ _ _ _ _ _
            rw [show strs (ps ++ [s.extract fk k]) = strs ps ++ [.string (s.extract fk k)] from by simp [strs]]
            exact hown
          have HP : Hid (lists (ps ++ [s.extract fk k]) = lists ps ++ [(s.data.toList.take k).drop fk]) := by
            show _ = _
            simp only [lists, List.map_append, List.map_cons, List.map_nil, ext_list]
          clear hown hgr
          go_wp2
          go_roundw
          case rel =>
            refine ⟨a', n + 1, c', ps ++ [s.extract fk k], k + 1, k + 1, rfl, by go_num, by go_num, by omega, by omega, by omega, ?_⟩
            show SplitAt _ _ _ _ _ _ _ _ _ _
            refine ⟨by rw [List.length_append, ← HR.out.len]; rfl, HW.out, HB.out, ?_, ?_⟩
            · intro _
              refine ⟨?_, fun j h1 h2 => absurd h2 (by omega)⟩
              rw [HP.out]
              exact Dk.split_next HM.out.1 hfk hlt HM.out.2 (eq_of_beq hc)
            · intro h; rw [len_list] at h; omega
          case measure => simp [intOf]; omega
    · have HF : Hid _ := HR.out.fin (by rw [len_list]; omega)
      go_wp2
      go_ret
      exact ⟨a, n, c, ps, rfl, HR.out.len, HF.out.symm, HR.out.own, HR.out.bel⟩

end Go.Proofs.Ytccckonckddadaa
