import Derived.Test.YtccckonckddadabGreatJ22
namespace Go.Proofs.YtccckonckddadabGreat
open Go.RowKit
set_option linter.unusedVariables false

/-- A region whose ways all come to one end. -/
theorem wp_same {P : Program} {c : Code} {Q : Exit → Act → World → Prop} {a : Act} {w : World} (h : ∃ A W, c.wp P (fun e a' w' => e = Exit.normal ∧ a' = A ∧ w' = W) a w ∧ Q .normal A W) : c.wp P Q a w := by
  obtain ⟨A, W, h1, h2⟩ := h
  refine Code.wp_mono ?_ h1
  rintro e a' w' ⟨rfl, rfl, rfl⟩
  exact h2

theorem RecBox.start (w : World) (c i : Int) (x : Bool) (t : ByteArray) : let W := ((w.alloc (.cells #[.int .i64 0, .int .i64 0, .bool false, .string ⟨#[]⟩] 55)).alloc (.cells #[.int .i64 c, .int .i64 i, .bool x, .string t] 55)).drew
    W.heap[w.heap.size]? = some (.cells #[.int .i64 0, .int .i64 0, .bool false, .string ⟨#[]⟩] 55) ∧ W.heap[w.heap.size + 1]? = some (.cells #[.int .i64 c, .int .i64 i, .bool x, .string t] 55) ∧ Below w.heap.size w W := by
  refine ⟨?_, ?_, (((Below.refl _ _).alloc (Nat.le_refl _) _).alloc (by simp) _).drew⟩
  · show ((w.alloc _).alloc _).heap[_]? = _
    rw [heap_old (by simp), heap_at rfl]
  · show ((w.alloc _).alloc _).heap[_]? = _
    rw [heap_at (by simp)]

theorem RecBox.put {w W : World} {g : Nat} {t : TypeId} {y0 y1 y2 y3 : Value} (h : W.heap[g]? = some (.cells #[y0, y1, y2, y3] t)) (hb : Below g w W) (z0 z1 z2 z3 : Value) :
    let W3 := ((((W.setCell ⟨g, 0, none⟩ z0).setCell ⟨g, 1, none⟩ z1).setCell ⟨g, 2, none⟩ z2).setCell ⟨g, 3, none⟩ z3).drew
    W3.heap[g]? = some (.cells #[z0, z1, z2, z3] t) ∧ Below g w W3 := by
  refine ⟨?_, ?_⟩
  · show ((((W.setCell ⟨g, 0, none⟩ z0).setCell ⟨g, 1, none⟩ z1).setCell ⟨g, 2, none⟩ z2).setCell ⟨g, 3, none⟩ z3).heap[g]? = _
    simp [World.setCell, Array.getElem?_modify, h]
  · have h4 : Below g w ((((W.setCell ⟨g, 0, none⟩ z0).setCell ⟨g, 1, none⟩ z1).setCell ⟨g, 2, none⟩ z2).setCell ⟨g, 3, none⟩ z3) := by
      iterate 4 refine Below.setCell ?_ (by exact Nat.le_refl _) _
      exact hb
    exact h4.drew

/-! ### readRecord -/
def ReadRecPost (l : List UInt8) (w : World) (e : Ending) (w' : World) : Prop :=
  ∃ (c i : Int) (x : Bool) (t b : ByteArray), e = .returned (.tuple #[.agg #[.int .i64 c, .int .i64 i, .bool x, .string t], .string b, .bool (Dk.readRec l).isSome]) ∧
    (∀ r q, Dk.readRec l = some (r, q) → recOf c i x t = r ∧ b.data.toList = q) ∧ t.size ≤ 255 ∧ b.size ≤ l.length ∧ Below w.heap.size w w'

set_option maxRecDepth 100000 in
set_option maxHeartbeats 4000000 in
theorem readRecord_any (s : ByteArray) (w : World) (hs : s.size ≤ maxLen) : Calls Tryz.prog 123 #[.string s] w (ReadRecPost s.data.toList w) := by
  unfold maxLen at hs
  by_cases h6 : s.size < 6
  · have HN : Hid (Dk.readRec s.data.toList = none) := by
      show _ = _
      unfold Dk.readRec
      rw [len_list, if_pos h6]
    go_enter Tryz.func123, Tryz.ntmps123
    go_wp2
    refine bodyPost_ret (v := .tuple #[.agg #[.int .i64 0, .int .i64 0, .bool false, .string ⟨#[]⟩], .string ⟨#[]⟩, .bool false]) (by simp [results, Tryz.results123, go_sem]) rfl ?_
    exact ⟨0, 0, false, ⟨#[]⟩, ⟨#[]⟩, by rw [HN.out]; rfl, (by rw [HN.out]; intro r q h; cases h), Nat.zero_le _, Nat.zero_le _, (Below.refl _ _).alloc (Nat.le_refl _) _⟩
  · have g4 : (s.data.toList.getD 4 0).toNat = (s[4]'(by omega)).toNat := by rw [getD_list s 4 (by omega)]
    have g5 : (s.data.toList.getD 5 0).toNat = (s[5]'(by omega)).toNat := by rw [getD_list s 5 (by omega)]
    have i6 : ¬ (s.size : Int) < 6 := by omega
    have j4 : (4 : Int) < (s.size : Int) := by omega
    have j5 : (5 : Int) < (s.size : Int) := by omega
    have j0 : (0 : Int) < (s.size : Int) := by omega
    have b4 := byte_bd (s[4]'(by omega))
    have b5 := byte_bd (s[5]'(by omega))
    by_cases h4 : 1 < (s[4]'(by omega)).toNat
    · have HN : Hid (Dk.readRec s.data.toList = none) := by
        show _ = _
        unfold Dk.readRec
        rw [len_list, if_neg h6, g4, if_pos h4]
      have h4' : (1 : Int) < ((s[4]'(by omega)).toNat : Int) := by omega
      clear g4 g5
      go_enter Tryz.func123, Tryz.ntmps123
      go_wp2
      refine bodyPost_ret (v := .tuple #[.agg #[.int .i64 0, .int .i64 0, .bool false, .string ⟨#[]⟩], .string ⟨#[]⟩, .bool false]) (by simp [results, Tryz.results123, go_sem]) rfl ?_
      exact ⟨0, 0, false, ⟨#[]⟩, ⟨#[]⟩, by rw [HN.out]; rfl, (by rw [HN.out]; intro r q h; cases h), Nat.zero_le _, Nat.zero_le _, (Below.refl _ _).alloc (Nat.le_refl _) _⟩
    · have h4' : ¬ (1 : Int) < ((s[4]'(by omega)).toNat : Int) := by omega
      have HE : Hid (Dk.recLen s.data.toList = 6 + (s[5]'(by omega)).toNat) := by show _ = _; unfold Dk.recLen; rw [g5]
      by_cases h5 : s.size < 6 + (s[5]'(by omega)).toNat
      · have HN : Hid (Dk.readRec s.data.toList = none) := by
          show _ = _
          unfold Dk.readRec
          rw [len_list, if_neg h6, g4, if_neg h4, HE.out, if_pos h5]
        have h5' : (s.size : Int) < (6 : Int) + ((s[5]'(by omega)).toNat : Int) := by omega
        clear g4 g5
        go_enter Tryz.func123, Tryz.ntmps123
        go_wp2
        refine bodyPost_ret (v := .tuple #[.agg #[.int .i64 0, .int .i64 0, .bool false, .string ⟨#[]⟩], .string ⟨#[]⟩, .bool false]) (by simp [results, Tryz.results123, go_sem]) rfl ?_
        exact ⟨0, 0, false, ⟨#[]⟩, ⟨#[]⟩, by rw [HN.out]; rfl, (by rw [HN.out]; intro r q h; cases h), Nat.zero_le _, Nat.zero_le _, (Below.refl _ _).alloc (Nat.le_refl _) _⟩
      · have h5' : (6 : Int) + ((s[5]'(by omega)).toNat : Int) ≤ (s.size : Int) := by omega
        have hq := num_lt (s.extract 1 4).data.toList 3 (by rw [len_list, ByteArray.size_extract]; omega)
        have k0 : 0 < s.size := by omega
        have k4 : 4 < s.size := by omega
        have k4' : 4 ≤ s.size := by omega
        have k6 : 6 ≤ s.size := by omega
        have k6' : 6 + (s[5]'(by omega)).toNat ≤ s.size := by omega
        have n1 : (4 : Int) ≤ (s.size : Int) := by omega
        have n2 : (6 : Int) ≤ (6 : Int) + ((s[5]'(by omega)).toNat : Int) := by omega
        have n3 : (0 : Int) ≤ (6 : Int) + ((s[5]'(by omega)).toNat : Int) := by omega
        have b0 := byte_bd (s[0]'(by omega))
        have hw0 : IntKind.i64.wrap ((s[0]'(by omega)).toNat : Int) = ((s[0]'(by omega)).toNat : Int) := by
          unfold IntKind.wrap; simp [IntKind.bits, IntKind.signed]; omega
        have HS : Hid (Dk.readRec s.data.toList = some (recOf ((s[0]'(by omega)).toNat : Int) (Dk.num (s.extract 1 4).data.toList : Int) (((s[4]'(by omega)).toNat : Int) == 1) (s.extract 6 (6 + (s[5]'(by omega)).toNat)), (s.extract (6 + (s[5]'(by omega)).toNat) s.size).data.toList)) := by
          show _ = _
          unfold Dk.readRec Dk.recFront recOf
          rw [len_list, if_neg h6, g4, if_neg h4, HE.out, if_neg h5, ext_drop, ext_list, ext_list, getD_list s 0 (by omega)]
        have hsl : ∀ W, (Instr.slice 9 (.string s) (some (.int .i64 6)) (some (.int .i64 ((6 : Int) + ((s[5]'(by omega)).toNat : Int)))) none).run Tryz.prog W = .ok (.string (s.extract 6 (6 + (s[5]'(by omega)).toNat))) W := fun W => by
          rw [run_slice_string_if _ _ _ _ _ _ _ Tryz.underlying9, if_pos ⟨n3, h5'⟩, if_pos ⟨by omega, n2⟩]
          have e2 : ((6 : Int) + ((s[5]'(by omega)).toNat : Int)).toNat = 6 + (s[5]'(by omega)).toNat := by omega
          rw [e2]; rfl
        have hsm : ∀ W, (Instr.slice 9 (.string s) (some (.int .i64 1)) (some (.int .i64 4)) none).run Tryz.prog W = .ok (.string (s.extract 1 4)) W := fun W => by
          rw [run_slice_string_if _ _ _ _ _ _ _ Tryz.underlying9, if_pos ⟨by omega, n1⟩, if_pos ⟨by omega, by omega⟩]
          rfl
        have hi0 : ∀ W, (Instr.index 9 (.string s) (.int .i64 0)).run Tryz.prog W = .ok (.int .u8 ((s[0]'(by omega)).toNat : Int)) W := fun W => by
          rw [run_index_string _ _ _ _ _ Tryz.underlying9, dif_pos ⟨by omega, j0⟩]
          rfl
        have hi4 : ∀ W, (Instr.index 9 (.string s) (.int .i64 4)).run Tryz.prog W = .ok (.int .u8 ((s[4]'(by omega)).toNat : Int)) W := fun W => by
          rw [run_index_string _ _ _ _ _ Tryz.underlying9, dif_pos ⟨by omega, j4⟩]
          rfl
        clear g4 g5
        go_enter Tryz.func123, Tryz.ntmps123
        have HC : Hid (∀ W, Calls Tryz.prog 122 #[.string (s.extract 1 4)] W fun e w' => e = .returned (.int .u32 (Dk.num (s.extract 1 4).data.toList)) ∧ w' = W) := fun W => readNumber_any (s.extract 1 4) W (by rw [ByteArray.size_extract]; omega)
        generalize Dk.num (s.extract 1 4).data.toList = q at *
        have hwq : IntKind.i64.wrap (q : Int) = q := by
          unfold IntKind.wrap; simp [IntKind.bits, IntKind.signed]; omega
        go_wp2
        refine wp_same ⟨⟨#[.string s, undef, .pointer (some ⟨w.heap.size, 0, none⟩), .string ⟨#[]⟩, .bool false, (.int .i64 ((6 : Int) + ((s[5]'(by omega)).toNat : Int))), .pointer (some ⟨w.heap.size + 1, 0, none⟩), .string s, .int .i64 (s.size : Int), .bool false, .bool false, .string s, .int .u8 ((s[4]'(by omega)).toNat : Int), .bool false, .bool false, undef, .string s, .int .u8 ((s[5]'(by omega)).toNat : Int), .int .i64 ((s[5]'(by omega)).toNat : Int), (.int .i64 ((6 : Int) + ((s[5]'(by omega)).toNat : Int))), .string s, .int .i64 (s.size : Int), (.int .i64 ((6 : Int) + ((s[5]'(by omega)).toNat : Int))), .bool (decide ((s.size : Int) < (6 : Int) + ((s[5]'(by omega)).toNat : Int))), undef, .string s, .int .u8 ((s[0]'(by omega)).toNat : Int), .int .i64 ((s[0]'(by omega)).toNat : Int), .string s, .string (s.extract 1 4), .int .u32 (q : Int), .int .i64 (q : Int), .string s, .int .u8 ((s[4]'(by omega)).toNat : Int), .bool (((s[4]'(by omega)).toNat : Int) == 1), .string s, (.int .i64 ((6 : Int) + ((s[5]'(by omega)).toNat : Int))), (.string (s.extract 6 (6 + (s[5]'(by omega)).toNat))), .agg #[.int .i64 ((s[0]'(by omega)).toNat : Int), .int .i64 (q : Int), .bool (((s[4]'(by omega)).toNat : Int) == 1), (.string (s.extract 6 (6 + (s[5]'(by omega)).toNat)))], undef, undef, undef, undef], []⟩, ((w.alloc (.cells #[.int .i64 0, .int .i64 0, .bool false, .string ⟨#[]⟩] 55)).alloc (.cells #[.int .i64 ((s[0]'(by omega)).toNat : Int), .int .i64 (q : Int), .bool (((s[4]'(by omega)).toNat : Int) == 1), (.string (s.extract 6 (6 + (s[5]'(by omega)).toNat)))] 55)).drew, ?reg, ?rest⟩
        case reg =>
          go_region_held3 (fun W => True) (trivial)
            (first | (go_at_call 122; refine (HC.out _).mono ?_; rintro e w1 ⟨rfl, rfl⟩))
          all_goals exact ⟨rfl, rfl, rfl⟩
        case rest =>
          have hX := RecBox.start w ((s[0]'(by omega)).toNat : Int) (q : Int) (((s[4]'(by omega)).toNat : Int) == 1) (s.extract 6 (6 + (s[5]'(by omega)).toNat))
          generalize ((w.alloc (.cells #[.int .i64 0, .int .i64 0, .bool false, .string ⟨#[]⟩] 55)).alloc (.cells #[.int .i64 ((s[0]'(by omega)).toNat : Int), .int .i64 (q : Int), .bool (((s[4]'(by omega)).toNat : Int) == 1), (.string (s.extract 6 (6 + (s[5]'(by omega)).toNat)))] 55)).drew = W2 at hX ⊢
          obtain ⟨c0, f0, z0⟩ := heap_cells hX.1
          obtain ⟨c1, f1, z1⟩ := heap_cells hX.2.1
          have HX : Hid _ := hX
          clear hX
          go_wp2
          go_region_held3 (fun W => ∀ x, W.cell? ⟨w.heap.size + 1, x, none⟩ = (#[.int .i64 ((s[0]'(by omega)).toNat : Int), .int .i64 (q : Int), .bool (((s[4]'(by omega)).toNat : Int) == 1), (.string (s.extract 6 (6 + (s[5]'(by omega)).toNat)))] : Array Value)[x]?) (first | exact c1 | go_keep) (fail)
          have hY := RecBox.put HX.out.1 HX.out.2.2 (.int .i64 ((s[0]'(by omega)).toNat : Int)) (.int .i64 (q : Int)) (.bool (((s[4]'(by omega)).toNat : Int) == 1)) (.string (s.extract 6 (6 + (s[5]'(by omega)).toNat)))
          generalize ((((W2.setCell ⟨w.heap.size, 0, none⟩ (.int .i64 ((s[0]'(by omega)).toNat : Int))).setCell ⟨w.heap.size, 1, none⟩ (.int .i64 (q : Int))).setCell ⟨w.heap.size, 2, none⟩ (.bool (((s[4]'(by omega)).toNat : Int) == 1))).setCell ⟨w.heap.size, 3, none⟩ (.string (s.extract 6 (6 + (s[5]'(by omega)).toNat)))).drew = W3 at hY ⊢
          clear c0 f0 z0 c1 f1 z1
          obtain ⟨c3, f3, z3⟩ := heap_cells hY.1
          have HY : Hid _ := hY
          clear hY
          go_wp2
          refine bodyPost_ret (v := .tuple #[.agg #[.int .i64 ((s[0]'(by omega)).toNat : Int), .int .i64 (q : Int), .bool (((s[4]'(by omega)).toNat : Int) == 1), (.string (s.extract 6 (6 + (s[5]'(by omega)).toNat)))], .string (s.extract ((6 : Int) + ((s[5]'(by omega)).toNat : Int)).toNat s.size), .bool true]) (by simp [results, Tryz.results123, go_sem, c3]) rfl ?_
          have e6 : ((6 : Int) + ((s[5]'(by omega)).toNat : Int)).toNat = 6 + (s[5]'(by omega)).toNat := by omega
          refine ⟨_, _, _, _, s.extract (6 + (s[5]'(by omega)).toNat) s.size, by rw [HS.out, e6]; rfl, ?_, ?_, ?_, HY.out.2⟩
          · intro r p h
            rw [HS.out] at h
            cases h
            exact ⟨rfl, rfl⟩
          · rw [ByteArray.size_extract]; omega
          · rw [ByteArray.size_extract, len_list]; omega

end Go.Proofs.YtccckonckddadabGreat
