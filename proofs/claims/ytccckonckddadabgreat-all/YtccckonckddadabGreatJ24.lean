import Derived.Test.YtccckonckddadabGreatJ20
import Derived.Test.YtccckonckddadabGreatJ03
import Derived.Deep.AppendLies
import Derived.Deep.RegionHeldLaw
import Derived.Deep.RegionHeld3
namespace Go.Proofs.YtccckonckddadabGreat
open Go.RowKit
set_option linter.unusedVariables false

theorem info_rec : (Tryz.prog.info? 55).map (fun i => (i.zero, i.size, i.bytes)) = some (some (.agg #[.int .i64 0, .int .i64 0, .bool false, .string ⟨#[]⟩]), 4, 40) := by kernel_rfl

def recCells (r : RecV) : List Value := [.int .i64 r.c, .int .i64 r.i, .bool r.l, .string r.t]
def recsCells (rs : List RecV) : List Value := rs.flatMap recCells

theorem recsCells_at : ∀ (rs : List RecV) (k j : Nat) (h : k < rs.length), j < 4 → (recsCells rs)[k * 4 + j]? = (recCells rs[k])[j]?
  | [], k, j, h, _ => absurd h (by simp)
  | o :: r, 0, j, h, hj => by
    show (recCells o ++ recsCells r)[0 * 4 + j]? = _
    rw [List.getElem?_append_left (by simp [recCells]; omega)]; simp
  | o :: r, k + 1, j, h, hj => by
    show (recCells o ++ recsCells r)[(k + 1) * 4 + j]? = _
    rw [List.getElem?_append_right (by simp [recCells]; omega)]
    have e : (k + 1) * 4 + j - (recCells o).length = k * 4 + j := by simp [recCells]; omega
    rw [e, recsCells_at r k j (by simpa using h) hj]; simp

theorem recrow_own {w : World} {B n c : Nat} {a : Option Addr} {rs : List RecV} (h : w.ownsRow B 55 4 (.slice a n c) n (recsCells rs)) (hn : rs.length = n) (hs : ∀ r ∈ rs, r.t.size ≤ maxLen) : RecRow w a n rs := by
  refine ⟨hn, hs, ?_⟩
  rcases h.2 with ⟨_, h0⟩ | ⟨g, cap, cur, hv, _, hg, _, _, hcs, ht⟩
  · exact .inl h0
  · obtain ⟨rfl, _⟩ : a = some ⟨g, 0, none⟩ ∧ c = cap := by simpa using hv
    refine .inr ⟨g, 0, rfl, (heap_cells hg).2.2, fun k r hr => ?_⟩
    obtain ⟨hk, rfl⟩ := List.getElem?_eq_some_iff.1 hr
    have hx : ∀ j, j < 4 → w.cell? ⟨g, k * 4 + j, none⟩ = (recCells rs[k])[j]? := fun j hj => by
      rw [(heap_cells hg).1, ← recsCells_at rs k j hk hj, ← ht, ← Array.getElem?_toList, List.getElem?_take_of_lt (by omega)]
    have e : 0 + k * 4 = k * 4 := by omega
    rw [e]
    exact ⟨hx 0 (by omega), hx 1 (by omega), hx 2 (by omega), hx 3 (by omega)⟩

def GuessPost (l : List UInt8) (w : World) (e : Ending) (w' : World) : Prop :=
  ∃ (a : Option Addr) (n c : Nat) (rs : List RecV), e = .returned (.slice a n c) ∧ n ≤ 255 ∧ RecRow w' a n rs ∧ recs rs = Dk.guessV l ∧ Below w.heap.size w w'

/-- Where a round of guess stands. -/
structure GuessAt (l : List UInt8) (w wr : World) (N : Nat) (a : Option Addr) (n c : Nat) (rs : List RecV) (p : Nat) : Prop where
  len : rs.length = n
  small : ∀ r ∈ rs, r.t.size ≤ maxLen
  own : wr.ownsRow w.heap.size 55 4 (.slice a n c) n (recsCells rs)
  bel : Below w.heap.size w wr
  left : Dk.guessV l = recs rs ++ Dk.guessFrom l (N - n) p

theorem GuessAt.fin {l : List UInt8} {w wr : World} {N : Nat} {a : Option Addr} {n c : Nat} {rs : List RecV} {p : Nat} (h : GuessAt l w wr N a n c rs p) (h0 : Dk.guessFrom l (N - n) p = []) (hn : n ≤ 255) {e : Ending} (he : e = .returned (.slice a n c)) (m : Nat) : GuessPost l w e (wr.drewN m) :=
  ⟨a, n, c, rs, he, hn, (recrow_own h.own h.len h.small).kept (below_drewN (Below.refl _ _) m), by rw [h.left, h0]; simp, below_drewN h.bel m⟩
theorem GuessAt.fin0 {l : List UInt8} {w wr : World} {N : Nat} {a : Option Addr} {n c : Nat} {rs : List RecV} {p : Nat} (h : GuessAt l w wr N a n c rs p) (h0 : Dk.guessFrom l (N - n) p = []) (hn : n ≤ 255) {e : Ending} (he : e = .returned (.slice a n c)) : GuessPost l w e wr :=
  ⟨a, n, c, rs, he, hn, recrow_own h.own h.len h.small, by rw [h.left, h0]; simp, h.bel⟩

theorem recsCells_snoc (rs : List RecV) (r : RecV) : recsCells (rs ++ [r]) = recsCells rs ++ recCells r := by
  unfold recsCells
  rw [List.flatMap_append]
  simp

/-- The record that stands at p. -/
def recThere (s : ByteArray) (p : Nat) (h : p + 6 ≤ s.size) : RecV :=
  ⟨((s[p]'(by omega)).toNat : Int), ((s[p + 1]'(by omega)).toNat : Int) * 65536 + ((s[p + 2]'(by omega)).toNat : Int) * 256 + ((s[p + 3]'(by omega)).toNat : Int), (((s[p + 4]'(by omega)).toNat : Int) == 1), s.extract (p + 6) (p + 6 + (s[p + 5]'(by omega)).toNat)⟩

theorem recThere_told (s : ByteArray) (p : Nat) (h : p + 6 ≤ s.size) : (recThere s p h).told = Dk.recAt s.data.toList p := by
  unfold recThere RecV.told recOf Dk.recAt Dk.recEnd
  rw [getD_list s p (by omega), getD_list s (p + 1) (by omega), getD_list s (p + 2) (by omega), getD_list s (p + 3) (by omega), getD_list s (p + 4) (by omega), getD_list s (p + 5) (by omega)]
  simp only [ext_list]
  congr 1

theorem GuessAt.step {s : ByteArray} {w wr w2 : World} {N : Nat} {a : Option Addr} {n c : Nat} {rs : List RecV} {p g2 cap2 : Nat} (hR : GuessAt s.data.toList w wr N a n c rs p) (hlt : n < N) (h6 : p + 6 ≤ s.size) (hE : p + 6 + (s[p + 5]'(by omega)).toNat ≤ s.size) (hB : Below w.heap.size w w2) (hown : w2.ownsRow w.heap.size 55 4 (.slice (some ⟨g2, 0, none⟩) (n + 1) cap2) (n + 1) (recsCells rs ++ recCells (recThere s p h6))) :
    GuessAt s.data.toList w w2 N (some ⟨g2, 0, none⟩) (n + 1) cap2 (rs ++ [recThere s p h6]) (p + 6 + (s[p + 5]'(by omega)).toNat) where
  len := by simp [hR.len]
  small := by
    intro r hr
    rcases List.mem_append.1 hr with hr | hr
    · exact hR.small r hr
    · have : r = recThere s p h6 := by simpa using hr
      subst this
      show (s.extract _ _).size ≤ _
      have := byte_bd (s[p + 5]'(by omega))
      rw [ByteArray.size_extract]
      unfold maxLen
      omega
  own := by rw [recsCells_snoc]; exact hown
  bel := hB
  left := by
    have he : Dk.recEnd s.data.toList p = p + 6 + (s[p + 5]'(by omega)).toNat := by unfold Dk.recEnd; rw [getD_list s (p + 5) (by omega)]
    have hk : N - n = (N - (n + 1)) + 1 := by omega
    rw [hR.left, hk, Dk.guess_go _ (by rw [len_list]; exact h6) (by rw [he, len_list]; exact hE), he]
    unfold recs
    rw [List.map_append]
    simp [recThere_told]

theorem own_drew {w : World} {B e size n : Nat} {v : Value} {xs : List Value} (h : w.ownsRow B e size v n xs) : w.drew.ownsRow B e size v n xs := own_below h (Below.refl _ _).drew
theorem cells_drew {W : World} (b : Nat) (hb : b = W.heap.size) (cs : List Value) (t : TypeId) : ∀ j u, cs[j]? = some u → (W.alloc (.cells cs.toArray t)).drew.cell? ((⟨b, 0, none⟩ : Addr).add j) = some u := fun j u h => cells_new W b hb cs t j u h

theorem wrap_i64_id {n : Int} (h0 : 0 ≤ n) (h1 : n < 4611686018427387904) : IntKind.i64.wrap n = n := by
  have e1 : (2 : Int) ^ IntKind.i64.bits = 18446744073709551616 := rfl
  have e2 : (2 : Int) ^ (IntKind.i64.bits - 1) = 9223372036854775808 := rfl
  simp only [IntKind.wrap, e1, e2]
  rw [Int.emod_eq_of_lt h0 (by omega), if_neg]
  simp
  omega

set_option maxHeartbeats 2000000 in
theorem guess_any (s : ByteArray) (w : World) (hs : s.size ≤ 140737488355328) :
    Calls Tryz.prog 58 #[.string s] w (GuessPost s.data.toList w) := by
  by_cases h4 : s.size < 4
  · have HG : Hid (Dk.guessV s.data.toList = []) := by show _ = _; unfold Dk.guessV; rw [len_list, if_pos h4]
    go_enter Tryz.func58, Tryz.ntmps58
    go_wp2
    go_ret
    exact ⟨none, 0, 0, [], rfl, by omega, ⟨rfl, by simp, .inl rfl⟩, by rw [HG.out]; rfl, Below.refl _ _⟩
  · obtain ⟨ti, hi, hz0, hz1, hz2⟩ := info_parts info_rec
    have HI : Hid (_ ∧ _ ∧ _ ∧ _) := ⟨hi, hz0, hz1, hz2⟩
    clear hi hz0 hz1 hz2
    have h3 : 3 < s.size := by omega
    have hb3 := byte_bd s[3]
    have HG : Hid (Dk.guessV s.data.toList = Dk.guessFrom s.data.toList s[3].toNat 4) := by
      show _ = _
      unfold Dk.guessV
      rw [len_list, if_neg h4, getD_list s 3 h3]
    go_enter Tryz.func58, Tryz.ntmps58
    go_wp2
    go_loopw [3, 5] (fun v q wr => ∃ (a : Option Addr) (n c : Nat) (rs : List RecV) (p : Nat), v = .slice a n c ∧ q = .int .i64 p ∧ p ≤ s.size ∧ n ≤ s[3].toNat ∧ Hid (GuessAt s.data.toList w wr s[3].toNat a n c rs p)) (fun _ q _ => s.size - (intOf q).toNat)
    case atStart => exact ⟨none, 0, 0, [], 4, rfl, rfl, by omega, by omega, ⟨rfl, by simp, World.ownsRow_nil _ _ _ _, Below.refl _ _, HG.out⟩⟩
    case round =>
      obtain ⟨a, n, c, rs, p, rfl, rfl, hp, hn, HR⟩ := hrel
      have hzr : w.heap.size ≤ wr.heap.size := HR.out.bel.size
      by_cases hlt : n < s[3].toNat
      · have hltI : (n : Int) < (s[3].toNat : Int) := by omega
        by_cases h6 : p + 6 ≤ s.size
        · have i5 : (p : Int) + 5 < (s.size : Int) := by omega
          have i6 : (p : Int) + 6 ≤ (s.size : Int) := by omega
          have b5 := byte_bd (s[p + 5]'(by omega))
          have hge : (s.data.toList.getD (p + 5) 0).toNat = (s[p + 5]'(by omega)).toNat := by rw [getD_list s (p + 5) (by omega)]
          by_cases hE : p + 6 + (s[p + 5]'(by omega)).toNat ≤ s.size
          · have HE : Hid (Dk.recEnd s.data.toList p = p + 6 + (s[p + 5]'(by omega)).toNat) := by show _ = _; unfold Dk.recEnd; rw [hge]
            have hEI : (p : Int) + 6 + ((s[p + 5]'(by omega)).toNat : Int) ≤ (s.size : Int) := by omega
            have i1 : (p : Int) + 1 < (s.size : Int) := by omega
            have i2 : (p : Int) + 2 < (s.size : Int) := by omega
            have i3 : (p : Int) + 3 < (s.size : Int) := by omega
            have i4 : (p : Int) + 4 < (s.size : Int) := by omega
            have i0 : (p : Int) < (s.size : Int) := by omega
            have k0 : p < s.size := by omega
            have k4 : p + 4 < s.size := by omega
            have k6 : p + 6 ≤ s.size := by omega
            have n7 : (0 : Int) ≤ (p : Int) + 6 + ((s[p + 5]'(by omega)).toNat : Int) := by omega
            have n8 : (p : Int) + 6 ≤ (p : Int) + 6 + ((s[p + 5]'(by omega)).toNat : Int) := by omega
            have n1 : (0 : Int) ≤ (p : Int) + 1 := by omega
            have n2 : (0 : Int) ≤ (p : Int) + 2 := by omega
            have n3 : (0 : Int) ≤ (p : Int) + 3 := by omega
            have n4 : (0 : Int) ≤ (p : Int) + 4 := by omega
            have n5 : (0 : Int) ≤ (p : Int) + 5 := by omega
            have n6 : (0 : Int) ≤ (p : Int) + 6 := by omega
            have b1 := byte_bd (s[p + 1]'(by omega))
            have b2 := byte_bd (s[p + 2]'(by omega))
            have b3' := byte_bd (s[p + 3]'(by omega))
            have hsl : ∀ W, (Instr.slice 9 (.string s) (some (.int .i64 ((p : Int) + 6))) (some (.int .i64 ((p : Int) + 6 + ((s[p + 5]'(by omega)).toNat : Int)))) none).run Tryz.prog W = .ok (.string (s.extract (p + 6) (p + 6 + (s[p + 5]'(by omega)).toNat))) W := fun W => by
              rw [run_slice_string_if _ _ _ _ _ _ _ Tryz.underlying9, if_pos ⟨n7, hEI⟩, if_pos ⟨n6, n8⟩]
              have e1 : ((p : Int) + 6).toNat = p + 6 := by omega
              have e2 : ((p : Int) + 6 + ((s[p + 5]'(by omega)).toNat : Int)).toNat = p + 6 + (s[p + 5]'(by omega)).toNat := by omega
              rw [e1, e2]
            have hi4 : ∀ W, (Instr.index 9 (.string s) (.int .i64 ((p : Int) + 4))).run Tryz.prog W = .ok (.int .u8 ((s[p + 4]'(by omega)).toNat : Int)) W := fun W => by
              rw [run_index_string _ _ _ _ _ Tryz.underlying9, dif_pos ⟨n4, i4⟩]
              rfl
            have hi0 : ∀ W, (Instr.index 9 (.string s) (.int .i64 (p : Int))).run Tryz.prog W = .ok (.int .u8 ((s[p]'(by omega)).toNat : Int)) W := fun W => by
              rw [run_index_string _ _ _ _ _ Tryz.underlying9, dif_pos ⟨by omega, i0⟩]
              rfl
            clear hge
            go_wp2
            go_quiet (fail)
            have HO : Hid ((wr.drewN nq).ownsRow w.heap.size 55 4 (.slice a n c) n (recsCells rs)) := own_below HR.out.own (below_drewN (Below.refl _ _) nq)
            have HBl : Hid (Below w.heap.size w (wr.drewN nq)) := below_drewN HR.out.bel nq
            have hz0 : w.heap.size ≤ (wr.drewN nq).heap.size := HBl.out.size
            generalize wr.drewN nq = W0 at *
            have hw4 : IntKind.i64.wrap ((p : Int) + 4) = (p : Int) + 4 := wrap_i64_id (by omega) (by omega)
            have hwp : IntKind.i64.wrap ((s[p]'(by omega)).toNat : Int) = ((s[p]'(by omega)).toNat : Int) := by have := byte_bd (s[p]'(by omega)); exact wrap_i64_id (by omega) (by omega)
            have hw6 : IntKind.i64.wrap ((p : Int) + 6) = (p : Int) + 6 := wrap_i64_id (by omega) (by omega)
            go_wp2
            go_region_held3 (fun W => True) (trivial)
              (first | (refine step_append_lies _ rfl (.tmp 60) (.tmp 77) 38 rfl w.heap.size 55 ti (.agg #[.int .i64 0, .int .i64 0, .bool false, .string ⟨#[]⟩]) 4 40 Tryz.underlying38 HI.out.1 HI.out.2.1 HI.out.2.2.1 HI.out.2.2.2 rfl (by decide) (.slice a n c) n (recsCells rs) rfl (HO.out.alloc _) ⟨W0.heap.size, 0, none⟩ 1 1 [.int .i64 ((s[p]'(by omega)).toNat : Int), .int .i64 (((s[p + 1]'(by omega)).toNat : Int) * 65536 + ((s[p + 2]'(by omega)).toNat : Int) * 256 + ((s[p + 3]'(by omega)).toNat : Int)), .bool (((s[p + 4]'(by omega)).toNat : Int) == 1), .string (s.extract (p + 6) (p + 6 + (s[p + 5]'(by omega)).toNat))] rfl rfl (cells_drew (W := W0) W0.heap.size rfl [.int .i64 ((s[p]'(by omega)).toNat : Int), .int .i64 (((s[p + 1]'(by omega)).toNat : Int) * 65536 + ((s[p + 2]'(by omega)).toNat : Int) * 256 + ((s[p + 3]'(by omega)).toNat : Int)), .bool (((s[p + 4]'(by omega)).toNat : Int) == 1), .string (s.extract (p + 6) (p + 6 + (s[p + 5]'(by omega)).toNat))] _) (by intro u hu; simp only [List.mem_cons, List.not_mem_nil, or_false] at hu; rcases hu with rfl | rfl | rfl | rfl <;> rfl) (by decide) (by unfold maxLen; omega) (by omega) (by show _ ≤ (W0.alloc _).heap.size; simp; omega) _ rfl ?_; intro g2 cap2 w2 hown hgr hat hlt2))
            go_goals
            all_goals
              have HBn : Hid (Below w.heap.size w w2) := ((HBl.out.alloc hz0 _).drew).grown hgr (by show _ ≤ (W0.alloc _).heap.size; simp; omega) (fun k hk => (HO.out.lt k hk).1)
              have HN : Hid _ := HR.out.step hlt h6 hE HBn.out hown
              clear hown hgr hat hlt2 HBl HO hsl hi4 hi0
              go_wp2
              go_roundw
              case rel => exact ⟨_, _, _, _, p + 6 + (s[p + 5]'(by omega)).toNat, rfl, by go_num, hE, by omega, HN⟩
              case measure =>
                show s.size - ((p : Int) + 6 + ((s[p + 5]'(by omega)).toNat : Int)).toNat < s.size - ((p : Int)).toNat
                omega
          · have H0 : Hid _ := Dk.guess_stop (s[3].toNat - n) (l := s.data.toList) (p := p) (.inr (by rw [len_list]; unfold Dk.recEnd; rw [hge]; omega))
            have hEI : (s.size : Int) < (p : Int) + 6 + ((s[p + 5]'(by omega)).toNat : Int) := by omega
            clear hge
            go_wp2
            go_ret
            exact HR.out.fin0 H0.out (by omega) rfl
        · have H0 : Hid _ := Dk.guess_stop (s[3].toNat - n) (l := s.data.toList) (p := p) (.inl (by rw [len_list]; omega))
          have i6 : (s.size : Int) < (p : Int) + 6 := by omega
          go_wp2
          go_ret
          exact HR.out.fin0 H0.out (by omega) rfl
      · have H0 : Hid (Dk.guessFrom s.data.toList (s[3].toNat - n) p = []) := by show _ = _; rw [show s[3].toNat - n = 0 from by omega]; rfl
        have hltI : (s[3].toNat : Int) ≤ (n : Int) := by omega
        go_wp2
        go_ret
        exact HR.out.fin0 H0.out (by omega) rfl

end Go.Proofs.YtccckonckddadabGreat
namespace Go.Proofs.YtccckonckddadabGreat
open Go.RowKit
set_option linter.unusedVariables false

theorem frame_any (n : Int) (a : Option Addr) (m c : Nat) (rs : List RecV) (w : World) (hm : m ≤ maxLen) (hr : RecRow w a m rs) :
    Calls Tryz.prog 22 #[.int .i64 n, .slice a m c] w (FrameRPost n (recs rs) w) := by
  by_cases h : 0 ≤ n ∧ n < 200 ∧ m ≤ 64
  · exact frame_good n a m c rs w h.1 h.2.1 h.2.2 hr
  · exact frame_bad n a m c rs w hm hr (by omega)

theorem parse_len {l : List UInt8} (h : Dk.parseOk l = true) : l.length ≤ 60 := by
  unfold Dk.parseOk at h
  rw [Bool.and_eq_true, Bool.and_eq_true, Bool.and_eq_true, decide_eq_true_eq] at h
  exact h.1.1.1
theorem recOk_len {r : Dk.Rec} (h : Dk.recOk r = true) : (Dk.recBytes r).length ≤ 66 := by
  unfold Dk.recOk at h
  rw [Bool.and_eq_true, Bool.and_eq_true] at h
  have ht : r.text.length ≤ 60 := by
    obtain ⟨⟨h1, _⟩, _⟩ := h
    cases hl : r.late
    · rw [hl] at h1; exact parse_len h1
    · rw [hl] at h1
      have : r.text = [] := eq_of_beq h1
      rw [this]; simp
  unfold Dk.recBytes
  simp only [List.length_append, Dk.be_len]
  omega
theorem recs_len : ∀ (rs : List Dk.Rec), rs.all Dk.recOk = true → (rs.flatMap Dk.recBytes).length ≤ 66 * rs.length
  | [], _ => by simp
  | r :: rs, h => by
    rw [List.all_cons, Bool.and_eq_true] at h
    have h1 := recOk_len h.1
    have h2 := recs_len rs h.2
    rw [List.flatMap_cons, List.length_append, List.length_cons]
    omega
theorem epoch_len (n : Nat) (rs : List Dk.Rec) : (Dk.epoch n rs).length = 8 + (rs.flatMap Dk.recBytes).length := by
  unfold Dk.epoch Dk.payload
  simp only [List.length_append, Dk.be_len]
  omega
theorem epoch_small {n : Int} {rs : List Dk.Rec} (h : Dk.frameOk n rs = true) : (Dk.epoch n.toNat rs).length ≤ 4232 := by
  unfold Dk.frameOk at h
  rw [Bool.and_eq_true, Bool.and_eq_true, decide_eq_true_eq, decide_eq_true_eq] at h
  have := recs_len rs h.2
  have := h.1.2
  rw [epoch_len]
  omega
theorem frame_low {n : Int} {rs : List Dk.Rec} (h : Dk.frameOk n rs = true) : n < 200 := by
  unfold Dk.frameOk at h
  rw [Bool.and_eq_true, Bool.and_eq_true, decide_eq_true_eq] at h
  exact h.1.1.2

theorem scan_go {l : List UInt8} {k n p : Nat} (h : Dk.frameOk n (Dk.guessV (l.drop p)) = true) (h' : startsB (l.drop p) (Dk.epoch n (Dk.guessV (l.drop p))) = true) : Dk.scanFrom l (k + 1) n p = Dk.scanFrom l k (n + 1) (p + (Dk.epoch n (Dk.guessV (l.drop p))).length) := by
  have h'' := h'
  unfold startsB at h''
  rw [Dk.scanFrom, h, h'']; rfl
theorem scan_stop {l : List UInt8} {k n p : Nat} (h : Dk.frameOk n (Dk.guessV (l.drop p)) = false ∨ startsB (l.drop p) (Dk.epoch n (Dk.guessV (l.drop p))) = false) : Dk.scanFrom l k n p = (n, p) := by
  cases k with
  | zero => rfl
  | succ k =>
    rw [Dk.scanFrom]
    rcases h with h | h
    · rw [h]; rfl
    · unfold startsB at h; rw [h]; simp
theorem drop_list (s : ByteArray) (p : Nat) : (s.extract p s.size).data.toList = s.data.toList.drop p := by
  rw [ext_list, ← len_list, List.take_length]

set_option maxHeartbeats 2000000 in
theorem scan_any (s : ByteArray) (w : World) (hs : s.size ≤ 140737488355328) :
    Calls Tryz.prog 24 #[.string s] w fun e w' => e = .returned (.tuple #[.int .i64 (Dk.scanV s.data.toList).1, .int .i64 (Dk.scanV s.data.toList).2]) ∧ Below w.heap.size w w' := by
  go_enter Tryz.func24, Tryz.ntmps24
  go_wp2
  go_loopw [4, 5] (fun p q wr => ∃ (k at' : Nat), k ≤ 200 ∧ p = .int .i64 at' ∧ q = .int .i64 k ∧ at' ≤ s.size ∧ Hid (Dk.scanV s.data.toList = Dk.scanFrom s.data.toList (201 - k) k at') ∧ Hid (Below w.heap.size w wr)) (fun _ q _ => 201 - (intOf q).toNat)
  case atStart => exact ⟨0, 0, by omega, rfl, rfl, by omega, rfl, Below.refl _ _⟩
  case round =>
    obtain ⟨k, p, hk, rfl, rfl, hp, HS, HB⟩ := hrel
    have hpI : (p : Int) ≤ (s.size : Int) := by omega
    go_wp2_with fail
    refine (guess_any (s.extract p s.size) _ (by rw [ByteArray.size_extract]; omega)).mono ?_
    rintro e w1 ⟨a, m, c, rs, rfl, hm, HR, hg, hB1⟩
    rw [drop_list] at hg
    have HR' : Hid _ := HR
    have HG : Hid _ := hg
    have HB1 : Hid (Below w.heap.size w w1) := HB.out.trans (hB1.mono HB.out.size)
    clear HR hg hB1 HB
    go_wp2_with fail
    refine (frame_any (k : Int) a m c rs _ (by unfold maxLen; omega) HR'.out).mono ?_
    rintro e w2 ⟨b, rfl, hb, hB2⟩
    rw [HG.out] at hb
    rw [HG.out]
    have HB2 : Hid (Below w.heap.size w w2) := HB1.out.trans (hB2.mono HB1.out.size)
    clear hB2 HB1
    cases hf : Dk.frameOk (k : Int) (Dk.guessV (s.data.toList.drop p))
    · have HE : Hid (Dk.scanFrom s.data.toList (201 - k) k p = (k, p)) := scan_stop (.inl hf)
      rw [hf] at hb
      have hbs : b.size = 0 := congrArg List.length hb
      clear hb hf
      go_wp2_with fail
      refine (starts_any (s.extract p s.size) b _ (by rw [ByteArray.size_extract]; unfold maxLen; omega) (by unfold maxLen; omega)).mono ?_
      rintro e w3 ⟨rfl, rfl⟩
      go_wp2
      go_ret2
      exact ⟨by rw [HS.out, HE.out]; rfl, HB2.out⟩
    · rw [hf] at hb
      have hk2 := frame_low hf
      have hlen : b.size = (Dk.epoch k (Dk.guessV (s.data.toList.drop p))).length := congrArg List.length hb
      have hsm := epoch_small hf
      rw [Int.toNat_natCast] at hsm
      have HBb : Hid (b.data.toList = Dk.epoch k (Dk.guessV (s.data.toList.drop p))) := hb
      have HF : Hid _ := hf
      clear hb hf
      have hbs : b.size ≤ 4232 := by omega
      go_wp2_with fail
      refine (starts_any (s.extract p s.size) b _ (by rw [ByteArray.size_extract]; unfold maxLen; omega) (by unfold maxLen; omega)).mono ?_
      rintro e w3 ⟨rfl, rfl⟩
      rw [drop_list]
      cases hst : startsB (s.data.toList.drop p) b.data.toList
      · have HE : Hid (Dk.scanFrom s.data.toList (201 - k) k p = (k, p)) := scan_stop (.inr (by rw [← HBb.out]; exact hst))
        clear hst
        go_wp2
        go_ret2
        exact ⟨by rw [HS.out, HE.out]; rfl, HB2.out⟩
      · have HE : Hid (Dk.scanFrom s.data.toList (201 - k) k p = Dk.scanFrom s.data.toList (201 - (k + 1)) (k + 1) (p + b.size)) := by
          show _ = _
          rw [show 201 - k = (201 - (k + 1)) + 1 from by omega, hlen]
          exact scan_go HF.out (by rw [← HBb.out]; exact hst)
        have hle : p + b.size ≤ s.size := by
          have h' := hst
          unfold startsB at h'
          rw [Bool.and_eq_true, decide_eq_true_eq, len_list, List.length_drop, len_list] at h'
          omega
        clear hst hlen hsm
        go_wp2
        go_roundw
        case rel => exact ⟨k + 1, p + b.size, by omega, by go_num, by go_num, hle, HS.out.trans HE.out, HB2.out⟩
        case measure => simp [intOf]; omega

end Go.Proofs.YtccckonckddadabGreat
