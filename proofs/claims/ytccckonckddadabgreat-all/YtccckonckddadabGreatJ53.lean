import Derived.Test.YtccckonckddadabGreatJ51
import Derived.Test.YtccckonckddadabGreatJ52
import Derived.Test.YtccckonckddadabGreatJ50
import Derived.Test.YtccckonckddadabGreatJ26
namespace Go.Proofs.YtccckonckddadabGreat
open Go.RowKit
set_option linter.unusedVariables false

/-- One step, of whatever kind up to Get. -/
theorem wstep11_any (B N : Nat) (gW : Nat) (ps : List Pair) (lab : Nat → Nat) (o : OpV) (w : World) (h : WldAt B N w gW ps lab) (h5 : o.kind ≤ 11) (hs : o.s.size ≤ maxLen) (hk0 : -9223372036854775808 ≤ o.k) (hk1 : o.k < 9223372036854775808) (hn : ps.length + 1 ≤ 10000000000000) :
    Calls Tryz.prog 5 #[.pointer (some ⟨gW, 0, none⟩), .agg o.arr] w (NPost B N gW ps.length w) := by
  by_cases h55 : o.kind ≤ 5
  · exact wstep_any B N gW ps lab o w h h55 hs hk0 hk1 hn
  obtain ⟨kind, oa, ob, oc, ok, os, ⟨x1, x2, x3, x4, x5⟩, z0, z1, z2, z3, z4, z5, z6, z7, ra, rm, rc⟩ := o
  simp only at h55 h5 hs hk0 hk1
  by_cases h0 : ps.length = 0
  · exact step_none B N gW ps lab kind oa ob oc ok os x1 x2 x3 x4 x5 z0 z1 z2 z3 z4 z5 z6 z7 ra rm rc w h hs hk0 hk1 hn h0 h5 (by omega)
  have h0' : 0 < ps.length := by omega
  by_cases h2 : kind = 6
  · subst h2
    exact step_send B N gW ps lab oa ob oc ok os x1 x2 x3 x4 x5 z0 z1 z2 z3 z4 z5 z6 z7 ra rm rc w h hs hk0 hk1 hn h0'
  by_cases h3 : kind = 7
  · subst h3
    exact step_sync B N gW ps lab oa ob oc ok os x1 x2 x3 x4 x5 z0 z1 z2 z3 z4 z5 z6 z7 ra rm rc w h hs hk0 hk1 hn h0'
  by_cases h4 : kind = 8
  · subst h4
    exact step_crash B N gW ps lab oa ob oc ok os x1 x2 x3 x4 x5 z0 z1 z2 z3 z4 z5 z6 z7 ra rm rc w h hs hk0 hk1 hn h0'
  by_cases h6 : kind = 9
  · subst h6
    exact step_disk B N gW ps lab oa ob oc ok os x1 x2 x3 x4 x5 z0 z1 z2 z3 z4 z5 z6 z7 ra rm rc w h hs hk0 hk1 hn h0'
  by_cases h7 : kind = 10
  · subst h7
    exact step_count B N gW ps lab oa ob oc ok os x1 x2 x3 x4 x5 z0 z1 z2 z3 z4 z5 z6 z7 ra rm rc w h hs hk0 hk1 hn h0'
  obtain rfl : kind = 11 := by omega
  exact step_get B N gW ps lab oa ob oc ok os x1 x2 x3 x4 x5 z0 z1 z2 z3 z4 z5 z6 z7 ra rm rc w h hs hk0 hk1 hn h0'

set_option maxRecDepth 100000 in
set_option maxHeartbeats 4000000 in
theorem plays_walk (a : Option Addr) (m c : Nat) (ops : List OpV) (w : World) (h : OpsRow w a m ops) (hm : m ≤ 5000000000000) :
    Calls Tryz.prog 4 #[.slice a m c, .int .i64 11] w fun e w' => e = .returned (.bool true) ∧ Below w.heap.size w w' := by
  have H : Hid _ := h
  clear h
  obtain ⟨B, hB⟩ : ∃ B, B = w.heap.size := ⟨_, rfl⟩
  have HE : Hid _ := wld_empty (N := 0) hB
  have HB0 : Hid (Below B w (w.alloc (.cells #[.slice none 0 0, .slice none 0 0, .slice none 0 0] 32))) := by rw [hB]; exact (Below.refl _ _).alloc (Nat.le_refl _) _
  have HBe : Hid _ := hB
  go_enter Tryz.func4, Tryz.ntmps4
  go_wp2
  rewrite [← hB]
  rw [← hB] at HE
  clear hB
  go_loopw [6] (fun v4 wr => ∃ (k : Nat) (ps : List Pair) (lab : Nat → Nat), v4 = .int .i64 k ∧ k ≤ m ∧ ps.length ≤ k ∧ Hid (WldAt B 0 wr B ps lab) ∧ Hid (Below B w wr)) (fun v4 _ => m - (intOf v4).toNat)
  case atStart => exact ⟨0, [], fun _ => 0, rfl, Nat.zero_le _, Nat.le_refl _, HE, HB0⟩
  case round =>
    obtain ⟨k, ps, lab, rfl, hk, hpk, HW, HB⟩ := hrel
    clear HE HB0
    by_cases hlt : k < m
    · have HR : Hid (OpsRow wr a m ops) := H.out.kept HBe.out HB.out
      have hkl : k < ops.length := by rw [H.out.len]; exact hlt
      obtain ⟨gS, off, rfl, hgS, hcell⟩ : ∃ g off, a = some ⟨g, off, none⟩ ∧ g < wr.heap.size ∧ ∀ (k : Nat) (o : OpV), ops[k]? = some o → wr.rangeAt g (off + k * 20) o.arr.toList := by
        rcases HR.out.cells with h0 | h0
        · omega
        · exact h0
      have HRg : Hid _ := hcell k ops[k] (List.getElem?_eq_getElem hkl)
      obtain ⟨hs, hk0, hk1⟩ := H.out.ok ops[k] (List.getElem_mem hkl)
      clear hcell HR
      generalize ops[k] = o at *
      have d0 : wr.cell? ⟨gS, off + k * 20, none⟩ = some (.int .i64 o.kind) := HRg.out 0 _ rfl
      have k1 : (k : Int) < (m : Int) := by omega
      have k0 : (0 : Int) ≤ (k : Int) := by omega
      by_cases h5 : 11 < o.kind
      · go_wp2
        go_roundw
        case rel => exact ⟨k + 1, ps, lab, by go_num, by omega, by omega, HW, HB⟩
        case measure => simp [intOf]; omega
      · have h5' : o.kind ≤ 11 := by omega
        go_wp2_with (refine wpList_load_mid rfl 40 (.tmp 28) rfl gS (off + k * 20) rfl o.arr.toList _ HRg.out Tryz.underlying40 rfl info_opsize ?_)
        refine (wstep11_any B 0 B ps lab o wr HW.out h5' hs hk0 hk1 (by omega)).mono ?_
        rintro e w1 ⟨rfl, ⟨ps', lab', hl', hW'⟩, hB'⟩
        have HW' : Hid _ := hW'
        have HB' : Hid (Below B w w1) := HB.out.trans hB'
        have hBw : B < w1.heap.size := by obtain ⟨_, _, _, _, _, q1, _⟩ := hW'.mem; exact (heap_cells q1).2.2
        clear hW' hB' d0
        go_wp2_with fail
        refine (wdry_any B 0 B ps' lab' w1 HW'.out (by decide)).mono ?_
        rintro e w2 ⟨rfl, hB2⟩
        have HW2 : Hid _ := HW'.out.below hB2
        have HB2 : Hid (Below B w w2) := HB'.out.trans (hB2.mono HW'.out.base)
        clear hB2
        go_wp2
        go_roundw
        case rel => exact ⟨k + 1, ps', lab', by go_num, by omega, by omega, HW2, HB2⟩
        case measure => simp [intOf]; omega
    · have hkm : k = m := by omega
      subst hkm
      have hkk : decide ((k : Int) < (k : Int)) = false := decide_eq_false (by omega)
      obtain ⟨n, hn⟩ : ∃ n, ps.length = n := ⟨_, rfl⟩
      have HN : Hid _ := hn
      rw [hn] at hpk
      clear hn
      go_wp2
      go_loopw [8] (fun v6 wx => ∃ (j : Nat) (ps : List Pair) (lab : Nat → Nat), v6 = .int .i64 j ∧ j ≤ n ∧ Hid (ps.length = n) ∧ Hid (WldAt B 0 wx B ps lab) ∧ Hid (Below B w wx)) (fun v6 _ => n - (intOf v6).toNat)
      case atStart => exact ⟨0, ps, lab, rfl, Nat.zero_le _, HN, HW, HB⟩
      case round =>
        obtain ⟨j, ps2, lab2, rfl, hj, HN2, HW2, HB2⟩ := hrel
        clear HW HB HN
        obtain ⟨aC, cC, aR, cR, vH, m1, _⟩ := HW2.out.mem
        have hgW := (heap_cells m1).2.2
        have c0 : wr.cell? ⟨B, 0, none⟩ = some (.slice aC n cC) := by
          rw [(heap_cells m1).1, ← HN2.out]; rfl
        clear m1
        by_cases hjl : j < n
        · have j1 : (j : Int) < (n : Int) := by omega
          have j0 : (0 : Int) ≤ (j : Int) := by omega
          go_wp2_with fail
          refine (wends_any B 0 B ps2 lab2 j a k c ops w wr HW2.out (by rw [HN2.out]; exact hjl) H.out HBe.out HB2.out hm).mono ?_
          rintro e w1 ⟨rfl, ⟨ps', lab', hl', hW'⟩, hB'⟩
          have HW' : Hid _ := hW'
          have HB' : Hid (Below B w w1) := HB2.out.trans hB'
          have HN' : Hid (ps'.length = n) := hl'.trans HN2.out
          clear hW' hB' hl' c0
          go_wp2
          go_roundw
          case rel => exact ⟨j + 1, ps', lab', by go_num, by omega, HN', HW', HB'⟩
          case measure => simp [intOf]; omega
        · have hje : j = n := by omega
          subst hje
          have hjj : decide ((j : Int) < (j : Int)) = false := decide_eq_false (by omega)
          go_wp2
          go_ret
          exact ⟨rfl, by have := HB2.out; rw [HBe.out] at this; exact this⟩

end Go.Proofs.YtccckonckddadabGreat
namespace Go.Proofs.YtccckonckddadabGreat
open Go.RowKit
set_option linter.unusedVariables false

/-! ### The steps Apply, Frame, Scan -/
theorem heldRow_snoc (hs : List HeldV) (x : HeldV) : heldRow (hs ++ [x]) = heldRow hs ++ [.slice (some ⟨x.g, 0, none⟩) x.n x.n, .int .i64 x.m] := by
  unfold heldRow
  rw [List.flatMap_append]
  rfl
theorem HeldAt.mono {B N M : Nat} {w : World} {lab : Nat → Nat} {vH : Value} (h : HeldAt B N w lab vH) (hN : N ≤ M) : HeldAt B M w lab vH := by
  obtain ⟨a, c, hs, h1, h0, h2⟩ := h
  exact ⟨a, c, hs, h1, Nat.le_trans h0 hN, h2⟩
theorem WldAt.mono {B N M : Nat} {w : World} {gW : Nat} {ps : List Pair} {lab : Nat → Nat} (h : WldAt B N w gW ps lab) (hN : N ≤ M) : WldAt B M w gW ps lab := by
  obtain ⟨h1, h2, ⟨aC, cC, aR, cR, vH, m1, m2, m3, m4, m5, m6⟩, h4⟩ := h
  exact ⟨h1, h2, ⟨aC, cC, aR, cR, vH, m1, m2, m3, m4, m5, m6.mono hN⟩, h4⟩

/-- One list more is held. -/
theorem wld_frame {B N : Nat} {w w' : World} {gW : Nat} {ps : List Pair} {lab : Nat → Nat} {aC aR aL : Option Addr} {cC cR cL : Nat} {hs : List HeldV} {m : Nat} {e : Ending} (h : WldAt B N w gW ps lab)
    (m1 : w.heap[gW]? = some (.cells #[.slice aC ps.length cC, .slice aR ps.length cR, .slice aL hs.length cL] 32)) (m2 : w.ownsRow B 57 1 (.slice aC ps.length cC) ps.length (ptrC ps)) (m3 : w.ownsRow B 61 1 (.slice aR ps.length cR) ps.length (ptrR ps))
    (m4 : ∀ k, (Value.slice aC ps.length cC).ownBlock = some k → lab k = 1) (m5 : ∀ k, (Value.slice aR ps.length cR).ownBlock = some k → lab k = 2)
    (o : w.ownsRow B 53 2 (.slice aL hs.length cL) hs.length (heldRow hs)) (ol : ∀ k, (Value.slice aL hs.length cL).ownBlock = some k → lab k = 3) (hN : hs.length ≤ N) (hN2 : N ≤ 10000000000000)
    (ha : ∀ x ∈ hs, AllAt w x.g (List.replicate x.n (mark x.m)) ∧ B ≤ x.g ∧ lab x.g = 4 ∧ 0 < x.n ∧ x.n ≤ 7036874417768 ∧ 0 ≤ x.m ∧ x.m ≤ 10000000000002) (hm : 40 * (m + 2) ≤ 281474976710656)
    (hF : FrPost2 gW 2 hs.length m B aL cL (heldRow hs) w e w') :
    e = .returned (.bool true) ∧ (∃ lab', WldAt B (N + 1) w' gW ps lab') ∧ Below B w w' ∧ ∀ k, k < w.heap.size → k ≠ gW → (Value.slice aL hs.length cL).ownBlock ≠ some k → w'.heap[k]? = w.heap[k]? := by
  obtain ⟨G, g, cap, wX, wY, rfl, bX, hG0, hG1, hA, gY, oY, tY, rfl⟩ := hF
  have hB := h.base
  have hgW := (heap_cells m1).2.2
  have zX := bX.size
  have zY := gY.size
  have eS : ∀ v, (wY.setCell ⟨gW, 2, none⟩ v).heap.size = wY.heap.size := fun v => by simp [World.setCell]
  have nL : (Value.slice aL hs.length cL).ownBlock ≠ some gW := fun e => by have := ol gW e; rw [h.gl] at this; omega
  have lL : ∀ k, (Value.slice aL hs.length cL).ownBlock = some k → k < w.heap.size := fun k e => (World.ownsRow.lt o k e).2
  have sX : ∀ k, k < wX.heap.size → k ≠ gW → (Value.slice aL hs.length cL).ownBlock ≠ some k → (wY.setCell ⟨gW, 2, none⟩ (.slice (some ⟨g, 0, none⟩) (hs.length + 1) cap)).heap[k]? = wX.heap[k]? := fun k hk h1 h2 => by
    rw [Below.heap_setCell _ _ _ _ (by exact h1)]
    exact gY.block k hk (fun e => h2 e.symm)
  have sOld : ∀ k, k < w.heap.size → k ≠ gW → (Value.slice aL hs.length cL).ownBlock ≠ some k → (wY.setCell ⟨gW, 2, none⟩ (.slice (some ⟨g, 0, none⟩) (hs.length + 1) cap)).heap[k]? = w.heap[k]? := fun k hk h1 h2 => (sX k (by omega) h1 h2).trans (bX.block k hk)
  have lG : g < wY.heap.size := (World.ownsRow.lt oY g rfl).2
  have hgg : g ≠ gW := by
    rcases tY with e | e
    · exact fun e2 => nL (by rw [e, e2])
    · omega
  have hGg : G ≠ gW := by omega
  have hGL : (Value.slice aL hs.length cL).ownBlock ≠ some G := fun e => by have := lL G e; omega
  refine ⟨rfl, ⟨fun k => if k < w.heap.size then lab k else if k < wX.heap.size then 4 else 3, h.gB, ?_, ?_, ?_⟩, ?_, sOld⟩
  · show (if gW < w.heap.size then lab gW else _) = 0
    rw [if_pos hgW]; exact h.gl
  · refine ⟨aC, cC, aR, cR, .slice (some ⟨g, 0, none⟩) (hs.length + 1) cap, ?_, own_same m2 (fun k hk => ?_), own_same m3 (fun k hk => ?_), fun k hk => ?_, fun k hk => ?_, ?_⟩
    · have hb : wY.heap[gW]? = some (.cells #[.slice aC ps.length cC, .slice aR ps.length cR, .slice aL hs.length cL] 32) := (gY.block gW (by omega) (fun e => nL e.symm)).trans ((bX.block gW hgW).trans m1)
      rw [heap_set hb]
      rfl
    · have h1 := World.ownsRow.lt m2 k hk
      refine sOld k h1.2 (fun e => ?_) (fun e => ?_)
      · have := m4 k hk; rw [e, h.gl] at this; omega
      · have := m4 k hk; rw [ol k e] at this; omega
    · have h1 := World.ownsRow.lt m3 k hk
      refine sOld k h1.2 (fun e => ?_) (fun e => ?_)
      · have := m5 k hk; rw [e, h.gl] at this; omega
      · have := m5 k hk; rw [ol k e] at this; omega
    · show (if k < w.heap.size then lab k else _) = 1
      rw [if_pos (World.ownsRow.lt m2 k hk).2]; exact m4 k hk
    · show (if k < w.heap.size then lab k else _) = 2
      rw [if_pos (World.ownsRow.lt m3 k hk).2]; exact m5 k hk
    · refine ⟨some ⟨g, 0, none⟩, cap, hs ++ [⟨G, m + 2, (hs.length : Int) + 2⟩], ?_, ?_, ?_, ?_, ?_⟩
      · rw [List.length_append]; rfl
      · rw [List.length_append]; show hs.length + 1 ≤ N + 1; omega
      · rw [heldRow_snoc, List.length_append]
        refine own_same oY (fun k hk => ?_)
        have e : g = k := by simpa [Value.ownBlock] using hk
        subst e
        exact Below.heap_setCell _ _ _ _ (by exact hgg)
      · intro k hk
        have e : g = k := by simpa [Value.ownBlock] using hk
        subst e
        show (if g < w.heap.size then lab g else if g < wX.heap.size then 4 else 3) = 3
        rcases tY with e | e
        · rw [if_pos (lL g e)]; exact ol g e
        · rw [if_neg (by omega), if_neg (by omega)]
      · intro x hx
        rcases List.mem_append.1 hx with hx | hx
        · obtain ⟨q1, q2, q3, q4⟩ := ha x hx
          have hz := (heap_cells q1).2.2
          refine ⟨(sOld x.g hz (fun e => by rw [e, h.gl] at q3; omega) (fun e => by rw [ol x.g e] at q3; omega)).trans q1, q2, ?_, q4⟩
          show (if x.g < w.heap.size then lab x.g else _) = 4
          rw [if_pos hz]; exact q3
        · have e : x = ⟨G, m + 2, (hs.length : Int) + 2⟩ := by simpa using hx
          subst e
          refine ⟨(sX G hG1 hGg hGL).trans hA, by show B ≤ G; omega, ?_, by show 0 < m + 2; omega, by show m + 2 ≤ _; omega, by show (0 : Int) ≤ (hs.length : Int) + 2; omega, by show (hs.length : Int) + 2 ≤ _; omega⟩
          show (if G < w.heap.size then lab G else if G < wX.heap.size then 4 else 3) = 4
          rw [if_neg (by omega), if_pos hG1]
  · intro i y hy
    have hq := h.pair i y hy
    refine ⟨hq.seq.same (by rw [eS]; omega) (fun k hk => sOld k (hq.seq.own k hk) ?_ ?_), hq.clu.same (by rw [eS]; omega) (fun k hk => sOld k (hq.clu.own k hk) ?_ ?_), hq.sim, hq.rest, hq.outs, fun k hk => ⟨(hq.lF k hk).1, ?_⟩, fun k hk => ⟨(hq.lR k hk).1, ?_⟩⟩
    · intro e; have := (hq.lF k hk).2; rw [e, h.gl] at this; omega
    · intro e; have := (hq.lF k hk).2; rw [ol k e] at this; omega
    · intro e; have := (hq.lR k hk).2; rw [e, h.gl] at this; omega
    · intro e; have := (hq.lR k hk).2; rw [ol k e] at this; omega
    · show (if k < w.heap.size then lab k else _) = _
      rw [if_pos (hq.seq.own k hk)]; exact (hq.lF k hk).2
    · show (if k < w.heap.size then lab k else _) = _
      rw [if_pos (hq.clu.own k hk)]; exact (hq.lR k hk).2
  · have hgB := h.gB
    refine ((bX.mono hB).grown gY (by omega) ?_).setCell ?_ _
    · intro k hk; exact (World.ownsRow.lt o k hk).1
    · exact hgB

def NPost2 (B N : Nat) (gW : Nat) (n : Nat) (w : World) (e : Ending) (w' : World) : Prop := e = .returned (.bool true) ∧ (∃ ps' lab', ps'.length ≤ n + 1 ∧ WldAt B (N + 1) w' gW ps' lab') ∧ Below B w w'
theorem NPost.more {B N gW n : Nat} {w : World} {e : Ending} {w' : World} (h : NPost B N gW n w e w') : NPost2 B N gW n w e w' := by
  obtain ⟨h1, ⟨ps', lab', h2, h3⟩, h4⟩ := h
  exact ⟨h1, ⟨ps', lab', h2, h3.mono (Nat.le_succ _)⟩, h4⟩

set_option maxRecDepth 100000 in
set_option maxHeartbeats 8000000 in
theorem step_apply (B N : Nat) (gW : Nat) (ps : List Pair) (lab : Nat → Nat) (oa ob oc ok : Int) (os : ByteArray) (x1 x2 x3 x4 x5 z0 z1 z2 z3 z4 z5 z6 z7 : Int) (ra : Option Addr) (rm rc : Nat) (w : World) (h : WldAt B N w gW ps lab) (hs : os.size ≤ maxLen) (hz : Dk.All16 [z0, z1, z2, z3, z4, z5, z6, z7]) :
    Calls Tryz.prog 5 #[.pointer (some ⟨gW, 0, none⟩), .agg #[.int .i64 12, .int .i64 oa, .int .i64 ob, .int .i64 oc, .int .i64 ok, .string os, .int .i64 x1, .int .i64 x2, .int .i64 x3, .int .i64 x4, .int .i64 x5, .int .i16 z0, .int .i16 z1, .int .i16 z2, .int .i16 z3, .int .i16 z4, .int .i16 z5, .int .i16 z6, .int .i16 z7, .slice ra rm rc]] w (NPost2 B N gW ps.length w) := by
  have HB : Hid _ := h.base
  have H : Hid _ := h
  have HZ : Hid _ := hz
  clear h hz
  obtain ⟨W1, hW1⟩ : ∃ W1, W1 = w.alloc (.cells #[.int .i64 12, .int .i64 oa, .int .i64 ob, .int .i64 oc, .int .i64 ok, .string os, .int .i64 x1, .int .i64 x2, .int .i64 x3, .int .i64 x4, .int .i64 x5, .int .i16 z0, .int .i16 z1, .int .i16 z2, .int .i16 z3, .int .i16 z4, .int .i16 z5, .int .i16 z6, .int .i16 z7, .slice ra rm rc] 40) := ⟨_, rfl⟩
  have HBw : Hid (Below w.heap.size w W1) := by rw [hW1]; exact (Below.refl _ _).alloc (Nat.le_refl _) _
  go_enter Tryz.func5, Tryz.ntmps5
  go_wp2_with fail
  rewrite [← hW1]
  clear hW1
  refine (lawapply_any os z0 z1 z2 z3 z4 z5 z6 z7 W1 hs HZ.out).mono ?_
  rintro e w1 ⟨rfl, hB⟩
  have HN : Hid (WldAt B (N + 1) w1 gW ps lab ∧ Below B w w1) := ⟨(H.out.below (HBw.out.trans (hB.mono HBw.out.size))).mono (Nat.le_succ _), (HBw.out.trans (hB.mono HBw.out.size)).mono HB.out⟩
  clear hB
  go_wp2
  go_ret
  exact ⟨rfl, ⟨ps, lab, Nat.le_succ _, HN.out.1⟩, HN.out.2⟩

set_option maxRecDepth 100000 in
set_option maxHeartbeats 8000000 in
theorem step_scan (B N : Nat) (gW : Nat) (ps : List Pair) (lab : Nat → Nat) (oa ob oc ok : Int) (os : ByteArray) (x1 x2 x3 x4 x5 z0 z1 z2 z3 z4 z5 z6 z7 : Int) (ra : Option Addr) (rm rc : Nat) (w : World) (h : WldAt B N w gW ps lab) (hs : os.size ≤ 140737488355328) :
    Calls Tryz.prog 5 #[.pointer (some ⟨gW, 0, none⟩), .agg #[.int .i64 14, .int .i64 oa, .int .i64 ob, .int .i64 oc, .int .i64 ok, .string os, .int .i64 x1, .int .i64 x2, .int .i64 x3, .int .i64 x4, .int .i64 x5, .int .i16 z0, .int .i16 z1, .int .i16 z2, .int .i16 z3, .int .i16 z4, .int .i16 z5, .int .i16 z6, .int .i16 z7, .slice ra rm rc]] w (NPost2 B N gW ps.length w) := by
  have HB : Hid _ := h.base
  have H : Hid _ := h
  clear h
  obtain ⟨W1, hW1⟩ : ∃ W1, W1 = w.alloc (.cells #[.int .i64 14, .int .i64 oa, .int .i64 ob, .int .i64 oc, .int .i64 ok, .string os, .int .i64 x1, .int .i64 x2, .int .i64 x3, .int .i64 x4, .int .i64 x5, .int .i16 z0, .int .i16 z1, .int .i16 z2, .int .i16 z3, .int .i16 z4, .int .i16 z5, .int .i16 z6, .int .i16 z7, .slice ra rm rc] 40) := ⟨_, rfl⟩
  have HBw : Hid (Below w.heap.size w W1) := by rw [hW1]; exact (Below.refl _ _).alloc (Nat.le_refl _) _
  go_enter Tryz.func5, Tryz.ntmps5
  go_wp2_with fail
  rewrite [← hW1]
  clear hW1
  refine (lawscan_any os W1 hs).mono ?_
  rintro e w1 ⟨rfl, hB⟩
  have HN : Hid (WldAt B (N + 1) w1 gW ps lab ∧ Below B w w1) := ⟨(H.out.below (HBw.out.trans (hB.mono HBw.out.size))).mono (Nat.le_succ _), (HBw.out.trans (hB.mono HBw.out.size)).mono HB.out⟩
  clear hB
  go_wp2
  go_ret
  exact ⟨rfl, ⟨ps, lab, Nat.le_succ _, HN.out.1⟩, HN.out.2⟩

set_option maxRecDepth 100000 in
set_option maxHeartbeats 8000000 in
theorem step_frame (B N : Nat) (gW : Nat) (ps : List Pair) (lab : Nat → Nat) (oa ob oc ok : Int) (os : ByteArray) (x1 x2 x3 x4 x5 z0 z1 z2 z3 z4 z5 z6 z7 : Int) (ra : Option Addr) (rm rc : Nat) (rs : List RecV) (w : World) (h : WldAt B N w gW ps lab) (hN : N ≤ 2000000000000) (hr : RecRow w ra rm rs) (hm : 40 * (rm + 2) ≤ 281474976710656) :
    Calls Tryz.prog 5 #[.pointer (some ⟨gW, 0, none⟩), .agg #[.int .i64 13, .int .i64 oa, .int .i64 ob, .int .i64 oc, .int .i64 ok, .string os, .int .i64 x1, .int .i64 x2, .int .i64 x3, .int .i64 x4, .int .i64 x5, .int .i16 z0, .int .i16 z1, .int .i16 z2, .int .i16 z3, .int .i16 z4, .int .i16 z5, .int .i16 z6, .int .i16 z7, .slice ra rm rc]] w (NPost2 B N gW ps.length w) := by
  have HB : Hid _ := h.base
  have H : Hid _ := h
  have HR : Hid (_ ∧ _ ∧ _) := ⟨hN, hr, hm⟩
  have hgW : gW < w.heap.size := by obtain ⟨_, _, _, _, _, q1, _⟩ := h.mem; exact (heap_cells q1).2.2
  clear h hN hr hm
  obtain ⟨W1, hW1⟩ : ∃ W1, W1 = w.alloc (.cells #[.int .i64 13, .int .i64 oa, .int .i64 ob, .int .i64 oc, .int .i64 ok, .string os, .int .i64 x1, .int .i64 x2, .int .i64 x3, .int .i64 x4, .int .i64 x5, .int .i16 z0, .int .i16 z1, .int .i16 z2, .int .i16 z3, .int .i16 z4, .int .i16 z5, .int .i16 z6, .int .i16 z7, .slice ra rm rc] 40) := ⟨_, rfl⟩
  have HBw : Hid (Below w.heap.size w W1) := by rw [hW1]; exact (Below.refl _ _).alloc (Nat.le_refl _) _
  have HBx : Hid (W1.heap[w.heap.size]? = some (.cells #[.int .i64 13, .int .i64 oa, .int .i64 ob, .int .i64 oc, .int .i64 ok, .string os, .int .i64 x1, .int .i64 x2, .int .i64 x3, .int .i64 x4, .int .i64 x5, .int .i16 z0, .int .i16 z1, .int .i16 z2, .int .i16 z3, .int .i16 z4, .int .i16 z5, .int .i16 z6, .int .i16 z7, .slice ra rm rc] 40)) := by rw [hW1]; exact heap_at rfl
  have HC : Hid (Calls Tryz.prog 10 #[.pointer (some ⟨gW, 2, none⟩), .int .i64 oa, .slice ra rm rc] W1.drew (fun e w1 => NPost2 B N gW ps.length w e w1 ∧ w1.heap[w.heap.size]? = W1.heap[w.heap.size]?)) := by
    have hBd : Below w.heap.size w W1.drew := HBw.out.drew
    have h1 : WldAt B N W1.drew gW ps lab := H.out.below hBd
    obtain ⟨aC, cC, aR, cR, vH, m1, m2, m3, m4, m5, aL, cL, hs, rfl, q0, q1, q2, q3⟩ := H.out.mem
    have q1' := own_below q1 hBd
    have m1' := (hBd.block gW hgW).trans m1
    refine (lawframe2_any gW 2 hs.length B cL _ _ aL (heldRow hs) oa ra rm rc rs W1.drew m1' rfl (by have := HR.out.1; omega) q1' (Nat.le_trans HB.out hBd.size) (fun b hb e => by have := q2 b hb; rw [e, h1.gl] at this; omega) (HR.out.2.1.kept hBd) HR.out.2.2).mono ?_
    rintro e w1 hP
    obtain ⟨rfl, ⟨lab', hW'⟩, hB', hk'⟩ := wld_frame h1 m1' (own_below m2 hBd) (own_below m3 hBd) m4 m5 q1' q2 q0 (Nat.le_trans HR.out.1 (by decide)) (fun x hx => ⟨(q3 x hx).1.kept hBd, (q3 x hx).2⟩) HR.out.2.2 hP
    exact ⟨⟨rfl, ⟨ps, lab', Nat.le_succ _, hW'⟩, (hBd.mono HB.out).trans hB'⟩, hk' w.heap.size (heap_cells HBx.out).2.2 (by omega) (fun e => by have := (World.ownsRow.lt q1 _ e).2; omega)⟩
  go_enter Tryz.func5, Tryz.ntmps5
  go_wp2
  rewrite [← hW1]
  clear hW1
  obtain ⟨b0, bf, bz⟩ := heap_cells HBx.out
  have x1c : W1.cell? ⟨w.heap.size, 1, none⟩ = some (.int .i64 oa) := by rw [b0]; rfl
  have x19 : W1.cell? ⟨w.heap.size, 19, none⟩ = some (.slice ra rm rc) := by rw [b0]; rfl
  clear b0 bf
  go_region_held3 (fun W => W.cell? ⟨w.heap.size, 1, none⟩ = some (.int .i64 oa) ∧ W.cell? ⟨w.heap.size, 19, none⟩ = some (.slice ra rm rc))
    (first | (exact ⟨x1c, x19⟩) | (exact ⟨y1c, y19⟩))
    (first | (go_at_call 10; refine HC.out.mono ?_; rintro e w1 ⟨⟨rfl, hP⟩, hQ⟩; have y0 := (heap_cells (hQ.trans HBx.out)).1; have y1c : w1.cell? ⟨w.heap.size, 1, none⟩ = some (.int .i64 oa) := (y0 1).trans rfl; have y19 : w1.cell? ⟨w.heap.size, 19, none⟩ = some (.slice ra rm rc) := (y0 19).trans rfl))
  have HP : Hid _ := hP
  clear hP hQ y0 y1c y19
  go_wp2
  go_ret
  exact ⟨rfl, HP.out⟩

end Go.Proofs.YtccckonckddadabGreat
namespace Go.Proofs.YtccckonckddadabGreat
open Go.RowKit
set_option linter.unusedVariables false

/-- What the steps Apply, Frame and Scan ask of a step that came in. -/
structure OpMore (w : World) (o : OpV) : Prop where
  z : Dk.All16 [o.z0, o.z1, o.z2, o.z3, o.z4, o.z5, o.z6, o.z7]
  s : o.s.size ≤ 140737488355328
  r : ∃ rs, RecRow w o.ra o.rm rs
  m : 40 * (o.rm + 2) ≤ 281474976710656
theorem OpMore.kept {w W : World} {B : Nat} {o : OpV} (h : OpMore w o) (hB : B = w.heap.size) (hb : Below B w W) : OpMore W o := by
  subst hB
  obtain ⟨rs, hr⟩ := h.r
  exact ⟨h.z, h.s, ⟨rs, hr.kept hb⟩, h.m⟩

/-- One step, of whatever kind. -/
theorem wstep14_any (B N : Nat) (gW : Nat) (ps : List Pair) (lab : Nat → Nat) (o : OpV) (w : World) (h : WldAt B N w gW ps lab) (h5 : o.kind ≤ 14) (hs : o.s.size ≤ maxLen) (hk0 : -9223372036854775808 ≤ o.k) (hk1 : o.k < 9223372036854775808) (hn : ps.length + 1 ≤ 10000000000000) (hN : N ≤ 2000000000000) (hmo : OpMore w o) :
    Calls Tryz.prog 5 #[.pointer (some ⟨gW, 0, none⟩), .agg o.arr] w (NPost2 B N gW ps.length w) := by
  by_cases h11 : o.kind ≤ 11
  · exact (wstep11_any B N gW ps lab o w h h11 hs hk0 hk1 hn).mono fun _ _ q => q.more
  obtain ⟨hz, hs2, ⟨rs, hr⟩, hm⟩ := hmo
  obtain ⟨kind, oa, ob, oc, ok, os, ⟨x1, x2, x3, x4, x5⟩, z0, z1, z2, z3, z4, z5, z6, z7, ra, rm, rc⟩ := o
  simp only at h11 h5 hs hk0 hk1 hz hs2 hr hm
  by_cases h2 : kind = 12
  · subst h2
    exact step_apply B N gW ps lab oa ob oc ok os x1 x2 x3 x4 x5 z0 z1 z2 z3 z4 z5 z6 z7 ra rm rc w h hs hz
  by_cases h3 : kind = 13
  · subst h3
    exact step_frame B N gW ps lab oa ob oc ok os x1 x2 x3 x4 x5 z0 z1 z2 z3 z4 z5 z6 z7 ra rm rc rs w h hN hr hm
  obtain rfl : kind = 14 := by omega
  exact step_scan B N gW ps lab oa ob oc ok os x1 x2 x3 x4 x5 z0 z1 z2 z3 z4 z5 z6 z7 ra rm rc w h hs2

set_option maxRecDepth 100000 in
set_option maxHeartbeats 4000000 in
theorem plays14_walk (a : Option Addr) (m c : Nat) (ops : List OpV) (w : World) (h : OpsRow w a m ops) (hmore : ∀ o ∈ ops, OpMore w o) (hm : m ≤ 2000000000000) :
    Calls Tryz.prog 4 #[.slice a m c, .int .i64 14] w fun e w' => e = .returned (.bool true) ∧ Below w.heap.size w w' := by
  have H : Hid _ := h
  have HM : Hid _ := hmore
  clear h hmore
  obtain ⟨B, hB⟩ : ∃ B, B = w.heap.size := ⟨_, rfl⟩
  have HE : Hid _ := wld_empty (N := 0) hB
  have HB0 : Hid (Below B w (w.alloc (.cells #[.slice none 0 0, .slice none 0 0, .slice none 0 0] 32))) := by rw [hB]; exact (Below.refl _ _).alloc (Nat.le_refl _) _
  have HBe : Hid _ := hB
  go_enter Tryz.func4, Tryz.ntmps4
  go_wp2
  rewrite [← hB]
  rw [← hB] at HE
  clear hB
  go_loopw [6] (fun v4 wr => ∃ (k : Nat) (ps : List Pair) (lab : Nat → Nat), v4 = .int .i64 k ∧ k ≤ m ∧ ps.length ≤ k ∧ Hid (WldAt B k wr B ps lab) ∧ Hid (Below B w wr)) (fun v4 _ => m - (intOf v4).toNat)
  case atStart => exact ⟨0, [], fun _ => 0, rfl, Nat.zero_le _, Nat.le_refl _, HE, HB0⟩
  case round =>
    obtain ⟨k, ps, lab, rfl, hk, hpk, HW, HB⟩ := hrel
    clear HE HB0
    by_cases hlt : k < m
    · have HR : Hid (OpsRow wr a m ops) := H.out.kept HBe.out HB.out
      have hkl : k < ops.length := by rw [H.out.len]; exact hlt
      obtain ⟨gS, off, rfl, hgS, hcell⟩ : ∃ g off, a = some ⟨g, off, none⟩ ∧ g < wr.heap.size ∧ ∀ (k : Nat) (o : OpV), ops[k]? = some o → wr.rangeAt g (off + k * 20) o.arr.toList := by
        rcases HR.out.cells with h0 | h0
        · omega
        · exact h0
      have HRg : Hid _ := hcell k ops[k] (List.getElem?_eq_getElem hkl)
      obtain ⟨hs, hk0, hk1⟩ := H.out.ok ops[k] (List.getElem_mem hkl)
      have HMo : Hid _ := (HM.out ops[k] (List.getElem_mem hkl)).kept HBe.out HB.out
      clear hcell HR
      generalize ops[k] = o at *
      have d0 : wr.cell? ⟨gS, off + k * 20, none⟩ = some (.int .i64 o.kind) := HRg.out 0 _ rfl
      have k1 : (k : Int) < (m : Int) := by omega
      have k0 : (0 : Int) ≤ (k : Int) := by omega
      by_cases h5 : 14 < o.kind
      · have HWs : Hid _ := HW.out.mono (Nat.le_succ k)
        go_wp2
        go_roundw
        case rel => exact ⟨k + 1, ps, lab, by go_num, by omega, by omega, HWs, HB⟩
        case measure => simp [intOf]; omega
      · have h5' : o.kind ≤ 14 := by omega
        go_wp2_with (refine wpList_load_mid rfl 40 (.tmp 28) rfl gS (off + k * 20) rfl o.arr.toList _ HRg.out Tryz.underlying40 rfl info_opsize ?_)
        refine (wstep14_any B k B ps lab o wr HW.out h5' hs hk0 hk1 (by omega) (by omega) HMo.out).mono ?_
        rintro e w1 ⟨rfl, ⟨ps', lab', hl', hW'⟩, hB'⟩
        have HW' : Hid _ := hW'
        have HB' : Hid (Below B w w1) := HB.out.trans hB'
        have hBw : B < w1.heap.size := by obtain ⟨_, _, _, _, _, q1, _⟩ := hW'.mem; exact (heap_cells q1).2.2
        clear hW' hB' d0
        go_wp2_with fail
        refine (wdry_any B (k + 1) B ps' lab' w1 HW'.out (by omega)).mono ?_
        rintro e w2 ⟨rfl, hB2⟩
        have HW2 : Hid _ := HW'.out.below hB2
        have HB2 : Hid (Below B w w2) := HB'.out.trans (hB2.mono HW'.out.base)
        clear hB2
        go_wp2
        go_roundw
        case rel => exact ⟨k + 1, ps', lab', by go_num, by omega, by omega, HW2, HB2⟩
        case measure => simp [intOf]; omega
    · have hkm : k = m := by omega
      subst hkm
      have hkk : decide ((k : Int) < (k : Int)) = false := decide_eq_false (by omega)
      obtain ⟨n, hn⟩ : ∃ n, ps.length = n := ⟨_, rfl⟩
      have HN : Hid _ := hn
      rw [hn] at hpk
      clear hn
      go_wp2
      go_loopw [8] (fun v6 wx => ∃ (j : Nat) (ps : List Pair) (lab : Nat → Nat), v6 = .int .i64 j ∧ j ≤ n ∧ Hid (ps.length = n) ∧ Hid (WldAt B k wx B ps lab) ∧ Hid (Below B w wx)) (fun v6 _ => n - (intOf v6).toNat)
      case atStart => exact ⟨0, ps, lab, rfl, Nat.zero_le _, HN, HW, HB⟩
      case round =>
        obtain ⟨j, ps2, lab2, rfl, hj, HN2, HW2, HB2⟩ := hrel
        clear HW HB HN
        obtain ⟨aC, cC, aR, cR, vH, m1, _⟩ := HW2.out.mem
        have hgW := (heap_cells m1).2.2
        have c0 : wr.cell? ⟨B, 0, none⟩ = some (.slice aC n cC) := by
          rw [(heap_cells m1).1, ← HN2.out]; rfl
        clear m1
        by_cases hjl : j < n
        · have j1 : (j : Int) < (n : Int) := by omega
          have j0 : (0 : Int) ≤ (j : Int) := by omega
          go_wp2_with fail
          refine (wends_any B k B ps2 lab2 j a k c ops w wr HW2.out (by rw [HN2.out]; exact hjl) H.out HBe.out HB2.out (by omega)).mono ?_
          rintro e w1 ⟨rfl, ⟨ps', lab', hl', hW'⟩, hB'⟩
          have HW' : Hid _ := hW'
          have HB' : Hid (Below B w w1) := HB2.out.trans hB'
          have HN' : Hid (ps'.length = n) := hl'.trans HN2.out
          clear hW' hB' hl' c0
          go_wp2
          go_roundw
          case rel => exact ⟨j + 1, ps', lab', by go_num, by omega, HN', HW', HB'⟩
          case measure => simp [intOf]; omega
        · have hje : j = n := by omega
          subst hje
          have hjj : decide ((j : Int) < (j : Int)) = false := decide_eq_false (by omega)
          go_wp2
          go_ret
          exact ⟨rfl, by have := HB2.out; rw [HBe.out] at this; exact this⟩

set_option maxRecDepth 100000 in
set_option maxHeartbeats 4000000 in
theorem all_walk (a : Option Addr) (m c : Nat) (ops : List OpV) (w : World) (h : OpsRow w a m ops) (hmore : ∀ o ∈ ops, OpMore w o) (hm : m ≤ 2000000000000) :
    Calls Tryz.prog 3 #[.slice a m c] w fun e w' => e = .returned (.bool true) ∧ Below w.heap.size w w' := by
  have H : Hid _ := h
  have HM : Hid _ := hmore
  clear h hmore
  go_enter Tryz.func3, Tryz.ntmps3
  go_wp2_with fail
  refine (plays14_walk a m c ops w H.out HM.out hm).mono ?_
  rintro e w1 ⟨rfl, hB1⟩
  have HB1 : Hid _ := hB1
  clear hB1
  go_wp2
  go_ret
  exact ⟨rfl, HB1.out⟩

end Go.Proofs.YtccckonckddadabGreat
