import Derived.Test.YtedlgdpojkhgaaaGreatJ25
import Derived.Test.YtedlgdpojkhgaaaGreatJ27
import Derived.Deep.RegionLaw
import Derived.Deep.AppendLies
namespace Go.Proofs.YtedlgdpojkhgaaaGreat
open Go.RowKit
set_option linter.unusedVariables false

/-! ### join -/
theorem cells_drew2 {W : World} (b : Nat) (hb : b = W.heap.size) (cs : List Value) (t : TypeId) : ∀ j u, cs[j]? = some u → ((W.alloc (.cells cs.toArray t)).drew).cell? ((⟨b, 0, none⟩ : Addr).add j) = some u := cells_new W b hb cs t

/-- What join leaves: the row has grown, and the queue's cell is written. -/
theorem join_post {w W1 w2 : World} {gA i : Nat} {q : List WaitV} {cr : Int} {ad : Option Addr} {c gN cap : Nat} {x : WaitV} {o : Obj} (hA : ∃ arr, w.heap[gA]? = some (.cells arr 150)) (h : AccAt w gA i (Value.slice ad q.length c).ownBlock ⟨q, cr⟩) (hn : (Value.slice ad q.length c).ownBlock ≠ some gA)
    (hb : Below w.heap.size w W1) (hown : w2.ownsRow 0 174 4 (.slice (some ⟨gN, 0, none⟩) (q.length + 1) cap) (q.length + 1) (waitsCells q ++ waitCells x)) (hgr : (W1.alloc o).drew.grownBy w2 (Value.slice ad q.length c).ownBlock) (hat : (Value.slice ad q.length c).ownBlock = some gN ∨ gN = (W1.alloc o).drew.heap.size) :
    AccPost w (w2.setCell ⟨gA, i * 2, none⟩ (.slice (some ⟨gN, 0, none⟩) (q.length + 1) cap)) gA i (Value.slice ad q.length c).ownBlock (some gN) ⟨q ++ [x], cr⟩ := by
  have hz : (W1.alloc o).drew.heap.size = W1.heap.size + 1 := by show (W1.alloc o).heap.size = _; simp
  have hzz := hb.size
  have hgz := hgr.size
  have hbw : Below w.heap.size w (W1.alloc o).drew := (hb.alloc hb.size _).drew
  have hK : Kept (fun k => k = gA ∨ (Value.slice ad q.length c).ownBlock = some k) w w2 := (Kept.of hbw).grown hgr (fun k hk => .inl (.inr hk))
  obtain ⟨arr, hA0⟩ := hA
  have hg := (heap_cells hA0).2.2
  have hgA2 : w2.heap[gA]? = w.heap[gA]? := (hgr.block gA (by rw [hz]; omega) (fun e => hn e.symm)).trans (hbw.block gA hg)
  have hc : ∀ y, w2.cell? ⟨gA, y, none⟩ = w.cell? ⟨gA, y, none⟩ := fun y => World.cell?_of_block (a := ⟨gA, y, none⟩) hgA2
  obtain ⟨ad0, c0, h1, h2, _, _⟩ := h
  have hA2 : w2.heap[gA]? = some (.cells arr 150) := hgA2.trans hA0
  have hset := heap_set hA2 (x := i * 2) (.slice (some ⟨gN, 0, none⟩) (q.length + 1) cap)
  have hother : ∀ y, y ≠ i * 2 → (w2.setCell ⟨gA, i * 2, none⟩ (.slice (some ⟨gN, 0, none⟩) (q.length + 1) cap)).cell? ⟨gA, y, none⟩ = w.cell? ⟨gA, y, none⟩ := fun y hy => by
    rw [(heap_cells hset).1, Array.getElem?_setIfInBounds_ne (fun e => hy e.symm), (heap_cells hA0).1]
  have hin : i * 2 < arr.size := by
    rw [(heap_cells hA0).1] at h1
    exact (Array.getElem?_eq_some_iff.1 h1).1
  have hgN : gN ≠ gA := by
    rcases hat with e | e
    · exact fun e2 => hn (by rw [e, e2])
    · rw [hz] at e; omega
  have hlt : gN < w2.heap.size := (hown.lt gN rfl).2
  have hsz : (w2.setCell ⟨gA, i * 2, none⟩ (.slice (some ⟨gN, 0, none⟩) (q.length + 1) cap)).heap.size = w2.heap.size := by simp [World.setCell]
  refine ⟨Kept.set hK (.inl (.inl rfl)) _, ⟨_, hset, fun y hy _ => hother y hy⟩, ⟨some ⟨gN, 0, none⟩, cap, ?_, (hother _ (by omega)).trans h2, ?_, rfl⟩, fun k hk => ?_, fun e => hgN (Option.some.inj e)⟩
  · rw [(heap_cells hset).1, Array.getElem?_setIfInBounds_self_of_lt hin]
    show _ = some (Value.slice _ (q ++ [x]).length _)
    rw [List.length_append]; rfl
  · show World.ownsRow _ 0 _ 4 (.slice (some ⟨gN, 0, none⟩) (q ++ [x]).length cap) (q ++ [x]).length (waitsCells (q ++ [x]))
    rw [waitsCells_snoc, List.length_append]
    refine own_same hown (fun k hk => Below.heap_setCell _ _ _ _ ?_)
    have : gN = k := by simpa [Value.ownBlock] using hk
    subst this
    exact hgN
  · have : gN = k := Option.some.inj hk
    subst this
    rw [hsz]
    refine ⟨?_, hlt⟩
    rcases hat with e | e
    · exact .inl e
    · right; rw [hz] at e; omega

set_option maxRecDepth 100000 in
set_option maxHeartbeats 4000000 in
theorem join_any (gA i : Nat) (b : Option Nat) (a : AccV) (x : WaitV) (w : World) (hA : ∃ arr, w.heap[gA]? = some (.cells arr 150)) (h : AccAt w gA i b a) (hn : b ≠ some gA) (hq : a.q.length ≤ 8) :
    Calls Tryz.prog 87 #[.pointer (some ⟨gA, i * 2, none⟩), .agg #[.int .i64 x.i, .string x.t, .int .i64 x.c, .int .i64 x.d]] w fun e w' => e = .returned (.tuple #[]) ∧ ∃ b', AccPost w w' gA i b b' ⟨a.q ++ [x], a.cr⟩ := by
  obtain ⟨ti, hi, hz0, hz1, hz2⟩ := info_parts info_wait
  have HI : Hid (_ ∧ _ ∧ _ ∧ _) := ⟨hi, hz0, hz1, hz2⟩
  clear hi hz0 hz1 hz2
  obtain ⟨q, cr⟩ := a
  obtain ⟨xi, xt, xc, xd⟩ := x
  have hg : gA < w.heap.size := by obtain ⟨arr, hA⟩ := hA; exact (heap_cells hA).2.2
  have hfz : ∀ x, w.frozen? ⟨gA, x, none⟩ = false := by obtain ⟨arr, hA⟩ := hA; exact (heap_cells hA).2.1
  obtain ⟨ad, c, c0, c1, ho, hb⟩ := h
  subst hb
  have HH : Hid (_ ∧ AccAt w gA i (Value.slice ad q.length c).ownBlock ⟨q, cr⟩ ∧ _) := ⟨hA, ⟨ad, c, c0, c1, ho, rfl⟩, hn⟩
  simp only at c0 hq ho
  have HO0 : Hid _ := ho
  clear ho hA hn c1
  obtain ⟨N, hN⟩ : ∃ n, q.length = n := ⟨_, rfl⟩
  rw [hN] at c0 hq HO0
  have HN : Hid _ := hN
  clear hN
  go_enter Tryz.func87, Tryz.ntmps87
  go_wp2
  have HB1 : Hid (Below w.heap.size w (w.alloc (.cells #[.int .i64 xi, .string xt, .int .i64 xc, .int .i64 xd] 174))) := (Below.refl _ _).alloc (Nat.le_refl _) _
  have HX : Hid ((w.alloc (.cells #[.int .i64 xi, .string xt, .int .i64 xc, .int .i64 xd] 174)).heap[w.heap.size]? = some (.cells #[.int .i64 xi, .string xt, .int .i64 xc, .int .i64 xd] 174)) := heap_at rfl
  generalize w.alloc (.cells #[.int .i64 xi, .string xt, .int .i64 xc, .int .i64 xd] 174) = W1 at *
  obtain ⟨b0, bf, bz⟩ := heap_cells HX.out
  have x0 : W1.cell? ⟨w.heap.size, 0, none⟩ = some (.int .i64 xi) := by rw [b0]; rfl
  have x1 : W1.cell? ⟨w.heap.size, 1, none⟩ = some (.string xt) := by rw [b0]; rfl
  have x2 : W1.cell? ⟨w.heap.size, 2, none⟩ = some (.int .i64 xc) := by rw [b0]; rfl
  have x3 : W1.cell? ⟨w.heap.size, 3, none⟩ = some (.int .i64 xd) := by rw [b0]; rfl
  have y0 : W1.cell? ⟨gA, i * 2, none⟩ = some (.slice ad N c) := (HB1.out.cell (p := ⟨gA, i * 2, none⟩) hg).trans c0
  have fz1 : ∀ x, W1.frozen? ⟨gA, x, none⟩ = false := fun x => (HB1.out.frozen (p := ⟨gA, x, none⟩) hg).trans (hfz x)
  have hg1 : gA < W1.heap.size := Nat.lt_of_lt_of_le hg HB1.out.size
  have HO : Hid (W1.ownsRow 0 174 4 (.slice ad N c) N (waitsCells q)) := own_below HO0.out HB1.out
  have hbn : (Value.slice ad N c).ownBlock ≠ some gA := by have := HH.out.2.2; rw [HN.out] at this; exact this
  clear c0 hfz b0 bf
  have hgn : w.heap.size ≠ gA := by omega
  have HK2 : Hid (∀ o : Obj, (W1.alloc o).drew.cell? ⟨w.heap.size, 0, none⟩ = some (.int .i64 xi) ∧ (W1.alloc o).drew.cell? ⟨w.heap.size, 1, none⟩ = some (.string xt) ∧ (W1.alloc o).drew.cell? ⟨w.heap.size, 2, none⟩ = some (.int .i64 xc) ∧ (W1.alloc o).drew.cell? ⟨w.heap.size, 3, none⟩ = some (.int .i64 xd)) := fun o => by
    have hb : ∀ x, (W1.alloc o).drew.cell? ⟨w.heap.size, x, none⟩ = W1.cell? ⟨w.heap.size, x, none⟩ := fun x => ((Below.refl W1.heap.size W1).alloc (Nat.le_refl _) o).cell (p := ⟨w.heap.size, x, none⟩) bz
    exact ⟨(hb 0).trans x0, (hb 1).trans x1, (hb 2).trans x2, (hb 3).trans x3⟩
  have HRow : Hid (∀ k, (Value.slice ad N c).ownBlock = some k → k < w.heap.size) := fun k hk => (World.ownsRow.lt HO0.out k hk).2
  have HK3 : Hid (∀ (o : Obj) (W7 : World), (W1.alloc o).drew.grownBy W7 (Value.slice ad N c).ownBlock → (W7.cell? ⟨w.heap.size, 0, none⟩ = some (.int .i64 xi) ∧ W7.cell? ⟨w.heap.size, 1, none⟩ = some (.string xt) ∧ W7.cell? ⟨w.heap.size, 2, none⟩ = some (.int .i64 xc) ∧ W7.cell? ⟨w.heap.size, 3, none⟩ = some (.int .i64 xd)) ∧ (∀ x, W7.frozen? ⟨gA, x, none⟩ = false) ∧ gA < W7.heap.size ∧ W7.cell? ⟨gA, i * 2, none⟩ = some (.slice ad N c)) := fun o W7 hgr => by
    have hz : (W1.alloc o).drew.heap.size = W1.heap.size + 1 := by show (W1.alloc o).heap.size = _; simp
    have hb : W7.heap[w.heap.size]? = (W1.alloc o).drew.heap[w.heap.size]? := hgr.block _ (by rw [hz]; omega) (fun hh => by have := HRow.out _ hh.symm; omega)
    have hb2 : W7.heap[gA]? = (W1.alloc o).drew.heap[gA]? := hgr.block _ (by rw [hz]; omega) (fun hh => hbn hh.symm)
    have hb3 : (W1.alloc o).drew.heap[gA]? = W1.heap[gA]? := heap_old hg1
    have hc : ∀ x, W7.cell? ⟨w.heap.size, x, none⟩ = (W1.alloc o).drew.cell? ⟨w.heap.size, x, none⟩ := fun x => World.cell?_of_block (a := ⟨w.heap.size, x, none⟩) hb
    obtain ⟨k0, k1, k2, k3⟩ := HK2.out o
    refine ⟨⟨(hc 0).trans k0, (hc 1).trans k1, (hc 2).trans k2, (hc 3).trans k3⟩, fun x => ?_, by have := hgr.size; rw [hz] at this; omega, (World.cell?_of_block (a := ⟨gA, i * 2, none⟩) (hb2.trans hb3)).trans y0⟩
    exact (World.frozen?_of_block (a := ⟨gA, x, none⟩) (hb2.trans hb3)).trans (fz1 x)
  go_region_law
    (first | (refine step_append_lies _ rfl (.tmp 8) (.tmp 10) 148 rfl 0 174 ti (.agg #[.int .i64 0, .string ⟨#[]⟩, .int .i64 0, .int .i64 0]) 4 40 Tryz.underlying148 HI.out.1 HI.out.2.1 HI.out.2.2.1 HI.out.2.2.2 rfl (by decide) (.slice ad N c) N (waitsCells q) rfl (HO.out.alloc _) ⟨W1.heap.size, 0, none⟩ 1 1 [.int .i64 xi, .string xt, .int .i64 xc, .int .i64 xd] rfl rfl (cells_drew2 (W := W1) W1.heap.size rfl [.int .i64 xi, .string xt, .int .i64 xc, .int .i64 xd] _) (by intro u hu; simp only [List.mem_cons, List.not_mem_nil, or_false] at hu; rcases hu with rfl | rfl | rfl | rfl <;> rfl) (by decide) (by unfold maxLen; omega) (by omega) (Nat.zero_le _) _ rfl ?_; intro g2 cap2 w2 hown hgr hat hlt2; obtain ⟨_, f2, z2, e2⟩ := HK3.out _ _ hgr))
  go_goals
  all_goals
    have HP : Hid (_ ∧ _ ∧ _) := ⟨hown, hgr, hat⟩
    clear hown hgr hat hlt2 f2 z2 e2
    go_end0
    refine ⟨rfl, some g2, ?_⟩
    have hNe := HN.out
    subst hNe
    exact join_post HH.out.1 HH.out.2.1 HH.out.2.2 HB1.out HP.out.1 HP.out.2.1 HP.out.2.2

end Go.Proofs.YtedlgdpojkhgaaaGreat
namespace Go.Proofs.YtedlgdpojkhgaaaGreat
open Go.RowKit
set_option linter.unusedVariables false

/-! ### Reply -/
theorem seqCells15 {p : SeqV} (h : p.cells.length = 8) (vA : Value) (lb : ByteArray) (vS : Value) : (seqCells p vA lb vS)[15]? = some vS := by
  obtain ⟨x0, x1, x2, x3, x4, x5, x6, x7, hx⟩ := list8' p.cells h
  unfold seqCells
  rw [hx]
  rfl
theorem find_take_none {l : List OutV} {id : Int} {k : Nat} (hk : k < l.length) (h : (l.take k).find? (fun x => decide (x.i = id)) = none) : (l.take (k + 1)).find? (fun x => decide (x.i = id)) = if l[k].i = id then some l[k] else none := by
  rw [List.take_succ_eq_append_getElem hk, List.find?_append, h, Option.none_or, List.find?_cons]
  by_cases he : l[k].i = id
  · rw [if_pos he, decide_eq_true he]
  · rw [if_neg he, decide_eq_false he]; rfl
theorem find_hit {l : List OutV} {id : Int} {k : Nat} (hk : k < l.length) (h : (l.take k).find? (fun x => decide (x.i = id)) = none) (he : l[k].i = id) : l.find? (fun x => decide (x.i = id)) = some l[k] := by
  have h1 := find_take_none hk h
  rw [if_pos he] at h1
  conv => lhs; rw [← List.take_append_drop (k + 1) l]
  rw [List.find?_append, h1]; rfl

def ReplyPost (x : Int × Int × Int) (w : World) (e : Ending) (w' : World) : Prop := e = .returned (.tuple #[.agg #[.int .u8 x.1, .int .i64 x.2.1], .int .i64 x.2.2]) ∧ Below w.heap.size w w'

set_option maxRecDepth 100000 in
set_option maxHeartbeats 4000000 in
theorem sreply_any (g : Nat) (F : Nat → Prop) (p : SeqV) (id : Int) (w : World) (h : SeqAt w g F p) :
    Calls Tryz.prog 48 #[.pointer (some ⟨g, 0, none⟩), .int .i64 id] w (ReplyPost (pReplyV p id) w) := by
  have hg := h.block
  have hlen := h.fit.outs
  have h8 := h.fit.n8
  obtain ⟨gA, qb, aS, cS, lb, m⟩ := h.mem
  have hblk := heap_cells m.blk
  have c3 := (seq_cells m).2.2.2.1
  have c15 : w.cell? ⟨g, 15, none⟩ = some (.slice aS p.outs.length cS) := by rw [hblk.1, List.getElem?_toArray]; exact (seqCells15 h.fit.cells _ _ _)
  have HO : Hid _ := m.outs
  have HAcc : Hid _ := m.acc
  have hgA : gA < w.heap.size := h.own gA m.aF.1
  have HFit : Hid _ := h.fit
  have HV : Hid (pReplyV p id = match outV p id with | some x => (x.s, x.e, 0) | none => if p.accs.any (awaits id) then (0, 0, 0) else (0, 0, 10)) := rfl
  have HOV : Hid (outV p id = p.outs.find? (fun x => decide (x.i = id))) := rfl
  clear m h hblk
  obtain ⟨n, hn⟩ : ∃ n, p.outs.length = n := ⟨_, rfl⟩
  obtain ⟨na, hna⟩ : ∃ n, p.accs.length = n := ⟨_, rfl⟩
  rw [hn] at c15 HO hlen
  rw [hna] at c3 h8
  have HNn : Hid (p.outs.length = n ∧ p.accs.length = na) := ⟨hn, hna⟩
  clear hn hna
  go_enter Tryz.func48, Tryz.ntmps48
  go_wp2
  have HB1 : Hid (Below w.heap.size w (w.alloc (.cells #[.int .u8 0, .int .i64 0] 54))) := (Below.refl _ _).alloc (Nat.le_refl _) _
  have HG1 : Hid ((w.alloc (.cells #[.int .u8 0, .int .i64 0] 54)).heap[w.heap.size]? = some (.cells #[.int .u8 0, .int .i64 0] 54)) := heap_at rfl
  generalize w.alloc (.cells #[.int .u8 0, .int .i64 0] 54) = W1 at *
  have d15 := (HB1.out.cell (p := ⟨g, 15, none⟩) hg).trans c15
  have d3 := (HB1.out.cell (p := ⟨g, 3, none⟩) hg).trans c3
  have hg1 : g < W1.heap.size := Nat.lt_of_lt_of_le hg HB1.out.size
  have hgA1 : gA < W1.heap.size := Nat.lt_of_lt_of_le hgA HB1.out.size
  obtain ⟨rc, rf, rz⟩ := heap_cells HG1.out
  have HO1 : Hid (W1.ownsRow 0 147 3 (.slice aS n cS) n (outsCells p.outs)) := own_below HO.out HB1.out
  clear c15 c3 HO
  go_loop [6] (fun v => ∃ k : Nat, k ≤ n ∧ v = .int .i64 k ∧ Hid ((p.outs.take k).find? (fun x => decide (x.i = id)) = none)) (fun v => n - (intOf v).toNat)
  case atStart => exact ⟨0, Nat.zero_le _, rfl, rfl⟩
  case round =>
    obtain ⟨k, hk, rfl, HF⟩ := hrel
    by_cases hlt : k < n
    · have hkl : k < p.outs.length := by rw [HNn.out.1]; exact hlt
      obtain ⟨gO, rfl, hgO, e0, e1, e2⟩ := out_cell HO1.out (List.getElem?_eq_getElem hkl) hlt
      have HT : Hid _ := find_take_none hkl HF.out
      have HH : Hid (p.outs[k].i = id → _) := find_hit hkl HF.out
      generalize p.outs[k] = x at *
      obtain ⟨xi, xs, xe⟩ := x
      simp only at e0 e1 e2 HH HT
      have k1 : (k : Int) < (n : Int) := by omega
      have k0 : (0 : Int) ≤ (k : Int) := by omega
      by_cases he : xi = id
      · have heb : (xi == id) = true := by rw [beq_iff_eq]; exact he
        have HX : Hid (pReplyV p id = (xs, xe, 0)) := by
          show _ = _
          rw [HV.out, HOV.out, HH.out he]
        clear HT HH HF he
        go_wp2
        refine bodyPost_ret (v := .tuple #[.agg #[.int .u8 xs, .int .i64 xe], .int .i64 0]) (by simp [results, Tryz.results48, go_sem, rc]) rfl ?_
        refine ⟨by rw [HX.out], ?_⟩
        iterate 2 refine Below.setCell ?_ (by exact Nat.le_refl _) _
        exact HB1.out
      · have heb : (xi == id) = false := by rw [beq_eq_false_iff_ne]; exact he
        have HT' : Hid ((p.outs.take (k + 1)).find? (fun x => decide (x.i = id)) = none) := by
          show _ = _
          rw [HT.out, if_neg he]
        clear HT HH HF
        go_wp2
        go_round
        case rel => exact ⟨k + 1, by omega, by go_num, HT'⟩
        case measure => simp [intOf]; omega
    · have hkn : k = n := by omega
      subst hkn
      have HNo : Hid (outV p id = none) := by
        show _ = _
        have := HF.out
        rw [List.take_of_length_le (by rw [HNn.out.1]; omega)] at this
        rw [HOV.out]; exact this
      clear HF
      have hkk : decide ((k : Int) < (k : Int)) = false := decide_eq_false (by omega)
      go_wp2
      go_loop [7] (fun v => ∃ k : Nat, k ≤ na ∧ v = .int .i64 k ∧ Hid ((p.accs.take k).any (awaits id) = false)) (fun v => na - (intOf v).toNat)
      case atStart => exact ⟨0, Nat.zero_le _, rfl, rfl⟩
      case round =>
        obtain ⟨j, hj, rfl, HA⟩ := hrel
        by_cases hjl : j < na
        · have hjL : j < p.accs.length := by rw [HNn.out.2]; exact hjl
          obtain ⟨hfa, hga⟩ := HFit.out.at hjL
          have hAcc := HAcc.out j _ hga
          have HAc : Hid (AccAt W1 gA j (qb j) (accV p j)) := by
            have hc : ∀ x, W1.cell? ⟨gA, x, none⟩ = w.cell? ⟨gA, x, none⟩ := fun x => HB1.out.cell (p := ⟨gA, x, none⟩) hgA
            refine hAcc.same (hc _) (hc _) (fun y hy => ?_)
            obtain ⟨_, _, _, _, z3, z4⟩ := hAcc
            exact HB1.out.block y (World.ownsRow.lt z3 y (z4.trans hy)).2
          have hq8 := hfa.1
          have HT : Hid ((p.accs.take (j + 1)).any (awaits id) = awaits id (accV p j)) := by
            show _ = _
            have e : p.accs[j] = accV p j := by
              have := List.getElem?_eq_getElem hjL
              rw [hga] at this
              exact (Option.some.inj this).symm
            rw [List.take_succ_eq_append_getElem hjL, List.any_append, HA.out, e]
            simp
          have HMm : Hid (accV p j ∈ p.accs) := List.mem_of_getElem? hga
          clear hfa hga hAcc HA
          have j1 : (j : Int) < (na : Int) := by omega
          have j0 : (0 : Int) ≤ (j : Int) := by omega
          go_wp2_with fail
          refine (awaits_any gA j (qb j) (accV p j) id W1 HAc.out hgA1 hq8).mono ?_
          rintro e w3 ⟨rfl, hw3⟩
          obtain rfl := hw3.symm
          cases ha : awaits id (accV p j)
          · have HT' : Hid ((p.accs.take (j + 1)).any (awaits id) = false) := by
              show _ = _
              rw [HT.out]; exact ha
            clear HT ha
            go_wp2
            go_round
            case rel => exact ⟨j + 1, by omega, by go_num, HT'⟩
            case measure => simp [intOf]; omega
          · have HX : Hid (pReplyV p id = (0, 0, 0)) := by
              show _ = _
              rw [HV.out, HNo.out]
              simp only
              rw [if_pos (List.any_eq_true.2 ⟨_, HMm.out, ha⟩)]
            clear HT ha
            go_wp2
            refine bodyPost_ret (v := .tuple #[.agg #[.int .u8 0, .int .i64 0], .int .i64 0]) (by simp [results, Tryz.results48, go_sem, rc]) rfl ?_
            refine ⟨by rw [HX.out], ?_⟩
            iterate 2 refine Below.setCell ?_ (by exact Nat.le_refl _) _
            exact HB1.out
        · have hje : j = na := by omega
          subst hje
          have HX : Hid (pReplyV p id = (0, 0, 10)) := by
            show _ = _
            have := HA.out
            rw [List.take_of_length_le (by rw [HNn.out.2]; omega)] at this
            rw [HV.out, HNo.out]
            simp only
            rw [if_neg (by rw [this]; simp)]
          have hjj : decide ((j : Int) < (j : Int)) = false := decide_eq_false (by omega)
          clear HA
          go_wp2
          refine bodyPost_ret (v := .tuple #[.agg #[.int .u8 0, .int .i64 0], .int .i64 10]) (by simp [results, Tryz.results48, go_sem, rc]) rfl ?_
          refine ⟨by rw [HX.out], ?_⟩
          iterate 2 refine Below.setCell ?_ (by exact Nat.le_refl _) _
          exact HB1.out

/-! ### Log -/
theorem slog_any (g : Nat) (F : Nat → Prop) (p : SeqV) (w : World) (h : SeqAt w g F p) :
    Calls Tryz.prog 46 #[.pointer (some ⟨g, 0, none⟩)] w fun e w' => ∃ b : ByteArray, e = .returned (.string b) ∧ b.data.toList = p.log ∧ w' = w := by
  have hg := h.block
  obtain ⟨gA, qb, aS, cS, lb, m⟩ := h.mem
  have c6 := (seq_cells m).2.2.2.2.2.2.1
  have HL : Hid _ := m.log
  clear m h
  go_enter Tryz.func46, Tryz.ntmps46
  go_wp2
  go_ret
  exact ⟨lb, rfl, HL.out, rfl⟩

end Go.Proofs.YtedlgdpojkhgaaaGreat
namespace Go.Proofs.YtedlgdpojkhgaaaGreat
open Go.RowKit
set_option linter.unusedVariables false

theorem SeqMem.same {w W : World} {g : Nat} {F : Nat → Prop} {p : SeqV} {gA : Nat} {qb : Nat → Option Nat} {aS : Option Addr} {cS : Nat} {lb : ByteArray} (m : SeqMem w g F p gA qb aS cS lb) (hg : F g) (hb : ∀ k, F k → W.heap[k]? = w.heap[k]?) : SeqMem W g F p gA qb aS cS lb := by
  have hA : ∀ x, W.cell? ⟨gA, x, none⟩ = w.cell? ⟨gA, x, none⟩ := fun x => World.cell?_of_block (a := ⟨gA, x, none⟩) (hb gA m.aF.1)
  refine ⟨(hb g hg).trans m.blk, m.log, ?_, ?_, m.aF, m.qF, m.qone, own_same m.outs (fun k hk => hb k (m.sF k hk).1), m.sF⟩
  · obtain ⟨arr, h1⟩ := m.row
    exact ⟨arr, (hb gA m.aF.1).trans h1⟩
  · intro i a ha
    exact (m.acc i a ha).same (hA _) (hA _) (fun k hk => hb k (m.qF i k hk).1)

def SubPost (g : Nat) (F : Nat → Prop) (x : SeqV × Int) (w : World) (e : Ending) (w' : World) : Prop := e = .returned (.int .i64 x.2) ∧ SeqPost g F x.1 w w'

set_option maxRecDepth 100000 in
set_option maxHeartbeats 8000000 in
theorem ssubmit_any (g : Nat) (F : Nat → Prop) (p : SeqV) (client id : Int) (t : ByteArray) (d : Int) (w : World) (h : SeqAt w g F p) (ht : t.size ≤ maxLen) :
    Calls Tryz.prog 66 #[.pointer (some ⟨g, 0, none⟩), .int .i64 client, .int .i64 id, .string t, .int .i64 d] w (SubPost g F (pSubmitV p client id t d) w) := by
  have hg := h.block
  have h8 := h.fit.n8
  have hmany := h.fit.many
  have hqu := h.fit.qu
  obtain ⟨gA, qb, aS, cS, lb, m⟩ := h.mem
  obtain ⟨c0, _, _, c3, _, c5, _, _⟩ := seq_cells m
  have hgA : gA < w.heap.size := h.own gA m.aF.1
  have H : Hid _ := h
  have HM : Hid _ := m
  clear m h
  obtain ⟨n, hn⟩ : ∃ x, p.accs.length = x := ⟨_, rfl⟩
  obtain ⟨qu, hque⟩ : ∃ x, p.queue = x := ⟨_, rfl⟩
  obtain ⟨ne, hne⟩ : ∃ x, p.epochs = x := ⟨_, rfl⟩
  have HX : Hid (p.accs.length = n ∧ p.queue = qu ∧ p.epochs = ne) := ⟨hn, hque, hne⟩
  rw [hn] at c3 h8
  rw [hque] at c0 hqu
  rw [hne] at c5 hmany
  clear hn hque hne
  by_cases h1 : 0 ≤ client ∧ client < (n : Int)
  rotate_left
  · have HS : Hid (pSubmitV p client id t d = (p, 4)) := by
      show _ = _
      unfold pSubmitV
      rw [HX.out.1, if_pos h1]
    by_cases h0 : client < 0
    · go_enter Tryz.func66, Tryz.ntmps66
      go_wp2
      go_ret
      exact ⟨by rw [HS.out]; rfl, by rw [HS.out]; exact SeqPost.same H.out (Below.refl _ _)⟩
    · have h0' : (n : Int) ≤ client := by omega
      have h00 : 0 ≤ client := by omega
      clear h1
      go_enter Tryz.func66, Tryz.ntmps66
      go_wp2
      go_ret
      exact ⟨by rw [HS.out]; rfl, by rw [HS.out]; exact SeqPost.same H.out (Below.refl _ _)⟩
  obtain ⟨h1a, h1b⟩ := h1
  by_cases h2 : 0 ≤ id ∧ id ≤ 999999
  rotate_left
  · have HS : Hid (pSubmitV p client id t d = (p, 5)) := by
      show _ = _
      unfold pSubmitV
      rw [HX.out.1, if_neg (by omega), if_pos h2]
    by_cases h0 : id < 0
    · go_enter Tryz.func66, Tryz.ntmps66
      go_wp2
      go_ret
      exact ⟨by rw [HS.out]; rfl, by rw [HS.out]; exact SeqPost.same H.out (Below.refl _ _)⟩
    · have h0' : 999999 < id := by omega
      have h00 : 0 ≤ id := by omega
      clear h2
      go_enter Tryz.func66, Tryz.ntmps66
      go_wp2
      go_ret
      exact ⟨by rw [HS.out]; rfl, by rw [HS.out]; exact SeqPost.same H.out (Below.refl _ _)⟩
  obtain ⟨h2a, h2b⟩ := h2
  go_enter Tryz.func66, Tryz.ntmps66
  go_wp2_with fail
  refine (parse_any t _ ht).mono ?_
  rintro e w1 ⟨b0, b1, b2, b3, b4, b5, b6, b7, aP, nP, cP, rfl, hp, hb1⟩
  have HP : Hid _ := hp
  have HB1 : Hid _ := hb1
  clear hp hb1
  cases hok : Dk.parseOk t.data.toList
  · have HS : Hid (pSubmitV p client id t d = (p, 1)) := by
      show _ = _
      unfold pSubmitV
      rw [HX.out.1, if_neg (by omega), if_neg (by omega), if_pos hok]
    clear hok
    go_wp2
    go_ret
    exact ⟨by rw [HS.out]; rfl, by rw [HS.out]; exact SeqPost.same H.out (HB1.out.alloc HB1.out.size _)⟩
  obtain ⟨_, hnP, hown⟩ := HP.out hok
  have HOk : Hid (_ ∧ nP = costV t) := ⟨hok, hnP.trans opsOf_cost⟩
  clear hok hnP hown HP
  go_wp2_with fail
  have HBt : Hid (Below w.heap.size w (w1.alloc (.cells #[.bool b0, .bool b1, .bool b2, .bool b3, .bool b4, .bool b5, .bool b6, .bool b7, .slice aP nP cP] 123))) := HB1.out.alloc HB1.out.size _
  have HTb : Hid ((w1.alloc (.cells #[.bool b0, .bool b1, .bool b2, .bool b3, .bool b4, .bool b5, .bool b6, .bool b7, .slice aP nP cP] 123)).heap[w1.heap.size]? = some (.cells #[.bool b0, .bool b1, .bool b2, .bool b3, .bool b4, .bool b5, .bool b6, .bool b7, .slice aP nP cP] 123)) := heap_at rfl
  generalize w1.alloc (.cells #[.bool b0, .bool b1, .bool b2, .bool b3, .bool b4, .bool b5, .bool b6, .bool b7, .slice aP nP cP] 123) = W1 at *
  generalize w1.heap.size = gt at *
  refine (sreply_any g F p id W1 (H.out.below HBt.out)).mono ?_
  rintro e w3 ⟨rfl, hb3⟩
  obtain ⟨⟨r1, r2, r3⟩, hr⟩ : ∃ x, pReplyV p id = x := ⟨_, rfl⟩
  rewrite [hr]
  have HR : Hid _ := hr
  clear hr
  have HB3 : Hid (Below w.heap.size w w3) := HBt.out.trans (hb3.mono HBt.out.size)
  have HT3 : Hid (w3.heap[gt]? = _) := (hb3.block gt (heap_cells HTb.out).2.2).trans HTb.out
  clear hb3 HBt HTb
  simp only
  by_cases h4 : r3 = 0
  · have HS : Hid (pSubmitV p client id t d = (p, 6)) := by
      show _ = _
      unfold pSubmitV
      rw [HX.out.1, if_neg (by omega), if_neg (by omega), if_neg (by rw [HOk.out.1]; simp), HR.out, if_pos h4]
    subst h4
    go_wp2
    go_ret
    exact ⟨by rw [HS.out]; rfl, by rw [HS.out]; exact SeqPost.same H.out (HB3.out.alloc HB3.out.size _)⟩
  have h4b : (r3 == 0) = false := by rw [beq_eq_false_iff_ne]; exact h4
  have d0 := (HB3.out.cell (p := ⟨g, 0, none⟩) hg).trans c0
  have d3 := (HB3.out.cell (p := ⟨g, 3, none⟩) hg).trans c3
  have d5 := (HB3.out.cell (p := ⟨g, 5, none⟩) hg).trans c5
  have hg3 : g < w3.heap.size := Nat.lt_of_lt_of_le hg HB3.out.size
  clear c0 c3 c5
  by_cases h5 : d < (ne : Int)
  · have HS : Hid (pSubmitV p client id t d = (p, 7)) := by
      show _ = _
      unfold pSubmitV
      rw [HX.out.1, if_neg (by omega), if_neg (by omega), if_neg (by rw [HOk.out.1]; simp), HR.out, if_neg h4, HX.out.2.2, if_pos h5]
    go_wp2
    go_ret
    exact ⟨by rw [HS.out]; rfl, by rw [HS.out]; exact SeqPost.same H.out (HB3.out.alloc HB3.out.size _)⟩
  have h5' : (ne : Int) ≤ d := by omega
  obtain ⟨c, hc⟩ : ∃ c : Nat, client = (c : Int) := ⟨client.toNat, by omega⟩
  subst hc
  have hcl : c < p.accs.length := by rw [HX.out.1]; omega
  obtain ⟨hfa, hga⟩ := H.out.fit.at hcl
  have hM3 : SeqMem w3 g F p gA qb aS cS lb := HM.out.same H.out.gF (fun k hk => HB3.out.block k (H.out.own k hk))
  have hAcc := hM3.acc c _ hga
  obtain ⟨adQ, cQ, k0, _, _, _⟩ := hAcc
  have hgA3 : gA < w3.heap.size := Nat.lt_of_lt_of_le hgA HB3.out.size
  have HFa : Hid _ := hfa
  have hq8 := hfa.1
  obtain ⟨ql, hql⟩ : ∃ x, (accV p c).q.length = x := ⟨_, rfl⟩
  rw [hql] at k0
  have HQl : Hid _ := hql
  have hql8 : ql ≤ 8 := by rw [← hql]; exact hq8
  have HGa : Hid _ := hga
  have HM3 : Hid _ := hM3
  clear hfa hga hM3 hql
  have hcc : (c : Int) < (n : Int) := h1b
  have HB4 : Hid (∀ o : Obj, Below w3.heap.size w3 (w3.alloc o)) := fun o => (Below.refl _ _).alloc (Nat.le_refl _) o
  by_cases h6 : qu ≤ (ql : Int)
  · have HS : Hid (pSubmitV p (c : Int) id t d = (p, 8)) := by
      show _ = _
      unfold pSubmitV
      rw [HX.out.1, if_neg (by omega), if_neg (by omega), if_neg (by rw [HOk.out.1]; simp), HR.out, if_neg h4, HX.out.2.2, if_neg (by omega), HX.out.2.1, Int.toNat_natCast, HQl.out, if_pos h6]
    have h6d : decide (qu ≤ (ql : Int)) = true := decide_eq_true h6
    go_wp2
    go_quiet (fail)
    have HBq : Hid (Below w.heap.size w ((w3.alloc (.cells #[.int .u8 r1, .int .i64 r2] 54)).drewN nq)) := below_drewN (HB3.out.alloc HB3.out.size _) nq
    generalize (w3.alloc (.cells #[.int .u8 r1, .int .i64 r2] 54)).drewN nq = W5 at *
    go_wp2
    go_ret
    exact ⟨by rw [HS.out]; rfl, by rw [HS.out]; exact SeqPost.same H.out HBq.out⟩
  · have HS : Hid (pSubmitV p (c : Int) id t d = (putA p c ⟨(accV p c).q ++ [⟨id, t, costV t, d⟩], (accV p c).cr⟩, 0)) := by
      show _ = _
      unfold pSubmitV
      rw [HX.out.1, if_neg (by omega), if_neg (by omega), if_neg (by rw [HOk.out.1]; simp), HR.out, if_neg h4, HX.out.2.2, if_neg (by omega), HX.out.2.1, Int.toNat_natCast, HQl.out, if_neg h6]
    have h6d : decide (qu ≤ (ql : Int)) = false := decide_eq_false h6
    have h6' : (ql : Int) < qu := by omega
    go_wp2
    go_quiet (fail)
    have HBq : Hid (Below w3.heap.size w3 ((w3.alloc (.cells #[.int .u8 r1, .int .i64 r2] 54)).drewN nq)) := below_drewN (HB4.out _) nq
    generalize (w3.alloc (.cells #[.int .u8 r1, .int .i64 r2] 54)).drewN nq = W5 at *
    have HT5 : Hid (W5.heap[gt]? = _) := (HBq.out.block gt (heap_cells HT3.out).2.2).trans HT3.out
    obtain ⟨tc, tf, tz⟩ := heap_cells HT5.out
    have t0 : W5.cell? ⟨gt, 0, none⟩ = some (.bool b0) := by rw [tc]; rfl
    have t1 : W5.cell? ⟨gt, 1, none⟩ = some (.bool b1) := by rw [tc]; rfl
    have t2 : W5.cell? ⟨gt, 2, none⟩ = some (.bool b2) := by rw [tc]; rfl
    have t3 : W5.cell? ⟨gt, 3, none⟩ = some (.bool b3) := by rw [tc]; rfl
    have t4 : W5.cell? ⟨gt, 4, none⟩ = some (.bool b4) := by rw [tc]; rfl
    have t5 : W5.cell? ⟨gt, 5, none⟩ = some (.bool b5) := by rw [tc]; rfl
    have t6 : W5.cell? ⟨gt, 6, none⟩ = some (.bool b6) := by rw [tc]; rfl
    have t7 : W5.cell? ⟨gt, 7, none⟩ = some (.bool b7) := by rw [tc]; rfl
    have t8 : W5.cell? ⟨gt, 8, none⟩ = some (.slice aP nP cP) := by rw [tc]; rfl
    clear tc tf
    go_wp2_with fail
    refine (pcost_any b0 b1 b2 b3 b4 b5 b6 b7 aP nP cP W5).mono ?_
    rintro e w6 ⟨rfl, hb6⟩
    have HB6 : Hid (Below w3.heap.size w3 w6) := HBq.out.trans (hb6.mono HBq.out.size)
    have HM6 : Hid (SeqMem w6 g F p gA qb aS cS lb) := HM3.out.same H.out.gF (fun k hk => HB6.out.block k (Nat.lt_of_lt_of_le (H.out.own k hk) HB3.out.size))
    have f3 := (HB6.out.cell (p := ⟨g, 3, none⟩) hg3).trans d3
    have hg6 : g < w6.heap.size := Nat.lt_of_lt_of_le hg3 HB6.out.size
    have hbA : qb c ≠ some gA := fun e => (HM6.out.qF c gA e).2.2.1 rfl
    have HAc : Hid _ := HM6.out.acc c _ HGa.out
    have cc0 : (0 : Int) ≤ (c : Int) := by omega
    clear hb6 t0 t1 t2 t3 t4 t5 t6 t7 t8 d0 d3 d5 k0
    go_wp2_with fail
    refine (join_any gA c (qb c) (accV p c) ⟨id, t, (nP : Int), d⟩ w6 HM6.out.row HAc.out hbA (by rw [HQl.out]; exact hql8)).mono ?_
    rintro e w7 ⟨rfl, b', hP7⟩
    have HP7 : Hid (AccPost w6 w7 gA c (qb c) b' ⟨(accV p c).q ++ [⟨id, t, costV t, d⟩], (accV p c).cr⟩) := by
      have := hP7
      rw [HOk.out.2] at this
      exact this
    clear hP7
    go_wp2
    go_ret
    refine ⟨by rw [HS.out]; rfl, ?_⟩
    rw [HS.out]
    have hB : Below w.heap.size w w6 := HB3.out.trans (HB6.out.mono HB3.out.size)
    have hown6 : ∀ k, F k → k < w6.heap.size := fun k hk => Nat.lt_of_lt_of_le (H.out.own k hk) hB.size
    have hfit : AccFit ⟨(accV p c).q ++ [⟨id, t, costV t, d⟩], (accV p c).cr⟩ := by
      refine ⟨?_, HFa.out.2.1, HFa.out.2.2.1, fun x hx => ?_⟩
      · show ((accV p c).q ++ [_]).length ≤ 8
        rw [List.length_append, HQl.out]
        show ql + 1 ≤ 8
        omega
      · rcases List.mem_append.1 hx with hx | hx
        · exact HFa.out.2.2.2 x hx
        · have : x = ⟨id, t, costV t, d⟩ := by simpa using hx
          subst this
          exact ⟨HOk.out.1, rfl, h2a, h2b⟩
    exact SeqPost.trans (Kept.of hB) (fun k hk => .inl hk) (seq_put H.out.gF hown6 HM6.out hcl (fit_put H.out.fit hfit) HP7.out)

end Go.Proofs.YtedlgdpojkhgaaaGreat
