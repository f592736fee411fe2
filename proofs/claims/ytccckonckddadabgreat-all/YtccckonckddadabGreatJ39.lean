import Derived.Test.YtccckonckddadabGreatJ35
import Derived.Deep.RegionLaw
import Derived.Deep.AppendLies
namespace Go.Proofs.YtccckonckddadabGreat
open Go.RowKit
set_option linter.unusedVariables false

/-! ### join -/
theorem cells_drew2 {W : World} (b : Nat) (hb : b = W.heap.size) (cs : List Value) (t : TypeId) : ∀ j u, cs[j]? = some u → ((W.alloc (.cells cs.toArray t)).drew).cell? ((⟨b, 0, none⟩ : Addr).add j) = some u := cells_new W b hb cs t

/-- What join leaves: the row has grown, and the queue's cell is written. -/
theorem join_post {w W1 w2 : World} {gA i : Nat} {q : List WaitV} {cr : Int} {ad : Option Addr} {c gN cap : Nat} {x : WaitV} {o : Obj} (hA : ∃ arr, w.heap[gA]? = some (.cells arr 175)) (h : AccAt w gA i (Value.slice ad q.length c).ownBlock ⟨q, cr⟩) (hn : (Value.slice ad q.length c).ownBlock ≠ some gA)
    (hb : Below w.heap.size w W1) (hown : w2.ownsRow 0 178 4 (.slice (some ⟨gN, 0, none⟩) (q.length + 1) cap) (q.length + 1) (waitsCells q ++ waitCells x)) (hgr : (W1.alloc o).drew.grownBy w2 (Value.slice ad q.length c).ownBlock) (hat : (Value.slice ad q.length c).ownBlock = some gN ∨ gN = (W1.alloc o).drew.heap.size) :
    AccPost w (w2.setCell ⟨gA, i * 2, none⟩ (.slice (some ⟨gN, 0, none⟩) (q.length + 1) cap)) gA i (Value.slice ad q.length c).ownBlock (some gN) ⟨q ++ [x], cr⟩ := by
  have hz : (W1.alloc o).drew.heap.size = W1.heap.size + 1 := by show (W1.alloc o).heap.size = _; simp
  have hzz := hb.size
  have hgz := hgr.size
  have hbw : Below w.heap.size w (W1.alloc o).drew := (hb.alloc hb.size _).drew
  have hK : Kept (fun k => k = gA ∨ (Value.slice ad q.length c).ownBlock = some k) w w2 := (Kept.of hbw).grown hgr (fun k hk => .inl (.inr hk))
  obtain ⟨arr, hA0⟩ := hA
  have hg := (heap_cells hA0).2.2
  have hgA2 : w2.heap[gA]? = w.heap[gA]? := (hgr.block gA (by rw [hz]; omega) (fun e => hn e.symm)).trans (hbw.block gA hg)
  have hc : ∀ y, w2.cell? ⟨gA, y, none⟩ = w.cell? ⟨gA, y, none⟩ := fun y => World.cell?_of_block (a := ⟨gA, y, none⟩) hgA2
  obtain ⟨ad0, c0, h1, h2, _, _⟩ := h
  have hA2 : w2.heap[gA]? = some (.cells arr 175) := hgA2.trans hA0
  have hset := heap_set hA2 (x := i * 2) (.slice (some ⟨gN, 0, none⟩) (q.length + 1) cap)
  have hother : ∀ y, y ≠ i * 2 → (w2.setCell ⟨gA, i * 2, none⟩ (.slice (some ⟨gN, 0, none⟩) (q.length + 1) cap)).cell? ⟨gA, y, none⟩ = w.cell? ⟨gA, y, none⟩ := fun y hy => by
    rw [(heap_cells hset).1, Array.getElem?_setIfInBounds_ne (fun e => hy e.symm), (heap_cells hA0).1]
  have hin : i * 2 < arr.size := by
    rw [(heap_cells hA0).1] at h1
    exact (Array.getElem?_eq_some_iff.1 h1).1
  have hgN : gN ≠ gA := by
    rcases hat with e | e
    · exact fun e2 => hn (by rw [e, e2])
    · rw [hz] at e; omega
  have hlt : gN < w2.heap.size := (hown.lt gN rfl).2
  have hsz : (w2.setCell ⟨gA, i * 2, none⟩ (.slice (some ⟨gN, 0, none⟩) (q.length + 1) cap)).heap.size = w2.heap.size := by simp [World.setCell]
  refine ⟨Kept.set hK (.inl (.inl rfl)) _, ⟨_, hset, fun y hy _ => hother y hy⟩, ⟨some ⟨gN, 0, none⟩, cap, ?_, (hother _ (by omega)).trans h2, ?_, rfl⟩, fun k hk => ?_, fun e => hgN (Option.some.inj e)⟩
  · rw [(heap_cells hset).1, Array.getElem?_setIfInBounds_self_of_lt hin]
    show _ = some (Value.slice _ (q ++ [x]).length _)
    rw [List.length_append]; rfl
  · show World.ownsRow _ 0 _ 4 (.slice (some ⟨gN, 0, none⟩) (q ++ [x]).length cap) (q ++ [x]).length (waitsCells (q ++ [x]))
    rw [waitsCells_snoc, List.length_append]
    refine own_same hown (fun k hk => Below.heap_setCell _ _ _ _ ?_)
    have : gN = k := by simpa [Value.ownBlock] using hk
    subst this
    exact hgN
  · have : gN = k := Option.some.inj hk
    subst this
    rw [hsz]
    refine ⟨?_, hlt⟩
    rcases hat with e | e
    · exact .inl e
    · right; rw [hz] at e; omega

set_option maxRecDepth 100000 in
set_option maxHeartbeats 4000000 in
theorem join_any (gA i : Nat) (b : Option Nat) (a : AccV) (x : WaitV) (w : World) (hA : ∃ arr, w.heap[gA]? = some (.cells arr 175)) (h : AccAt w gA i b a) (hn : b ≠ some gA) (hq : a.q.length ≤ 8) :
    Calls Tryz.prog 93 #[.pointer (some ⟨gA, i * 2, none⟩), .agg #[.int .i64 x.i, .string x.t, .int .i64 x.c, .int .i64 x.d]] w fun e w' => e = .returned (.tuple #[]) ∧ ∃ b', AccPost w w' gA i b b' ⟨a.q ++ [x], a.cr⟩ := by
  obtain ⟨ti, hi, hz0, hz1, hz2⟩ := info_parts info_wait
  have HI : Hid (_ ∧ _ ∧ _ ∧ _) := ⟨hi, hz0, hz1, hz2⟩
  clear hi hz0 hz1 hz2
  obtain ⟨q, cr⟩ := a
  obtain ⟨xi, xt, xc, xd⟩ := x
  have hg : gA < w.heap.size := by obtain ⟨arr, hA⟩ := hA; exact (heap_cells hA).2.2
  have hfz : ∀ x, w.frozen? ⟨gA, x, none⟩ = false := by obtain ⟨arr, hA⟩ := hA; exact (heap_cells hA).2.1
  obtain ⟨ad, c, c0, c1, ho, hb⟩ := h
  subst hb
  have HH : Hid (_ ∧ AccAt w gA i (Value.slice ad q.length c).ownBlock ⟨q, cr⟩ ∧ _) := ⟨hA, ⟨ad, c, c0, c1, ho, rfl⟩, hn⟩
  simp only at c0 hq ho
  have HO0 : Hid _ := ho
  clear ho hA hn c1
  obtain ⟨N, hN⟩ : ∃ n, q.length = n := ⟨_, rfl⟩
  rw [hN] at c0 hq HO0
  have HN : Hid _ := hN
  clear hN
  go_enter Tryz.func93, Tryz.ntmps93
  go_wp2
  have HB1 : Hid (Below w.heap.size w (w.alloc (.cells #[.int .i64 xi, .string xt, .int .i64 xc, .int .i64 xd] 178))) := (Below.refl _ _).alloc (Nat.le_refl _) _
  have HX : Hid ((w.alloc (.cells #[.int .i64 xi, .string xt, .int .i64 xc, .int .i64 xd] 178)).heap[w.heap.size]? = some (.cells #[.int .i64 xi, .string xt, .int .i64 xc, .int .i64 xd] 178)) := heap_at rfl
  generalize w.alloc (.cells #[.int .i64 xi, .string xt, .int .i64 xc, .int .i64 xd] 178) = W1 at *
  obtain ⟨b0, bf, bz⟩ := heap_cells HX.out
  have x0 : W1.cell? ⟨w.heap.size, 0, none⟩ = some (.int .i64 xi) := by rw [b0]; rfl
  have x1 : W1.cell? ⟨w.heap.size, 1, none⟩ = some (.string xt) := by rw [b0]; rfl
  have x2 : W1.cell? ⟨w.heap.size, 2, none⟩ = some (.int .i64 xc) := by rw [b0]; rfl
  have x3 : W1.cell? ⟨w.heap.size, 3, none⟩ = some (.int .i64 xd) := by rw [b0]; rfl
  have y0 : W1.cell? ⟨gA, i * 2, none⟩ = some (.slice ad N c) := (HB1.out.cell (p := ⟨gA, i * 2, none⟩) hg).trans c0
  have fz1 : ∀ x, W1.frozen? ⟨gA, x, none⟩ = false := fun x => (HB1.out.frozen (p := ⟨gA, x, none⟩) hg).trans (hfz x)
  have hg1 : gA < W1.heap.size := Nat.lt_of_lt_of_le hg HB1.out.size
  have HO : Hid (W1.ownsRow 0 178 4 (.slice ad N c) N (waitsCells q)) := own_below HO0.out HB1.out
  have hbn : (Value.slice ad N c).ownBlock ≠ some gA := by have := HH.out.2.2; rw [HN.out] at this; exact this
  clear c0 hfz b0 bf
  have hgn : w.heap.size ≠ gA := by omega
  have HK2 : Hid (∀ o : Obj, (W1.alloc o).drew.cell? ⟨w.heap.size, 0, none⟩ = some (.int .i64 xi) ∧ (W1.alloc o).drew.cell? ⟨w.heap.size, 1, none⟩ = some (.string xt) ∧ (W1.alloc o).drew.cell? ⟨w.heap.size, 2, none⟩ = some (.int .i64 xc) ∧ (W1.alloc o).drew.cell? ⟨w.heap.size, 3, none⟩ = some (.int .i64 xd)) := fun o => by
    have hb : ∀ x, (W1.alloc o).drew.cell? ⟨w.heap.size, x, none⟩ = W1.cell? ⟨w.heap.size, x, none⟩ := fun x => ((Below.refl W1.heap.size W1).alloc (Nat.le_refl _) o).cell (p := ⟨w.heap.size, x, none⟩) bz
    exact ⟨(hb 0).trans x0, (hb 1).trans x1, (hb 2).trans x2, (hb 3).trans x3⟩
  have HRow : Hid (∀ k, (Value.slice ad N c).ownBlock = some k → k < w.heap.size) := fun k hk => (World.ownsRow.lt HO0.out k hk).2
  have HK3 : Hid (∀ (o : Obj) (W7 : World), (W1.alloc o).drew.grownBy W7 (Value.slice ad N c).ownBlock → (W7.cell? ⟨w.heap.size, 0, none⟩ = some (.int .i64 xi) ∧ W7.cell? ⟨w.heap.size, 1, none⟩ = some (.string xt) ∧ W7.cell? ⟨w.heap.size, 2, none⟩ = some (.int .i64 xc) ∧ W7.cell? ⟨w.heap.size, 3, none⟩ = some (.int .i64 xd)) ∧ (∀ x, W7.frozen? ⟨gA, x, none⟩ = false) ∧ gA < W7.heap.size ∧ W7.cell? ⟨gA, i * 2, none⟩ = some (.slice ad N c)) := fun o W7 hgr => by
    have hz : (W1.alloc o).drew.heap.size = W1.heap.size + 1 := by show (W1.alloc o).heap.size = _; simp
    have hb : W7.heap[w.heap.size]? = (W1.alloc o).drew.heap[w.heap.size]? := hgr.block _ (by rw [hz]; omega) (fun hh => by have := HRow.out _ hh.symm; omega)
    have hb2 : W7.heap[gA]? = (W1.alloc o).drew.heap[gA]? := hgr.block _ (by rw [hz]; omega) (fun hh => hbn hh.symm)
    have hb3 : (W1.alloc o).drew.heap[gA]? = W1.heap[gA]? := heap_old hg1
    have hc : ∀ x, W7.cell? ⟨w.heap.size, x, none⟩ = (W1.alloc o).drew.cell? ⟨w.heap.size, x, none⟩ := fun x => World.cell?_of_block (a := ⟨w.heap.size, x, none⟩) hb
    obtain ⟨k0, k1, k2, k3⟩ := HK2.out o
    refine ⟨⟨(hc 0).trans k0, (hc 1).trans k1, (hc 2).trans k2, (hc 3).trans k3⟩, fun x => ?_, by have := hgr.size; rw [hz] at this; omega, (World.cell?_of_block (a := ⟨gA, i * 2, none⟩) (hb2.trans hb3)).trans y0⟩
    exact (World.frozen?_of_block (a := ⟨gA, x, none⟩) (hb2.trans hb3)).trans (fz1 x)
  go_region_law
    (first | (refine step_append_lies _ rfl (.tmp 8) (.tmp 10) 173 rfl 0 178 ti (.agg #[.int .i64 0, .string ⟨#[]⟩, .int .i64 0, .int .i64 0]) 4 40 Tryz.underlying173 HI.out.1 HI.out.2.1 HI.out.2.2.1 HI.out.2.2.2 rfl (by decide) (.slice ad N c) N (waitsCells q) rfl (HO.out.alloc _) ⟨W1.heap.size, 0, none⟩ 1 1 [.int .i64 xi, .string xt, .int .i64 xc, .int .i64 xd] rfl rfl (cells_drew2 (W := W1) W1.heap.size rfl [.int .i64 xi, .string xt, .int .i64 xc, .int .i64 xd] _) (by intro u hu; simp only [List.mem_cons, List.not_mem_nil, or_false] at hu; rcases hu with rfl | rfl | rfl | rfl <;> rfl) (by decide) (by unfold maxLen; omega) (by omega) (Nat.zero_le _) _ rfl ?_; intro g2 cap2 w2 hown hgr hat hlt2; obtain ⟨_, f2, z2, e2⟩ := HK3.out _ _ hgr))
  go_goals
  all_goals
    have HP : Hid (_ ∧ _ ∧ _) := ⟨hown, hgr, hat⟩
    clear hown hgr hat hlt2 f2 z2 e2
    go_end0
    refine ⟨rfl, some g2, ?_⟩
    have hNe := HN.out
    subst hNe
    exact join_post HH.out.1 HH.out.2.1 HH.out.2.2 HB1.out HP.out.1 HP.out.2.1 HP.out.2.2

end Go.Proofs.YtccckonckddadabGreat
