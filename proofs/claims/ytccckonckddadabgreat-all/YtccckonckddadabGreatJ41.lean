import Derived.Test.YtccckonckddadabGreatJ38
import Derived.Test.YtccckonckddadabGreatJ35
import Derived.Deep.RegionLaw
namespace Go.Proofs.YtccckonckddadabGreat
open Go.RowKit
set_option linter.unusedVariables false

/-! ### settle -/
def set8g (w : World) (g : Nat) (y0 y1 y2 y3 y4 y5 y6 y7 : Int) : World := (((((((w.setCell ⟨g, 6, none⟩ (.int .i16 y0)).setCell ⟨g, 7, none⟩ (.int .i16 y1)).setCell ⟨g, 8, none⟩ (.int .i16 y2)).setCell ⟨g, 9, none⟩ (.int .i16 y3)).setCell ⟨g, 10, none⟩ (.int .i16 y4)).setCell ⟨g, 11, none⟩ (.int .i16 y5)).setCell ⟨g, 12, none⟩ (.int .i16 y6)).setCell ⟨g, 13, none⟩ (.int .i16 y7)
theorem seq_cells8 {w : World} {g : Nat} {F : Nat → Prop} {p : SeqV} (h : SeqAt w g F p) (y0 y1 y2 y3 y4 y5 y6 y7 : Int) :
    SeqAt (set8g w g y0 y1 y2 y3 y4 y5 y6 y7) g F { p with cells := [y0, y1, y2, y3, y4, y5, y6, y7] } ∧ Kept F w (set8g w g y0 y1 y2 y3 y4 y5 y6 y7) := by
  unfold set8g
  refine ⟨seq_set h ⟨h.fit.n0, h.fit.n8, h.fit.qu, h.fit.qt, h.fit.ro, h.fit.first, h.fit.many, rfl, h.fit.long, h.fit.outs, h.fit.acc⟩ rfl rfl ⟨rfl, rfl, rfl, rfl⟩ (by simp [World.setCell]) (fun k hk => ?_) (fun vA lb vS hb => ?_), ?_⟩
  · iterate 8 rw [Below.heap_setCell _ _ _ _ (by exact hk)]
  · rw [heap_set (heap_set (heap_set (heap_set (heap_set (heap_set (heap_set (heap_set hb _) _) _) _) _) _) _) _]
    obtain ⟨x0, x1, x2, x3, x4, x5, x6, x7, hx⟩ := list8' p.cells h.fit.cells
    have e1 : seqCells p vA lb vS = .int .i64 p.queue :: .int .i64 p.quantum :: .int .i64 p.room :: vA :: .int .i64 p.first :: .slice lb.aE p.eps.length lb.cE :: (sixCells [x0, x1, x2, x3, x4, x5, x6, x7] ++ [vS, .slice (some ⟨lb.gR, 0, none⟩) p.reps.length p.reps.length]) := by unfold seqCells; rw [hx]
    rw [e1]
    simp only [List.setIfInBounds_toArray]
    rfl
  · iterate 8 refine Kept.set ?_ (.inl h.gF) _
    exact Kept.refl F w

theorem seqCells_15 {p : SeqV} (h : p.cells.length = 8) (vA : Value) (lb : TailV) (vS : Value) : (seqCells p vA lb vS)[14]? = some vS ∧ ∀ v, (seqCells p vA lb vS).set 14 v = seqCells p vA lb v := by
  obtain ⟨x0, x1, x2, x3, x4, x5, x6, x7, hx⟩ := list8' p.cells h
  unfold seqCells
  rw [hx]
  exact ⟨rfl, fun _ => rfl⟩
theorem seqCells_six {p : SeqV} {x0 x1 x2 x3 x4 x5 x6 x7 : Int} (hx : p.cells = [x0, x1, x2, x3, x4, x5, x6, x7]) (vA : Value) (lb : TailV) (vS : Value) : (seqCells p vA lb vS)[6]? = some (.int .i16 x0) ∧ (seqCells p vA lb vS)[7]? = some (.int .i16 x1) ∧ (seqCells p vA lb vS)[8]? = some (.int .i16 x2) ∧ (seqCells p vA lb vS)[9]? = some (.int .i16 x3) ∧ (seqCells p vA lb vS)[10]? = some (.int .i16 x4) ∧ (seqCells p vA lb vS)[11]? = some (.int .i16 x5) ∧ (seqCells p vA lb vS)[12]? = some (.int .i16 x6) ∧ (seqCells p vA lb vS)[13]? = some (.int .i16 x7) := by
  unfold seqCells
  rw [hx]
  exact ⟨rfl, rfl, rfl, rfl, rfl, rfl, rfl, rfl⟩

/-- One outcome more. -/
theorem seq_out {W X w2 : World} {g : Nat} {F : Nat → Prop} {p : SeqV} (h : SeqAt W g F p) {gA : Nat} {qb : Nat → Option Nat} {aS : Option Addr} {cS : Nat} {lb : TailV} (m : SeqMem W g F p gA qb aS cS lb) {x : OutV} {gN cap : Nat} (hlen : p.outs.length + 1 ≤ 1000000) (hX : Below W.heap.size W X)
    (hown : w2.ownsRow 0 185 3 (.slice (some ⟨gN, 0, none⟩) (p.outs.length + 1) cap) (p.outs.length + 1) (outsCells p.outs ++ outCells x)) (hgr : X.grownBy w2 (Value.slice aS p.outs.length cS).ownBlock) (hat : (Value.slice aS p.outs.length cS).ownBlock = some gN ∨ gN = X.heap.size) :
    SeqPost g F { p with outs := p.outs ++ [x] } W (w2.setCell ⟨g, 14, none⟩ (.slice (some ⟨gN, 0, none⟩) (p.outs.length + 1) cap)) := by
  have hsz := hX.size
  have hzY : W.heap.size ≤ w2.heap.size := Nat.le_trans hX.size hgr.size
  have hset : ∀ v, (w2.setCell ⟨g, 14, none⟩ v).heap.size = w2.heap.size := fun v => by simp [World.setCell]
  have hold : ∀ k, k < W.heap.size → (Value.slice aS p.outs.length cS).ownBlock ≠ some k → w2.heap[k]? = W.heap[k]? := fun k hk hne => (hgr.block k (by omega) (fun hh => hne hh.symm)).trans (hX.block k hk)
  have hgS : (Value.slice aS p.outs.length cS).ownBlock ≠ some g := fun e => (m.sF g e).2.1 rfl
  have hlt : gN < w2.heap.size := (World.ownsRow.lt hown gN rfl).2
  have hnew : ∀ k, F k → (Value.slice aS p.outs.length cS).ownBlock ≠ some k → gN ≠ k := by
    intro k hk hne e
    rcases hat with h1 | h1
    · exact hne (by rw [← e]; exact h1)
    · have := h.own k hk; omega
  have hgN : gN ≠ g := hnew g h.gF hgS
  have hgNA : gN ≠ gA := hnew gA m.aF.1 (fun e => (m.sF gA e).2.2 rfl)
  have hA : (w2.setCell ⟨g, 14, none⟩ (.slice (some ⟨gN, 0, none⟩) (p.outs.length + 1) cap)).heap[gA]? = W.heap[gA]? := by
    rw [Below.heap_setCell _ _ _ _ (by exact m.aF.2)]
    exact hold gA (h.own gA m.aF.1) (fun e => (m.sF gA e).2.2 rfl)
  have hAc : ∀ y, (w2.setCell ⟨g, 14, none⟩ (.slice (some ⟨gN, 0, none⟩) (p.outs.length + 1) cap)).cell? ⟨gA, y, none⟩ = W.cell? ⟨gA, y, none⟩ := fun y => World.cell?_of_block (a := ⟨gA, y, none⟩) hA
  refine ⟨fun k => F k ∨ k = gN, ⟨⟨h.fit.n0, h.fit.n8, h.fit.qu, h.fit.qt, h.fit.ro, h.fit.first, h.fit.many, h.fit.cells, h.fit.long, ?_, h.fit.acc⟩, .inl h.gF, ?_, gA, qb, some ⟨gN, 0, none⟩, cap, lb, ?_, ?_, ?_, ?_, ⟨.inl m.aF.1, m.aF.2⟩, ?_, m.qone, ?_, ?_⟩, ?_, ?_⟩
  · show (p.outs ++ [x]).length ≤ _
    rw [List.length_append]; exact hlen
  · intro k hk
    rw [hset]
    rcases hk with hk | rfl
    · have := h.own k hk; omega
    · exact hlt
  · have hb : w2.heap[g]? = _ := (hold g h.block hgS).trans m.blk
    rw [heap_set hb]
    congr 2
    rw [List.setIfInBounds_toArray, (seqCells_15 h.fit.cells _ _ _).2]
    show (seqCells p _ lb (.slice (some ⟨gN, 0, none⟩) (p.outs.length + 1) cap)).toArray = (seqCells { p with outs := p.outs ++ [x] } _ lb (.slice (some ⟨gN, 0, none⟩) (p.outs ++ [x]).length cap)).toArray
    rw [List.length_append]
    rfl
  · refine m.log.move rfl rfl rfl rfl (fun k hk => .inl hk) (fun k hk h1 h2 h3 _ => ?_) (fun _ _ _ hh => hh) (fun k hk hh => ?_)
    · rw [Below.heap_setCell _ _ _ _ (by exact h1)]
      exact hold k (h.own k hk) h3
    · have e2 : gN = k := by simpa [Value.ownBlock] using hh
      rcases hat with h1 | h1
      · rw [← e2]; exact h1
      · have := h.own k hk; omega
  · obtain ⟨arr, hr⟩ := m.row
    exact ⟨arr, hA.trans hr⟩
  · intro i a ha
    exact (m.acc i a ha).same (hAc _) (hAc _) (fun k hk => by
      have := m.qF i k hk
      rw [Below.heap_setCell _ _ _ _ (by exact this.2.1)]
      exact hold k (h.own k this.1) this.2.2.2)
  · intro i k hk
    have := m.qF i k hk
    refine ⟨.inl this.1, this.2.1, this.2.2.1, fun e => ?_⟩
    have e2 : gN = k := by simpa [Value.ownBlock] using e
    exact hnew k this.1 this.2.2.2 e2
  · show World.ownsRow _ 0 _ 3 (.slice (some ⟨gN, 0, none⟩) (p.outs ++ [x]).length cap) (p.outs ++ [x]).length (outsCells (p.outs ++ [x]))
    rw [outsCells_snoc, List.length_append]
    refine own_same hown (fun k hk => ?_)
    have e2 : gN = k := by simpa [Value.ownBlock] using hk
    subst e2
    exact Below.heap_setCell _ _ _ _ (by exact hgN)
  · intro k hk
    have e2 : gN = k := by simpa [Value.ownBlock] using hk
    subst e2
    exact ⟨.inr rfl, hgN, hgNA⟩
  · exact Kept.set (Kept.grown (Kept.of hX) hgr (fun k hk => .inl (m.sF k hk).1)) (.inl h.gF) _
  · intro k hk
    rcases hk with hk | rfl
    · exact .inl hk
    · rcases hat with h1 | h1
      · exact .inl (m.sF k h1).1
      · exact .inr (by omega)

structure SetAt (w wr : World) (g : Nat) (F F2 : Nat → Prop) (p p' : SeqV) (a : Option Addr) (m : Nat) (rs : List RecV) (k : Nat) : Prop where
  seq : SeqAt wr g F2 p'
  kept : Kept F w wr
  new : ∀ x, F2 x → F x ∨ w.heap.size ≤ x
  row : RecRow wr a m rs
  lt : ∀ ad, a = some ad → ad.block < w.heap.size
  free : ∀ ad, a = some ad → ¬ F2 ad.block
  left : settleV p rs = settleV p' (rs.drop k)
  olen : p'.outs.length = p.outs.length + k
  ep : p'.epochs = p.epochs

theorem cells_drew4 {W : World} (b : Nat) (hb : b = W.heap.size) (cs : List Value) (t : TypeId) : ∀ j u, cs[j]? = some u → ((W.alloc (.cells cs.toArray t)).drew).cell? ((⟨b, 0, none⟩ : Addr).add j) = some u := cells_new W b hb cs t
theorem rec_len {r : RecV} {cs : List Int} (h : cs.length = 8) : (doRec r cs).1.length = 8 := by
  unfold doRec
  split
  · exact h
  split
  · exact doV_len _ h
  · exact h

def SettlePost (g : Nat) (F : Nat → Prop) (p : SeqV) (a : Option Addr) (m : Nat) (rs : List RecV) (w : World) (e : Ending) (w' : World) : Prop :=
  e = .returned (.tuple #[]) ∧ ∃ F2, SetAt w w' g F F2 p (settleV p rs) a m rs rs.length

set_option maxRecDepth 100000 in
set_option maxHeartbeats 8000000 in
theorem ssettle_any (g : Nat) (F : Nat → Prop) (p : SeqV) (a : Option Addr) (m c : Nat) (rs : List RecV) (w : World) (h : SeqAt w g F p) (hr : RecRow w a m rs) (hlt : ∀ ad, a = some ad → ad.block < w.heap.size) (hfree : ∀ ad, a = some ad → ¬ F ad.block) (hm : m ≤ 64) (ho : p.outs.length + m ≤ 1000000) :
    Calls Tryz.prog 96 #[.pointer (some ⟨g, 0, none⟩), .slice a m c] w (SettlePost g F p a m rs w) := by
  obtain ⟨ti, hi, hz0, hz1, hz2⟩ := info_parts info_out
  have HI : Hid (_ ∧ _ ∧ _ ∧ _) := ⟨hi, hz0, hz1, hz2⟩
  clear hi hz0 hz1 hz2
  have H0 : Hid (SetAt w w g F F p p a m rs 0) := ⟨h, Kept.refl _ _, fun _ hk => .inl hk, hr, hlt, hfree, rfl, rfl, rfl⟩
  have hlen := hr.len
  clear h hr hlt hfree
  go_enter Tryz.func96, Tryz.ntmps96
  go_wp2
  go_loopw [4] (fun v4 wr => ∃ (k : Nat) (p' : SeqV) (F2 : Nat → Prop), v4 = .int .i64 k ∧ k ≤ m ∧ Hid (SetAt w wr g F F2 p p' a m rs k)) (fun v4 _ => m - (intOf v4).toNat)
  case atStart => exact ⟨0, p, F, rfl, Nat.zero_le _, H0⟩
  case round =>
    obtain ⟨k, p', F2, rfl, hk, HL⟩ := hrel
    clear H0
    by_cases hkm : k < m
    · have hkl : k < rs.length := by omega
      obtain ⟨gR, off, rfl, hgR, hcell⟩ : ∃ gR off, a = some ⟨gR, off, none⟩ ∧ gR < wr.heap.size ∧ ∀ (k : Nat) (r : RecV), rs[k]? = some r → wr.cell? ⟨gR, off + k * 4, none⟩ = some (.int .i64 r.c) ∧ wr.cell? ⟨gR, off + k * 4 + 1, none⟩ = some (.int .i64 r.i) ∧ wr.cell? ⟨gR, off + k * 4 + 2, none⟩ = some (.bool r.l) ∧ wr.cell? ⟨gR, off + k * 4 + 3, none⟩ = some (.string r.t) := by
        rcases HL.out.row.cells with h0 | ⟨gR, off, h1, h2, h3⟩
        · omega
        · exact ⟨gR, off, h1, h2, h3⟩
      obtain ⟨r0, r1, r2, r3⟩ := hcell k rs[k] (List.getElem?_eq_getElem hkl)
      have hrt := HL.out.row.small rs[k] (List.getElem_mem hkl)
      have HDr : Hid (settleV p' (rs.drop k) = settleV (settle1 p' rs[k]) (rs.drop (k + 1))) := by
        show _ = _
        rw [List.drop_eq_getElem_cons hkl]; rfl
      have HFree : Hid (¬ F2 gR ∧ gR < w.heap.size) := ⟨HL.out.free _ rfl, HL.out.lt _ rfl⟩
      clear hcell
      generalize rs[k] = r at *
      have hg := HL.out.seq.block
      obtain ⟨z0, z1, z2, z3, z4, z5, z6, z7, hzs⟩ := list8' p'.cells HL.out.seq.fit.cells
      obtain ⟨gA, qb, aS, cS, lb, mm⟩ := HL.out.seq.mem
      have hblk := heap_cells mm.blk
      obtain ⟨s0, s1, s2, s3, s4, s5, s6, s7⟩ := seqCells_six hzs (.slice (some ⟨gA, 0, none⟩) p'.accs.length p'.accs.length) lb (.slice aS p'.outs.length cS)
      have e0 : wr.cell? ⟨g, 6, none⟩ = some (.int .i16 z0) := by rw [hblk.1, List.getElem?_toArray]; exact s0
      have e1 : wr.cell? ⟨g, 7, none⟩ = some (.int .i16 z1) := by rw [hblk.1, List.getElem?_toArray]; exact s1
      have e2 : wr.cell? ⟨g, 8, none⟩ = some (.int .i16 z2) := by rw [hblk.1, List.getElem?_toArray]; exact s2
      have e3 : wr.cell? ⟨g, 9, none⟩ = some (.int .i16 z3) := by rw [hblk.1, List.getElem?_toArray]; exact s3
      have e4 : wr.cell? ⟨g, 10, none⟩ = some (.int .i16 z4) := by rw [hblk.1, List.getElem?_toArray]; exact s4
      have e5 : wr.cell? ⟨g, 11, none⟩ = some (.int .i16 z5) := by rw [hblk.1, List.getElem?_toArray]; exact s5
      have e6 : wr.cell? ⟨g, 12, none⟩ = some (.int .i16 z6) := by rw [hblk.1, List.getElem?_toArray]; exact s6
      have e7 : wr.cell? ⟨g, 13, none⟩ = some (.int .i16 z7) := by rw [hblk.1, List.getElem?_toArray]; exact s7
      clear s0 s1 s2 s3 s4 s5 s6 s7 hblk mm
      obtain ⟨rc, ri, rl, rt⟩ := r
      simp only at r0 r1 r2 r3 hrt
      obtain ⟨y0, y1, y2, y3, y4, y5, y6, y7, hys⟩ := list8' (doRec ⟨rc, ri, rl, rt⟩ [z0, z1, z2, z3, z4, z5, z6, z7]).1 (rec_len rfl)
      obtain ⟨st, hst⟩ : ∃ x, (doRec ⟨rc, ri, rl, rt⟩ [z0, z1, z2, z3, z4, z5, z6, z7]).2 = x := ⟨_, rfl⟩
      have HS1 : Hid (settle1 p' ⟨rc, ri, rl, rt⟩ = { ({ p' with cells := [y0, y1, y2, y3, y4, y5, y6, y7] } : SeqV) with outs := p'.outs ++ [⟨ri, st, p'.epochs⟩] }) := by
        show _ = _
        unfold settle1
        rw [hzs, hys, hst]
      have HCd : Hid (∀ W, Calls Tryz.prog 118 #[.agg #[.int .i64 rc, .int .i64 ri, .bool rl, .string rt], .agg #[.int .i16 z0, .int .i16 z1, .int .i16 z2, .int .i16 z3, .int .i16 z4, .int .i16 z5, .int .i16 z6, .int .i16 z7]] W fun e w' => e = .returned (.tuple #[.agg #[.int .i16 y0, .int .i16 y1, .int .i16 y2, .int .i16 y3, .int .i16 y4, .int .i16 y5, .int .i16 y6, .int .i16 y7], .int .u8 st]) ∧ Below W.heap.size W w' ∧ (∀ b x, b < W.heap.size → w'.cell? ⟨b, x, none⟩ = W.cell? ⟨b, x, none⟩) ∧ (∀ b x, b < W.heap.size → w'.frozen? ⟨b, x, none⟩ = W.frozen? ⟨b, x, none⟩) ∧ W.heap.size ≤ w'.heap.size) := fun W =>
        (edo_any rc ri rl rt z0 z1 z2 z3 z4 z5 z6 z7 W hrt).mono (by
          rintro e w' ⟨p0, p1, p2, p3, p4, p5, p6, p7, rfl, hp, hb⟩
          rw [hys] at hp
          simp only [List.cons.injEq, and_true] at hp
          obtain ⟨rfl, rfl, rfl, rfl, rfl, rfl, rfl, rfl⟩ := hp
          rw [hst]
          exact ⟨rfl, hb, (bcell hb).1, (bcell hb).2, hb.size⟩)
      have HZ : Hid _ := hzs
      clear hzs hys hst
      have k1 : (k : Int) < (m : Int) := by omega
      have k0 : (0 : Int) ≤ (k : Int) := by omega
      go_wp2
      go_region_held3 (fun W => Below wr.heap.size wr W ∧ (∀ b x, b < wr.heap.size → W.cell? ⟨b, x, none⟩ = wr.cell? ⟨b, x, none⟩))
        (first | (with_reducible exact doS_0) | (with_reducible exact doS_1) | (with_reducible exact doS_2 ‹_›) | (with_reducible exact doS_3 ‹_›) | (with_reducible exact doS_4 ‹_›) | (with_reducible exact doS_5 ‹_›))
        (first | (go_at_call 118; refine (HCd.out _).mono ?_; rintro e w9 ⟨rfl, hB9, hc9, hf9, hz9⟩))
      all_goals
        first
        | (have hX : Below wr.heap.size wr (w9.alloc (.cells #[.int .i16 y0, .int .i16 y1, .int .i16 y2, .int .i16 y3, .int .i16 y4, .int .i16 y5, .int .i16 y6, .int .i16 y7] 37)) ∧ (w9.alloc (.cells #[.int .i16 y0, .int .i16 y1, .int .i16 y2, .int .i16 y3, .int .i16 y4, .int .i16 y5, .int .i16 y6, .int .i16 y7] 37)).heap[w9.heap.size]? = some (.cells #[.int .i16 y0, .int .i16 y1, .int .i16 y2, .int .i16 y3, .int .i16 y4, .int .i16 y5, .int .i16 y6, .int .i16 y7] 37) := ⟨(doS_4 hB9).1, heap_alloc_new w9 _⟩
           clear hB9 hc9 hf9 hz9
           generalize w9.heap.size = gc at *
           generalize w9.alloc (.cells #[.int .i16 y0, .int .i16 y1, .int .i16 y2, .int .i16 y3, .int .i16 y4, .int .i16 y5, .int .i16 y6, .int .i16 y7] 37) = W6 at *)
        | (have hX : Below wr.heap.size wr ((((((((w9.setCell ⟨wr.heap.size, 0, none⟩ (.int .i16 y0)).setCell ⟨wr.heap.size, 1, none⟩ (.int .i16 y1)).setCell ⟨wr.heap.size, 2, none⟩ (.int .i16 y2)).setCell ⟨wr.heap.size, 3, none⟩ (.int .i16 y3)).setCell ⟨wr.heap.size, 4, none⟩ (.int .i16 y4)).setCell ⟨wr.heap.size, 5, none⟩ (.int .i16 y5)).setCell ⟨wr.heap.size, 6, none⟩ (.int .i16 y6)).setCell ⟨wr.heap.size, 7, none⟩ (.int .i16 y7)) ∧ ((((((((w9.setCell ⟨wr.heap.size, 0, none⟩ (.int .i16 y0)).setCell ⟨wr.heap.size, 1, none⟩ (.int .i16 y1)).setCell ⟨wr.heap.size, 2, none⟩ (.int .i16 y2)).setCell ⟨wr.heap.size, 3, none⟩ (.int .i16 y3)).setCell ⟨wr.heap.size, 4, none⟩ (.int .i16 y4)).setCell ⟨wr.heap.size, 5, none⟩ (.int .i16 y5)).setCell ⟨wr.heap.size, 6, none⟩ (.int .i16 y6)).setCell ⟨wr.heap.size, 7, none⟩ (.int .i16 y7)).heap[wr.heap.size]? = some (.cells #[.int .i16 y0, .int .i16 y1, .int .i16 y2, .int .i16 y3, .int .i16 y4, .int .i16 y5, .int .i16 y6, .int .i16 y7] 37) := ⟨(doS_5 hB9).1, set8 ((hB9.block wr.heap.size (by show _ < (wr.alloc _).heap.size; simp)).trans (heap_alloc_new wr _)) (.int .i16 y0) (.int .i16 y1) (.int .i16 y2) (.int .i16 y3) (.int .i16 y4) (.int .i16 y5) (.int .i16 y6) (.int .i16 y7)⟩
           clear hB9 hc9 hf9 hz9
           generalize hgc : wr.heap.size = gc at *
           generalize (((((((((w9.setCell ⟨gc, 0, none⟩ (.int .i16 y0)).setCell ⟨gc, 1, none⟩ (.int .i16 y1)).setCell ⟨gc, 2, none⟩ (.int .i16 y2)).setCell ⟨gc, 3, none⟩ (.int .i16 y3)).setCell ⟨gc, 4, none⟩ (.int .i16 y4)).setCell ⟨gc, 5, none⟩ (.int .i16 y5)).setCell ⟨gc, 6, none⟩ (.int .i16 y6)).setCell ⟨gc, 7, none⟩ (.int .i16 y7))) = W6 at *
           obtain ⟨hX1, hX2⟩ := hX
           rw [← hgc] at hX1 hg hgR
           have hX := And.intro hX1 hX2
           clear hgc hX1 hX2)
        have HS6 : Hid (SeqAt W6 g F2 p') := HL.out.seq.below hX.1
        have hg6 : g < W6.heap.size := HS6.out.block
        have f6 : ∀ x, W6.frozen? ⟨g, x, none⟩ = false := by
          obtain ⟨_, _, _, _, _, mm⟩ := HS6.out.mem
          exact (heap_cells mm.blk).2.1
        have p0 := (hX.1.cell (p := ⟨g, 6, none⟩) hg).trans e0
        have p1 := (hX.1.cell (p := ⟨g, 7, none⟩) hg).trans e1
        have p2 := (hX.1.cell (p := ⟨g, 8, none⟩) hg).trans e2
        have p3 := (hX.1.cell (p := ⟨g, 9, none⟩) hg).trans e3
        have p4 := (hX.1.cell (p := ⟨g, 10, none⟩) hg).trans e4
        have p5 := (hX.1.cell (p := ⟨g, 11, none⟩) hg).trans e5
        have p6 := (hX.1.cell (p := ⟨g, 12, none⟩) hg).trans e6
        have p7 := (hX.1.cell (p := ⟨g, 13, none⟩) hg).trans e7
        obtain ⟨cg, fg, zg⟩ := heap_cells hX.2
        have HS7 : Hid _ := seq_cells8 HS6.out y0 y1 y2 y3 y4 y5 y6 y7
        have HB6 : Hid (Below wr.heap.size wr W6) := hX.1
        have q1 : (set8g W6 g y0 y1 y2 y3 y4 y5 y6 y7).cell? ⟨gR, off + k * 4 + 1, none⟩ = some (.int .i64 ri) := by
          have hne : gR ≠ g := fun e => HFree.out.1 (e ▸ HL.out.seq.gF)
          have h1 : (set8g W6 g y0 y1 y2 y3 y4 y5 y6 y7).heap[gR]? = W6.heap[gR]? := HS7.out.2.block gR (Nat.lt_of_lt_of_le hgR HB6.out.size) HFree.out.1
          exact ((World.cell?_of_block (a := ⟨gR, off + k * 4 + 1, none⟩) h1).trans (HB6.out.cell (p := ⟨gR, off + k * 4 + 1, none⟩) hgR)).trans r1
        go_wp2
        clear p0 p1 p2 p3 p4 p5 p6 p7 cg fg f6 hX e0 e1 e2 e3 e4 e5 e6 e7
        have hW7 : (((((((W6.setCell ⟨g, 6, none⟩ (.int .i16 y0)).setCell ⟨g, 7, none⟩ (.int .i16 y1)).setCell ⟨g, 8, none⟩ (.int .i16 y2)).setCell ⟨g, 9, none⟩ (.int .i16 y3)).setCell ⟨g, 10, none⟩ (.int .i16 y4)).setCell ⟨g, 11, none⟩ (.int .i16 y5)).setCell ⟨g, 12, none⟩ (.int .i16 y6)).setCell ⟨g, 13, none⟩ (.int .i16 y7) = set8g W6 g y0 y1 y2 y3 y4 y5 y6 y7 := rfl
        rw [hW7]
        have HK7 : Hid (Kept F2 wr (set8g W6 g y0 y1 y2 y3 y4 y5 y6 y7)) := (Kept.of HB6.out).trans HS7.out.2 (fun _ _ hf => hf)
        have HS8 : Hid (SeqAt (set8g W6 g y0 y1 y2 y3 y4 y5 y6 y7) g F2 { p' with cells := [y0, y1, y2, y3, y4, y5, y6, y7] }) := HS7.out.1
        clear HS7 HS6 HB6 hW7
        generalize set8g W6 g y0 y1 y2 y3 y4 y5 y6 y7 = W7 at *
        obtain ⟨gA7, qb7, aS7, cS7, lb7, m7⟩ := HS8.out.mem
        have hblk7 := heap_cells m7.blk
        have c15 : W7.cell? ⟨g, 14, none⟩ = some (.slice aS7 p'.outs.length cS7) := by rw [hblk7.1, List.getElem?_toArray]; exact (seqCells_15 HS8.out.fit.cells _ _ _).1
        have c5 : W7.cell? ⟨g, 5, none⟩ = some (.slice lb7.aE p'.epochs lb7.cE) := (seq_cells m7).2.2.2.2.2.1
        have fz7 := hblk7.2.1
        have hg7 : g < W7.heap.size := hblk7.2.2
        have hgR7 : gR < W7.heap.size := Nat.lt_of_lt_of_le hgR HK7.out.size
        have HM7 : Hid _ := m7
        have HO7 : Hid (W7.ownsRow 0 185 3 (.slice aS7 p'.outs.length cS7) p'.outs.length (outsCells p'.outs)) := m7.outs
        have hol := HL.out.olen
        have HS7 : Hid ((Value.slice aS7 p'.outs.length cS7).ownBlock ≠ some g ∧ ∀ x, (Value.slice aS7 p'.outs.length cS7).ownBlock = some x → F2 x) := ⟨fun e => (m7.sF g e).2.1 rfl, fun x hx => (m7.sF x hx).1⟩
        obtain ⟨n, hn⟩ : ∃ n, p'.outs.length = n := ⟨_, rfl⟩
        obtain ⟨ne, hne⟩ : ∃ n, p'.epochs = n := ⟨_, rfl⟩
        have HNn : Hid (p'.outs.length = n ∧ p'.epochs = ne) := ⟨hn, hne⟩
        rw [hn] at c15 HO7 HS7 hol
        rw [hne] at c5
        have hn1 : n + 1 ≤ 1000000 := by omega
        have HOl : Hid _ := hol
        clear hol
        have HK3 : Hid (∀ (o : Obj) (W9 : World), (W7.alloc o).drew.grownBy W9 (Value.slice aS7 n cS7).ownBlock → (∀ x, W9.frozen? ⟨g, x, none⟩ = false) ∧ g < W9.heap.size ∧ W9.cell? ⟨g, 14, none⟩ = some (.slice aS7 n cS7)) := fun o W9 hgr => by
          have hz : (W7.alloc o).drew.heap.size = W7.heap.size + 1 := by show (W7.alloc o).heap.size = _; simp
          have hb : W9.heap[g]? = (W7.alloc o).drew.heap[g]? := hgr.block _ (by rw [hz]; omega) (fun hh => HS7.out.1 hh.symm)
          have hb3 : (W7.alloc o).drew.heap[g]? = W7.heap[g]? := heap_old hg7
          exact ⟨fun x => (World.frozen?_of_block (a := ⟨g, x, none⟩) (hb.trans hb3)).trans (fz7 x), by have := hgr.size; rw [hz] at this; omega, (World.cell?_of_block (a := ⟨g, 14, none⟩) (hb.trans hb3)).trans c15⟩
        clear m7 hblk7 hn hne r0 r1 r2 r3 HCd
        go_region_law (first | (refine step_append_lies _ rfl (.tmp 33) (.tmp 47) 99 rfl 0 185 ti (.agg #[.int .i64 0, .int .u8 0, .int .i64 0]) 3 24 Tryz.underlying99 HI.out.1 HI.out.2.1 HI.out.2.2.1 HI.out.2.2.2 rfl (by decide) (.slice aS7 n cS7) n (outsCells p'.outs) rfl (HO7.out.alloc _) ⟨W7.heap.size, 0, none⟩ 1 1 [.int .i64 ri, .int .u8 st, .int .i64 (ne : Int)] rfl rfl (cells_drew4 (W := W7) W7.heap.size rfl [.int .i64 ri, .int .u8 st, .int .i64 (ne : Int)] _) (by intro u hu; simp only [List.mem_cons, List.not_mem_nil, or_false] at hu; rcases hu with rfl | rfl | rfl <;> rfl) (by decide) (by unfold maxLen; omega) (by omega) (Nat.zero_le _) _ rfl ?_; intro gN cap w2 hown hgr hat hlt2; obtain ⟨f2, z2, e2⟩ := HK3.out _ _ hgr))
        go_goals
        all_goals
          have HP : Hid (SeqPost g F2 (settle1 p' ⟨rc, ri, rl, rt⟩) W7 (w2.setCell ⟨g, 14, none⟩ (.slice (some ⟨gN, 0, none⟩) (n + 1) cap))) := by
            show SeqPost _ _ _ _ _
            rw [HS1.out]
            obtain ⟨hnn, hee⟩ := HNn.out
            subst hnn
            subst hee
            exact seq_out HS8.out HM7.out (x := ⟨ri, st, p'.epochs⟩) (by show p'.outs.length + 1 ≤ _; exact hn1) (((Below.refl _ _).alloc (Nat.le_refl _) _).drew) hown hgr hat
          have HN : Hid (∃ F3, SetAt w (w2.setCell ⟨g, 14, none⟩ (.slice (some ⟨gN, 0, none⟩) (n + 1) cap)) g F F3 p (settle1 p' ⟨rc, ri, rl, rt⟩) (some ⟨gR, off, none⟩) m rs (k + 1)) := by
            obtain ⟨F3, hS3, hK3, hN3⟩ := HP.out
            have hKK := HK7.out.trans hK3 (fun _ _ hf => hf)
            refine ⟨F3, hS3, HL.out.kept.trans hKK (fun x hx hf => by rcases HL.out.new x hf with h4 | h4; exact h4; omega), fun x hx => ?_, HL.out.row.same hKK.size (fun ad had => ?_), HL.out.lt, fun ad had hf => ?_, HL.out.left.trans HDr.out, ?_, HL.out.ep⟩
            · rcases hN3 x hx with h4 | h4
              · exact HL.out.new x h4
              · have := HL.out.kept.size; have := HK7.out.size; exact .inr (by omega)
            · obtain rfl : (⟨gR, off, none⟩ : Addr) = ad := Option.some.inj had
              exact hKK.block gR hgR HFree.out.1
            · obtain rfl : (⟨gR, off, none⟩ : Addr) = ad := Option.some.inj had
              rcases hN3 _ hf with h4 | h4
              · exact HFree.out.1 h4
              · have h5 : W7.heap.size ≤ gR := h4
                omega
            · show (p'.outs ++ [_]).length = _
              rw [List.length_append, HNn.out.1, HOl.out]; rfl
          obtain ⟨F3, hN3⟩ := HN.out
          have HN3 : Hid _ := hN3
          clear hown hgr hat hlt2 f2 z2 e2 HP HN hN3
          go_wp2
          go_roundw
          case rel => exact ⟨k + 1, _, F3, by go_num, by omega, HN3⟩
          case measure => simp [intOf]; omega
    · have hkm' : k = m := by omega
      subst hkm'
      have HE : Hid (settleV p rs = p') := by
        show _ = _
        rw [HL.out.left, List.drop_of_length_le (by omega)]; rfl
      go_wp2
      go_end0
      refine ⟨rfl, F2, ?_⟩
      rw [HE.out]
      refine ⟨HL.out.seq, HL.out.kept, HL.out.new, HL.out.row, HL.out.lt, HL.out.free, ?_, ?_, HL.out.ep⟩
      · rw [HE.out, List.drop_of_length_le (Nat.le_refl _)]; rfl
      · rw [hlen]; exact HL.out.olen

end Go.Proofs.YtccckonckddadabGreat
