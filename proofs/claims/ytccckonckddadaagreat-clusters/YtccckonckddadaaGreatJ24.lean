import Derived.Test.YtccckonckddadaaGreatJ21
import Derived.Test.YtccckonckddadaaGreatJ19
import Derived.Test.YtccckonckddadaaGreatJ20
import Derived.Deep.RegionLaw
namespace Go.Proofs.YtccckonckddadaaGreat
open Go.RowKit
set_option linter.unusedVariables false

/-! ### settle -/
def set8g (w : World) (g : Nat) (y0 y1 y2 y3 y4 y5 y6 y7 : Int) : World := (((((((w.setCell ⟨g, 6, none⟩ (.int .i16 y0)).setCell ⟨g, 7, none⟩ (.int .i16 y1)).setCell ⟨g, 8, none⟩ (.int .i16 y2)).setCell ⟨g, 9, none⟩ (.int .i16 y3)).setCell ⟨g, 10, none⟩ (.int .i16 y4)).setCell ⟨g, 11, none⟩ (.int .i16 y5)).setCell ⟨g, 12, none⟩ (.int .i16 y6)).setCell ⟨g, 13, none⟩ (.int .i16 y7)
theorem seq_cells8 {w : World} {g : Nat} {F : Nat → Prop} {p : SeqV} (h : SeqAt w g F p) (y0 y1 y2 y3 y4 y5 y6 y7 : Int) :
    SeqAt (set8g w g y0 y1 y2 y3 y4 y5 y6 y7) g F { p with cells := [y0, y1, y2, y3, y4, y5, y6, y7] } ∧ Kept F w (set8g w g y0 y1 y2 y3 y4 y5 y6 y7) := by
  unfold set8g
  refine ⟨seq_set h ⟨h.fit.n0, h.fit.n8, h.fit.qu, h.fit.qt, h.fit.ro, h.fit.first, h.fit.many, rfl, h.fit.long, h.fit.outs, h.fit.acc⟩ rfl rfl ⟨rfl, rfl, rfl, rfl⟩ (by simp [World.setCell]) (fun k hk => ?_) (fun vA lb vS hb => ?_), ?_⟩
  · iterate 8 rw [Below.heap_setCell _ _ _ _ (by exact hk)]
  · rw [heap_set (heap_set (heap_set (heap_set (heap_set (heap_set (heap_set (heap_set hb _) _) _) _) _) _) _) _]
    obtain ⟨x0, x1, x2, x3, x4, x5, x6, x7, hx⟩ := list8' p.cells h.fit.cells
    have e1 : seqCells p vA lb vS = .int .i64 p.queue :: .int .i64 p.quantum :: .int .i64 p.room :: vA :: .int .i64 p.first :: .slice lb.aE p.eps.length lb.cE :: (sixCells [x0, x1, x2, x3, x4, x5, x6, x7] ++ [vS, .slice (some ⟨lb.gR, 0, none⟩) p.reps.length p.reps.length]) := by unfold seqCells; rw [hx]
    rw [e1]
    simp only [List.setIfInBounds_toArray]
    rfl
  · iterate 8 refine Kept.set ?_ (.inl h.gF) _
    exact Kept.refl F w

theorem seqCells_15 {p : SeqV} (h : p.cells.length = 8) (vA : Value) (lb : TailV) (vS : Value) : (seqCells p vA lb vS)[14]? = some vS ∧ ∀ v, (seqCells p vA lb vS).set 14 v = seqCells p vA lb v := by
  obtain ⟨x0, x1, x2, x3, x4, x5, x6, x7, hx⟩ := list8' p.cells h
  unfold seqCells
  rw [hx]
  exact ⟨rfl, fun _ => rfl⟩
theorem seqCells_six {p : SeqV} {x0 x1 x2 x3 x4 x5 x6 x7 : Int} (hx : p.cells = [x0, x1, x2, x3, x4, x5, x6, x7]) (vA : Value) (lb : TailV) (vS : Value) : (seqCells p vA lb vS)[6]? = some (.int .i16 x0) ∧ (seqCells p vA lb vS)[7]? = some (.int .i16 x1) ∧ (seqCells p vA lb vS)[8]? = some (.int .i16 x2) ∧ (seqCells p vA lb vS)[9]? = some (.int .i16 x3) ∧ (seqCells p vA lb vS)[10]? = some (.int .i16 x4) ∧ (seqCells p vA lb vS)[11]? = some (.int .i16 x5) ∧ (seqCells p vA lb vS)[12]? = some (.int .i16 x6) ∧ (seqCells p vA lb vS)[13]? = some (.int .i16 x7) := by
  unfold seqCells
  rw [hx]
  exact ⟨rfl, rfl, rfl, rfl, rfl, rfl, rfl, rfl⟩

/-- One outcome more. -/
theorem seq_out {W X w2 : World} {g : Nat} {F : Nat → Prop} {p : SeqV} (h : SeqAt W g F p) {gA : Nat} {qb : Nat → Option Nat} {aS : Option Addr} {cS : Nat} {lb : TailV} (m : SeqMem W g F p gA qb aS cS lb) {x : OutV} {gN cap : Nat} (hlen : p.outs.length + 1 ≤ 1000000) (hX : Below W.heap.size W X)
    (hown : w2.ownsRow 0 156 3 (.slice (some ⟨gN, 0, none⟩) (p.outs.length + 1) cap) (p.outs.length + 1) (outsCells p.outs ++ outCells x)) (hgr : X.grownBy w2 (Value.slice aS p.outs.length cS).ownBlock) (hat : (Value.slice aS p.outs.length cS).ownBlock = some gN ∨ gN = X.heap.size) :
    SeqPost g F { p with outs := p.outs ++ [x] } W (w2.setCell ⟨g, 14, none⟩ (.slice (some ⟨gN, 0, none⟩) (p.outs.length + 1) cap)) := by
  have hsz := hX.size
  have hzY : W.heap.size ≤ w2.heap.size := Nat.le_trans hX.size hgr.size
  have hset : ∀ v, (w2.setCell ⟨g, 14, none⟩ v).heap.size = w2.heap.size := fun v => by simp [World.setCell]
  have hold : ∀ k, k < W.heap.size → (Value.slice aS p.outs.length cS).ownBlock ≠ some k → w2.heap[k]? = W.heap[k]? := fun k hk hne => (hgr.block k (by omega) (fun hh => hne hh.symm)).trans (hX.block k hk)
  have hgS : (Value.slice aS p.outs.length cS).ownBlock ≠ some g := fun e => (m.sF g e).2.1 rfl
  have hlt : gN < w2.heap.size := (World.ownsRow.lt hown gN rfl).2
  have hnew : ∀ k, F k → (Value.slice aS p.outs.length cS).ownBlock ≠ some k → gN ≠ k := by
    intro k hk hne e
    rcases hat with h1 | h1
    · exact hne (by rw [← e]; exact h1)
    · have := h.own k hk; omega
  have hgN : gN ≠ g := hnew g h.gF hgS
  have hgNA : gN ≠ gA := hnew gA m.aF.1 (fun e => (m.sF gA e).2.2 rfl)
  have hA : (w2.setCell ⟨g, 14, none⟩ (.slice (some ⟨gN, 0, none⟩) (p.outs.length + 1) cap)).heap[gA]? = W.heap[gA]? := by
    rw [Below.heap_setCell _ _ _ _ (by exact m.aF.2)]
    exact hold gA (h.own gA m.aF.1) (fun e => (m.sF gA e).2.2 rfl)
  have hAc : ∀ y, (w2.setCell ⟨g, 14, none⟩ (.slice (some ⟨gN, 0, none⟩) (p.outs.length + 1) cap)).cell? ⟨gA, y, none⟩ = W.cell? ⟨gA, y, none⟩ := fun y => World.cell?_of_block (a := ⟨gA, y, none⟩) hA
  refine ⟨fun k => F k ∨ k = gN, ⟨⟨h.fit.n0, h.fit.n8, h.fit.qu, h.fit.qt, h.fit.ro, h.fit.first, h.fit.many, h.fit.cells, h.fit.long, ?_, h.fit.acc⟩, .inl h.gF, ?_, gA, qb, some ⟨gN, 0, none⟩, cap, lb, ?_, ?_, ?_, ?_, ⟨.inl m.aF.1, m.aF.2⟩, ?_, m.qone, ?_, ?_⟩, ?_, ?_⟩
  · show (p.outs ++ [x]).length ≤ _
    rw [List.length_append]; exact hlen
  · intro k hk
    rw [hset]
    rcases hk with hk | rfl
    · have := h.own k hk; omega
    · exact hlt
  · have hb : w2.heap[g]? = _ := (hold g h.block hgS).trans m.blk
    rw [heap_set hb]
    congr 2
    rw [List.setIfInBounds_toArray, (seqCells_15 h.fit.cells _ _ _).2]
    show (seqCells p _ lb (.slice (some ⟨gN, 0, none⟩) (p.outs.length + 1) cap)).toArray = (seqCells { p with outs := p.outs ++ [x] } _ lb (.slice (some ⟨gN, 0, none⟩) (p.outs ++ [x]).length cap)).toArray
    rw [List.length_append]
    rfl
  · refine m.log.move rfl rfl rfl rfl (fun k hk => .inl hk) (fun k hk h1 h2 h3 _ => ?_) (fun _ _ _ hh => hh) (fun k hk hh => ?_)
    · rw [Below.heap_setCell _ _ _ _ (by exact h1)]
      exact hold k (h.own k hk) h3
    · have e2 : gN = k := by simpa [Value.ownBlock] using hh
      rcases hat with h1 | h1
      · rw [← e2]; exact h1
      · have := h.own k hk; omega
  · obtain ⟨arr, hr⟩ := m.row
    exact ⟨arr, hA.trans hr⟩
  · intro i a ha
    exact (m.acc i a ha).same (hAc _) (hAc _) (fun k hk => by
      have := m.qF i k hk
      rw [Below.heap_setCell _ _ _ _ (by exact this.2.1)]
      exact hold k (h.own k this.1) this.2.2.2)
  · intro i k hk
    have := m.qF i k hk
    refine ⟨.inl this.1, this.2.1, this.2.2.1, fun e => ?_⟩
    have e2 : gN = k := by simpa [Value.ownBlock] using e
    exact hnew k this.1 this.2.2.2 e2
  · show World.ownsRow _ 0 _ 3 (.slice (some ⟨gN, 0, none⟩) (p.outs ++ [x]).length cap) (p.outs ++ [x]).length (outsCells (p.outs ++ [x]))
    rw [outsCells_snoc, List.length_append]
    refine own_same hown (fun k hk => ?_)
    have e2 : gN = k := by simpa [Value.ownBlock] using hk
    subst e2
    exact Below.heap_setCell _ _ _ _ (by exact hgN)
  · intro k hk
    have e2 : gN = k := by simpa [Value.ownBlock] using hk
    subst e2
    exact ⟨.inr rfl, hgN, hgNA⟩
  · exact Kept.set (Kept.grown (Kept.of hX) hgr (fun k hk => .inl (m.sF k hk).1)) (.inl h.gF) _
  · intro k hk
    rcases hk with hk | rfl
    · exact .inl hk
    · rcases hat with h1 | h1
      · exact .inl (m.sF k h1).1
      · exact .inr (by omega)

structure SetAt (w wr : World) (g : Nat) (F F2 : Nat → Prop) (p p' : SeqV) (a : Option Addr) (m : Nat) (rs : List RecV) (k : Nat) : Prop where
  seq : SeqAt wr g F2 p'
  kept : Kept F w wr
  new : ∀ x, F2 x → F x ∨ w.heap.size ≤ x
  row : RecRow wr a m rs
  lt : ∀ ad, a = some ad → ad.block < w.heap.size
  free : ∀ ad, a = some ad → ¬ F2 ad.block
  left : settleV p rs = settleV p' (rs.drop k)
  olen : p'.outs.length = p.outs.length + k
  ep : p'.epochs = p.epochs

theorem cells_drew4 {W : World} (b : Nat) (hb : b = W.heap.size) (cs : List Value) (t : TypeId) : ∀ j u, cs[j]? = some u → ((W.alloc (.cells cs.toArray t)).drew).cell? ((⟨b, 0, none⟩ : Addr).add j) = some u := cells_new W b hb cs t
theorem rec_len {r : RecV} {cs : List Int} (h : cs.length = 8) : (doRec r cs).1.length = 8 := by
  unfold doRec
  split
  · exact h
  split
  · exact doV_len _ h
  · exact h

def SettlePost (g : Nat) (F : Nat → Prop) (p : SeqV) (a : Option Addr) (m : Nat) (rs : List RecV) (w : World) (e : Ending) (w' : World) : Prop :=
  e = .returned (.tuple #[]) ∧ ∃ F2, SetAt w w' g F F2 p (settleV p rs) a m rs rs.length

set_option maxRecDepth 100000 in
set_option maxHeartbeats 8000000 in
theorem ssettle_any (g : Nat) (F : Nat → Prop) (p : SeqV) (a : Option Addr) (m c : Nat) (rs : List RecV) (w : World) (h : SeqAt w g F p) (hr : RecRow w a m rs) (hlt : ∀ ad, a = some ad → ad.block < w.heap.size) (hfree : ∀ ad, a = some ad → ¬ F ad.block) (hm : m ≤ 64) (ho : p.outs.length + m ≤ 1000000) :
    Calls Tryz.prog 98 #[.pointer (some ⟨g, 0, none⟩), .slice a m c] w (SettlePost g F p a m rs w) := by
  obtain ⟨ti, hi, hz0, hz1, hz2⟩ := info_parts info_out
  have HI : Hid (_ ∧ _ ∧ _ ∧ _) := ⟨hi, hz0, hz1, hz2⟩
  clear hi hz0 hz1 hz2
  have H0 : Hid (SetAt w w g F F p p a m rs 0) := ⟨h, Kept.refl _ _, fun _ hk => .inl hk, hr, hlt, hfree, rfl, rfl, rfl⟩
  have hlen := hr.len
  clear h hr hlt hfree
  go_enter Tryz.func98, Tryz.ntmps98
  go_wp2
  go_loopw [4] (fun v4 wr => ∃ (k : Nat) (p' : SeqV) (F2 : Nat → Prop), v4 = .int .i64 k ∧ k ≤ m ∧ Hid (SetAt w wr g F F2 p p' a m rs k)) (fun v4 _ => m - (intOf v4).toNat)
  case atStart => exact ⟨0, p, F, rfl, Nat.zero_le _, H0⟩
  case round =>
    obtain ⟨k, p', F2, rfl, hk, HL⟩ := hrel
    clear H0
    by_cases hkm : k < m
    · have hkl : k < rs.length := by omega
      obtain ⟨gR, off, rfl, hgR, hcell⟩ : ∃ gR off, a = some ⟨gR, off, none⟩ ∧ gR < wr.heap.size ∧ ∀ (k : Nat) (r : RecV), rs[k]? = some r → wr.cell? ⟨gR, off + k * 4, none⟩ = some (.int .i64 r.c) ∧ wr.cell? ⟨gR, off + k * 4 + 1, none⟩ = some (.int .i64 r.i) ∧ wr.cell? ⟨gR, off + k * 4 + 2, none⟩ = some (.bool r.l) ∧ wr.cell? ⟨gR, off + k * 4 + 3, none⟩ = some (.string r.t) := by
        rcases HL.out.row.cells with h0 | ⟨gR, off, h1, h2, h3⟩
        · omega
        · exact ⟨gR, off, h1, h2, h3⟩
      obtain ⟨r0, r1, r2, r3⟩ := hcell k rs[k] (List.getElem?_eq_getElem hkl)
      have hrt := HL.out.row.small rs[k] (List.getElem_mem hkl)
      have HDr : Hid (settleV p' (rs.drop k) = settleV (settle1 p' rs[k]) (rs.drop (k + 1))) := by
        show _ = _
        rw [List.drop_eq_getElem_cons hkl]; rfl
      have HFree : Hid (¬ F2 gR ∧ gR < w.heap.size) := ⟨HL.out.free _ rfl, HL.out.lt _ rfl⟩
      clear hcell
      generalize rs[k] = r at *
      have hg := HL.out.seq.block
      obtain ⟨z0, z1, z2, z3, z4, z5, z6, z7, hzs⟩ := list8' p'.cells HL.out.seq.fit.cells
      obtain ⟨gA, qb, aS, cS, lb, mm⟩ := HL.out.seq.mem
      have hblk := heap_cells mm.blk
      obtain ⟨s0, s1, s2, s3, s4, s5, s6, s7⟩ := seqCells_six hzs (.slice (some ⟨gA, 0, none⟩) p'.accs.length p'.accs.length) lb (.slice aS p'.outs.length cS)
      have e0 : wr.cell? ⟨g, 6, none⟩ = some (.int .i16 z0) := by rw [hblk.1, List.getElem?_toArray]; exact s0
      have e1 : wr.cell? ⟨g, 7, none⟩ = some (.int .i16 z1) := by rw [hblk.1, List.getElem?_toArray]; exact s1
      have e2 : wr.cell? ⟨g, 8, none⟩ = some (.int .i16 z2) := by rw [hblk.1, List.getElem?_toArray]; exact s2
      have e3 : wr.cell? ⟨g, 9, none⟩ = some (.int .i16 z3) := by rw [hblk.1, List.getElem?_toArray]; exact s3
      have e4 : wr.cell? ⟨g, 10, none⟩ = some (.int .i16 z4) := by rw [hblk.1, List.getElem?_toArray]; exact s4
      have e5 : wr.cell? ⟨g, 11, none⟩ = some (.int .i16 z5) := by rw [hblk.1, List.getElem?_toArray]; exact s5
      have e6 : wr.cell? ⟨g, 12, none⟩ = some (.int .i16 z6) := by rw [hblk.1, List.getElem?_toArray]; exact s6
      have e7 : wr.cell? ⟨g, 13, none⟩ = some (.int .i16 z7) := by rw [hblk.1, List.getElem?_toArray]; exact s7
      clear s0 s1 s2 s3 s4 s5 s6 s7 hblk mm
      obtain ⟨rc, ri, rl, rt⟩ := r
      simp only at r0 r1 r2 r3 hrt
      obtain ⟨y0, y1, y2, y3, y4, y5, y6, y7, hys⟩ := list8' (doRec ⟨rc, ri, rl, rt⟩ [z0, z1, z2, z3, z4, z5, z6, z7]).1 (rec_len rfl)
      obtain ⟨st, hst⟩ : ∃ x, (doRec ⟨rc, ri, rl, rt⟩ [z0, z1, z2, z3, z4, z5, z6, z7]).2 = x := ⟨_, rfl⟩
      have HS1 : Hid (settle1 p' ⟨rc, ri, rl, rt⟩ = { ({ p' with cells := [y0, y1, y2, y3, y4, y5, y6, y7] } : SeqV) with outs := p'.outs ++ [⟨ri, st, p'.epochs⟩] }) := by
        show _ = _
        unfold settle1
        rw [hzs, hys, hst]
      have HCd : Hid (∀ W, Calls Tryz.prog 119 #[.agg #[.int .i64 rc, .int .i64 ri, .bool rl, .string rt], .agg #[.int .i16 z0, .int .i16 z1, .int .i16 z2, .int .i16 z3, .int .i16 z4, .int .i16 z5, .int .i16 z6, .int .i16 z7]] W fun e w' => e = .returned (.tuple #[.agg #[.int .i16 y0, .int .i16 y1, .int .i16 y2, .int .i16 y3, .int .i16 y4, .int .i16 y5, .int .i16 y6, .int .i16 y7], .int .u8 st]) ∧ Below W.heap.size W w' ∧ (∀ b x, b < W.heap.size → w'.cell? ⟨b, x, none⟩ = W.cell? ⟨b, x, none⟩) ∧ (∀ b x, b < W.heap.size → w'.frozen? ⟨b, x, none⟩ = W.frozen? ⟨b, x, none⟩) ∧ W.heap.size ≤ w'.heap.size) := fun W =>
        (edo_any rc ri rl rt z0 z1 z2 z3 z4 z5 z6 z7 W hrt).mono (by
          rintro e w' ⟨p0, p1, p2, p3, p4, p5, p6, p7, rfl, hp, hb⟩
          rw [hys] at hp
          simp only [List.cons.injEq, and_true] at hp
          obtain ⟨rfl, rfl, rfl, rfl, rfl, rfl, rfl, rfl⟩ := hp
          rw [hst]
          exact ⟨rfl, hb, (bcell hb).1, (bcell hb).2, hb.size⟩)
      have HZ : Hid _ := hzs
      clear hzs hys hst
      have k1 : (k : Int) < (m : Int) := by omega
      have k0 : (0 : Int) ≤ (k : Int) := by omega
      go_wp2
      go_region_held3 (fun W => Below wr.heap.size wr W ∧ (∀ b x, b < wr.heap.size → W.cell? ⟨b, x, none⟩ = wr.cell? ⟨b, x, none⟩))
        (first | (with_reducible exact doS_0) | (with_reducible exact doS_1) | (with_reducible exact doS_2 ‹_›) | (with_reducible exact doS_3 ‹_›) | (with_reducible exact doS_4 ‹_›) | (with_reducible exact doS_5 ‹_›))
        (first | (go_at_call 119; refine (HCd.out _).mono ?_; rintro e w9 ⟨rfl, hB9, hc9, hf9, hz9⟩))
      all_goals
        first
        | (have hX : Below wr.heap.size wr (w9.alloc (.cells #[.int .i16 y0, .int .i16 y1, .int .i16 y2, .int .i16 y3, .int .i16 y4, .int .i16 y5, .int .i16 y6, .int .i16 y7] 35)) ∧ (w9.alloc (.cells #[.int .i16 y0, .int .i16 y1, .int .i16 y2, .int .i16 y3, .int .i16 y4, .int .i16 y5, .int .i16 y6, .int .i16 y7] 35)).heap[w9.heap.size]? = some (.cells #[.int .i16 y0, .int .i16 y1, .int .i16 y2, .int .i16 y3, .int .i16 y4, .int .i16 y5, .int .i16 y6, .int .i16 y7] 35) := ⟨(doS_4 hB9).1, heap_alloc_new w9 _⟩
           clear hB9 hc9 hf9 hz9
           generalize w9.heap.size = gc at *
           generalize w9.alloc (.cells #[.int .i16 y0, .int .i16 y1, .int .i16 y2, .int .i16 y3, .int .i16 y4, .int .i16 y5, .int .i16 y6, .int .i16 y7] 35) = W6 at *)
        | (have hX : Below wr.heap.size wr ((((((((w9.setCell ⟨wr.heap.size, 0, none⟩ (.int .i16 y0)).setCell ⟨wr.heap.size, 1, none⟩ (.int .i16 y1)).setCell ⟨wr.heap.size, 2, none⟩ (.int .i16 y2)).setCell ⟨wr.heap.size, 3, none⟩ (.int .i16 y3)).setCell ⟨wr.heap.size, 4, none⟩ (.int .i16 y4)).setCell ⟨wr.heap.size, 5, none⟩ (.int .i16 y5)).setCell ⟨wr.heap.size, 6, none⟩ (.int .i16 y6)).setCell ⟨wr.heap.size, 7, none⟩ (.int .i16 y7)) ∧ ((((((((w9.setCell ⟨wr.heap.size, 0, none⟩ (.int .i16 y0)).setCell ⟨wr.heap.size, 1, none⟩ (.int .i16 y1)).setCell ⟨wr.heap.size, 2, none⟩ (.int .i16 y2)).setCell ⟨wr.heap.size, 3, none⟩ (.int .i16 y3)).setCell ⟨wr.heap.size, 4, none⟩ (.int .i16 y4)).setCell ⟨wr.heap.size, 5, none⟩ (.int .i16 y5)).setCell ⟨wr.heap.size, 6, none⟩ (.int .i16 y6)).setCell ⟨wr.heap.size, 7, none⟩ (.int .i16 y7)).heap[wr.heap.size]? = some (.cells #[.int .i16 y0, .int .i16 y1, .int .i16 y2, .int .i16 y3, .int .i16 y4, .int .i16 y5, .int .i16 y6, .int .i16 y7] 35) := ⟨(doS_5 hB9).1, set8 ((hB9.block wr.heap.size (by show _ < (wr.alloc _).heap.size; simp)).trans (heap_alloc_new wr _)) (.int .i16 y0) (.int .i16 y1) (.int .i16 y2) (.int .i16 y3) (.int .i16 y4) (.int .i16 y5) (.int .i16 y6) (.int .i16 y7)⟩
           clear hB9 hc9 hf9 hz9
           generalize hgc : wr.heap.size = gc at *
           generalize (((((((((w9.setCell ⟨gc, 0, none⟩ (.int .i16 y0)).setCell ⟨gc, 1, none⟩ (.int .i16 y1)).setCell ⟨gc, 2, none⟩ (.int .i16 y2)).setCell ⟨gc, 3, none⟩ (.int .i16 y3)).setCell ⟨gc, 4, none⟩ (.int .i16 y4)).setCell ⟨gc, 5, none⟩ (.int .i16 y5)).setCell ⟨gc, 6, none⟩ (.int .i16 y6)).setCell ⟨gc, 7, none⟩ (.int .i16 y7))) = W6 at *
           obtain ⟨hX1, hX2⟩ := hX
           rw [← hgc] at hX1 hg hgR
           have hX := And.intro hX1 hX2
           clear hgc hX1 hX2)
        have HS6 : Hid (SeqAt W6 g F2 p') := HL.out.seq.below hX.1
        have hg6 : g < W6.heap.size := HS6.out.block
        have f6 : ∀ x, W6.frozen? ⟨g, x, none⟩ = false := by
          obtain ⟨_, _, _, _, _, mm⟩ := HS6.out.mem
          exact (heap_cells mm.blk).2.1
        have p0 := (hX.1.cell (p := ⟨g, 6, none⟩) hg).trans e0
        have p1 := (hX.1.cell (p := ⟨g, 7, none⟩) hg).trans e1
        have p2 := (hX.1.cell (p := ⟨g, 8, none⟩) hg).trans e2
        have p3 := (hX.1.cell (p := ⟨g, 9, none⟩) hg).trans e3
        have p4 := (hX.1.cell (p := ⟨g, 10, none⟩) hg).trans e4
        have p5 := (hX.1.cell (p := ⟨g, 11, none⟩) hg).trans e5
        have p6 := (hX.1.cell (p := ⟨g, 12, none⟩) hg).trans e6
        have p7 := (hX.1.cell (p := ⟨g, 13, none⟩) hg).trans e7
        obtain ⟨cg, fg, zg⟩ := heap_cells hX.2
        have HS7 : Hid _ := seq_cells8 HS6.out y0 y1 y2 y3 y4 y5 y6 y7
        have HB6 : Hid (Below wr.heap.size wr W6) := hX.1
        have q1 : (set8g W6 g y0 y1 y2 y3 y4 y5 y6 y7).cell? ⟨gR, off + k * 4 + 1, none⟩ = some (.int .i64 ri) := by
          have hne : gR ≠ g := fun e => HFree.out.1 (e ▸ HL.out.seq.gF)
          have h1 : (set8g W6 g y0 y1 y2 y3 y4 y5 y6 y7).heap[gR]? = W6.heap[gR]? := HS7.out.2.block gR (Nat.lt_of_lt_of_le hgR HB6.out.size) HFree.out.1
          exact ((World.cell?_of_block (a := ⟨gR, off + k * 4 + 1, none⟩) h1).trans (HB6.out.cell (p := ⟨gR, off + k * 4 + 1, none⟩) hgR)).trans r1
        go_wp2
        clear p0 p1 p2 p3 p4 p5 p6 p7 cg fg f6 hX e0 e1 e2 e3 e4 e5 e6 e7
        have hW7 : (((((((W6.setCell ⟨g, 6, none⟩ (.int .i16 y0)).setCell ⟨g, 7, none⟩ (.int .i16 y1)).setCell ⟨g, 8, none⟩ (.int .i16 y2)).setCell ⟨g, 9, none⟩ (.int .i16 y3)).setCell ⟨g, 10, none⟩ (.int .i16 y4)).setCell ⟨g, 11, none⟩ (.int .i16 y5)).setCell ⟨g, 12, none⟩ (.int .i16 y6)).setCell ⟨g, 13, none⟩ (.int .i16 y7) = set8g W6 g y0 y1 y2 y3 y4 y5 y6 y7 := rfl
        rw [hW7]
        have HK7 : Hid (Kept F2 wr (set8g W6 g y0 y1 y2 y3 y4 y5 y6 y7)) := (Kept.of HB6.out).trans HS7.out.2 (fun _ _ hf => hf)
        have HS8 : Hid (SeqAt (set8g W6 g y0 y1 y2 y3 y4 y5 y6 y7) g F2 { p' with cells := [y0, y1, y2, y3, y4, y5, y6, y7] }) := HS7.out.1
        clear HS7 HS6 HB6 hW7
        generalize set8g W6 g y0 y1 y2 y3 y4 y5 y6 y7 = W7 at *
        obtain ⟨gA7, qb7, aS7, cS7, lb7, m7⟩ := HS8.out.mem
        have hblk7 := heap_cells m7.blk
        have c15 : W7.cell? ⟨g, 14, none⟩ = some (.slice aS7 p'.outs.length cS7) := by rw [hblk7.1, List.getElem?_toArray]; exact (seqCells_15 HS8.out.fit.cells _ _ _).1
        have c5 : W7.cell? ⟨g, 5, none⟩ = some (.slice lb7.aE p'.epochs lb7.cE) := (seq_cells m7).2.2.2.2.2.1
        have fz7 := hblk7.2.1
        have hg7 : g < W7.heap.size := hblk7.2.2
        have hgR7 : gR < W7.heap.size := Nat.lt_of_lt_of_le hgR HK7.out.size
        have HM7 : Hid _ := m7
        have HO7 : Hid (W7.ownsRow 0 156 3 (.slice aS7 p'.outs.length cS7) p'.outs.length (outsCells p'.outs)) := m7.outs
        have hol := HL.out.olen
        have HS7 : Hid ((Value.slice aS7 p'.outs.length cS7).ownBlock ≠ some g ∧ ∀ x, (Value.slice aS7 p'.outs.length cS7).ownBlock = some x → F2 x) := ⟨fun e => (m7.sF g e).2.1 rfl, fun x hx => (m7.sF x hx).1⟩
        obtain ⟨n, hn⟩ : ∃ n, p'.outs.length = n := ⟨_, rfl⟩
        obtain ⟨ne, hne⟩ : ∃ n, p'.epochs = n := ⟨_, rfl⟩
        have HNn : Hid (p'.outs.length = n ∧ p'.epochs = ne) := ⟨hn, hne⟩
        rw [hn] at c15 HO7 HS7 hol
        rw [hne] at c5
        have hn1 : n + 1 ≤ 1000000 := by omega
        have HOl : Hid _ := hol
        clear hol
        have HK3 : Hid (∀ (o : Obj) (W9 : World), (W7.alloc o).drew.grownBy W9 (Value.slice aS7 n cS7).ownBlock → (∀ x, W9.frozen? ⟨g, x, none⟩ = false) ∧ g < W9.heap.size ∧ W9.cell? ⟨g, 14, none⟩ = some (.slice aS7 n cS7)) := fun o W9 hgr => by
          have hz : (W7.alloc o).drew.heap.size = W7.heap.size + 1 := by show (W7.alloc o).heap.size = _; simp
          have hb : W9.heap[g]? = (W7.alloc o).drew.heap[g]? := hgr.block _ (by rw [hz]; omega) (fun hh => HS7.out.1 hh.symm)
          have hb3 : (W7.alloc o).drew.heap[g]? = W7.heap[g]? := heap_old hg7
          exact ⟨fun x => (World.frozen?_of_block (a := ⟨g, x, none⟩) (hb.trans hb3)).trans (fz7 x), by have := hgr.size; rw [hz] at this; omega, (World.cell?_of_block (a := ⟨g, 14, none⟩) (hb.trans hb3)).trans c15⟩
        clear m7 hblk7 hn hne r0 r1 r2 r3 HCd
        go_region_law (first | (refine step_append_lies _ rfl (.tmp 33) (.tmp 47) 99 rfl 0 156 ti (.agg #[.int .i64 0, .int .u8 0, .int .i64 0]) 3 24 Tryz.underlying99 HI.out.1 HI.out.2.1 HI.out.2.2.1 HI.out.2.2.2 rfl (by decide) (.slice aS7 n cS7) n (outsCells p'.outs) rfl (HO7.out.alloc _) ⟨W7.heap.size, 0, none⟩ 1 1 [.int .i64 ri, .int .u8 st, .int .i64 (ne : Int)] rfl rfl (cells_drew4 (W := W7) W7.heap.size rfl [.int .i64 ri, .int .u8 st, .int .i64 (ne : Int)] _) (by intro u hu; simp only [List.mem_cons, List.not_mem_nil, or_false] at hu; rcases hu with rfl | rfl | rfl <;> rfl) (by decide) (by unfold maxLen; omega) (by omega) (Nat.zero_le _) _ rfl ?_; intro gN cap w2 hown hgr hat hlt2; obtain ⟨f2, z2, e2⟩ := HK3.out _ _ hgr))
        go_goals
        all_goals
          have HP : Hid (SeqPost g F2 (settle1 p' ⟨rc, ri, rl, rt⟩) W7 (w2.setCell ⟨g, 14, none⟩ (.slice (some ⟨gN, 0, none⟩) (n + 1) cap))) := by
            show SeqPost _ _ _ _ _
            rw [HS1.out]
            obtain ⟨hnn, hee⟩ := HNn.out
            subst hnn
            subst hee
            exact seq_out HS8.out HM7.out (x := ⟨ri, st, p'.epochs⟩) (by show p'.outs.length + 1 ≤ _; exact hn1) (((Below.refl _ _).alloc (Nat.le_refl _) _).drew) hown hgr hat
          have HN : Hid (∃ F3, SetAt w (w2.setCell ⟨g, 14, none⟩ (.slice (some ⟨gN, 0, none⟩) (n + 1) cap)) g F F3 p (settle1 p' ⟨rc, ri, rl, rt⟩) (some ⟨gR, off, none⟩) m rs (k + 1)) := by
            obtain ⟨F3, hS3, hK3, hN3⟩ := HP.out
            have hKK := HK7.out.trans hK3 (fun _ _ hf => hf)
            refine ⟨F3, hS3, HL.out.kept.trans hKK (fun x hx hf => by rcases HL.out.new x hf with h4 | h4; exact h4; omega), fun x hx => ?_, HL.out.row.same hKK.size (fun ad had => ?_), HL.out.lt, fun ad had hf => ?_, HL.out.left.trans HDr.out, ?_, HL.out.ep⟩
            · rcases hN3 x hx with h4 | h4
              · exact HL.out.new x h4
              · have := HL.out.kept.size; have := HK7.out.size; exact .inr (by omega)
            · obtain rfl : (⟨gR, off, none⟩ : Addr) = ad := Option.some.inj had
              exact hKK.block gR hgR HFree.out.1
            · obtain rfl : (⟨gR, off, none⟩ : Addr) = ad := Option.some.inj had
              rcases hN3 _ hf with h4 | h4
              · exact HFree.out.1 h4
              · have h5 : W7.heap.size ≤ gR := h4
                omega
            · show (p'.outs ++ [_]).length = _
              rw [List.length_append, HNn.out.1, HOl.out]; rfl
          obtain ⟨F3, hN3⟩ := HN.out
          have HN3 : Hid _ := hN3
          clear hown hgr hat hlt2 f2 z2 e2 HP HN hN3
          go_wp2
          go_roundw
          case rel => exact ⟨k + 1, _, F3, by go_num, by omega, HN3⟩
          case measure => simp [intOf]; omega
    · have hkm' : k = m := by omega
      subst hkm'
      have HE : Hid (settleV p rs = p') := by
        show _ = _
        rw [HL.out.left, List.drop_of_length_le (by omega)]; rfl
      go_wp2
      go_end0
      refine ⟨rfl, F2, ?_⟩
      rw [HE.out]
      refine ⟨HL.out.seq, HL.out.kept, HL.out.new, HL.out.row, HL.out.lt, HL.out.free, ?_, ?_, HL.out.ep⟩
      · rw [HE.out, List.drop_of_length_le (Nat.le_refl _)]; rfl
      · rw [hlen]; exact HL.out.olen

end Go.Proofs.YtccckonckddadaaGreat
namespace Go.Proofs.YtccckonckddadaaGreat
open Go.RowKit
set_option linter.unusedVariables false

/-! ### Fill -/
theorem pLate_acc : ∀ (r i : Nat) (p : SeqV) (l : List RecV), (∀ a ∈ p.accs, a.cr ≤ 2000) → (∀ a ∈ (pLateFrom r i p l).1.accs, a.cr ≤ 2000)
  | 0, i, p, l, h => h
  | r + 1, i, p, l, h => by
    rw [pLate_step]
    refine pLate_acc r (i + 1) _ _ (fun a ha => ?_)
    rcases List.mem_or_eq_of_mem_set ha with ha | rfl
    · exact h a ha
    · show (accV p i).cr ≤ 2000
      unfold accV
      rw [List.getD_eq_getElem?_getD]
      cases hg : p.accs[i]? with
      | none => show (0 : Int) ≤ 2000; omega
      | some x => exact h x (List.mem_of_getElem? hg)
theorem pLate_same : ∀ (r i : Nat) (p : SeqV) (l : List RecV), (pLateFrom r i p l).1.accs.length = p.accs.length ∧ (pLateFrom r i p l).1.first = p.first ∧ (pLateFrom r i p l).1.room = p.room ∧ (pLateFrom r i p l).1.epochs = p.epochs ∧ (pLateFrom r i p l).1.outs = p.outs ∧ (pLateFrom r i p l).1.log = p.log
  | 0, i, p, l => ⟨rfl, rfl, rfl, rfl, rfl, rfl⟩
  | r + 1, i, p, l => by
    rw [pLate_step]
    obtain ⟨h1, h2, h3, h4, h5, h6⟩ := pLate_same r (i + 1) (putA p i (lateA (accV p i) p.epochs)) (l ++ (lateL (accV p i) p.epochs).map (lateRec i))
    refine ⟨?_, h2, h3, h4, h5, h6⟩
    rw [h1]; exact List.length_set
theorem pVisit_same : ∀ (r i : Nat) (p : SeqV) (room : Int) (l : List RecV), (pVisitFrom r i p room l).1.accs.length = p.accs.length ∧ (pVisitFrom r i p room l).1.epochs = p.epochs ∧ (pVisitFrom r i p room l).1.outs = p.outs ∧ (pVisitFrom r i p room l).1.log = p.log
  | 0, i, p, room, l => ⟨rfl, rfl, rfl, rfl⟩
  | r + 1, i, p, room, l => by
    rw [pVisit_step]
    obtain ⟨h1, h4, h5, h6⟩ := pVisit_same r (behindV p.accs.length i) (putA p i (visitA (accV p i) p.quantum room)) (room - costs (visitL (accV p i) p.quantum room)) (l ++ (visitL (accV p i) p.quantum room).map (textRec i))
    refine ⟨?_, h4, h5, h6⟩
    rw [h1]; exact List.length_set
theorem settle_len : ∀ (l : List RecV) (p : SeqV), (settleV p l).outs.length = p.outs.length + l.length
  | [], p => rfl
  | r :: l, p => by
    show (settleV (settle1 p r) l).outs.length = _
    rw [settle_len l (settle1 p r)]
    show (p.outs ++ [_]).length + l.length = _
    rw [List.length_append]; simp only [List.length_cons, List.length_nil]; omega

/-- 'all = append(all, l...)', and where it lies. -/
theorem wpList_append_all2 {w : World} {ops : Array Oper} {rest : List Oper} {o : Oper} {a : Act} {Q : Exit → Act → World → Prop} (hgd : o.guard = none) (s x : Operand)
    (ho : o.op = .call { callee := .builtin .append, args := #[s, x], argTypes := #[36, 36] })
    (B : Nat) (a1 : Option Addr) (m1 c1 : Nat) (l1 : List RecV) (hs : a.eval s = .slice a1 m1 c1) (h1 : w.ownsRow B 83 4 (.slice a1 m1 c1) m1 (recsCells l1))
    (a2 : Option Addr) (m2 c2 : Nat) (l2 : List RecV) (hx : a.eval x = .slice a2 m2 c2) (h2 : w.ownsRow B 83 4 (.slice a2 m2 c2) m2 (recsCells l2)) (hm : m1 + m2 ≤ 1000000) (hB : B ≤ w.heap.size)
    (h : ∀ a' c' w', w'.ownsRow B 83 4 (.slice a' (m1 + m2) c') (m1 + m2) (recsCells (l1 ++ l2)) → w.grownBy w' (Value.slice a1 m1 c1).ownBlock → (∀ k, (Value.slice a' (m1 + m2) c').ownBlock = some k → (Value.slice a1 m1 c1).ownBlock = some k ∨ w.heap.size ≤ k) → wpList Tryz.prog ops Q rest (a.put o.dst (.slice a' (m1 + m2) c')) w') :
    wpList Tryz.prog ops Q (o :: rest) a w := by
  obtain ⟨ti, i1, i2, i3, i4⟩ := info_parts info_rec
  have hl2 : l2.length = m2 := by have := h2.1; rw [recsCells_len] at this; omega
  rcases h2.2 with ⟨hv, h0⟩ | ⟨g, cap, cur, hv, _, hg, q1, q2, q3, q4⟩
  · obtain ⟨rfl, rfl⟩ : a2 = none ∧ c2 = 0 := by
      have hv' : Value.slice a2 m2 c2 = .slice none 0 0 := hv
      injection hv' with e1 e2 e3
      exact ⟨e1, e3⟩
    subst h0
    have : l2 = [] := List.eq_nil_of_length_eq_zero hl2
    subst this
    refine wpList_append_own_none hgd s x 36 ho B 83 ti 4 Tryz.underlying36 i1 (.slice a1 m1 c1) m1 (recsCells l1) hs h1 hx ?_
    have := h a1 c1 w (by rw [List.append_nil]; exact h1) ⟨rfl, rfl, rfl, Nat.le_refl _, fun _ _ _ => rfl⟩ (fun k hk => .inl hk)
    exact this
  · obtain ⟨rfl, rfl⟩ : a2 = some ⟨g, 0, none⟩ ∧ c2 = cap := by
      have hv' : Value.slice a2 m2 c2 = .slice (some ⟨g, 0, none⟩) m2 cap := hv
      injection hv' with e1 e2 e3
      exact ⟨e1, e3⟩
    refine wpList_append_own_at w hgd s x 36 ho B 83 ti (.agg #[.int .i64 0, .int .i64 0, .bool false, .string ⟨#[]⟩]) 4 40 Tryz.underlying36 i1 i2 i3 i4 rfl (by decide) (.slice a1 m1 c1) m1 (recsCells l1) hs h1 ⟨g, 0, none⟩ m2 c2 (recsCells l2) hx (by rw [recsCells_len, hl2]) ?_ (recs_one l2) (by unfold maxLen; omega) (by omega) hB ?_
    · intro j u hj
      have hadd : (⟨g, 0, none⟩ : Addr).add j = ⟨g, j, none⟩ := by unfold Addr.add; split <;> simp_all
      have hjl : j < m2 * 4 := by
        have := (List.getElem?_eq_some_iff.1 hj).1
        rw [recsCells_len, hl2] at this
        exact this
      rw [hadd, (heap_cells hg).1, ← hj, ← q4, ← Array.getElem?_toList, List.getElem?_take_of_lt hjl]
    · intro v' w' hown hgr _ hat
      obtain ⟨a', c', rfl⟩ : ∃ a' c', v' = .slice a' (m1 + m2) c' := by
        rcases hown.2 with ⟨hv', h0⟩ | ⟨g', cap', _, hv', _⟩
        · exact ⟨none, 0, by rw [hv', h0]⟩
        · exact ⟨_, _, hv'⟩
      refine h a' c' w' (by rw [recsCells_append]; exact hown) hgr (fun k hk => ?_)
      rcases hat with h1 | h1
      · exact .inl (h1.symm.trans hk)
      · rw [hk] at h1
        exact .inr (by have := Option.some.inj h1; omega)

def lateP (p : SeqV) : SeqV × List RecV := pLateFrom p.accs.length 0 p []
def visP (p : SeqV) : SeqV × List RecV := pVisitFrom p.accs.length p.first (lateP p).1 p.room []
def rsOf (p : SeqV) : List RecV := (lateP p).2 ++ (visP p).2
def visF (p : SeqV) : SeqV := { (visP p).1 with first := behindV p.accs.length p.first }
theorem pFillV_go {p : SeqV} (h : p.epochs < 200) : pFillV p = (({ settleV (visF p) (rsOf p) with log := (settleV (visF p) (rsOf p)).log ++ Dk.epoch p.epochs (recs (rsOf p)), epochs := p.epochs + 1, eps := (settleV (visF p) (rsOf p)).eps ++ [⟨(Dk.epoch p.epochs (recs (rsOf p))).toArray⟩] } : SeqV), ((rsOf p).length : Int), (0 : Int)) := by
  unfold pFillV
  rw [if_neg (by omega)]
  rfl

theorem own_addr {w : World} {B e size n c : Nat} {a : Option Addr} {xs : List Value} (h : w.ownsRow B e size (.slice a n c) n xs) : ∀ ad, a = some ad → (Value.slice a n c).ownBlock = some ad.block := by
  intro ad had
  subst had
  rfl

/-- One epoch more. -/
theorem seq_epoch {W X w2 : World} {g : Nat} {F : Nat → Prop} {p : SeqV} (h : SeqAt W g F p) {gA : Nat} {qb : Nat → Option Nat} {aS : Option Addr} {cS : Nat} {lb : TailV} (m : SeqMem W g F p gA qb aS cS lb) {b : ByteArray} {t : List UInt8} {gN cap : Nat} (hb : b.data.toList = t) (hl : (p.log ++ t).length ≤ 2000000) (he : p.epochs + 1 ≤ 200) (hbs : 0 < b.size ∧ b.size ≤ 4232) (hX : Below W.heap.size W X)
    (hown : w2.ownsRow 0 9 1 (.slice (some ⟨gN, 0, none⟩) (p.eps.length + 1) cap) (p.eps.length + 1) (p.eps.map (Value.string ·) ++ [.string b])) (hgr : X.grownBy w2 (Value.slice lb.aE p.eps.length lb.cE).ownBlock) (hat : (Value.slice lb.aE p.eps.length lb.cE).ownBlock = some gN ∨ gN = X.heap.size) :
    SeqPost g F { p with log := p.log ++ t, epochs := p.epochs + 1, eps := p.eps ++ [b] } W (w2.setCell ⟨g, 5, none⟩ (.slice (some ⟨gN, 0, none⟩) (p.eps.length + 1) cap)) := by
  have hsz := hX.size
  have hzY : W.heap.size ≤ w2.heap.size := Nat.le_trans hX.size hgr.size
  have hset : ∀ v, (w2.setCell ⟨g, 5, none⟩ v).heap.size = w2.heap.size := fun v => by simp [World.setCell]
  have hold : ∀ k, k < W.heap.size → (Value.slice lb.aE p.eps.length lb.cE).ownBlock ≠ some k → w2.heap[k]? = W.heap[k]? := fun k hk hne => (hgr.block k (by omega) (fun hh => hne hh.symm)).trans (hX.block k hk)
  have hgS : (Value.slice lb.aE p.eps.length lb.cE).ownBlock ≠ some g := fun e => (m.log.eF g e).2.1 rfl
  have hlt : gN < w2.heap.size := (World.ownsRow.lt hown gN rfl).2
  have hnew : ∀ k, F k → (Value.slice lb.aE p.eps.length lb.cE).ownBlock ≠ some k → gN ≠ k := by
    intro k hk hne e
    rcases hat with h1 | h1
    · exact hne (by rw [← e]; exact h1)
    · have := h.own k hk; omega
  have hgN : gN ≠ g := hnew g h.gF hgS
  have hnA : (Value.slice lb.aE p.eps.length lb.cE).ownBlock ≠ some gA := fun e => (m.log.eF gA e).2.2.1 rfl
  have hnR : (Value.slice lb.aE p.eps.length lb.cE).ownBlock ≠ some lb.gR := fun e => (m.log.eF _ e).2.2.2.1 rfl
  have hnS : ∀ k, (Value.slice aS p.outs.length cS).ownBlock = some k → (Value.slice lb.aE p.eps.length lb.cE).ownBlock ≠ some k := fun k hk e => (m.log.eF k e).2.2.2.2.1 hk
  have hnQ : ∀ i k, qb i = some k → (Value.slice lb.aE p.eps.length lb.cE).ownBlock ≠ some k := fun i k hk e => (m.log.eF k e).2.2.2.2.2 i hk
  have hall : ∀ k, F k → k ≠ g → (Value.slice lb.aE p.eps.length lb.cE).ownBlock ≠ some k → (w2.setCell ⟨g, 5, none⟩ (.slice (some ⟨gN, 0, none⟩) (p.eps.length + 1) cap)).heap[k]? = W.heap[k]? := fun k hk hkg hne => by
    rw [Below.heap_setCell _ _ _ _ (by exact hkg)]
    exact hold k (h.own k hk) hne
  have hA := hall gA m.aF.1 m.aF.2 hnA
  have hAc : ∀ y, (w2.setCell ⟨g, 5, none⟩ (.slice (some ⟨gN, 0, none⟩) (p.eps.length + 1) cap)).cell? ⟨gA, y, none⟩ = W.cell? ⟨gA, y, none⟩ := fun y => World.cell?_of_block (a := ⟨gA, y, none⟩) hA
  refine ⟨fun k => F k ∨ k = gN, ⟨⟨h.fit.n0, h.fit.n8, h.fit.qu, h.fit.qt, h.fit.ro, h.fit.first, he, h.fit.cells, hl, h.fit.outs, h.fit.acc⟩, .inl h.gF, ?_, gA, qb, aS, cS, ⟨some ⟨gN, 0, none⟩, cap, lb.gR⟩, ?_, ⟨?_, ?_, ?_, ?_, ?_, ?_, ?_, m.log.rfit⟩, ?_, ?_, ⟨.inl m.aF.1, m.aF.2⟩, ?_, m.qone, ?_, ?_⟩, ?_, ?_⟩
  · intro k hk
    rw [hset]
    rcases hk with hk | rfl
    · have := h.own k hk; omega
    · exact hlt
  · have hb0 : w2.heap[g]? = _ := (hold g h.block hgS).trans m.blk
    rw [heap_set hb0]
    congr 2
    rw [List.setIfInBounds_toArray]
    show _ = (seqCells { p with log := p.log ++ t, epochs := p.epochs + 1, eps := p.eps ++ [b] } _ _ _).toArray
    congr 1
    unfold seqCells
    simp only [List.length_append, List.length_cons, List.length_nil]
    rfl
  · show (p.eps ++ [b]).length = p.epochs + 1
    rw [List.length_append, m.log.eplen]; rfl
  · show p.log ++ t = (p.eps ++ [b]).flatMap _
    rw [List.flatMap_append, ← m.log.eplog, ← hb]; simp
  · intro x hx
    rcases List.mem_append.1 hx with hx | hx
    · exact m.log.epfit x hx
    · have : x = b := by simpa using hx
      subst this
      exact hbs
  · show World.ownsRow _ 0 _ 1 (.slice (some ⟨gN, 0, none⟩) (p.eps ++ [b]).length cap) (p.eps ++ [b]).length ((p.eps ++ [b]).map _)
    rw [List.length_append, List.map_append]
    refine own_same hown (fun k hk => ?_)
    have e2 : gN = k := by simpa [Value.ownBlock] using hk
    subst e2
    exact Below.heap_setCell _ _ _ _ (by exact hgN)
  · intro k hk
    have e2 : gN = k := by simpa [Value.ownBlock] using hk
    subst e2
    exact ⟨.inr rfl, hgN, hnew gA m.aF.1 hnA, hnew _ m.log.rF.1 hnR, fun e => hnew gN (m.sF gN e).1 (hnS gN e) rfl, fun i e => hnew gN (m.qF i gN e).1 (hnQ i gN e) rfl⟩
  · rw [hall _ m.log.rF.1 m.log.rF.2.1 hnR]; exact m.log.reps
  · exact ⟨.inl m.log.rF.1, m.log.rF.2⟩
  · obtain ⟨arr, hr⟩ := m.row
    exact ⟨arr, hA.trans hr⟩
  · intro i a ha
    exact (m.acc i a ha).same (hAc _) (hAc _) (fun k hk => hall k (m.qF i k hk).1 (m.qF i k hk).2.1 (hnQ i k hk))
  · intro i k hk
    have := m.qF i k hk
    exact ⟨.inl this.1, this.2⟩
  · exact own_same m.outs (fun k hk => hall k (m.sF k hk).1 (m.sF k hk).2.1 (hnS k hk))
  · intro k hk
    have := m.sF k hk
    exact ⟨.inl this.1, this.2⟩
  · exact Kept.set (Kept.grown (Kept.of hX) hgr (fun k hk => .inl (m.log.eF k hk).1)) (.inl h.gF) _
  · intro k hk
    rcases hk with hk | rfl
    · exact .inl hk
    · rcases hat with h1 | h1
      · exact .inl (m.log.eF k h1).1
      · exact .inr (by omega)

def FillRPost (g : Nat) (F : Nat → Prop) (x : SeqV × Int × Int) (w : World) (e : Ending) (w' : World) : Prop := e = .returned (.tuple #[.int .i64 x.2.1, .int .i64 x.2.2]) ∧ SeqPost g F x.1 w w'

set_option maxRecDepth 100000 in
set_option maxHeartbeats 8000000 in
theorem sfill_any (g : Nat) (F : Nat → Prop) (p : SeqV) (w : World) (h : SeqAt w g F p) (hcr : ∀ a ∈ p.accs, a.cr ≤ 2000) (hlog : p.log.length ≤ 1000000) (hall : p.epochs < 200 → (rsOf p).length ≤ 64 ∧ (recs (rsOf p)).all Dk.recOk = true) (ho : p.outs.length + 64 ≤ 1000000) :
    Calls Tryz.prog 72 #[.pointer (some ⟨g, 0, none⟩)] w (FillRPost g F (pFillV p) w) := by
  obtain ⟨ts, hi, hz0, hz1, hz2⟩ := info_parts info_str
  have HIs : Hid (_ ∧ _ ∧ _ ∧ _) := ⟨hi, hz0, hz1, hz2⟩
  clear hi hz0 hz1 hz2
  have hg := h.block
  have hmany := h.fit.many
  obtain ⟨gA, qb, aS, cS, lb, m⟩ := h.mem
  have c5 := (seq_cells m).2.2.2.2.2.1
  have H : Hid _ := h
  clear m h
  obtain ⟨ne, hne⟩ : ∃ n, p.epochs = n := ⟨_, rfl⟩
  rw [hne] at c5 hmany hall
  have HNe : Hid _ := hne
  by_cases hf : 200 ≤ ne
  · have HV : Hid (pFillV p = (p, 0, 9)) := by
      show _ = _
      unfold pFillV
      rw [if_pos (by rw [hne]; exact hf)]
    have hfI : (200 : Int) ≤ (ne : Int) := by omega
    clear hne hall hcr
    go_enter Tryz.func72, Tryz.ntmps72
    go_wp2
    go_ret2
    exact ⟨by rw [HV.out]; rfl, by rw [HV.out]; exact SeqPost.same H.out (Below.refl _ _)⟩
  · have hfI : (ne : Int) < 200 := by omega
    have HV : Hid _ := pFillV_go (p := p) (by rw [hne]; omega)
    obtain ⟨ha1, ha2⟩ := hall (by omega)
    have HA2 : Hid _ := ha2
    have HCr : Hid _ := pLate_acc p.accs.length 0 p [] hcr
    have HSm : Hid _ := pLate_same p.accs.length 0 p []
    clear hall hcr hne ha2
    go_enter Tryz.func72, Tryz.ntmps72
    go_wp2_with fail
    refine (slate_any g F p w H.out).mono ?_
    rintro e w1 ⟨a1, m1, c1, F1, rfl, hO1⟩
    have HO1 : Hid (OutAt w w1 g F F1 (lateP p).1 (lateP p).2 a1 m1 c1) := hO1
    clear hO1
    go_wp2_with fail
    have hv := svisit_any g F1 (lateP p).1 w1 HO1.out.seq HCr.out
    refine hv.mono ?_
    rintro e w2 ⟨a2, m2, c2, F2, rfl, hO2⟩
    have HO2 : Hid (OutAt w1 w2 g F1 F2 (visF p) (visP p).2 a2 m2 c2) := by
      have := hO2
      rw [show (lateP p).1.accs.length = p.accs.length from HSm.out.1, show (lateP p).1.first = p.first from HSm.out.2.1, show (lateP p).1.room = p.room from HSm.out.2.2.1] at this
      exact this
    clear hO2 hv
    have hm1 := HO1.out.len
    have hm2 := HO2.out.len
    have hrl : m1 + m2 ≤ 64 := by
      rw [← hm1, ← hm2, ← List.length_append]; exact ha1
    have hz1 : w.heap.size ≤ w1.heap.size := HO1.out.kept.size
    have hz2 : w1.heap.size ≤ w2.heap.size := HO2.out.kept.size
    have HR1 : Hid (w2.ownsRow w.heap.size 83 4 (.slice a1 m1 c1) m1 (recsCells (lateP p).2)) := own_same HO1.out.own (fun y hy => HO2.out.kept.block y (HO1.out.own.lt y hy).2 (HO1.out.free y hy))
    have HR2 : Hid (w2.ownsRow w.heap.size 83 4 (.slice a2 m2 c2) m2 (recsCells (visP p).2)) := own_base HO2.out.own hz1
    have HRl : Hid ((rsOf p).length = m1 + m2) := by
      show ((lateP p).2 ++ (visP p).2).length = _
      rw [List.length_append, hm1, hm2]
    clear hm1 hm2
    go_wp2_with (at_builtin; refine wpList_append_all2 rfl (.tmp 18) (.tmp 19) rfl w.heap.size a1 m1 c1 (lateP p).2 rfl HR1.out a2 m2 c2 (visP p).2 rfl HR2.out (by omega) (by omega) ?_)
    intro a3 c3 w3 hown3 hgr3 hat3
    have hF2 : ∀ k, F2 k → (Value.slice a1 m1 c1).ownBlock ≠ some k := fun k hk hh => by
      rcases HO2.out.new k hk with h4 | h4
      · exact HO1.out.free k hh h4
      · have := (HO1.out.own.lt k hh).2; omega
    have HS3 : Hid (SeqAt w3 g F2 (visF p)) := HO2.out.seq.same hgr3.size (fun k hk => hgr3.block k (HO2.out.seq.own k hk) (fun hh => hF2 k hk hh.symm))
    have HK3 : Hid (Kept F w w3) := by
      have k1 := HO1.out.kept.trans HO2.out.kept (fun x hx hf => by rcases HO1.out.new x hf with h4 | h4; exact h4; omega)
      exact k1.grown hgr3 (fun k hk => .inr (HR1.out.lt k hk).1)
    have HRow : Hid (RecRow w3 a3 (m1 + m2) (rsOf p)) := recrow_own hown3 HRl.out (fun r hr => by
      rcases List.mem_append.1 hr with hr | hr
      · exact HO1.out.small r hr
      · exact HO2.out.small r hr)
    have HFr : Hid (∀ ad, a3 = some ad → ¬ F2 ad.block ∧ ad.block < w3.heap.size) := fun ad had => by
      have hb := own_addr hown3 ad had
      refine ⟨fun hf => ?_, (World.ownsRow.lt hown3 _ hb).2⟩
      rcases hat3 _ hb with h4 | h4
      · exact hF2 _ hf h4
      · have := HO2.out.seq.own _ hf; omega
    have HN3 : Hid (∀ k, F2 k → F k ∨ w.heap.size ≤ k) := fun k hk => by
      rcases HO2.out.new k hk with h4 | h4
      · exact HO1.out.new k h4
      · exact .inr (by omega)
    have HOl : Hid ((visF p).outs = p.outs ∧ (visF p).epochs = ne ∧ (visF p).log = p.log) := by
      obtain ⟨_, v2, v3, v4⟩ := pVisit_same p.accs.length p.first (lateP p).1 p.room []
      exact ⟨v3.trans HSm.out.2.2.2.2.1, (v2.trans HSm.out.2.2.2.1).trans HNe.out, v4.trans HSm.out.2.2.2.2.2⟩
    clear hown3 hgr3 hat3 hF2
    obtain ⟨M, hM⟩ : ∃ x, m1 + m2 = x := ⟨_, rfl⟩
    rw [hM] at hrl HRl HRow
    rewrite [hM]
    clear hM
    obtain ⟨p2, hp2⟩ : ∃ x : SeqV, (visF p) = x := ⟨_, rfl⟩
    rw [hp2] at HS3 HOl HV
    clear hp2 HO1 HO2 HR1 HR2 HSm HCr
    go_wp2_with fail
    refine (ssettle_any g F2 p2 a3 M c3 (rsOf p) w3 HS3.out HRow.out (fun ad had => (HFr.out ad had).2) (fun ad had => (HFr.out ad had).1) hrl (by rw [HOl.out.1]; omega)).mono ?_
    rintro e w4 ⟨rfl, F4, hT4⟩
    have HT4 : Hid _ := hT4
    have hg4 := hT4.seq.block
    obtain ⟨gA4, qb4, aS4, cS4, ⟨aE4, cE4, gR4⟩, m4⟩ := hT4.seq.mem
    have d5 := (seq_cells m4).2.2.2.2.2.1
    have fz4 := (seq_cells m4).2.2.2.2.2.2.2
    rw [show (settleV p2 (rsOf p)).epochs = ne from (settle_accs _ _).2.1.trans HOl.out.2.1] at d5
    clear m4 hT4
    have HFo : Hid (Dk.frameOk (ne : Int) (recs (rsOf p)) = true) := by
      show _ = _
      unfold Dk.frameOk
      rw [decide_eq_true ⟨by omega, hfI⟩, decide_eq_true (by rw [recs, List.length_map]; omega), HA2.out]; rfl
    go_wp2_with fail
    refine (write_any (ne : Int) a3 M c3 (rsOf p) w4 (by unfold maxLen; omega) HT4.out.row).mono ?_
    rintro e w5 ⟨b, rfl, hb, hB5⟩
    rewrite [HFo.out]
    rw [HFo.out] at hb
    have HBb : Hid (b.data.toList = Dk.epoch ne (recs (rsOf p))) := hb
    have HBs : Hid (0 < b.size ∧ b.size ≤ 4232) := by
      have := epoch_small HFo.out
      have h2 := congrArg List.length HBb.out
      have h3 := Dk.epoch_pos ne (recs (rsOf p))
      rw [len_list] at h2
      rw [Int.toNat_natCast] at this
      exact ⟨by omega, by omega⟩
    have HS5 : Hid (SeqAt w5 g F4 (settleV p2 (rsOf p))) := HT4.out.seq.below hB5
    have HB5 : Hid _ := hB5
    clear hb hB5 d5 fz4
    have hg5 : g < w5.heap.size := HS5.out.block
    obtain ⟨gA5, qb5, aS5, cS5, ⟨aE, cE, gR⟩, m5⟩ := HS5.out.mem
    have HEp : Hid ((settleV p2 (rsOf p)).epochs = ne ∧ (settleV p2 (rsOf p)).eps.length = ne) := ⟨(settle_accs _ _).2.1.trans HOl.out.2.1, m5.log.eplen.trans ((settle_accs _ _).2.1.trans HOl.out.2.1)⟩
    have e5 := (seq_cells m5).2.2.2.2.2.1
    have fz5 := (seq_cells m5).2.2.2.2.2.2.2
    rw [HEp.out.1] at e5
    have HO5 : Hid (w5.ownsRow 0 9 1 (.slice aE ne cE) ne ((settleV p2 (rsOf p)).eps.map (Value.string ·))) := by
      have := m5.log.row
      rw [HEp.out.2] at this
      exact this
    have HGs : Hid ((Value.slice aE ne cE).ownBlock ≠ some g) := by
      have h1 := m5.log.eF g
      rw [HEp.out.2] at h1
      exact fun e => (h1 e).2.1 rfl
    have HM5 : Hid _ := m5
    clear m5
    have HK5 : Hid (∀ (o : Obj) (W9 : World), (w5.alloc o).grownBy W9 (Value.slice aE ne cE).ownBlock → (∀ x, W9.frozen? ⟨g, x, none⟩ = false) ∧ g < W9.heap.size ∧ W9.cell? ⟨g, 5, none⟩ = some (.slice aE ne cE)) := fun o W9 hgr => by
      have hz : (w5.alloc o).heap.size = w5.heap.size + 1 := by show (w5.alloc o).heap.size = _; simp
      have hb : W9.heap[g]? = (w5.alloc o).heap[g]? := hgr.block _ (by rw [hz]; omega) (fun hh => HGs.out hh.symm)
      have hb3 : (w5.alloc o).heap[g]? = w5.heap[g]? := heap_old hg5
      exact ⟨fun x => (World.frozen?_of_block (a := ⟨g, x, none⟩) (hb.trans hb3)).trans (fz5 x), by have := hgr.size; rw [hz] at this; omega, (World.cell?_of_block (a := ⟨g, 5, none⟩) (hb.trans hb3)).trans e5⟩
    go_wp2_with (at_builtin; refine wpList_append_lies _ rfl (.tmp 38) (.tmp 40) 98 rfl 0 9 ts (.string ⟨#[]⟩) 1 16 Tryz.underlying98 HIs.out.1 HIs.out.2.1 HIs.out.2.2.1 HIs.out.2.2.2 rfl (by decide) (.slice aE ne cE) ne ((settleV p2 (rsOf p)).eps.map (Value.string ·)) rfl (HO5.out.alloc _) ⟨w5.heap.size, 0, none⟩ 1 1 [.string b] rfl rfl ?c1 ?c2 ?c3 ?c4 ?c5 ?c6 _ rfl ?_)
    try (case c1 => exact cells_new _ _ rfl [.string b] _)
    case c2 => first | (intro u hu; simp only [List.mem_cons, List.not_mem_nil, or_false] at hu; rcases hu with rfl; rfl) | rfl | exact ⟨rfl⟩
    try (case c3 => decide)
    try (case c4 => unfold maxLen; omega)
    try (case c5 => omega)
    try (case c6 => exact Nat.zero_le _)
    intro gN cap w6 hown hgr hat hlt6
    obtain ⟨f6, z6, e6⟩ := HK5.out _ _ hgr
    all_goals
      have HP : Hid (SeqPost g F4 (pFillV p).1 w5 (w6.setCell ⟨g, 5, none⟩ (.slice (some ⟨gN, 0, none⟩) (ne + 1) cap))) := by
        have hl := HEp.out.2
        have hq := seq_epoch HS5.out HM5.out (b := b) (gN := gN) (cap := cap) (w2 := w6) HBb.out (by
          rw [List.length_append, (settle_accs _ _).2.2.2.2, HOl.out.2.2]
          have h2 := congrArg List.length HBb.out
          have h3 := HBs.out
          rw [len_list] at h2
          omega) (by rw [HEp.out.1]; omega) HBs.out ((Below.refl _ _).alloc (Nat.le_refl _) _) (by rw [hl]; exact hown) (by rw [hl]; exact hgr) (by rw [hl, show (w5.alloc (Obj.cells #[Value.string b] 9)).heap.size = w5.heap.size + 1 from by simp]; exact hat)
        have hbe : b = ⟨(Dk.epoch ne (recs (rsOf p))).toArray⟩ := bytes_eq (by rw [HBb.out])
        rw [hl, HEp.out.1, hbe] at hq
        show SeqPost _ _ _ _ _
        rw [HV.out, HNe.out]
        exact hq
      clear hown hgr hat hlt6 HK5 HO5 HM5 HS5
      go_wp2
      go_ret2
      refine ⟨?_, ?_⟩
      · rw [HV.out]
        show _ = Ending.returned (.tuple #[.int .i64 ((rsOf p).length : Int), .int .i64 0])
        rw [HRl.out]
        rfl
      · have hk4 : Kept F w w4 := HK3.out.trans HT4.out.kept (fun x hx hf => by rcases HN3.out x hf with h4 | h4; exact h4; omega)
        refine SeqPost.trans (hk4.then HB5.out) (fun k hk => ?_) HP.out
        rcases HT4.out.new k hk with h4 | h4
        · exact HN3.out k h4
        · have := HK3.out.size; exact .inr (by omega)

end Go.Proofs.YtccckonckddadaaGreat
namespace Go.Proofs.YtccckonckddadaaGreat
set_option linter.unusedVariables false

/-! ### What an epoch's records are -/
theorem lateFrom_count : ∀ (r i : Nat) (s : CluV) (l : List RecV), CluFit s → i + r ≤ 8 → (recs l).all Dk.recOk = true → (lateFrom r i s l).2.length + waiting (lateFrom r i s l).1 = l.length + waiting s ∧ (recs (lateFrom r i s l).2).all Dk.recOk = true
  | 0, i, s, l, hf, _, hl => ⟨rfl, hl⟩
  | r + 1, i, s, l, hf, h8, hl => by
    obtain ⟨y1, y2, y3, y4, y5⟩ := lateV_mild hf (client := (i : Int)) (by omega) (by omega)
    obtain ⟨z1, z2⟩ := lateFrom_count r (i + 1) (lateV s i).1 (l ++ (lateV s i).2) y2 (by omega) (recs_all hl y5)
    rw [late_step]
    refine ⟨?_, z2⟩
    rw [z1, List.length_append]
    omega
theorem visitFrom_count : ∀ (r i : Nat) (s : CluV) (room : Int) (l : List RecV), CluFit s → (i : Int) + r ≤ s.conf.clients → 0 ≤ room → (∀ j : Nat, i ≤ j → (j : Int) < s.conf.clients → s.credit.getD ((s.first + j) % s.conf.clients).toNat 0 ≤ 8 * (s.epochs.length : Int)) → (recs l).all Dk.recOk = true →
    (visitFrom r i s room l).2.length + waiting (visitFrom r i s room l).1 = l.length + waiting s ∧ (recs (visitFrom r i s room l).2).all Dk.recOk = true
  | 0, i, s, room, l, hf, _, _, _, hl => ⟨rfl, hl⟩
  | r + 1, i, s, room, l, hf, hn, hr, hc, hl => by
    obtain ⟨e1, e2, _, _⟩ := conf_edges hf.conf
    obtain ⟨t1, t2, t3⟩ := turn_lt (f := s.first) (i := i) (by omega : 0 < s.conf.clients) e2
    obtain ⟨y1, y2, y3, y4, y5, y6, y7⟩ := visitV_mild hf t1 hr (hc i (Nat.le_refl _) (by omega))
    rw [visitFrom]
    obtain ⟨z1, z2⟩ := visitFrom_count r (i + 1) _ _ (l ++ (visitV s ((s.first + i) % s.conf.clients).toNat room).2.1) y2 (by rw [y1.conf]; omega) y6 (fun j hj hjn => by
      rw [y1.conf] at hjn
      rw [y1.conf, y1.first, y1.epochs]
      have hne := turn_ne hf.first0 hf.first1 hjn (by omega : (i : Int) < s.conf.clients) (by omega : j ≠ i)
      rw [List.getD_eq_getElem?_getD, y5 _ hne, ← List.getD_eq_getElem?_getD]
      exact hc j (by omega) hjn) (recs_all hl y4)
    refine ⟨?_, z2⟩
    rw [z1, List.length_append]
    omega

theorem logV_le2 (s : CluV) (hf : CluFit s) : ∀ n, n ≤ s.epochs.length → (logV s n).length ≤ 4232 * n
  | 0, _ => by simp [logV, Dk.logFrom]
  | n + 1, h => by
    have ih := logV_le2 s hf n (by omega)
    have hg := List.getElem?_eq_getElem (show n < s.epochs.length by omega)
    rw [log_snoc hg, List.length_append]
    have hep := hf.ep _ (List.mem_of_getElem? hg)
    have HF : Dk.frameOk (n : Int) (recs s.epochs[n]) = true := by
      have := hf.many
      unfold Dk.frameOk
      rw [decide_eq_true ⟨by omega, by omega⟩, decide_eq_true (by rw [recs, List.length_map]; exact hep.1), hep.2]; rfl
    have h2 := epoch_small HF
    rw [Int.toNat_natCast] at h2
    omega

/-- What Fill asks for. -/
theorem fill_ready {p : SeqV} {s : CluV} (h : Sim p s) (hf : CluFit s) (hr : Rest s) : (∀ a ∈ p.accs, a.cr ≤ 2000) ∧ p.log.length ≤ 1000000 ∧ ((rsOf p).length ≤ 64 ∧ (recs (rsOf p)).all Dk.recOk = true) := by
  have hmany := hf.many
  obtain ⟨e1, e2, e3, _⟩ := conf_edges hf.conf
  have hcl := h.many
  refine ⟨fun a ha => ?_, ?_, ?_⟩
  · obtain ⟨i, hi⟩ := List.getElem?_of_mem ha
    rw [h.acc i (List.getElem?_eq_some_iff.1 hi).1] at hi
    cases hi
    have := hr.credit i
    show s.credit.getD i 0 ≤ 2000
    omega
  · have := logV_le2 s hf s.epochs.length (Nat.le_refl _)
    rw [h.log.1]
    omega
  · obtain ⟨l1, l2, l3, l4, l5, l6⟩ := lateFrom_sim p.accs.length 0 s p [] h hf (by omega)
    obtain ⟨y1, y2, y3⟩ := lateFrom_mild p.accs.length 0 s [] hf (by omega)
    have hq : ∀ c : Nat, (queueV (lateFrom p.accs.length 0 s []).1.txs c).length ≤ 64 := fun c => by
      have h1 := y1.queue (c : Int)
      have h2 := hr.queue c
      have h3 := hf.conf
      unfold confOk at h3
      simp only [Bool.and_eq_true, decide_eq_true_eq] at h3
      omega
    have hv := visitFrom_sim (pLateFrom p.accs.length 0 p []).2 p.accs.length 0 (lateFrom p.accs.length 0 s []).1 (pLateFrom p.accs.length 0 p []).1 s.conf.room [] (by rw [List.append_nil]; exact l2) y2 (by rw [y1.conf]; omega) e3 (fun j _ _ => by rw [y3, y1.epochs]; exact hr.credit _) hq
    rw [y1.first, y1.conf, mod_first hf.first0 hf.first1, List.append_nil, show s.first.toNat = p.first from by have := h.first; omega] at hv
    obtain ⟨c1, c2⟩ := lateFrom_count p.accs.length 0 s [] hf (by omega) rfl
    obtain ⟨d1, d2⟩ := visitFrom_count p.accs.length 0 (lateFrom p.accs.length 0 s []).1 s.conf.room (pLateFrom p.accs.length 0 p []).2 y2 (by rw [y1.conf]; omega) e3 (fun j _ _ => by rw [y3, y1.epochs]; exact hr.credit _) (by rw [← l1]; exact c2)
    rw [hv.1] at d1 d2
    have hw := waiting_le hf hr.queue
    have hrs : rsOf p = (pLateFrom p.accs.length 0 p []).2 ++ (pVisitFrom p.accs.length p.first (pLateFrom p.accs.length 0 p []).1 s.conf.room []).2 := by
      unfold rsOf visP lateP
      rw [h.room]
    rw [hrs]
    refine ⟨?_, d2⟩
    rw [← l1] at d1
    have hnil : ([] : List RecV).length = 0 := rfl
    rw [l1] at d1
    have hc1 := c1
    rw [l1] at hc1
    omega

theorem fill_outs {p : SeqV} (h : p.outs.length ≤ 64 * p.epochs) (hr : (rsOf p).length ≤ 64) : (pFillV p).1.outs.length ≤ 64 * (pFillV p).1.epochs := by
  by_cases he : p.epochs < 200
  · rw [pFillV_go he]
    show (settleV (visF p) (rsOf p)).outs.length ≤ 64 * (p.epochs + 1)
    rw [settle_len]
    have h1 : (visF p).outs = p.outs := by
      obtain ⟨_, _, v3, _⟩ := pVisit_same p.accs.length p.first (lateP p).1 p.room []
      exact v3.trans (pLate_same p.accs.length 0 p []).2.2.2.2.1
    rw [h1]
    omega
  · unfold pFillV
    rw [if_pos (by omega)]
    exact h
theorem submit_outs {p : SeqV} {client id : Int} {t : ByteArray} {d : Int} : (pSubmitV p client id t d).1.outs = p.outs ∧ (pSubmitV p client id t d).1.epochs = p.epochs := by
  unfold pSubmitV
  iterate 6 (split; exact ⟨rfl, rfl⟩)
  exact ⟨rfl, rfl⟩

theorem settle_states : ∀ (l : List RecV) (p : SeqV), (∀ y ∈ p.outs, 0 ≤ y.s ∧ y.s ≤ 3) → ∀ y ∈ (settleV p l).outs, 0 ≤ y.s ∧ y.s ≤ 3
  | [], p, h => h
  | r :: l, p, h => by
    refine settle_states l (settle1 p r) (fun y hy => ?_)
    rcases List.mem_append.1 hy with hy | hy
    · exact h y hy
    · have : y = ⟨r.i, (doRec r p.cells).2, p.epochs⟩ := by simpa using hy
      subst this
      show 0 ≤ (doRec r p.cells).2 ∧ (doRec r p.cells).2 ≤ 3
      unfold doRec
      split
      · exact ⟨show (0 : Int) ≤ 3 by decide, show (3 : Int) ≤ 3 by decide⟩
      split
      · show (0 : Int) ≤ (if _ then 1 else 2) ∧ (if _ then (1 : Int) else 2) ≤ 3
        split <;> exact ⟨by decide, by decide⟩
      · exact ⟨show (0 : Int) ≤ 2 by decide, show (2 : Int) ≤ 3 by decide⟩
/-- What became of those that wait no longer. -/
def OutsOk (p : SeqV) : Prop := p.outs.length ≤ 64 * p.epochs ∧ ∀ y ∈ p.outs, 0 ≤ y.s ∧ y.s ≤ 3
theorem fill_outsOk {p : SeqV} (h : OutsOk p) (hr : (rsOf p).length ≤ 64) : OutsOk (pFillV p).1 := by
  refine ⟨fill_outs h.1 hr, ?_⟩
  by_cases he : p.epochs < 200
  · rw [pFillV_go he]
    have h1 : (visF p).outs = p.outs := by
      obtain ⟨_, _, v3, _⟩ := pVisit_same p.accs.length p.first (lateP p).1 p.room []
      exact v3.trans (pLate_same p.accs.length 0 p []).2.2.2.2.1
    exact settle_states (rsOf p) (visF p) (by rw [h1]; exact h.2)
  · unfold pFillV
    rw [if_pos (by omega)]
    exact h.2
theorem submit_outsOk {p : SeqV} (h : OutsOk p) {client id : Int} {t : ByteArray} {d : Int} : OutsOk (pSubmitV p client id t d).1 := by
  obtain ⟨h1, h2⟩ := submit_outs (p := p) (client := client) (id := id) (t := t) (d := d)
  unfold OutsOk
  rw [h1, h2]
  exact h
theorem reply_state {p : SeqV} (h : OutsOk p) (id : Int) : 0 ≤ (pReplyV p id).1 ∧ (pReplyV p id).1 ≤ 3 := by
  unfold pReplyV
  cases ho : outV p id with
  | some x => exact h.2 x (List.mem_of_find?_eq_some ho)
  | none =>
    simp only
    split <;> exact ⟨show (0 : Int) ≤ 0 by decide, show (0 : Int) ≤ 3 by decide⟩

end Go.Proofs.YtccckonckddadaaGreat
