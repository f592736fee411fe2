import Derived.Test.YtccckonckddadaaJ37
import Derived.Test.YtccckonckddadaaJ12
import Derived.Deep.MidRow
namespace Go.Proofs.Ytccckonckddadaa
open Go.RowKit
set_option linter.unusedVariables false

/-! ### cells -/
def cellsR (s : CluV) (r : Nat) : List Int := doneEps zero8 (s.epochs.take (s.reps.getD r (0, 0)).1.toNat)
theorem cellsR_len (s : CluV) (r : Nat) : (cellsR s r).length = 8 := doneEps_len8 _ rfl
theorem abc_key : ∀ k : Fin 8, (⟨#[97, 98, 99, 100, 101, 102, 103, 104]⟩ : ByteArray).extract k.1 (k.1 + 1) = ⟨#[UInt8.ofNat (97 + k.1)]⟩ := by decide
theorem get_key {s : CluV} {r k : Nat} (hr : (r : Int) ≤ s.conf.reps - 1) (hk : k < 8) : getV s (r : Int) ⟨#[UInt8.ofNat (97 + k)]⟩ = ((cellsR s r).getD k 0, 0) := by
  unfold getV
  have e : ((⟨#[UInt8.ofNat (97 + k)]⟩ : ByteArray).data.toList.headD 0).toNat = 97 + k := by
    show (UInt8.ofNat (97 + k)).toNat = 97 + k
    rw [UInt8.toNat_ofNat']
    omega
  have hko : keyOk ⟨#[UInt8.ofNat (97 + k)]⟩ = true := by
    unfold keyOk
    rw [e]
    unfold Dk.isK
    rw [decide_eq_true (by rfl), decide_eq_true (by omega)]; rfl
  rw [if_neg (by omega), if_neg (by rw [hko]; simp), e, Int.toNat_natCast]
  rw [show 97 + k - 97 = k from by omega]; rfl

def int8 (l : List Int) : List Value := l.map (Value.int .i64 ·)
def part8 (ys : List Int) (k : Nat) : List Int := ys.take k ++ List.replicate (8 - k) 0
theorem part_set {ys : List Int} (h : ys.length = 8) {k : Nat} (hk : k < 8) : (part8 ys k).set k (ys.getD k 0) = part8 ys (k + 1) := by
  unfold part8
  have h1 : (ys.take k).length = k := by rw [List.length_take]; omega
  rw [List.set_append_right _ _ (by omega), h1, Nat.sub_self, show 8 - k = (8 - (k + 1)) + 1 from by omega, List.replicate_succ, List.set_cons_zero, List.take_succ_eq_append_getElem (by omega), List.append_assoc, List.getD_eq_getElem?_getD, List.getElem?_eq_getElem (by omega)]
  rfl

def CellsPost (ys : List Int) (w : World) (e : Ending) (w' : World) : Prop :=
  ∃ y0 y1 y2 y3 y4 y5 y6 y7 : Int, e = .returned (.tuple #[.agg #[.int .i64 y0, .int .i64 y1, .int .i64 y2, .int .i64 y3, .int .i64 y4, .int .i64 y5, .int .i64 y6, .int .i64 y7], .bool true]) ∧ ys = [y0, y1, y2, y3, y4, y5, y6, y7] ∧ Below w.heap.size w w'

set_option maxRecDepth 100000 in
set_option maxHeartbeats 8000000 in
theorem kcells_any (g : Nat) (F : Nat → Prop) (p : SeqV) (s : CluV) (r : Nat) (w : World) (h : SeqAt w g F p) (hB : Both p s) (hr : (r : Int) ≤ s.conf.reps - 1) :
    Calls Try.prog 30 #[.pointer (some ⟨g, 0, none⟩), .int .i64 (r : Int)] w (CellsPost (cellsR s r) w) := by
  have H : Hid (_ ∧ _ ∧ _) := ⟨h, hB, hr⟩
  have hl8 := cellsR_len s r
  have HG : Hid (∀ k, k < 8 → getV s (r : Int) ((⟨#[97, 98, 99, 100, 101, 102, 103, 104]⟩ : ByteArray).extract k (k + 1)) = ((cellsR s r).getD k 0, 0)) := fun k hk => by
    rw [abc_key ⟨k, hk⟩]
    exact get_key hr hk
  have HPost : Hid (∀ e w', CellsPost (cellsR s r) w e w' ↔ ∃ y0 y1 y2 y3 y4 y5 y6 y7 : Int, e = .returned (.tuple #[.agg #[.int .i64 y0, .int .i64 y1, .int .i64 y2, .int .i64 y3, .int .i64 y4, .int .i64 y5, .int .i64 y6, .int .i64 y7], .bool true]) ∧ cellsR s r = [y0, y1, y2, y3, y4, y5, y6, y7] ∧ Below w.heap.size w w') := fun _ _ => Iff.rfl
  clear h hB hr
  generalize CellsPost (cellsR s r) w = PP at *
  generalize cellsR s r = ys at *
  go_enter Try.func30, Try.ntmps30
  go_wp2
  obtain ⟨W2, hW2⟩ : ∃ W2, W2 = (w.alloc (.cells #[.int .i64 0, .int .i64 0, .int .i64 0, .int .i64 0, .int .i64 0, .int .i64 0, .int .i64 0, .int .i64 0] 75)).alloc (.cells #[.int .i64 0, .int .i64 0, .int .i64 0, .int .i64 0, .int .i64 0, .int .i64 0, .int .i64 0, .int .i64 0] 75) := ⟨_, rfl⟩
  have HS0 : Hid (Kept (fun k => k = w.heap.size + 1) W2 W2 ∧ W2.heap[w.heap.size + 1]? = some (.cells (int8 (part8 ys 0)).toArray 75)) := ⟨Kept.refl _ _, by rw [hW2]; exact heap_at (by simp)⟩
  have HB2 : Hid (Below w.heap.size w W2 ∧ W2.heap[w.heap.size]? = some (.cells #[.int .i64 0, .int .i64 0, .int .i64 0, .int .i64 0, .int .i64 0, .int .i64 0, .int .i64 0, .int .i64 0] 75)) := by
    rw [hW2]
    exact ⟨((Below.refl _ _).alloc (Nat.le_refl _) _).alloc (by simp) _, (heap_old (by simp)).trans (heap_at rfl)⟩
  have hz2 : W2.heap.size = w.heap.size + 2 := by rw [hW2]; simp
  rewrite [← hW2]
  clear hW2
  go_loopw [7, 8] (fun v7 v8 wr => ∃ (k : Nat), v7 = .bool true ∧ v8 = .int .i64 k ∧ k ≤ 8 ∧ Hid (Kept (fun k => k = w.heap.size + 1) W2 wr ∧ wr.heap[w.heap.size + 1]? = some (.cells (int8 (part8 ys k)).toArray 75))) (fun _ v8 _ => 8 - (intOf v8).toNat)
  case atStart => exact ⟨0, rfl, rfl, Nat.zero_le _, HS0⟩
  case round =>
    obtain ⟨k, rfl, rfl, hk, HL⟩ := hrel
    clear HS0
    by_cases hlt : k < 8
    · have k1 : (k : Int) < 8 := by omega
      have k0 : (0 : Int) ≤ (k : Int) := by omega
      have q2 : (k : Int) + 1 ≤ 8 := by omega
      have q3 : (k : Int) ≤ (k : Int) + 1 := by omega
      have hwq : IntKind.i64.wrap ((k : Int) + 1) = (k : Int) + 1 := wrap_i64_id (by omega) (by omega)
      have HSq : Hid (SeqAt wr g F p) := by
        refine H.out.1.same (by have := HL.out.1.size; omega) (fun x hx => ?_)
        have hxl := H.out.1.own x hx
        exact (HL.out.1.block x (by omega) (by show ¬ x = _; omega)).trans (HB2.out.1.block x hxl)
      have HGe : Hid (Calls Try.prog 54 #[.pointer (some ⟨g, 0, none⟩), .int .i64 (r : Int), .string ((⟨#[97, 98, 99, 100, 101, 102, 103, 104]⟩ : ByteArray).extract k (k + 1))] wr fun e w' => e = .returned (.tuple #[.int .i64 (ys.getD k 0), .int .i64 0]) ∧ Below wr.heap.size wr w') := by
        have h1 := pget_any g F p s (r : Int) ((⟨#[97, 98, 99, 100, 101, 102, 103, 104]⟩ : ByteArray).extract k (k + 1)) wr HSq.out H.out.2.1 (by rw [ByteArray.size_extract]; unfold maxLen; show _ ≤ _; omega)
        rw [HG.out k hlt] at h1
        exact h1
      generalize hyk : ys.getD k 0 = yk at *
      have HYk : Hid _ := hyk
      clear hyk
      go_wp2_with fail
      refine HGe.out.mono ?_
      rintro e w3 ⟨rfl, hb3⟩
      have hbl : w3.heap[w.heap.size + 1]? = some (.cells (int8 (part8 ys k)).toArray 75) := (hb3.block _ (heap_cells HL.out.2).2.2).trans HL.out.2
      have HN : Hid (Kept (fun k => k = w.heap.size + 1) W2 (w3.setCell ⟨w.heap.size + 1, k, none⟩ (.int .i64 yk)) ∧ (w3.setCell ⟨w.heap.size + 1, k, none⟩ (.int .i64 yk)).heap[w.heap.size + 1]? = some (.cells (int8 (part8 ys (k + 1))).toArray 75)) := by
        refine ⟨Kept.set (F := fun k => k = w.heap.size + 1) (HL.out.1.then hb3) (.inl rfl) _, ?_⟩
        rw [heap_set hbl, List.setIfInBounds_toArray]
        unfold int8
        rw [← List.map_set, ← HYk.out, part_set hl8 hlt]
      obtain ⟨cb, fb, zb⟩ := heap_cells hbl
      have ck : (w3.cell? ⟨w.heap.size + 1, k, none⟩).isSome = true := by
        rw [cb, List.getElem?_toArray]
        have hlen : (int8 (part8 ys k)).length = 8 := by
          unfold int8 part8
          rw [List.length_map, List.length_append, List.length_take, List.length_replicate]; omega
        rw [List.getElem?_eq_getElem (by omega)]; rfl
      obtain ⟨ov, hov⟩ := Option.isSome_iff_exists.1 ck
      clear hb3 hbl cb ck HGe
      go_wp2
      go_roundw
      case rel => exact ⟨k + 1, rfl, by go_num, by omega, HN⟩
      case measure => simp [intOf]; omega
    · have hk8 : k = 8 := by omega
      subst hk8
      obtain ⟨y0, y1, y2, y3, y4, y5, y6, y7, hys⟩ := list8' ys hl8
      have hp8 : part8 ys 8 = [y0, y1, y2, y3, y4, y5, y6, y7] := by rw [hys]; rfl
      have hbl := HL.out.2
      rw [hp8] at hbl
      obtain ⟨cb, fb, zb⟩ := heap_cells hbl
      have hb0 : wr.heap[w.heap.size]? = some (.cells #[.int .i64 0, .int .i64 0, .int .i64 0, .int .i64 0, .int .i64 0, .int .i64 0, .int .i64 0, .int .i64 0] 75) := (HL.out.1.block w.heap.size (by omega) (by show ¬ w.heap.size = _; omega)).trans HB2.out.2
      obtain ⟨c0, f0, z0⟩ := heap_cells hb0
      have hyy : Hid _ := hys
      have HBe : Hid (Below w.heap.size w wr) := by
        have hz := HL.out.1.size
        refine ⟨HL.out.1.os.trans HB2.out.1.os, HL.out.1.tape.trans HB2.out.1.tape, HL.out.1.output.trans HB2.out.1.output, by omega, fun i hi => ?_⟩
        exact (HL.out.1.block i (by omega) (by show ¬ i = _; omega)).trans (HB2.out.1.block i hi)
      have d0 : wr.cell? ⟨w.heap.size + 1, 0, none⟩ = some (.int .i64 y0) := by rw [cb]; rfl
      have d1 : wr.cell? ⟨w.heap.size + 1, 1, none⟩ = some (.int .i64 y1) := by rw [cb]; rfl
      have d2 : wr.cell? ⟨w.heap.size + 1, 2, none⟩ = some (.int .i64 y2) := by rw [cb]; rfl
      have d3 : wr.cell? ⟨w.heap.size + 1, 3, none⟩ = some (.int .i64 y3) := by rw [cb]; rfl
      have d4 : wr.cell? ⟨w.heap.size + 1, 4, none⟩ = some (.int .i64 y4) := by rw [cb]; rfl
      have d5 : wr.cell? ⟨w.heap.size + 1, 5, none⟩ = some (.int .i64 y5) := by rw [cb]; rfl
      have d6 : wr.cell? ⟨w.heap.size + 1, 6, none⟩ = some (.int .i64 y6) := by rw [cb]; rfl
      have d7 : wr.cell? ⟨w.heap.size + 1, 7, none⟩ = some (.int .i64 y7) := by rw [cb]; rfl
      clear hys hp8 hbl cb
      go_wp2
      have HW : Hid (((((((((wr.setCell ⟨w.heap.size, 0, none⟩ (.int .i64 y0)).setCell ⟨w.heap.size, 1, none⟩ (.int .i64 y1)).setCell ⟨w.heap.size, 2, none⟩ (.int .i64 y2)).setCell ⟨w.heap.size, 3, none⟩ (.int .i64 y3)).setCell ⟨w.heap.size, 4, none⟩ (.int .i64 y4)).setCell ⟨w.heap.size, 5, none⟩ (.int .i64 y5)).setCell ⟨w.heap.size, 6, none⟩ (.int .i64 y6)).setCell ⟨w.heap.size, 7, none⟩ (.int .i64 y7)).heap[w.heap.size]? = some (.cells #[.int .i64 y0, .int .i64 y1, .int .i64 y2, .int .i64 y3, .int .i64 y4, .int .i64 y5, .int .i64 y6, .int .i64 y7] 75) ∧ Below w.heap.size w ((((((((wr.setCell ⟨w.heap.size, 0, none⟩ (.int .i64 y0)).setCell ⟨w.heap.size, 1, none⟩ (.int .i64 y1)).setCell ⟨w.heap.size, 2, none⟩ (.int .i64 y2)).setCell ⟨w.heap.size, 3, none⟩ (.int .i64 y3)).setCell ⟨w.heap.size, 4, none⟩ (.int .i64 y4)).setCell ⟨w.heap.size, 5, none⟩ (.int .i64 y5)).setCell ⟨w.heap.size, 6, none⟩ (.int .i64 y6)).setCell ⟨w.heap.size, 7, none⟩ (.int .i64 y7))) := by
        refine ⟨set8 hb0 (.int .i64 y0) (.int .i64 y1) (.int .i64 y2) (.int .i64 y3) (.int .i64 y4) (.int .i64 y5) (.int .i64 y6) (.int .i64 y7), ?_⟩
        iterate 8 refine Below.setCell ?_ (by exact Nat.le_refl _) _
        exact HBe.out
      clear d0 d1 d2 d3 d4 d5 d6 d7 hb0 c0 f0 z0
      generalize ((((((((wr.setCell ⟨w.heap.size, 0, none⟩ (.int .i64 y0)).setCell ⟨w.heap.size, 1, none⟩ (.int .i64 y1)).setCell ⟨w.heap.size, 2, none⟩ (.int .i64 y2)).setCell ⟨w.heap.size, 3, none⟩ (.int .i64 y3)).setCell ⟨w.heap.size, 4, none⟩ (.int .i64 y4)).setCell ⟨w.heap.size, 5, none⟩ (.int .i64 y5)).setCell ⟨w.heap.size, 6, none⟩ (.int .i64 y6)).setCell ⟨w.heap.size, 7, none⟩ (.int .i64 y7)) = W9 at HW ⊢
      obtain ⟨c9, f9, z9⟩ := heap_cells HW.out.1
      refine bodyPost_ret (v := .tuple #[.agg #[.int .i64 y0, .int .i64 y1, .int .i64 y2, .int .i64 y3, .int .i64 y4, .int .i64 y5, .int .i64 y6, .int .i64 y7], .bool true]) (by simp [results, Try.results30, go_sem, c9]) rfl ?_
      exact (HPost.out _ _).2 ⟨y0, y1, y2, y3, y4, y5, y6, y7, rfl, hyy.out, HW.out.2⟩

end Go.Proofs.Ytccckonckddadaa
namespace Go.Proofs.Ytccckonckddadaa
open Go.RowKit
set_option linter.unusedVariables false

/-! ### Fronts -/
theorem kcells_i64 : Try.prog.cellsOf 3 = 1 := by kernel_rfl
theorem kguard_eight : Try.prog.eqGuardType Try.prog.depth 75 = false := by kernel_rfl
theorem kinfo_int : ∃ i, Try.prog.info? 3 = some i := by
  cases h : Try.prog.info? 3 with
  | none => have : (Try.prog.info? 3).isSome = true := by kernel_rfl
            rw [h] at this; cases this
  | some i => exact ⟨i, rfl⟩
set_option maxHeartbeats 1000000 in
theorem kequal_eight (x0 x1 x2 x3 x4 x5 x6 x7 : Int) (W : World) :
    (Op.equalIn 10000 75 (.agg #[.int .i64 x0, .int .i64 x1, .int .i64 x2, .int .i64 x3, .int .i64 x4, .int .i64 x5, .int .i64 x6, .int .i64 x7]) (.agg #[.int .i64 x0, .int .i64 x1, .int .i64 x2, .int .i64 x3, .int .i64 x4, .int .i64 x5, .int .i64 x6, .int .i64 x7])).run Try.prog W = .ok true W := by
  obtain ⟨i, hi⟩ := kinfo_int
  rw [run_equalIn_array W 9999 _ _ Try.underlying75 hi, kcells_i64]
  have hr : List.range 8 = [0, 1, 2, 3, 4, 5, 6, 7] := by decide
  rw [hr]
  simp [Op.eqItems, go_sem]

/-- What a replica that there is tells. -/
theorem rep_tells {p : SeqV} {s : CluV} (h : Both p s) {r : Nat} (hr : (r : Int) ≤ s.conf.reps - 1) : ∃ n : Nat, n ≤ s.epochs.length ∧ countV s (r : Int) = ((n : Int), 0) ∧ diskV s (r : Int) = (logV s n, 0) ∧ cellsR s r = doneEps zero8 (s.epochs.take n) := by
  have hrf := rep_fit h.rep r
  refine ⟨(s.reps.getD r (0, 0)).1.toNat, by omega, ?_, ?_, rfl⟩
  · unfold countV
    rw [if_neg (by omega), Int.toNat_natCast]
    congr 1
    omega
  · unfold diskV
    rw [if_neg (by omega), Int.toNat_natCast]

set_option maxRecDepth 100000 in
set_option maxHeartbeats 8000000 in
theorem fronts_walk (c : ConfV) (a : Option Addr) (m cp : Nat) (w : World) (hr : RawRow w a m) (h1 : In64 c.clients) (h2 : In64 c.queue) (h3 : In64 c.quantum) (h4 : In64 c.room) (h5 : In64 c.reps) (hm : m ≤ 9000000000000000) :
    Calls Try.prog 10 #[.agg #[.int .i64 c.clients, .int .i64 c.queue, .int .i64 c.quantum, .int .i64 c.room, .int .i64 c.reps], .slice a m cp] w fun e w' => e = .returned (.bool true) ∧ Below w.heap.size w w' := by
  have HPl : Hid (∀ W, RawRow W a m → Calls Try.prog 24 #[.agg #[.int .i64 c.clients, .int .i64 c.queue, .int .i64 c.quantum, .int .i64 c.room, .int .i64 c.reps], .slice a m cp] W fun e w' => ∃ (g gB : Nat) (p : SeqV) (s : CluV) (b : BookV), e = .returned (.tuple #[.pointer (some ⟨g, 0, none⟩), .pointer (some ⟨gB, 0, none⟩)]) ∧ KAt W.heap.size (fun _ => False) w' gB g p b ∧ Inv 40 p s b ∧ s.conf = confV c ∧ Below W.heap.size W w') := fun W hW => (played_any c a m cp W hW h1 h2 h3 h4 h5 hm).mono (by
    rintro e w' ⟨g, gB, p, s, b, q1, q2, q3, q4, q5⟩
    exact ⟨g, gB, p, s, b, q1, q2, q3, q4, q5⟩)
  have HCf : Hid (∀ W, Calls Try.prog 27 #[.agg #[.int .i64 c.clients, .int .i64 c.queue, .int .i64 c.quantum, .int .i64 c.room, .int .i64 c.reps]] W fun e w' => e = .returned (.agg #[.int .i64 (confV c).clients, .int .i64 (confV c).queue, .int .i64 (confV c).quantum, .int .i64 (confV c).room, .int .i64 (confV c).reps]) ∧ Below W.heap.size W w') := fun W => conf_any c W h1 h2 h3 h4 h5
  have HR : Hid _ := hr
  clear h1 h2 h3 h4 h5 hr
  obtain ⟨x1, x2, x3, x4, x5⟩ := c
  simp only at HPl HCf
  generalize confV ⟨x1, x2, x3, x4, x5⟩ = cv at *
  obtain ⟨y1, y2, y3, y4, y5⟩ := cv
  simp only at HCf
  have heq := kequal_eight
  have hgd := kguard_eight
  have HBa : Hid (∀ o, Below w.heap.size w (w.alloc o)) := fun o => (Below.refl _ _).alloc (Nat.le_refl _) _
  go_enter Try.func10, Try.ntmps10
  go_wp2_with fail
  refine (HPl.out _ (HR.out.kept (HBa.out _))).mono ?_
  rintro e w1 ⟨g, gB, p, s, b, rfl, hK, hI, hcv, hB1⟩
  obtain ⟨g0, hb0⟩ := below_one hB1
  obtain ⟨cx, fx, zx⟩ := heap_cells g0
  have x0' : w1.cell? ⟨w.heap.size, 0, none⟩ = some (.int .i64 x1) := by rw [cx]; rfl
  have x1' : w1.cell? ⟨w.heap.size, 1, none⟩ = some (.int .i64 x2) := by rw [cx]; rfl
  have x2' : w1.cell? ⟨w.heap.size, 2, none⟩ = some (.int .i64 x3) := by rw [cx]; rfl
  have x3' : w1.cell? ⟨w.heap.size, 3, none⟩ = some (.int .i64 x4) := by rw [cx]; rfl
  have x4' : w1.cell? ⟨w.heap.size, 4, none⟩ = some (.int .i64 x5) := by rw [cx]; rfl
  have HB1 : Hid (Below w.heap.size w w1) := hb0
  have hre := conf_reps hI.both.fit.conf
  rw [hcv] at hre
  simp only at hre
  have HRe : Hid (s.conf.reps = y5) := by show _ = _; rw [hcv]
  have hlog : p.log.length ≤ 1000000 := (fill_ready hI.both.sim hI.both.fit hI.both.rest).2.1
  have HLog : Hid (p.log = logV s s.epochs.length) := hI.both.sim.log.1
  have HBo : Hid (Both p s) := hI.both
  obtain ⟨F, hS, _⟩ := hK.seq
  have HS : Hid _ := hS
  clear hK hI hB1 hS g0 hb0 cx fx hcv
  obtain ⟨R, hR⟩ : ∃ R : Nat, y5 = (R : Int) := ⟨y5.toNat, by omega⟩
  subst hR
  go_wp2_with fail
  refine (HCf.out _).mono ?_
  rintro e w2 ⟨rfl, hb2⟩
  have HB2 : Hid (Below w1.heap.size w1 w2) := hb2
  have hz12 := hb2.size
  clear hb2 x0' x1' x2' x3' x4'
  go_wp2_with fail
  have HB3 : Hid (∀ o, Below w1.heap.size w1 (w2.alloc o)) := fun o => HB2.out.alloc hz12 _
  refine (plog_any g F p _ (HS.out.below (HB3.out _))).mono ?_
  rintro e w3 ⟨lb, rfl, hlb, hb3⟩
  obtain ⟨gn, hbn⟩ := below_one hb3
  have hls : lb.size = p.log.length := by rw [← hlb, len_list]
  have HLb : Hid _ := hlb
  have HLs : Hid (lb.size = p.log.length) := hls
  have hl1 : lb.size ≤ 1000000 := by omega
  clear hls
  have HB4 : Hid (Below w1.heap.size w1 w3) := (HB3.out _).trans (hb3.mono (by simp; omega))
  obtain ⟨gC, hgC⟩ : ∃ x, w2.heap.size = x := ⟨_, rfl⟩
  rw [hgC] at gn
  have HGn : Hid _ := gn
  clear hlb hb3 gn hbn
  have HSr : Hid (SeqAt w3 g F p) := HS.out.below HB4.out
  go_wp2
  try rewrite [hgC]
  clear hgC
  go_loopw [9] (fun v9 wr => ∃ (i : Nat), v9 = .int .i64 i ∧ i ≤ R ∧ Hid (Below w3.heap.size w3 wr)) (fun v9 _ => R - (intOf v9).toNat)
  case atStart => exact ⟨0, rfl, Nat.zero_le _, Below.refl _ _⟩
  case round =>
    obtain ⟨i, rfl, hi, HB⟩ := hrel
    have zc3 := (heap_cells HGn.out).2.2
    have n4 : wr.cell? ⟨gC, 4, none⟩ = some (.int .i64 (R : Int)) := (HB.out.cell (p := ⟨gC, 4, none⟩) zc3).trans (by rw [(heap_cells HGn.out).1]; rfl)
    have zc := Nat.lt_of_lt_of_le zc3 HB.out.size
    by_cases hlt : i < R
    · have i1 : (i : Int) < (R : Int) := by omega
      obtain ⟨ni, hni, hci, hdi, hyi⟩ := rep_tells HBo.out (r := i) (by rw [HRe.out]; omega)
      have HY : Hid _ := hyi
      have hll := logV_le s HBo.out.fit ni hni
      have hm200 := HBo.out.fit.many
      obtain ⟨rest, hrest⟩ := log_front s hni
      have HDi : Hid (Calls Try.prog 28 #[.pointer (some ⟨g, 0, none⟩), .int .i64 (i : Int)] wr fun e w' => e = .returned (.tuple #[.string (bytesOf (logV s ni)), .int .i64 0]) ∧ Below wr.heap.size wr w') := by
        have := pdisk_any g F p s (i : Int) wr (HSr.out.below HB.out) HBo.out
        rw [hdi] at this
        exact this
      have HCi : Hid (∀ W, Below w3.heap.size w3 W → Calls Try.prog 29 #[.pointer (some ⟨g, 0, none⟩), .int .i64 (i : Int)] W fun e w' => e = .returned (.tuple #[.int .i64 (ni : Int), .int .i64 0]) ∧ Below W.heap.size W w') := fun W hW => by
        have := pcount_any g F p s (i : Int) W (HSr.out.below hW) HBo.out
        rw [hci] at this
        exact this
      have HDl : Hid ((bytesOf (logV s ni)).data.toList = logV s ni) := bytesOf_list _
      have hds : (bytesOf (logV s ni)).size = (logV s ni).length := by rw [← HDl.out, len_list, HDl.out]
      have HSc : Hid (Dk.scanV (logV s ni) = (ni, (bytesOf (logV s ni)).size)) := by
        show _ = _
        rw [hds]
        exact scan_disk HBo.out.fit hni
      have hcut : lb.extract 0 (bytesOf (logV s ni)).size = bytesOf (logV s ni) := bytes_eq (by
        rw [ext_take, HLb.out, HLog.out, HDl.out, hds, hrest, List.take_left])
      have hle : (logV s ni).length ≤ lb.size := by
        rw [HLs.out, HLog.out, hrest, List.length_append]
        omega
      rw [← hds] at hle
      have hd1 : (bytesOf (logV s ni)).size ≤ 2000000 := by omega
      clear hci hdi hyi hrest hds hll
      generalize hdd : bytesOf (logV s ni) = dd at *
      clear hdd
      go_wp2_with fail
      refine HDi.out.mono ?_
      rintro e w4 ⟨rfl, hb4⟩
      have HB5 : Hid (Below w3.heap.size w3 w4) := HB.out.trans (hb4.mono HB.out.size)
      clear hb4 HDi
      go_wp2_with fail
      refine (HCi.out w4 HB5.out).mono ?_
      rintro e w5 ⟨rfl, hb5⟩
      have HB6 : Hid (Below w3.heap.size w3 w5) := HB5.out.trans (hb5.mono HB5.out.size)
      clear hb5
      go_wp2_with fail
      refine (pscan_any dd w5 (by unfold maxLen; omega)).mono ?_
      rintro e w6 ⟨rfl, hb6⟩
      rewrite [HDl.out, HSc.out]
      have HB7 : Hid (Below w3.heap.size w3 w6) := HB6.out.trans (hb6.mono HB6.out.size)
      clear hb6
      have hleI : (dd.size : Int) ≤ (lb.size : Int) := by omega
      have hne : (dd.toList != dd.toList) = false := by simp
      simp only
      go_wp2_with fail
      refine (kcells_any g F p s i w6 (HSr.out.below HB7.out) HBo.out (by rw [HRe.out]; omega)).mono ?_
      rintro e w7 ⟨yy0, yy1, yy2, yy3, yy4, yy5, yy6, yy7, rfl, hu, hb7⟩
      obtain ⟨W8, hW8⟩ : ∃ W8, W8 = w7.alloc (.cells #[.int .i64 yy0, .int .i64 yy1, .int .i64 yy2, .int .i64 yy3, .int .i64 yy4, .int .i64 yy5, .int .i64 yy6, .int .i64 yy7] 75) := ⟨_, rfl⟩
      have HB8 : Hid (Below w3.heap.size w3 W8) := by
        rw [hW8]
        exact (HB7.out.trans (hb7.mono HB7.out.size)).alloc (by have := HB7.out.size; have := hb7.size; omega) _
      have HG8 : Hid (W8.heap[w7.heap.size]? = some (.cells #[.int .i64 yy0, .int .i64 yy1, .int .i64 yy2, .int .i64 yy3, .int .i64 yy4, .int .i64 yy5, .int .i64 yy6, .int .i64 yy7] 75)) := by rw [hW8]; exact heap_at rfl
      have HU : Hid _ := hu
      obtain ⟨gX, hgX⟩ : ∃ x, w7.heap.size = x := ⟨_, rfl⟩
      rw [hgX] at HG8
      clear hb7 hu n4 zc hcut hle hleI hne
      go_wp2
      rewrite [← hW8]
      try rewrite [hgX]
      clear hW8 hgX
      have zX := (heap_cells HG8.out).2.2
      go_loopw [18] (fun v18 wx => ∃ (j : Nat), v18 = .int .i64 j ∧ j ≤ i ∧ Hid (Below W8.heap.size W8 wx)) (fun v18 _ => i - (intOf v18).toNat)
      case atStart => exact ⟨0, rfl, Nat.zero_le _, Below.refl _ _⟩
      case round =>
        obtain ⟨j, rfl, hj, HBj⟩ := hrel
        by_cases hjl : j < i
        · have j1 : (j : Int) < (i : Int) := by omega
          obtain ⟨nj, hnj, hcj, _, hyj⟩ := rep_tells HBo.out (r := j) (by rw [HRe.out]; omega)
          have HYj : Hid _ := hyj
          have HSw : Hid (∀ W, Below W8.heap.size W8 W → SeqAt W g F p) := fun W hW => (HSr.out.below HB8.out).below hW
          have HCj : Hid (Calls Try.prog 29 #[.pointer (some ⟨g, 0, none⟩), .int .i64 (j : Int)] wr fun e w' => e = .returned (.tuple #[.int .i64 (nj : Int), .int .i64 0]) ∧ Below wr.heap.size wr w') := by
            have := pcount_any g F p s (j : Int) wr (HSw.out wr HBj.out) HBo.out
            rw [hcj] at this
            exact this
          clear hcj hyj
          go_wp2_with fail
          refine HCj.out.mono ?_
          rintro e w9 ⟨rfl, hb9⟩
          have HB9 : Hid (Below W8.heap.size W8 w9) := HBj.out.trans (hb9.mono HBj.out.size)
          clear hb9 HCj
          go_wp2_with fail
          refine (kcells_any g F p s j w9 (HSw.out w9 HB9.out) HBo.out (by rw [HRe.out]; omega)).mono ?_
          rintro e w10 ⟨v0, v1, v2, v3, v4, v5, v6, v7, rfl, hv, hb10⟩
          have HB11 : Hid (∀ o, Below W8.heap.size W8 (w10.alloc o)) := fun o => (HB9.out.trans (hb10.mono HB9.out.size)).alloc (by have := HB9.out.size; have := hb10.size; omega) _
          have HEq : Hid (nj = ni → [v0, v1, v2, v3, v4, v5, v6, v7] = [yy0, yy1, yy2, yy3, yy4, yy5, yy6, yy7]) := fun e => by rw [← hv, ← HU.out, HYj.out, HY.out, e]
          clear hb10 hv
          by_cases hnn : nj = ni
          · have he := HEq.out hnn
            simp only [List.cons.injEq, and_true] at he
            obtain ⟨rfl, rfl, rfl, rfl, rfl, rfl, rfl, rfl⟩ := he
            subst hnn
            have cX := fun o x => (HB11.out o).cell (p := ⟨gX, x, none⟩) zX
            have dX := (heap_cells HG8.out).1
            have HN : Hid (Below W8.heap.size W8 (w10.alloc (.cells #[.int .i64 v0, .int .i64 v1, .int .i64 v2, .int .i64 v3, .int .i64 v4, .int .i64 v5, .int .i64 v6, .int .i64 v7] 75))) := HB11.out _
            have zX2 : gX < (w10.alloc (.cells #[.int .i64 v0, .int .i64 v1, .int .i64 v2, .int .i64 v3, .int .i64 v4, .int .i64 v5, .int .i64 v6, .int .i64 v7] 75)).heap.size := Nat.lt_of_lt_of_le zX HN.out.size
            have r0 : (w10.alloc (.cells #[.int .i64 v0, .int .i64 v1, .int .i64 v2, .int .i64 v3, .int .i64 v4, .int .i64 v5, .int .i64 v6, .int .i64 v7] 75)).cell? ⟨gX, 0, none⟩ = some (.int .i64 v0) := (cX _ 0).trans (by rw [dX]; rfl)
            have r1 : (w10.alloc (.cells #[.int .i64 v0, .int .i64 v1, .int .i64 v2, .int .i64 v3, .int .i64 v4, .int .i64 v5, .int .i64 v6, .int .i64 v7] 75)).cell? ⟨gX, 1, none⟩ = some (.int .i64 v1) := (cX _ 1).trans (by rw [dX]; rfl)
            have r2 : (w10.alloc (.cells #[.int .i64 v0, .int .i64 v1, .int .i64 v2, .int .i64 v3, .int .i64 v4, .int .i64 v5, .int .i64 v6, .int .i64 v7] 75)).cell? ⟨gX, 2, none⟩ = some (.int .i64 v2) := (cX _ 2).trans (by rw [dX]; rfl)
            have r3 : (w10.alloc (.cells #[.int .i64 v0, .int .i64 v1, .int .i64 v2, .int .i64 v3, .int .i64 v4, .int .i64 v5, .int .i64 v6, .int .i64 v7] 75)).cell? ⟨gX, 3, none⟩ = some (.int .i64 v3) := (cX _ 3).trans (by rw [dX]; rfl)
            have r4 : (w10.alloc (.cells #[.int .i64 v0, .int .i64 v1, .int .i64 v2, .int .i64 v3, .int .i64 v4, .int .i64 v5, .int .i64 v6, .int .i64 v7] 75)).cell? ⟨gX, 4, none⟩ = some (.int .i64 v4) := (cX _ 4).trans (by rw [dX]; rfl)
            have r5 : (w10.alloc (.cells #[.int .i64 v0, .int .i64 v1, .int .i64 v2, .int .i64 v3, .int .i64 v4, .int .i64 v5, .int .i64 v6, .int .i64 v7] 75)).cell? ⟨gX, 5, none⟩ = some (.int .i64 v5) := (cX _ 5).trans (by rw [dX]; rfl)
            have r6 : (w10.alloc (.cells #[.int .i64 v0, .int .i64 v1, .int .i64 v2, .int .i64 v3, .int .i64 v4, .int .i64 v5, .int .i64 v6, .int .i64 v7] 75)).cell? ⟨gX, 6, none⟩ = some (.int .i64 v6) := (cX _ 6).trans (by rw [dX]; rfl)
            have r7 : (w10.alloc (.cells #[.int .i64 v0, .int .i64 v1, .int .i64 v2, .int .i64 v3, .int .i64 v4, .int .i64 v5, .int .i64 v6, .int .i64 v7] 75)).cell? ⟨gX, 7, none⟩ = some (.int .i64 v7) := (cX _ 7).trans (by rw [dX]; rfl)
            clear cX dX
            go_wp2
            go_roundw
            case rel => exact ⟨j + 1, by go_num, by omega, HN⟩
            case measure => simp [intOf]; omega
          · have hnb : ((nj : Int) == (ni : Int)) = false := by rw [beq_eq_false_iff_ne]; omega
            have HN : Hid (Below W8.heap.size W8 (w10.alloc (.cells #[.int .i64 v0, .int .i64 v1, .int .i64 v2, .int .i64 v3, .int .i64 v4, .int .i64 v5, .int .i64 v6, .int .i64 v7] 75))) := HB11.out _
            clear HEq
            go_wp2
            go_roundw
            case rel => exact ⟨j + 1, by go_num, by omega, HN⟩
            case measure => simp [intOf]; omega
        · have hje : j = i := by omega
          subst hje
          have hjj : decide ((j : Int) < (j : Int)) = false := decide_eq_false (by omega)
          have HN : Hid (Below w3.heap.size w3 wr) := HB8.out.trans (HBj.out.mono HB8.out.size)
          go_wp2
          go_roundw
          case rel => exact ⟨j + 1, by go_num, by omega, HN⟩
          case measure => simp [intOf]; omega
    · have hie : i = R := by omega
      subst hie
      have hii : decide ((i : Int) < (i : Int)) = false := decide_eq_false (by omega)
      have hdn : diskV s (i : Int) = ([], 11) := by
        unfold diskV
        rw [if_pos (by rw [HRe.out]; omega)]
      have HDi : Hid (Calls Try.prog 28 #[.pointer (some ⟨g, 0, none⟩), .int .i64 (i : Int)] wr fun e w' => e = .returned (.tuple #[.string (bytesOf []), .int .i64 11]) ∧ Below wr.heap.size wr w') := by
        have := pdisk_any g F p s (i : Int) wr (HSr.out.below HB.out) HBo.out
        rw [hdn] at this
        exact this
      clear hdn
      go_wp2_with fail
      refine HDi.out.mono ?_
      rintro e w4 ⟨rfl, hb4⟩
      have HB5 : Hid (Below w3.heap.size w3 w4) := HB.out.trans (hb4.mono HB.out.size)
      clear hb4 HDi
      go_wp2
      go_ret
      exact ⟨rfl, (HB1.out.trans (HB4.out.mono HB1.out.size)).trans (HB5.out.mono (by have := HB1.out.size; have := HB4.out.size; omega))⟩

end Go.Proofs.Ytccckonckddadaa
