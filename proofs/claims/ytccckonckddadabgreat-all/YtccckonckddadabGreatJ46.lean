import Derived.Test.YtccckonckddadabGreatJ39
import Derived.Test.YtccckonckddadabGreatJ37
import Derived.Test.YtccckonckddadabGreatJ35
import Derived.Test.YtccckonckddadabGreatJ04
import Derived.Test.YtccckonckddadabGreatJ31
namespace Go.Proofs.YtccckonckddadabGreat
open Go.RowKit
set_option linter.unusedVariables false

/-! ### Reply -/
theorem seqCells14 {p : SeqV} (h : p.cells.length = 8) (vA : Value) (lb : TailV) (vS : Value) : (seqCells p vA lb vS)[14]? = some vS := by
  obtain ⟨x0, x1, x2, x3, x4, x5, x6, x7, hx⟩ := list8' p.cells h
  unfold seqCells
  rw [hx]
  rfl
theorem find_take_none {l : List OutV} {id : Int} {k : Nat} (hk : k < l.length) (h : (l.take k).find? (fun x => decide (x.i = id)) = none) : (l.take (k + 1)).find? (fun x => decide (x.i = id)) = if l[k].i = id then some l[k] else none := by
  rw [List.take_succ_eq_append_getElem hk, List.find?_append, h, Option.none_or, List.find?_cons]
  by_cases he : l[k].i = id
  · rw [if_pos he, decide_eq_true he]
  · rw [if_neg he, decide_eq_false he]; rfl
theorem find_hit {l : List OutV} {id : Int} {k : Nat} (hk : k < l.length) (h : (l.take k).find? (fun x => decide (x.i = id)) = none) (he : l[k].i = id) : l.find? (fun x => decide (x.i = id)) = some l[k] := by
  have h1 := find_take_none hk h
  rw [if_pos he] at h1
  conv => lhs; rw [← List.take_append_drop (k + 1) l]
  rw [List.find?_append, h1]; rfl

def ReplyPost (x : Int × Int × Int) (w : World) (e : Ending) (w' : World) : Prop := e = .returned (.tuple #[.agg #[.int .u8 x.1, .int .i64 x.2.1], .int .i64 x.2.2]) ∧ Below w.heap.size w w'

set_option maxRecDepth 100000 in
set_option maxHeartbeats 4000000 in
theorem sreply_any (g : Nat) (F : Nat → Prop) (p : SeqV) (id : Int) (w : World) (h : SeqAt w g F p) :
    Calls Tryz.prog 73 #[.pointer (some ⟨g, 0, none⟩), .int .i64 id] w (ReplyPost (pReplyV p id) w) := by
  have hg := h.block
  have hlen := h.fit.outs
  have h8 := h.fit.n8
  obtain ⟨gA, qb, aS, cS, lb, m⟩ := h.mem
  have hblk := heap_cells m.blk
  have c3 := (seq_cells m).2.2.2.1
  have c15 : w.cell? ⟨g, 14, none⟩ = some (.slice aS p.outs.length cS) := by rw [hblk.1, List.getElem?_toArray]; exact (seqCells14 h.fit.cells _ _ _)
  have HO : Hid _ := m.outs
  have HAcc : Hid _ := m.acc
  have hgA : gA < w.heap.size := h.own gA m.aF.1
  have HFit : Hid _ := h.fit
  have HV : Hid (pReplyV p id = match outV p id with | some x => (x.s, x.e, 0) | none => if p.accs.any (awaits id) then (0, 0, 0) else (0, 0, 10)) := rfl
  have HOV : Hid (outV p id = p.outs.find? (fun x => decide (x.i = id))) := rfl
  clear m h hblk
  obtain ⟨n, hn⟩ : ∃ n, p.outs.length = n := ⟨_, rfl⟩
  obtain ⟨na, hna⟩ : ∃ n, p.accs.length = n := ⟨_, rfl⟩
  rw [hn] at c15 HO hlen
  rw [hna] at c3 h8
  have HNn : Hid (p.outs.length = n ∧ p.accs.length = na) := ⟨hn, hna⟩
  clear hn hna
  go_enter Tryz.func73, Tryz.ntmps73
  go_wp2
  have HB1 : Hid (Below w.heap.size w (w.alloc (.cells #[.int .u8 0, .int .i64 0] 86))) := (Below.refl _ _).alloc (Nat.le_refl _) _
  have HG1 : Hid ((w.alloc (.cells #[.int .u8 0, .int .i64 0] 86)).heap[w.heap.size]? = some (.cells #[.int .u8 0, .int .i64 0] 86)) := heap_at rfl
  generalize w.alloc (.cells #[.int .u8 0, .int .i64 0] 86) = W1 at *
  have d15 := (HB1.out.cell (p := ⟨g, 14, none⟩) hg).trans c15
  have d3 := (HB1.out.cell (p := ⟨g, 3, none⟩) hg).trans c3
  have hg1 : g < W1.heap.size := Nat.lt_of_lt_of_le hg HB1.out.size
  have hgA1 : gA < W1.heap.size := Nat.lt_of_lt_of_le hgA HB1.out.size
  obtain ⟨rc, rf, rz⟩ := heap_cells HG1.out
  have HO1 : Hid (W1.ownsRow 0 185 3 (.slice aS n cS) n (outsCells p.outs)) := own_below HO.out HB1.out
  clear c15 c3 HO
  go_loop [6] (fun v => ∃ k : Nat, k ≤ n ∧ v = .int .i64 k ∧ Hid ((p.outs.take k).find? (fun x => decide (x.i = id)) = none)) (fun v => n - (intOf v).toNat)
  case atStart => exact ⟨0, Nat.zero_le _, rfl, rfl⟩
  case round =>
    obtain ⟨k, hk, rfl, HF⟩ := hrel
    by_cases hlt : k < n
    · have hkl : k < p.outs.length := by rw [HNn.out.1]; exact hlt
      obtain ⟨gO, rfl, hgO, e0, e1, e2⟩ := out_cell HO1.out (List.getElem?_eq_getElem hkl) hlt
      have HT : Hid _ := find_take_none hkl HF.out
      have HH : Hid (p.outs[k].i = id → _) := find_hit hkl HF.out
      generalize p.outs[k] = x at *
      obtain ⟨xi, xs, xe⟩ := x
      simp only at e0 e1 e2 HH HT
      have k1 : (k : Int) < (n : Int) := by omega
      have k0 : (0 : Int) ≤ (k : Int) := by omega
      by_cases he : xi = id
      · have heb : (xi == id) = true := by rw [beq_iff_eq]; exact he
        have HX : Hid (pReplyV p id = (xs, xe, 0)) := by
          show _ = _
          rw [HV.out, HOV.out, HH.out he]
        clear HT HH HF he
        go_wp2
        refine bodyPost_ret (v := .tuple #[.agg #[.int .u8 xs, .int .i64 xe], .int .i64 0]) (by simp [results, Tryz.results73, go_sem, rc]) rfl ?_
        refine ⟨by rw [HX.out], ?_⟩
        iterate 2 refine Below.setCell ?_ (by exact Nat.le_refl _) _
        exact HB1.out
      · have heb : (xi == id) = false := by rw [beq_eq_false_iff_ne]; exact he
        have HT' : Hid ((p.outs.take (k + 1)).find? (fun x => decide (x.i = id)) = none) := by
          show _ = _
          rw [HT.out, if_neg he]
        clear HT HH HF
        go_wp2
        go_round
        case rel => exact ⟨k + 1, by omega, by go_num, HT'⟩
        case measure => simp [intOf]; omega
    · have hkn : k = n := by omega
      subst hkn
      have HNo : Hid (outV p id = none) := by
        show _ = _
        have := HF.out
        rw [List.take_of_length_le (by rw [HNn.out.1]; omega)] at this
        rw [HOV.out]; exact this
      clear HF
      have hkk : decide ((k : Int) < (k : Int)) = false := decide_eq_false (by omega)
      go_wp2
      go_loop [7] (fun v => ∃ k : Nat, k ≤ na ∧ v = .int .i64 k ∧ Hid ((p.accs.take k).any (awaits id) = false)) (fun v => na - (intOf v).toNat)
      case atStart => exact ⟨0, Nat.zero_le _, rfl, rfl⟩
      case round =>
        obtain ⟨j, hj, rfl, HA⟩ := hrel
        by_cases hjl : j < na
        · have hjL : j < p.accs.length := by rw [HNn.out.2]; exact hjl
          obtain ⟨hfa, hga⟩ := HFit.out.at hjL
          have hAcc := HAcc.out j _ hga
          have HAc : Hid (AccAt W1 gA j (qb j) (accV p j)) := by
            have hc : ∀ x, W1.cell? ⟨gA, x, none⟩ = w.cell? ⟨gA, x, none⟩ := fun x => HB1.out.cell (p := ⟨gA, x, none⟩) hgA
            refine hAcc.same (hc _) (hc _) (fun y hy => ?_)
            obtain ⟨_, _, _, _, z3, z4⟩ := hAcc
            exact HB1.out.block y (World.ownsRow.lt z3 y (z4.trans hy)).2
          have hq8 := hfa.1
          have HT : Hid ((p.accs.take (j + 1)).any (awaits id) = awaits id (accV p j)) := by
            show _ = _
            have e : p.accs[j] = accV p j := by
              have := List.getElem?_eq_getElem hjL
              rw [hga] at this
              exact (Option.some.inj this).symm
            rw [List.take_succ_eq_append_getElem hjL, List.any_append, HA.out, e]
            simp
          have HMm : Hid (accV p j ∈ p.accs) := List.mem_of_getElem? hga
          clear hfa hga hAcc HA
          have j1 : (j : Int) < (na : Int) := by omega
          have j0 : (0 : Int) ≤ (j : Int) := by omega
          go_wp2_with fail
          refine (awaits_any gA j (qb j) (accV p j) id W1 HAc.out hgA1 hq8).mono ?_
          rintro e w3 ⟨rfl, hw3⟩
          obtain rfl := hw3.symm
          cases ha : awaits id (accV p j)
          · have HT' : Hid ((p.accs.take (j + 1)).any (awaits id) = false) := by
              show _ = _
              rw [HT.out]; exact ha
            clear HT ha
            go_wp2
            go_round
            case rel => exact ⟨j + 1, by omega, by go_num, HT'⟩
            case measure => simp [intOf]; omega
          · have HX : Hid (pReplyV p id = (0, 0, 0)) := by
              show _ = _
              rw [HV.out, HNo.out]
              simp only
              rw [if_pos (List.any_eq_true.2 ⟨_, HMm.out, ha⟩)]
            clear HT ha
            go_wp2
            refine bodyPost_ret (v := .tuple #[.agg #[.int .u8 0, .int .i64 0], .int .i64 0]) (by simp [results, Tryz.results73, go_sem, rc]) rfl ?_
            refine ⟨by rw [HX.out], ?_⟩
            iterate 2 refine Below.setCell ?_ (by exact Nat.le_refl _) _
            exact HB1.out
        · have hje : j = na := by omega
          subst hje
          have HX : Hid (pReplyV p id = (0, 0, 10)) := by
            show _ = _
            have := HA.out
            rw [List.take_of_length_le (by rw [HNn.out.2]; omega)] at this
            rw [HV.out, HNo.out]
            simp only
            rw [if_neg (by rw [this]; simp)]
          have hjj : decide ((j : Int) < (j : Int)) = false := decide_eq_false (by omega)
          clear HA
          go_wp2
          refine bodyPost_ret (v := .tuple #[.agg #[.int .u8 0, .int .i64 0], .int .i64 10]) (by simp [results, Tryz.results73, go_sem, rc]) rfl ?_
          refine ⟨by rw [HX.out], ?_⟩
          iterate 2 refine Below.setCell ?_ (by exact Nat.le_refl _) _
          exact HB1.out

/-! ### Log -/
theorem info_u8 : (Tryz.prog.info? 5).map (fun i => (i.zero, i.size, i.bytes)) = some (some (.int .u8 0), 1, 1) := by kernel_rfl
def catB (l : List ByteArray) : List UInt8 := l.flatMap (fun b => b.data.toList)
def byteVs (l : List UInt8) : List Value := l.map (fun b => Value.int .u8 b.toNat)
theorem byteVs_append (a b : List UInt8) : byteVs (a ++ b) = byteVs a ++ byteVs b := by unfold byteVs; rw [List.map_append]
theorem catB_snoc {l : List ByteArray} {k : Nat} (hk : k < l.length) : catB (l.take (k + 1)) = catB (l.take k) ++ l[k].data.toList := by
  unfold catB
  rw [List.take_succ_eq_append_getElem hk, List.flatMap_append]; simp
theorem catB_le : ∀ {l : List ByteArray}, (∀ b ∈ l, 0 < b.size ∧ b.size ≤ 4232) → (catB l).length ≤ 4232 * l.length
  | [], _ => Nat.zero_le _
  | x :: l, h => by
    show (x.data.toList ++ catB l).length ≤ _
    rw [List.length_append, List.length_cons, len_list]
    have h1 := h x (by simp)
    have h2 := catB_le (l := l) (fun b hb => h b (by simp [hb]))
    omega
set_option maxRecDepth 100000 in
/-- Bytes in a row, as a string. -/
theorem bytes_conv {w : World} {B n c : Nat} {a : Option Addr} {l : List UInt8} (h : w.ownsRow B 5 1 (.slice a n c) n (byteVs l)) : (convert 169 9 (.slice a n c)).run Tryz.prog w = .ok (.string ⟨l.toArray⟩) w := by
  have hl : l.length = n := by have := h.1; unfold byteVs at this; rw [List.length_map] at this; omega
  rcases h.2 with ⟨hv, h0⟩ | ⟨g, cap, cur, hv, _, hg, q1, q2, q3, q4⟩
  · have hv' : Value.slice a n c = .slice none 0 0 := hv
    injection hv' with e1 e2 e3
    subst e1 e2 e3
    have : l = [] := List.eq_nil_of_length_eq_zero hl
    subst this
    exact run_convert_bytes_nil w _ 5 Tryz.underlying169 Tryz.underlying5 0 0 _ Tryz.underlying9
  · have hv' : Value.slice a n c = .slice (some ⟨g, 0, none⟩) n cap := hv
    injection hv' with e1 e2 e3
    subst e1 e3
    have hr := run_convert_bytes_arg (P := Tryz.prog) w 169 5 Tryz.underlying169 Tryz.underlying5 g 0 n c (l.map (fun b => (b.toNat : Int))) (by rw [List.length_map]; exact hl) (fun i hi => by
      rw [Nat.zero_add, (heap_cells hg).1]
      have e : (byteVs l)[i]? = cur[i]? := by rw [← q4, Nat.mul_one, List.getElem?_take_of_lt hi, Array.getElem?_toList]
      rw [← e]
      unfold byteVs
      have hil : i < l.length := by omega
      rw [List.getElem?_map, List.getElem?_eq_getElem hil, List.getD_eq_getElem?_getD, List.getElem?_map, List.getElem?_eq_getElem hil]; rfl) 9 Tryz.underlying9
    rw [hr]
    congr 2
    unfold strOfNums
    rw [List.map_map]
    congr 2
    rw [show (fun n : Int => UInt8.ofNat n.toNat) ∘ (fun b : UInt8 => (b.toNat : Int)) = id from by funext b; simp, List.map_id]

set_option maxRecDepth 100000 in
set_option maxHeartbeats 4000000 in
theorem slog_any (g : Nat) (F : Nat → Prop) (p : SeqV) (w : World) (h : SeqAt w g F p) :
    Calls Tryz.prog 72 #[.pointer (some ⟨g, 0, none⟩)] w fun e w' => ∃ b : ByteArray, e = .returned (.string b) ∧ b.data.toList = p.log ∧ Below w.heap.size w w' := by
  obtain ⟨ti, hi, hz0, hz1, hz2⟩ := info_parts info_u8
  have HI : Hid (_ ∧ _ ∧ _ ∧ _) := ⟨hi, hz0, hz1, hz2⟩
  clear hi hz0 hz1 hz2
  have hg := h.block
  have hmany := h.fit.many
  obtain ⟨gA, qb, aS, cS, ⟨aE, cE, gR⟩, m⟩ := h.mem
  have c5 := (seq_cells m).2.2.2.2.2.2.1
  have HL : Hid (p.log = catB p.eps) := m.log.eplog
  have HF : Hid _ := m.log.epfit
  have HR : Hid _ := m.log.row
  have hlen := m.log.eplen
  clear m h
  simp only at c5 HR
  generalize p.eps = E at *
  obtain ⟨n, hn⟩ : ∃ n, E.length = n := ⟨_, rfl⟩
  rw [hn] at c5 hlen HR
  rw [← hlen] at hmany
  clear hlen
  go_enter Tryz.func72, Tryz.ntmps72
  go_wp2
  go_loopw [3, 4] (fun v3 v4 wr => ∃ (k m c : Nat) (a : Option Addr), v3 = .slice a m c ∧ v4 = .int .i64 k ∧ k ≤ n ∧ m ≤ 4232 * k ∧ Hid (wr.ownsRow w.heap.size 5 1 (.slice a m c) m (byteVs (catB (E.take k))) ∧ Below w.heap.size w wr)) (fun _ v4 _ => n - (intOf v4).toNat)
  case atStart => exact ⟨0, 0, 0, none, rfl, rfl, Nat.zero_le _, Nat.le_refl _, World.ownsRow_nil _ _ _ _, Below.refl _ _⟩
  case round =>
    obtain ⟨k, m, c, a, rfl, rfl, hk, hm, HK⟩ := hrel
    have hgr := Nat.lt_of_lt_of_le hg HK.out.2.size
    have d5 := (HK.out.2.cell (p := ⟨g, 5, none⟩) hg).trans c5
    by_cases hlt : k < n
    · have hkl : k < E.length := by rw [hn]; exact hlt
      obtain ⟨gE, haE, hgE, hcell, _⟩ := own_cell HR.out (by omega)
      subst haE
      have ek : w.cell? ⟨gE, k, none⟩ = some (.string E[k]) := hcell k _ (by rw [List.getElem?_map, List.getElem?_eq_getElem hkl]; rfl)
      have dk := (HK.out.2.cell (p := ⟨gE, k, none⟩) hgE).trans ek
      have hgE2 := Nat.lt_of_lt_of_le hgE HK.out.2.size
      have HSn : Hid (catB (E.take (k + 1)) = catB (E.take k) ++ E[k].data.toList) := catB_snoc hkl
      have hfit := HF.out _ (List.getElem_mem hkl)
      clear hcell ek
      generalize E[k] = b at *
      have k1 : (k : Int) < (n : Int) := by omega
      have k0 : (0 : Int) ≤ (k : Int) := by omega
      have hz := HK.out.2.size
      go_wp2_with (at_builtin; refine wpList_append_own_str rfl (.tmp 14) (.tmp 21) 169 9 rfl w.heap.size 5 ti (.int .u8 0) 1 Tryz.underlying169 Tryz.underlying9 HI.out.1 HI.out.2.1 HI.out.2.2.1 HI.out.2.2.2 rfl (.slice a m c) m (byteVs (catB (E.take k))) rfl HK.out.1 b rfl hfit.1 (by unfold maxLen; omega) (by omega) (by omega) ?_)
      intro v' w2 hown hgr2
      obtain ⟨a', c', rfl⟩ : ∃ a' c', v' = .slice a' (m + b.size) c' := by
        rcases hown.2 with ⟨hv', h0⟩ | ⟨g', cap', _, hv', _⟩
        · exact ⟨none, 0, by rw [hv', h0]⟩
        · exact ⟨_, _, hv'⟩
      have HN : Hid (w2.ownsRow w.heap.size 5 1 (.slice a' (m + b.size) c') (m + b.size) (byteVs (catB (E.take (k + 1)))) ∧ Below w.heap.size w w2) := by
        refine ⟨?_, HK.out.2.grown hgr2 hz (fun x hx => (HK.out.1.lt x hx).1)⟩
        rw [HSn.out, byteVs_append]
        exact hown
      clear hown hgr2
      go_wp2
      go_roundw
      case rel => exact ⟨k + 1, m + b.size, c', a', rfl, by go_num, by omega, by omega, HN⟩
      case measure => simp [intOf]; omega
    · have hkn : k = n := by omega
      subst hkn
      have HE : Hid (catB (E.take k) = catB E) := by
        show _ = _
        rw [List.take_of_length_le (by omega)]
      have hconv := bytes_conv HK.out.1
      rw [HE.out] at hconv
      go_wp2
      go_ret
      exact ⟨_, rfl, by rw [HL.out], HK.out.2⟩

/-! ### Epoch -/
def epochOf (E : List ByteArray) (i : Int) : ByteArray := if 0 ≤ i ∧ i < (E.length : Int) then E.getD i.toNat ⟨#[]⟩ else ⟨#[]⟩
theorem sepoch_any (g : Nat) (F : Nat → Prop) (p : SeqV) (i : Int) (w : World) (h : SeqAt w g F p) :
    Calls Tryz.prog 67 #[.pointer (some ⟨g, 0, none⟩), .int .i64 i] w fun e w' => e = .returned (.string (epochOf p.eps i)) ∧ w' = w := by
  have hg := h.block
  have hmany := h.fit.many
  obtain ⟨gA, qb, aS, cS, ⟨aE, cE, gR⟩, m⟩ := h.mem
  have c5 := (seq_cells m).2.2.2.2.2.2.1
  have HR : Hid _ := m.log.row
  clear m h
  simp only at c5 HR
  generalize p.eps = E at *
  have HV : Hid (epochOf E i = if 0 ≤ i ∧ i < (E.length : Int) then E.getD i.toNat ⟨#[]⟩ else ⟨#[]⟩) := rfl
  obtain ⟨n, hn⟩ : ∃ n, E.length = n := ⟨_, rfl⟩
  rw [hn] at c5 HR HV
  by_cases h0 : i < 0
  · have HX : Hid (epochOf E i = ⟨#[]⟩) := by show _ = _; rw [HV.out, if_neg (by omega)]
    go_enter Tryz.func67, Tryz.ntmps67
    go_wp2
    go_ret
    exact ⟨by rw [HX.out]; rfl, rfl⟩
  · have h0' : 0 ≤ i := by omega
    by_cases h1 : (n : Int) ≤ i
    · have HX : Hid (epochOf E i = ⟨#[]⟩) := by show _ = _; rw [HV.out, if_neg (by omega)]
      go_enter Tryz.func67, Tryz.ntmps67
      go_wp2
      go_ret
      exact ⟨by rw [HX.out]; rfl, rfl⟩
    · obtain ⟨k, rfl⟩ : ∃ k : Nat, i = k := ⟨i.toNat, by omega⟩
      have hk : k < n := by omega
      have hkl : k < E.length := by rw [hn]; exact hk
      obtain ⟨gE, haE, hgE, hcell, _⟩ := own_cell HR.out (by omega)
      subst haE
      have ek : w.cell? ⟨gE, k, none⟩ = some (.string E[k]) := hcell k _ (by rw [List.getElem?_map, List.getElem?_eq_getElem hkl]; rfl)
      have HX : Hid (epochOf E (k : Int) = E[k]) := by
        show _ = _
        rw [HV.out, if_pos (by omega), Int.toNat_natCast, List.getD_eq_getElem?_getD, List.getElem?_eq_getElem hkl]; rfl
      clear hcell
      generalize E[k] = b at *
      have k1 : (k : Int) < (n : Int) := by omega
      go_enter Tryz.func67, Tryz.ntmps67
      go_wp2
      go_ret
      exact ⟨by rw [HX.out]; rfl, rfl⟩

end Go.Proofs.YtccckonckddadabGreat
namespace Go.Proofs.YtccckonckddadabGreat
open Go.RowKit
set_option linter.unusedVariables false

theorem SeqMem.same {w W : World} {g : Nat} {F : Nat → Prop} {p : SeqV} {gA : Nat} {qb : Nat → Option Nat} {aS : Option Addr} {cS : Nat} {lb : TailV} (m : SeqMem w g F p gA qb aS cS lb) (hg : F g) (hb : ∀ k, F k → W.heap[k]? = w.heap[k]?) : SeqMem W g F p gA qb aS cS lb := by
  have hA : ∀ x, W.cell? ⟨gA, x, none⟩ = w.cell? ⟨gA, x, none⟩ := fun x => World.cell?_of_block (a := ⟨gA, x, none⟩) (hb gA m.aF.1)
  refine ⟨(hb g hg).trans m.blk, m.log.move rfl rfl rfl rfl (fun _ hk => hk) (fun k hk _ _ _ _ => hb k hk) (fun _ _ _ hh => hh) (fun _ _ hh => hh), ?_, ?_, m.aF, m.qF, m.qone, own_same m.outs (fun k hk => hb k (m.sF k hk).1), m.sF⟩
  · obtain ⟨arr, h1⟩ := m.row
    exact ⟨arr, (hb gA m.aF.1).trans h1⟩
  · intro i a ha
    exact (m.acc i a ha).same (hA _) (hA _) (fun k hk => hb k (m.qF i k hk).1)

def SubPost (g : Nat) (F : Nat → Prop) (x : SeqV × Int) (w : World) (e : Ending) (w' : World) : Prop := e = .returned (.int .i64 x.2) ∧ SeqPost g F x.1 w w'

set_option maxRecDepth 100000 in
set_option maxHeartbeats 8000000 in
theorem ssubmit_any (g : Nat) (F : Nat → Prop) (p : SeqV) (client id : Int) (t : ByteArray) (d : Int) (w : World) (h : SeqAt w g F p) (ht : t.size ≤ maxLen) :
    Calls Tryz.prog 60 #[.pointer (some ⟨g, 0, none⟩), .int .i64 client, .int .i64 id, .string t, .int .i64 d] w (SubPost g F (pSubmitV p client id t d) w) := by
  have hg := h.block
  have h8 := h.fit.n8
  have hmany := h.fit.many
  have hqu := h.fit.qu
  obtain ⟨gA, qb, aS, cS, lb, m⟩ := h.mem
  have c0 := (seq_cells m).1
  have c3 := (seq_cells m).2.2.2.1
  have c5 := (seq_cells m).2.2.2.2.2.1
  have hgA : gA < w.heap.size := h.own gA m.aF.1
  have H : Hid _ := h
  have HM : Hid _ := m
  clear m h
  obtain ⟨n, hn⟩ : ∃ x, p.accs.length = x := ⟨_, rfl⟩
  obtain ⟨qu, hque⟩ : ∃ x, p.queue = x := ⟨_, rfl⟩
  obtain ⟨ne, hne⟩ : ∃ x, p.epochs = x := ⟨_, rfl⟩
  have HX : Hid (p.accs.length = n ∧ p.queue = qu ∧ p.epochs = ne) := ⟨hn, hque, hne⟩
  rw [hn] at c3 h8
  rw [hque] at c0 hqu
  rw [hne] at c5 hmany
  clear hn hque hne
  by_cases h1 : 0 ≤ client ∧ client < (n : Int)
  rotate_left
  · have HS : Hid (pSubmitV p client id t d = (p, 4)) := by
      show _ = _
      unfold pSubmitV
      rw [HX.out.1, if_pos h1]
    by_cases h0 : client < 0
    · go_enter Tryz.func60, Tryz.ntmps60
      go_wp2
      go_ret
      exact ⟨by rw [HS.out]; rfl, by rw [HS.out]; exact SeqPost.same H.out (Below.refl _ _)⟩
    · have h0' : (n : Int) ≤ client := by omega
      have h00 : 0 ≤ client := by omega
      clear h1
      go_enter Tryz.func60, Tryz.ntmps60
      go_wp2
      go_ret
      exact ⟨by rw [HS.out]; rfl, by rw [HS.out]; exact SeqPost.same H.out (Below.refl _ _)⟩
  obtain ⟨h1a, h1b⟩ := h1
  by_cases h2 : 0 ≤ id ∧ id ≤ 999999
  rotate_left
  · have HS : Hid (pSubmitV p client id t d = (p, 5)) := by
      show _ = _
      unfold pSubmitV
      rw [HX.out.1, if_neg (by omega), if_pos h2]
    by_cases h0 : id < 0
    · go_enter Tryz.func60, Tryz.ntmps60
      go_wp2
      go_ret
      exact ⟨by rw [HS.out]; rfl, by rw [HS.out]; exact SeqPost.same H.out (Below.refl _ _)⟩
    · have h0' : 999999 < id := by omega
      have h00 : 0 ≤ id := by omega
      clear h2
      go_enter Tryz.func60, Tryz.ntmps60
      go_wp2
      go_ret
      exact ⟨by rw [HS.out]; rfl, by rw [HS.out]; exact SeqPost.same H.out (Below.refl _ _)⟩
  obtain ⟨h2a, h2b⟩ := h2
  go_enter Tryz.func60, Tryz.ntmps60
  go_wp2_with fail
  refine (parse_any t _ ht).mono ?_
  rintro e w1 ⟨b0, b1, b2, b3, b4, b5, b6, b7, aP, nP, cP, rfl, hp, hb1⟩
  have HP : Hid _ := hp
  have HB1 : Hid _ := hb1
  clear hp hb1
  cases hok : Dk.parseOk t.data.toList
  · have HS : Hid (pSubmitV p client id t d = (p, 1)) := by
      show _ = _
      unfold pSubmitV
      rw [HX.out.1, if_neg (by omega), if_neg (by omega), if_pos hok]
    clear hok
    go_wp2
    go_ret
    exact ⟨by rw [HS.out]; rfl, by rw [HS.out]; exact SeqPost.same H.out (HB1.out.alloc HB1.out.size _)⟩
  obtain ⟨_, hnP, hown⟩ := HP.out hok
  have HOk : Hid (_ ∧ nP = costV t) := ⟨hok, hnP.trans opsOf_cost⟩
  clear hok hnP hown HP
  go_wp2_with fail
  have HBt : Hid (Below w.heap.size w (w1.alloc (.cells #[.bool b0, .bool b1, .bool b2, .bool b3, .bool b4, .bool b5, .bool b6, .bool b7, .slice aP nP cP] 119))) := HB1.out.alloc HB1.out.size _
  have HTb : Hid ((w1.alloc (.cells #[.bool b0, .bool b1, .bool b2, .bool b3, .bool b4, .bool b5, .bool b6, .bool b7, .slice aP nP cP] 119)).heap[w1.heap.size]? = some (.cells #[.bool b0, .bool b1, .bool b2, .bool b3, .bool b4, .bool b5, .bool b6, .bool b7, .slice aP nP cP] 119)) := heap_at rfl
  generalize w1.alloc (.cells #[.bool b0, .bool b1, .bool b2, .bool b3, .bool b4, .bool b5, .bool b6, .bool b7, .slice aP nP cP] 119) = W1 at *
  generalize w1.heap.size = gt at *
  refine (sreply_any g F p id W1 (H.out.below HBt.out)).mono ?_
  rintro e w3 ⟨rfl, hb3⟩
  obtain ⟨⟨r1, r2, r3⟩, hr⟩ : ∃ x, pReplyV p id = x := ⟨_, rfl⟩
  rewrite [hr]
  have HR : Hid _ := hr
  clear hr
  have HB3 : Hid (Below w.heap.size w w3) := HBt.out.trans (hb3.mono HBt.out.size)
  have HT3 : Hid (w3.heap[gt]? = _) := (hb3.block gt (heap_cells HTb.out).2.2).trans HTb.out
  clear hb3 HBt HTb
  simp only
  by_cases h4 : r3 = 0
  · have HS : Hid (pSubmitV p client id t d = (p, 6)) := by
      show _ = _
      unfold pSubmitV
      rw [HX.out.1, if_neg (by omega), if_neg (by omega), if_neg (by rw [HOk.out.1]; simp), HR.out, if_pos h4]
    subst h4
    go_wp2
    go_ret
    exact ⟨by rw [HS.out]; rfl, by rw [HS.out]; exact SeqPost.same H.out (HB3.out.alloc HB3.out.size _)⟩
  have h4b : (r3 == 0) = false := by rw [beq_eq_false_iff_ne]; exact h4
  have d0 := (HB3.out.cell (p := ⟨g, 0, none⟩) hg).trans c0
  have d3 := (HB3.out.cell (p := ⟨g, 3, none⟩) hg).trans c3
  have d5 := (HB3.out.cell (p := ⟨g, 5, none⟩) hg).trans c5
  have hg3 : g < w3.heap.size := Nat.lt_of_lt_of_le hg HB3.out.size
  clear c0 c3 c5
  by_cases h5 : d < (ne : Int)
  · have HS : Hid (pSubmitV p client id t d = (p, 7)) := by
      show _ = _
      unfold pSubmitV
      rw [HX.out.1, if_neg (by omega), if_neg (by omega), if_neg (by rw [HOk.out.1]; simp), HR.out, if_neg h4, HX.out.2.2, if_pos h5]
    go_wp2
    go_ret
    exact ⟨by rw [HS.out]; rfl, by rw [HS.out]; exact SeqPost.same H.out (HB3.out.alloc HB3.out.size _)⟩
  have h5' : (ne : Int) ≤ d := by omega
  obtain ⟨c, hc⟩ : ∃ c : Nat, client = (c : Int) := ⟨client.toNat, by omega⟩
  subst hc
  have hcl : c < p.accs.length := by rw [HX.out.1]; omega
  obtain ⟨hfa, hga⟩ := H.out.fit.at hcl
  have hM3 : SeqMem w3 g F p gA qb aS cS lb := HM.out.same H.out.gF (fun k hk => HB3.out.block k (H.out.own k hk))
  have hAcc := hM3.acc c _ hga
  obtain ⟨adQ, cQ, k0, _, _, _⟩ := hAcc
  have hgA3 : gA < w3.heap.size := Nat.lt_of_lt_of_le hgA HB3.out.size
  have HFa : Hid _ := hfa
  have hq8 := hfa.1
  obtain ⟨ql, hql⟩ : ∃ x, (accV p c).q.length = x := ⟨_, rfl⟩
  rw [hql] at k0
  have HQl : Hid _ := hql
  have hql8 : ql ≤ 8 := by rw [← hql]; exact hq8
  have HGa : Hid _ := hga
  have HM3 : Hid _ := hM3
  clear hfa hga hM3 hql
  have hcc : (c : Int) < (n : Int) := h1b
  have HB4 : Hid (∀ o : Obj, Below w3.heap.size w3 (w3.alloc o)) := fun o => (Below.refl _ _).alloc (Nat.le_refl _) o
  by_cases h6 : qu ≤ (ql : Int)
  · have HS : Hid (pSubmitV p (c : Int) id t d = (p, 8)) := by
      show _ = _
      unfold pSubmitV
      rw [HX.out.1, if_neg (by omega), if_neg (by omega), if_neg (by rw [HOk.out.1]; simp), HR.out, if_neg h4, HX.out.2.2, if_neg (by omega), HX.out.2.1, Int.toNat_natCast, HQl.out, if_pos h6]
    have h6d : decide (qu ≤ (ql : Int)) = true := decide_eq_true h6
    go_wp2
    go_quiet (fail)
    have HBq : Hid (Below w.heap.size w ((w3.alloc (.cells #[.int .u8 r1, .int .i64 r2] 86)).drewN nq)) := below_drewN (HB3.out.alloc HB3.out.size _) nq
    generalize (w3.alloc (.cells #[.int .u8 r1, .int .i64 r2] 86)).drewN nq = W5 at *
    go_wp2
    go_ret
    exact ⟨by rw [HS.out]; rfl, by rw [HS.out]; exact SeqPost.same H.out HBq.out⟩
  · have HS : Hid (pSubmitV p (c : Int) id t d = (putA p c ⟨(accV p c).q ++ [⟨id, t, costV t, d⟩], (accV p c).cr⟩, 0)) := by
      show _ = _
      unfold pSubmitV
      rw [HX.out.1, if_neg (by omega), if_neg (by omega), if_neg (by rw [HOk.out.1]; simp), HR.out, if_neg h4, HX.out.2.2, if_neg (by omega), HX.out.2.1, Int.toNat_natCast, HQl.out, if_neg h6]
    have h6d : decide (qu ≤ (ql : Int)) = false := decide_eq_false h6
    have h6' : (ql : Int) < qu := by omega
    go_wp2
    go_quiet (fail)
    have HBq : Hid (Below w3.heap.size w3 ((w3.alloc (.cells #[.int .u8 r1, .int .i64 r2] 86)).drewN nq)) := below_drewN (HB4.out _) nq
    generalize (w3.alloc (.cells #[.int .u8 r1, .int .i64 r2] 86)).drewN nq = W5 at *
    have HT5 : Hid (W5.heap[gt]? = _) := (HBq.out.block gt (heap_cells HT3.out).2.2).trans HT3.out
    obtain ⟨tc, tf, tz⟩ := heap_cells HT5.out
    have t0 : W5.cell? ⟨gt, 0, none⟩ = some (.bool b0) := by rw [tc]; rfl
    have t1 : W5.cell? ⟨gt, 1, none⟩ = some (.bool b1) := by rw [tc]; rfl
    have t2 : W5.cell? ⟨gt, 2, none⟩ = some (.bool b2) := by rw [tc]; rfl
    have t3 : W5.cell? ⟨gt, 3, none⟩ = some (.bool b3) := by rw [tc]; rfl
    have t4 : W5.cell? ⟨gt, 4, none⟩ = some (.bool b4) := by rw [tc]; rfl
    have t5 : W5.cell? ⟨gt, 5, none⟩ = some (.bool b5) := by rw [tc]; rfl
    have t6 : W5.cell? ⟨gt, 6, none⟩ = some (.bool b6) := by rw [tc]; rfl
    have t7 : W5.cell? ⟨gt, 7, none⟩ = some (.bool b7) := by rw [tc]; rfl
    have t8 : W5.cell? ⟨gt, 8, none⟩ = some (.slice aP nP cP) := by rw [tc]; rfl
    clear tc tf
    go_wp2_with fail
    refine (pcost_any b0 b1 b2 b3 b4 b5 b6 b7 aP nP cP W5).mono ?_
    rintro e w6 ⟨rfl, hb6⟩
    have HB6 : Hid (Below w3.heap.size w3 w6) := HBq.out.trans (hb6.mono HBq.out.size)
    have HM6 : Hid (SeqMem w6 g F p gA qb aS cS lb) := HM3.out.same H.out.gF (fun k hk => HB6.out.block k (Nat.lt_of_lt_of_le (H.out.own k hk) HB3.out.size))
    have f3 := (HB6.out.cell (p := ⟨g, 3, none⟩) hg3).trans d3
    have hg6 : g < w6.heap.size := Nat.lt_of_lt_of_le hg3 HB6.out.size
    have hbA : qb c ≠ some gA := fun e => (HM6.out.qF c gA e).2.2.1 rfl
    have HAc : Hid _ := HM6.out.acc c _ HGa.out
    have cc0 : (0 : Int) ≤ (c : Int) := by omega
    clear hb6 t0 t1 t2 t3 t4 t5 t6 t7 t8 d0 d3 d5 k0
    go_wp2_with fail
    refine (join_any gA c (qb c) (accV p c) ⟨id, t, (nP : Int), d⟩ w6 HM6.out.row HAc.out hbA (by rw [HQl.out]; exact hql8)).mono ?_
    rintro e w7 ⟨rfl, b', hP7⟩
    have HP7 : Hid (AccPost w6 w7 gA c (qb c) b' ⟨(accV p c).q ++ [⟨id, t, costV t, d⟩], (accV p c).cr⟩) := by
      have := hP7
      rw [HOk.out.2] at this
      exact this
    clear hP7
    go_wp2
    go_ret
    refine ⟨by rw [HS.out]; rfl, ?_⟩
    rw [HS.out]
    have hB : Below w.heap.size w w6 := HB3.out.trans (HB6.out.mono HB3.out.size)
    have hown6 : ∀ k, F k → k < w6.heap.size := fun k hk => Nat.lt_of_lt_of_le (H.out.own k hk) hB.size
    have hfit : AccFit ⟨(accV p c).q ++ [⟨id, t, costV t, d⟩], (accV p c).cr⟩ := by
      refine ⟨?_, HFa.out.2.1, HFa.out.2.2.1, fun x hx => ?_⟩
      · show ((accV p c).q ++ [_]).length ≤ 8
        rw [List.length_append, HQl.out]
        show ql + 1 ≤ 8
        omega
      · rcases List.mem_append.1 hx with hx | hx
        · exact HFa.out.2.2.2 x hx
        · have : x = ⟨id, t, costV t, d⟩ := by simpa using hx
          subst this
          exact ⟨HOk.out.1, rfl, h2a, h2b⟩
    exact SeqPost.trans (Kept.of hB) (fun k hk => .inl hk) (seq_put H.out.gF hown6 HM6.out hcl (fit_put H.out.fit hfit) HP7.out)

end Go.Proofs.YtccckonckddadabGreat
namespace Go.Proofs.YtccckonckddadabGreat
open Go.RowKit
set_option linter.unusedVariables false

/-! ### New -/
def seqOk (c : ConfV) : Bool := decide (1 ≤ c.clients ∧ c.clients ≤ 8) && decide (1 ≤ c.queue ∧ c.queue ≤ 8) && decide (1 ≤ c.quantum ∧ c.quantum ≤ 8) && decide (8 ≤ c.room ∧ c.room ≤ 64)

set_option maxHeartbeats 2000000 in
theorem isconf_any (x1 x2 x3 x4 x5 : Int) (w : World) : Calls Tryz.prog 78 #[.agg #[.int .i64 x1, .int .i64 x2, .int .i64 x3, .int .i64 x4, .int .i64 x5]] w fun e w' => e = .returned (.bool (seqOk ⟨x1, x2, x3, x4, x5⟩)) ∧ Below w.heap.size w w' := by
  have HBa : Hid (∀ o, Below w.heap.size w (w.alloc o)) := fun o => (Below.refl _ _).alloc (Nat.le_refl _) _
  have HV : Hid (seqOk ⟨x1, x2, x3, x4, x5⟩ = (decide (1 ≤ x1 ∧ x1 ≤ 8) && decide (1 ≤ x2 ∧ x2 ≤ 8) && decide (1 ≤ x3 ∧ x3 ≤ 8) && decide (8 ≤ x4 ∧ x4 ≤ 64))) := rfl
  have hno : ∀ {x lo hi : Int}, ¬ (lo ≤ x ∧ x ≤ hi) → (x < lo ∨ (lo ≤ x ∧ hi < x)) := fun h => by omega
  by_cases h1 : 1 ≤ x1 ∧ x1 ≤ 8
  rotate_left
  · have HX : Hid (seqOk ⟨x1, x2, x3, x4, x5⟩ = false) := by show _ = _; rw [HV.out, decide_eq_false h1]; simp
    rcases hno h1 with h0 | ⟨h0, h0'⟩
    all_goals
      clear h1 hno
      go_enter Tryz.func78, Tryz.ntmps78
      go_wp2
      go_ret
      exact ⟨by rw [HX.out]; rfl, HBa.out _⟩
  by_cases h2 : 1 ≤ x2 ∧ x2 ≤ 8
  rotate_left
  · have HX : Hid (seqOk ⟨x1, x2, x3, x4, x5⟩ = false) := by show _ = _; rw [HV.out, decide_eq_false h2]; simp
    obtain ⟨h1a, h1b⟩ := h1
    rcases hno h2 with h0 | ⟨h0, h0'⟩
    all_goals
      clear h2 hno
      go_enter Tryz.func78, Tryz.ntmps78
      go_wp2
      go_ret
      exact ⟨by rw [HX.out]; rfl, HBa.out _⟩
  by_cases h3 : 1 ≤ x3 ∧ x3 ≤ 8
  rotate_left
  · have HX : Hid (seqOk ⟨x1, x2, x3, x4, x5⟩ = false) := by show _ = _; rw [HV.out, decide_eq_false h3]; simp
    obtain ⟨h1a, h1b⟩ := h1
    obtain ⟨h2a, h2b⟩ := h2
    rcases hno h3 with h0 | ⟨h0, h0'⟩
    all_goals
      clear h3 hno
      go_enter Tryz.func78, Tryz.ntmps78
      go_wp2
      go_ret
      exact ⟨by rw [HX.out]; rfl, HBa.out _⟩
  by_cases h4 : 8 ≤ x4 ∧ x4 ≤ 64
  rotate_left
  · have HX : Hid (seqOk ⟨x1, x2, x3, x4, x5⟩ = false) := by show _ = _; rw [HV.out, decide_eq_false h4]; simp
    obtain ⟨h1a, h1b⟩ := h1
    obtain ⟨h2a, h2b⟩ := h2
    obtain ⟨h3a, h3b⟩ := h3
    rcases hno h4 with h0 | ⟨h0, h0'⟩
    all_goals
      clear h4 hno
      go_enter Tryz.func78, Tryz.ntmps78
      go_wp2
      go_ret
      exact ⟨by rw [HX.out]; first | rfl | (show Ending.returned (.bool (decide (x4 ≤ 64))) = _; rw [decide_eq_false (by omega)]), HBa.out _⟩
  have HX : Hid (seqOk ⟨x1, x2, x3, x4, x5⟩ = true) := by show _ = _; rw [HV.out, decide_eq_true h1, decide_eq_true h2, decide_eq_true h3, decide_eq_true h4]; rfl
  obtain ⟨h1a, h1b⟩ := h1
  obtain ⟨h2a, h2b⟩ := h2
  obtain ⟨h3a, h3b⟩ := h3
  obtain ⟨h4a, h4b⟩ := h4
  clear hno
  go_enter Tryz.func78, Tryz.ntmps78
  go_wp2
  go_ret
  exact ⟨by rw [HX.out]; rfl, HBa.out _⟩

end Go.Proofs.YtccckonckddadabGreat
namespace Go.Proofs.YtccckonckddadabGreat
open Go.RowKit
set_option linter.unusedVariables false

def set15 (w : World) (g : Nat) (v0 v1 v2 v3 v4 v5 v6 v7 v8 v9 v10 v11 v12 v13 v14 : Value) : World := ((((((((((((((((w.setCell ⟨g, 0, none⟩ v0).setCell ⟨g, 1, none⟩ v1).setCell ⟨g, 2, none⟩ v2).setCell ⟨g, 3, none⟩ v3).setCell ⟨g, 4, none⟩ v4).setCell ⟨g, 5, none⟩ v5).setCell ⟨g, 6, none⟩ v6).setCell ⟨g, 7, none⟩ v7).setCell ⟨g, 8, none⟩ v8).setCell ⟨g, 9, none⟩ v9).setCell ⟨g, 10, none⟩ v10).setCell ⟨g, 11, none⟩ v11).setCell ⟨g, 12, none⟩ v12).setCell ⟨g, 13, none⟩ v13).setCell ⟨g, 14, none⟩ v14))
theorem set15_blk {w : World} {g : Nat} {t : TypeId} {u0 u1 u2 u3 u4 u5 u6 u7 u8 u9 u10 u11 u12 u13 u14 : Value} (h : w.heap[g]? = some (.cells #[u0, u1, u2, u3, u4, u5, u6, u7, u8, u9, u10, u11, u12, u13, u14] t)) (v0 v1 v2 v3 v4 v5 v6 v7 v8 v9 v10 v11 v12 v13 v14 : Value) : (set15 w g v0 v1 v2 v3 v4 v5 v6 v7 v8 v9 v10 v11 v12 v13 v14).heap[g]? = some (.cells #[v0, v1, v2, v3, v4, v5, v6, v7, v8, v9, v10, v11, v12, v13, v14] t) := by
  unfold set15
  rw [heap_set (heap_set (heap_set (heap_set (heap_set (heap_set (heap_set (heap_set (heap_set (heap_set (heap_set (heap_set (heap_set (heap_set (heap_set h _) _) _) _) _) _) _) _) _) _) _) _) _) _) _]
  simp only [List.setIfInBounds_toArray, List.set_cons_succ, List.set_cons_zero]
theorem set15_size (w : World) (g : Nat) (v0 v1 v2 v3 v4 v5 v6 v7 v8 v9 v10 v11 v12 v13 v14 : Value) : (set15 w g v0 v1 v2 v3 v4 v5 v6 v7 v8 v9 v10 v11 v12 v13 v14).heap.size = w.heap.size := by unfold set15; simp [World.setCell]
theorem set15_below {w w0 : World} {B g : Nat} (h : Below B w0 w) (hg : B ≤ g) (v0 v1 v2 v3 v4 v5 v6 v7 v8 v9 v10 v11 v12 v13 v14 : Value) : Below B w0 (set15 w g v0 v1 v2 v3 v4 v5 v6 v7 v8 v9 v10 v11 v12 v13 v14) := by
  unfold set15
  iterate 15 refine Below.setCell ?_ hg _
  exact h

theorem chain15 {w w1 : World} {B g : Nat} {t : TypeId} {u0 u1 u2 u3 u4 u5 u6 u7 u8 u9 u10 u11 u12 u13 u14 : Value} (h : w1.heap[g]? = some (.cells #[u0, u1, u2, u3, u4, u5, u6, u7, u8, u9, u10, u11, u12, u13, u14] t)) (hb : Below B w w1) (hg : B ≤ g) (v0 v1 v2 v3 v4 v5 v6 v7 v8 v9 v10 v11 v12 v13 v14 : Value) :
    (((((((((((((((((w1.setCell ⟨g, 0, none⟩ v0).setCell ⟨g, 1, none⟩ v1).setCell ⟨g, 2, none⟩ v2).setCell ⟨g, 3, none⟩ v3).setCell ⟨g, 4, none⟩ v4).setCell ⟨g, 5, none⟩ v5).setCell ⟨g, 6, none⟩ v6).setCell ⟨g, 7, none⟩ v7).setCell ⟨g, 8, none⟩ v8).setCell ⟨g, 9, none⟩ v9).setCell ⟨g, 10, none⟩ v10).setCell ⟨g, 11, none⟩ v11).setCell ⟨g, 12, none⟩ v12).setCell ⟨g, 13, none⟩ v13).setCell ⟨g, 14, none⟩ v14))).heap[g]? = some (.cells #[v0, v1, v2, v3, v4, v5, v6, v7, v8, v9, v10, v11, v12, v13, v14] t) ∧ Below B w (((((((((((((((((w1.setCell ⟨g, 0, none⟩ v0).setCell ⟨g, 1, none⟩ v1).setCell ⟨g, 2, none⟩ v2).setCell ⟨g, 3, none⟩ v3).setCell ⟨g, 4, none⟩ v4).setCell ⟨g, 5, none⟩ v5).setCell ⟨g, 6, none⟩ v6).setCell ⟨g, 7, none⟩ v7).setCell ⟨g, 8, none⟩ v8).setCell ⟨g, 9, none⟩ v9).setCell ⟨g, 10, none⟩ v10).setCell ⟨g, 11, none⟩ v11).setCell ⟨g, 12, none⟩ v12).setCell ⟨g, 13, none⟩ v13).setCell ⟨g, 14, none⟩ v14))) :=
  ⟨set15_blk h v0 v1 v2 v3 v4 v5 v6 v7 v8 v9 v10 v11 v12 v13 v14, set15_below hb hg v0 v1 v2 v3 v4 v5 v6 v7 v8 v9 v10 v11 v12 v13 v14⟩
theorem chain15a {w w1 : World} {B g : Nat} {t t2 : TypeId} {arr : Array Value} {u0 u1 u2 u3 u4 u5 u6 u7 u8 u9 u10 u11 u12 u13 u14 : Value} (h : w1.heap[g]? = some (.cells #[u0, u1, u2, u3, u4, u5, u6, u7, u8, u9, u10, u11, u12, u13, u14] t)) (hb : Below B w w1) (hg : B ≤ g) (hB : B ≤ w1.heap.size) (v0 v1 v2 v3 v4 v5 v6 v7 v8 v9 v10 v11 v12 v13 v14 : Value) :
    ((((((((((((((((((w1.setCell ⟨g, 0, none⟩ v0).setCell ⟨g, 1, none⟩ v1).setCell ⟨g, 2, none⟩ v2).setCell ⟨g, 3, none⟩ v3).setCell ⟨g, 4, none⟩ v4).setCell ⟨g, 5, none⟩ v5).setCell ⟨g, 6, none⟩ v6).setCell ⟨g, 7, none⟩ v7).setCell ⟨g, 8, none⟩ v8).setCell ⟨g, 9, none⟩ v9).setCell ⟨g, 10, none⟩ v10).setCell ⟨g, 11, none⟩ v11).setCell ⟨g, 12, none⟩ v12).setCell ⟨g, 13, none⟩ v13).setCell ⟨g, 14, none⟩ v14))).alloc (.cells arr t2)).drew.heap[g]? = some (.cells #[v0, v1, v2, v3, v4, v5, v6, v7, v8, v9, v10, v11, v12, v13, v14] t) ∧ ((((((((((((((((((w1.setCell ⟨g, 0, none⟩ v0).setCell ⟨g, 1, none⟩ v1).setCell ⟨g, 2, none⟩ v2).setCell ⟨g, 3, none⟩ v3).setCell ⟨g, 4, none⟩ v4).setCell ⟨g, 5, none⟩ v5).setCell ⟨g, 6, none⟩ v6).setCell ⟨g, 7, none⟩ v7).setCell ⟨g, 8, none⟩ v8).setCell ⟨g, 9, none⟩ v9).setCell ⟨g, 10, none⟩ v10).setCell ⟨g, 11, none⟩ v11).setCell ⟨g, 12, none⟩ v12).setCell ⟨g, 13, none⟩ v13).setCell ⟨g, 14, none⟩ v14))).alloc (.cells arr t2)).drew.heap[w1.heap.size]? = some (.cells arr t2) ∧ Below B w ((((((((((((((((((w1.setCell ⟨g, 0, none⟩ v0).setCell ⟨g, 1, none⟩ v1).setCell ⟨g, 2, none⟩ v2).setCell ⟨g, 3, none⟩ v3).setCell ⟨g, 4, none⟩ v4).setCell ⟨g, 5, none⟩ v5).setCell ⟨g, 6, none⟩ v6).setCell ⟨g, 7, none⟩ v7).setCell ⟨g, 8, none⟩ v8).setCell ⟨g, 9, none⟩ v9).setCell ⟨g, 10, none⟩ v10).setCell ⟨g, 11, none⟩ v11).setCell ⟨g, 12, none⟩ v12).setCell ⟨g, 13, none⟩ v13).setCell ⟨g, 14, none⟩ v14))).alloc (.cells arr t2)).drew := by
  have h1 := chain15 h hb hg v0 v1 v2 v3 v4 v5 v6 v7 v8 v9 v10 v11 v12 v13 v14
  have h2 : (((((((((((((((((w1.setCell ⟨g, 0, none⟩ v0).setCell ⟨g, 1, none⟩ v1).setCell ⟨g, 2, none⟩ v2).setCell ⟨g, 3, none⟩ v3).setCell ⟨g, 4, none⟩ v4).setCell ⟨g, 5, none⟩ v5).setCell ⟨g, 6, none⟩ v6).setCell ⟨g, 7, none⟩ v7).setCell ⟨g, 8, none⟩ v8).setCell ⟨g, 9, none⟩ v9).setCell ⟨g, 10, none⟩ v10).setCell ⟨g, 11, none⟩ v11).setCell ⟨g, 12, none⟩ v12).setCell ⟨g, 13, none⟩ v13).setCell ⟨g, 14, none⟩ v14))).heap.size = w1.heap.size := set15_size w1 g v0 v1 v2 v3 v4 v5 v6 v7 v8 v9 v10 v11 v12 v13 v14
  generalize ((((((((((((((((w1.setCell ⟨g, 0, none⟩ v0).setCell ⟨g, 1, none⟩ v1).setCell ⟨g, 2, none⟩ v2).setCell ⟨g, 3, none⟩ v3).setCell ⟨g, 4, none⟩ v4).setCell ⟨g, 5, none⟩ v5).setCell ⟨g, 6, none⟩ v6).setCell ⟨g, 7, none⟩ v7).setCell ⟨g, 8, none⟩ v8).setCell ⟨g, 9, none⟩ v9).setCell ⟨g, 10, none⟩ v10).setCell ⟨g, 11, none⟩ v11).setCell ⟨g, 12, none⟩ v12).setCell ⟨g, 13, none⟩ v13).setCell ⟨g, 14, none⟩ v14)) = W at *
  refine ⟨(heap_old (by rw [h2]; exact (heap_cells h).2.2)).trans h1.1, heap_at h2.symm, (h1.2.alloc (by rw [h2]; exact hB) _).drew⟩

end Go.Proofs.YtccckonckddadabGreat
namespace Go.Proofs.YtccckonckddadabGreat
open Go.RowKit
set_option linter.unusedVariables false

set_option maxRecDepth 100000 in
set_option maxHeartbeats 4000000 in
theorem snew_no (x1 x2 x3 x4 x5 : Int) (w : World) (h : seqOk ⟨x1, x2, x3, x4, x5⟩ = false) : Calls Tryz.prog 45 #[.agg #[.int .i64 x1, .int .i64 x2, .int .i64 x3, .int .i64 x4, .int .i64 x5]] w fun e w' => e = .returned (.tuple #[.agg #[.int .i64 0, .int .i64 0, .int .i64 0, .slice none 0 0, .int .i64 0, .slice none 0 0, .int .i16 0, .int .i16 0, .int .i16 0, .int .i16 0, .int .i16 0, .int .i16 0, .int .i16 0, .int .i16 0, .slice none 0 0], .bool false]) ∧ Below w.heap.size w w' := by
  have H : Hid _ := h
  clear h
  go_enter Tryz.func45, Tryz.ntmps45
  go_wp2_with fail
  refine (isconf_any x1 x2 x3 x4 x5 _).mono ?_
  rintro e w1 ⟨rfl, hb1⟩
  rewrite [H.out]
  obtain ⟨g0, g1, hb0⟩ := below_two hb1
  obtain ⟨c0, f0, z0⟩ := heap_cells g0
  obtain ⟨c1, f1, z1⟩ := heap_cells g1
  have HB : Hid _ := hb0
  have HG1 : Hid _ := g1
  clear hb0 hb1 g0 g1
  go_wp2
  have HW : Hid _ := chain15 HG1.out HB.out (by omega) (.int .i64 0) (.int .i64 0) (.int .i64 0) (.slice none 0 0) (.int .i64 0) (.slice none 0 0) (.int .i16 0) (.int .i16 0) (.int .i16 0) (.int .i16 0) (.int .i16 0) (.int .i16 0) (.int .i16 0) (.int .i16 0) (.slice none 0 0)
  clear c0 c1 f0 f1 z1 z0 HG1
  generalize (((((((((((((((w1.setCell ⟨w.heap.size + 1, 0, none⟩ (.int .i64 0)).setCell ⟨w.heap.size + 1, 1, none⟩ (.int .i64 0)).setCell ⟨w.heap.size + 1, 2, none⟩ (.int .i64 0)).setCell ⟨w.heap.size + 1, 3, none⟩ (.slice none 0 0)).setCell ⟨w.heap.size + 1, 4, none⟩ (.int .i64 0)).setCell ⟨w.heap.size + 1, 5, none⟩ (.slice none 0 0)).setCell ⟨w.heap.size + 1, 6, none⟩ (.int .i16 0)).setCell ⟨w.heap.size + 1, 7, none⟩ (.int .i16 0)).setCell ⟨w.heap.size + 1, 8, none⟩ (.int .i16 0)).setCell ⟨w.heap.size + 1, 9, none⟩ (.int .i16 0)).setCell ⟨w.heap.size + 1, 10, none⟩ (.int .i16 0)).setCell ⟨w.heap.size + 1, 11, none⟩ (.int .i16 0)).setCell ⟨w.heap.size + 1, 12, none⟩ (.int .i16 0)).setCell ⟨w.heap.size + 1, 13, none⟩ (.int .i16 0)).setCell ⟨w.heap.size + 1, 14, none⟩ (.slice none 0 0)) = W2 at HW ⊢
  obtain ⟨c2, f2, z2⟩ := heap_cells HW.out.1
  refine bodyPost_ret (v := .tuple #[.agg #[.int .i64 0, .int .i64 0, .int .i64 0, .slice none 0 0, .int .i64 0, .slice none 0 0, .int .i16 0, .int .i16 0, .int .i16 0, .int .i16 0, .int .i16 0, .int .i16 0, .int .i16 0, .int .i16 0, .slice none 0 0], .bool false]) (by simp [results, Tryz.results45, go_sem, c2]) rfl ?_
  exact ⟨rfl, HW.out.2⟩

end Go.Proofs.YtccckonckddadabGreat
