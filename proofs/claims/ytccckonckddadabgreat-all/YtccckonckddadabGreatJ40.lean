import Derived.Test.YtccckonckddadabGreatJ36
import Derived.Test.YtccckonckddadabGreatJ31
import Derived.Test.YtccckonckddadabGreatJ37
import Derived.Deep.MidRow
namespace Go.Proofs.YtccckonckddadabGreat
open Go.RowKit
set_option linter.unusedVariables false

/-! ### Get -/
def doneRec (cs : List Int) (r : RecV) : List Int := if r.l = true then cs else (Dk.doV r.t.data.toList cs).1
def doneRecs (cs : List Int) (rs : List RecV) : List Int := rs.foldl doneRec cs
def doneEps (cs : List Int) (es : List (List RecV)) : List Int := es.foldl doneRecs cs
def zero8 : List Int := [0, 0, 0, 0, 0, 0, 0, 0]
def keyOk (k : ByteArray) : Bool := decide (k.size = 1) && Dk.isK ((k.data.toList.headD 0).toNat : Int)
def getV (s : CluV) (r : Int) (k : ByteArray) : Int × Int :=
  if ¬ (0 ≤ r ∧ r ≤ s.conf.reps - 1) then (0, 11) else if keyOk k = false then (0, 14)
  else ((doneEps zero8 (s.epochs.take (s.reps.getD r.toNat (0, 0)).1.toNat)).getD ((k.data.toList.headD 0).toNat - 97) 0, 0)

theorem doneRec_fit {cs : List Int} {r : RecV} (hl : cs.length = 8) (h16 : Dk.All16 cs) (hp : r.l = false → Dk.parseOk r.t.data.toList = true) : (doneRec cs r).length = 8 ∧ Dk.All16 (doneRec cs r) := by
  unfold doneRec
  split
  · exact ⟨hl, h16⟩
  · exact ⟨doV_len _ hl, doV_16 h16⟩
theorem doneRecs_snoc (cs : List Int) (rs : List RecV) (r : RecV) : doneRecs cs (rs ++ [r]) = doneRec (doneRecs cs rs) r := by unfold doneRecs; rw [List.foldl_append]; rfl
theorem doneEps_snoc (cs : List Int) (es : List (List RecV)) (rs : List RecV) : doneEps cs (es ++ [rs]) = doneRecs (doneEps cs es) rs := by unfold doneEps; rw [List.foldl_append]; rfl

theorem info_eight : (Tryz.prog.info? 109).map (·.size) = some 8 := by kernel_rfl
structure GetAt (w wr : World) (gb : Nat) (ys : List Int) : Prop where
  blk : ∃ y0 y1 y2 y3 y4 y5 y6 y7, ys = [y0, y1, y2, y3, y4, y5, y6, y7] ∧ wr.heap[gb]? = some (.cells #[.int .i64 y0, .int .i64 y1, .int .i64 y2, .int .i64 y3, .int .i64 y4, .int .i64 y5, .int .i64 y6, .int .i64 y7] 109)
  bel : Below w.heap.size w wr
  a16 : Dk.All16 ys
  gb : w.heap.size ≤ gb

def GetPost (x : Int × Int) (w : World) (e : Ending) (w' : World) : Prop := e = .returned (.tuple #[.int .i64 x.1, .int .i64 x.2]) ∧ Below w.heap.size w w'

set_option maxRecDepth 100000 in
set_option maxHeartbeats 8000000 in
theorem refget_go (g : Nat) (F : Nat → Prop) (s : CluV) (r : Nat) (k : ByteArray) (w : World) (h : CluAt w g F s) (hf : RepFit s) (hr : (r : Int) ≤ s.conf.reps - 1) (hk : keyOk k = true) :
    Calls Tryz.prog 44 #[.pointer (some ⟨g, 0, none⟩), .int .i64 (r : Int), .string k] w (GetPost (getV s r k) w) := by
  obtain ⟨hr1, hr4⟩ := conf_reps h.fit.conf
  have hg := h.block
  have hmany := h.fit.many
  obtain ⟨aT, aE, cT, cE, eas, m1, _, _, m4, _, m6, m7⟩ := h.mem
  have c4 : w.cell? ⟨g, 4, none⟩ = some (.int .i64 s.conf.reps) := by rw [(heap_cells m1).1]; rfl
  have c15 : w.cell? ⟨g, 15, none⟩ = some (.slice aE s.epochs.length cE) := by
    rw [(heap_cells m1).1, List.getElem?_toArray]
    exact clu_epochs h.fit.credit
  have crp := (clu_rep h (r := r) (by omega)).1
  have HM : Hid (_ ∧ _ ∧ _) := ⟨m4, m6, m7⟩
  have H : Hid _ := h
  have C15 : Hid _ := c15
  have CRP : Hid _ := crp
  have hks : k.size = 1 := by
    unfold keyOk at hk
    rw [Bool.and_eq_true, decide_eq_true_eq] at hk
    exact hk.1
  have hkK : Dk.isK ((k.data.toList.headD 0).toNat : Int) = true := by
    unfold keyOk at hk
    rw [Bool.and_eq_true] at hk
    exact hk.2
  have hh := headD_list k (by omega)
  rw [hh] at hkK
  have hrl : r < s.reps.length := by rw [H.out.fit.reps]; omega
  have hrg : s.reps.getD r (0, 0) = s.reps[r] := by rw [List.getD_eq_getElem?_getD, List.getElem?_eq_getElem hrl]; rfl
  obtain ⟨ct, hct⟩ : ∃ n : Nat, (s.reps.getD r (0, 0)).1 = (n : Int) := ⟨(s.reps[r]).1.toNat, by
    rw [hrg]
    have := hf _ (List.getElem_mem hrl)
    omega⟩
  have hcte : ct ≤ s.epochs.length := by
    have h1 := hf _ (List.getElem_mem hrl)
    have h2 := hct
    rw [hrg] at h2
    omega
  have HV : Hid (getV s (r : Int) k = ((doneEps zero8 (s.epochs.take ct)).getD ((k[0]'(by omega)).toNat - 97) 0, 0)) := by
    show _ = _
    unfold getV
    rw [if_neg (by omega), if_neg (by rw [hk]; simp), Int.toNat_natCast, hct, Int.toNat_natCast, hh]
  rw [hct] at CRP
  clear m1 m4 m6 m7 h c15 crp hk hh hct hrl hrg
  obtain ⟨ne, hne⟩ : ∃ x, s.epochs.length = x := ⟨_, rfl⟩
  rw [hne] at hmany hcte C15
  have HNe : Hid _ := hne
  clear hne
  obtain ⟨nr, hnr⟩ : ∃ x, s.conf.reps = x := ⟨_, rfl⟩
  rw [hnr] at hr hr1 hr4 c4
  clear hnr
  have hkb := byte_bd (k[0]'(by omega))
  have hk97 : 97 ≤ ((k[0]'(by omega)).toNat : Int) ∧ ((k[0]'(by omega)).toNat : Int) ≤ 104 := by
    unfold Dk.isK at hkK
    exact of_decide_eq_true hkK
  have r4 : (r : Int) < 4 := by omega
  have r0 : (0 : Int) ≤ (r : Int) := by omega
  have hks1 : ((k.size : Int) == 1) = true := by rw [beq_iff_eq]; omega
  obtain ⟨gb, hgb⟩ : ∃ x, x = w.heap.size := ⟨_, rfl⟩
  have HGE : Hid _ := hgb
  have H0 : Hid (GetAt w (w.alloc (.cells #[.int .i64 0, .int .i64 0, .int .i64 0, .int .i64 0, .int .i64 0, .int .i64 0, .int .i64 0, .int .i64 0] 109)) gb zero8) :=
    ⟨⟨0, 0, 0, 0, 0, 0, 0, 0, rfl, heap_at hgb⟩, (Below.refl _ _).alloc (Nat.le_refl _) _, (by intro x hx; have h0 : x = 0 := (by simpa [zero8] using hx); subst h0; exact ⟨by decide, by decide⟩), by omega⟩
  go_enter Tryz.func44, Tryz.ntmps44
  go_wp2_with fail
  refine (off_no (n := (r : Int)) (lo := 0) (hi := nr - 1) _ ⟨r0, hr⟩).mono ?_
  rintro e w1 ⟨rfl, hw⟩
  obtain rfl := hw.symm
  go_wp2_with fail
  refine (inK_any ((k[0]'(by omega)).toNat : Int) _).mono ?_
  rintro e w1 ⟨rfl, hw⟩
  obtain rfl := hw.symm
  rewrite [hkK]
  go_wp2
  rewrite [← hgb]
  clear hgb
  go_loopw [9] (fun v9 wr => ∃ i : Nat, v9 = .int .i64 i ∧ i ≤ ct ∧ Hid (GetAt w wr gb (doneEps zero8 (s.epochs.take i)))) (fun v9 _ => ct - (intOf v9).toNat)
  case atStart => exact ⟨0, rfl, Nat.zero_le _, H0⟩
  case round =>
    obtain ⟨i, rfl, hi, HL⟩ := hrel
    clear H0
    have hgr : g < wr.heap.size := Nat.lt_of_lt_of_le hg HL.out.bel.size
    have d24 : wr.cell? ⟨g, 24 + r * 2, none⟩ = some (.int .i64 (ct : Int)) := (HL.out.bel.cell (p := ⟨g, 24 + r * 2, none⟩) hg).trans CRP.out
    have d15 : wr.cell? ⟨g, 15, none⟩ = some (.slice aE ne cE) := (HL.out.bel.cell (p := ⟨g, 15, none⟩) hg).trans C15.out
    by_cases hic : i < ct
    · have i1 : (i : Int) < (ct : Int) := by omega
      have i2 : (i : Int) < (ne : Int) := by omega
      have i0 : (0 : Int) ≤ (i : Int) := by omega
      have m4 := HM.out.1
      rw [HNe.out] at m4
      obtain ⟨gE, x, rs, hae, hgE, hx, hrs, q0⟩ := ep_cell m4 HM.out.2.1 HNe.out (by omega : i < ne)
      subst hae
      obtain ⟨hrow, _⟩ := HM.out.2.2 i x rs hx hrs
      have HRow : Hid _ := hrow
      have Q0 : Hid _ := q0
      have hep := H.out.fit.ep rs (List.mem_of_getElem? hrs)
      have hrl := hep.1
      have HEp : Hid (∀ y ∈ rs, y.l = false → Dk.parseOk y.t.data.toList = true) := fun y hy hyl => by
        have h1 := hep.2
        unfold recs at h1
        rw [List.all_map, List.all_eq_true] at h1
        have h2 := h1 y hy
        unfold Function.comp RecV.told Dk.recOk recOf at h2
        simp only [hyl] at h2
        rw [Bool.and_eq_true, Bool.and_eq_true] at h2
        have h3 := h2.1.1
        simpa using h3
      have HT : Hid (doneEps zero8 (s.epochs.take (i + 1)) = doneRecs (doneEps zero8 (s.epochs.take i)) rs) := by
        show _ = _
        obtain ⟨hil, rfl⟩ := List.getElem?_eq_some_iff.1 hrs
        rw [List.take_succ_eq_append_getElem hil, doneEps_snoc]
      clear m4 hx hrs q0 hrow hep
      obtain ⟨xa, xc⟩ := x
      simp only at Q0 HRow
      obtain ⟨rl, hrle⟩ : ∃ n, rs.length = n := ⟨_, rfl⟩
      rw [hrle] at hrl HRow Q0
      have HRl : Hid _ := hrle
      clear hrle
      generalize doneEps zero8 (s.epochs.take i) = ys0 at *
      go_wp2
      go_loopw [10] (fun v10 wx => ∃ j : Nat, v10 = .int .i64 j ∧ j ≤ rl ∧ Hid (GetAt w wx gb (doneRecs ys0 (rs.take j)))) (fun v10 _ => rl - (intOf v10).toNat)
      case atStart => exact ⟨0, rfl, Nat.zero_le _, HL⟩
      case round =>
        obtain ⟨j, rfl, hj, HJ⟩ := hrel
        clear HL d24 d15 hgr
        have hgr : g < wr.heap.size := Nat.lt_of_lt_of_le hg HJ.out.bel.size
        have d15 : wr.cell? ⟨g, 15, none⟩ = some (.slice (some ⟨gE, 0, none⟩) ne cE) := (HJ.out.bel.cell (p := ⟨g, 15, none⟩) hg).trans C15.out
        have dE : wr.cell? ⟨gE, i, none⟩ = some (.slice xa rl xc) := (HJ.out.bel.cell (p := ⟨gE, i, none⟩) hgE).trans Q0.out
        have hgEr : gE < wr.heap.size := Nat.lt_of_lt_of_le hgE HJ.out.bel.size
        by_cases hjl : j < rl
        · have j1 : (j : Int) < (rl : Int) := by omega
          have j0 : (0 : Int) ≤ (j : Int) := by omega
          have hjL : j < rs.length := by rw [HRl.out]; exact hjl
          obtain ⟨gR, off, hxa, hgR, hcell⟩ : ∃ gR off, xa = some ⟨gR, off, none⟩ ∧ gR < w.heap.size ∧ ∀ (k : Nat) (r : RecV), rs[k]? = some r → w.cell? ⟨gR, off + k * 4, none⟩ = some (.int .i64 r.c) ∧ w.cell? ⟨gR, off + k * 4 + 1, none⟩ = some (.int .i64 r.i) ∧ w.cell? ⟨gR, off + k * 4 + 2, none⟩ = some (.bool r.l) ∧ w.cell? ⟨gR, off + k * 4 + 3, none⟩ = some (.string r.t) := by
            rcases HRow.out.cells with h0 | ⟨gR, off, h1, h2, h3⟩
            · omega
            · exact ⟨gR, off, h1, h2, h3⟩
          subst hxa
          obtain ⟨_, _, u2, u3⟩ := hcell j rs[j] (List.getElem?_eq_getElem hjL)
          have v2 := (HJ.out.bel.cell (p := ⟨gR, off + j * 4 + 2, none⟩) hgR).trans u2
          have v3 := (HJ.out.bel.cell (p := ⟨gR, off + j * 4 + 3, none⟩) hgR).trans u3
          have hgRr : gR < wr.heap.size := Nat.lt_of_lt_of_le hgR HJ.out.bel.size
          have HS : Hid (doneRecs ys0 (rs.take (j + 1)) = doneRec (doneRecs ys0 (rs.take j)) rs[j]) := by
            show _ = _
            rw [List.take_succ_eq_append_getElem hjL, doneRecs_snoc]
          have HPp : Hid (rs[j].l = false → Dk.parseOk rs[j].t.data.toList = true) := HEp.out rs[j] (List.getElem_mem hjL)
          clear hcell u2 u3
          generalize rs[j] = rr at *
          obtain ⟨rc, ri, rlb, rt⟩ := rr
          simp only at v2 v3 HPp
          cases rlb
          · have hok : Dk.parseOk rt.data.toList = true := HPp.out rfl
            have hpl := parse_len hok
            rw [len_list] at hpl
            have htM : rt.size ≤ maxLen := by unfold maxLen; omega
            have HOk : Hid _ := hok
            clear hok
            obtain ⟨z0, z1, z2, z3, z4, z5, z6, z7, hzs, hblk⟩ := HJ.out.blk
            have h16 := HJ.out.a16
            rw [hzs] at h16
            obtain ⟨b0, bf, bz⟩ := heap_cells hblk
            have g0 : wr.cell? ⟨gb, 0, none⟩ = some (.int .i64 z0) := by rw [b0]; rfl
            have g1 : wr.cell? ⟨gb, 1, none⟩ = some (.int .i64 z1) := by rw [b0]; rfl
            have g2 : wr.cell? ⟨gb, 2, none⟩ = some (.int .i64 z2) := by rw [b0]; rfl
            have g3 : wr.cell? ⟨gb, 3, none⟩ = some (.int .i64 z3) := by rw [b0]; rfl
            have g4 : wr.cell? ⟨gb, 4, none⟩ = some (.int .i64 z4) := by rw [b0]; rfl
            have g5 : wr.cell? ⟨gb, 5, none⟩ = some (.int .i64 z5) := by rw [b0]; rfl
            have g6 : wr.cell? ⟨gb, 6, none⟩ = some (.int .i64 z6) := by rw [b0]; rfl
            have g7 : wr.cell? ⟨gb, 7, none⟩ = some (.int .i64 z7) := by rw [b0]; rfl
            obtain ⟨y0, y1, y2, y3, y4, y5, y6, y7, hys⟩ := list8' (Dk.doV rt.data.toList [z0, z1, z2, z3, z4, z5, z6, z7]).1 (doV_len _ rfl)
            have HN1 : Hid (doneRecs ys0 (rs.take (j + 1)) = [y0, y1, y2, y3, y4, y5, y6, y7]) := by
              show _ = _
              rw [HS.out, hzs]
              unfold doneRec
              rw [if_neg (by simp)]
              exact hys
            have HCd : Hid (∀ W, Calls Tryz.prog 50 #[.string rt, .agg #[.int .i64 z0, .int .i64 z1, .int .i64 z2, .int .i64 z3, .int .i64 z4, .int .i64 z5, .int .i64 z6, .int .i64 z7]] W fun e w' => (∃ dn, e = .returned (.tuple #[.agg #[.int .i64 y0, .int .i64 y1, .int .i64 y2, .int .i64 y3, .int .i64 y4, .int .i64 y5, .int .i64 y6, .int .i64 y7], .bool dn])) ∧ Dk.All16 [y0, y1, y2, y3, y4, y5, y6, y7] ∧ Below W.heap.size W w' ∧ (∀ b x, b < W.heap.size → w'.cell? ⟨b, x, none⟩ = W.cell? ⟨b, x, none⟩) ∧ (∀ b x, b < W.heap.size → w'.frozen? ⟨b, x, none⟩ = W.frozen? ⟨b, x, none⟩) ∧ W.heap.size ≤ w'.heap.size) := fun W =>
              (rdo_any rt z0 z1 z2 z3 z4 z5 z6 z7 W htM HOk.out h16).mono (by
                rintro e w' ⟨p0, p1, p2, p3, p4, p5, p6, p7, pd, rfl, hp, h16', hb⟩
                have hp1 := congrArg Prod.fst hp
                simp only at hp1
                rw [hys] at hp1
                simp only [List.cons.injEq, and_true] at hp1
                obtain ⟨rfl, rfl, rfl, rfl, rfl, rfl, rfl, rfl⟩ := hp1
                exact ⟨⟨pd, rfl⟩, h16', hb, (bcell hb).1, (bcell hb).2, hb.size⟩)
            have HGb : Hid _ := hblk
            clear hys h16 hzs hblk b0
            go_wp2
            go_region_held3 (fun W => Below wr.heap.size wr W ∧ (∀ b x, b < wr.heap.size → W.cell? ⟨b, x, none⟩ = wr.cell? ⟨b, x, none⟩))
              (first | (with_reducible exact doS_0) | (with_reducible exact doS_1) | (with_reducible exact doS_2 ‹_›) | (with_reducible exact doS_3 ‹_›) | (with_reducible exact doS_4 ‹_›) | (with_reducible exact doS_5 ‹_›))
              (first | (go_at_call 50; refine (HCd.out _).mono ?_; rintro e w9 ⟨⟨dn, rfl⟩, hy16, hB9, hc9, hf9, hz9⟩))
            all_goals
              first
              | (have hX : Below wr.heap.size wr (w9.alloc (.cells #[.int .i64 y0, .int .i64 y1, .int .i64 y2, .int .i64 y3, .int .i64 y4, .int .i64 y5, .int .i64 y6, .int .i64 y7] 109)) ∧ (w9.alloc (.cells #[.int .i64 y0, .int .i64 y1, .int .i64 y2, .int .i64 y3, .int .i64 y4, .int .i64 y5, .int .i64 y6, .int .i64 y7] 109)).heap[w9.heap.size]? = some (.cells #[.int .i64 y0, .int .i64 y1, .int .i64 y2, .int .i64 y3, .int .i64 y4, .int .i64 y5, .int .i64 y6, .int .i64 y7] 109) := ⟨(doS_4 hB9).1, heap_alloc_new w9 _⟩
                 clear hB9 hc9 hf9 hz9
                 generalize w9.heap.size = gc at *
                 generalize w9.alloc (.cells #[.int .i64 y0, .int .i64 y1, .int .i64 y2, .int .i64 y3, .int .i64 y4, .int .i64 y5, .int .i64 y6, .int .i64 y7] 109) = W6 at *)
              | (have hX : Below wr.heap.size wr ((((((((w9.setCell ⟨wr.heap.size, 0, none⟩ (.int .i64 y0)).setCell ⟨wr.heap.size, 1, none⟩ (.int .i64 y1)).setCell ⟨wr.heap.size, 2, none⟩ (.int .i64 y2)).setCell ⟨wr.heap.size, 3, none⟩ (.int .i64 y3)).setCell ⟨wr.heap.size, 4, none⟩ (.int .i64 y4)).setCell ⟨wr.heap.size, 5, none⟩ (.int .i64 y5)).setCell ⟨wr.heap.size, 6, none⟩ (.int .i64 y6)).setCell ⟨wr.heap.size, 7, none⟩ (.int .i64 y7)) ∧ (((((((((w9.setCell ⟨wr.heap.size, 0, none⟩ (.int .i64 y0)).setCell ⟨wr.heap.size, 1, none⟩ (.int .i64 y1)).setCell ⟨wr.heap.size, 2, none⟩ (.int .i64 y2)).setCell ⟨wr.heap.size, 3, none⟩ (.int .i64 y3)).setCell ⟨wr.heap.size, 4, none⟩ (.int .i64 y4)).setCell ⟨wr.heap.size, 5, none⟩ (.int .i64 y5)).setCell ⟨wr.heap.size, 6, none⟩ (.int .i64 y6)).setCell ⟨wr.heap.size, 7, none⟩ (.int .i64 y7))).heap[wr.heap.size]? = some (.cells #[.int .i64 y0, .int .i64 y1, .int .i64 y2, .int .i64 y3, .int .i64 y4, .int .i64 y5, .int .i64 y6, .int .i64 y7] 109) := ⟨(doS_5 hB9).1, set8 ((hB9.block wr.heap.size (by show _ < (wr.alloc _).heap.size; simp)).trans (heap_alloc_new wr _)) (.int .i64 y0) (.int .i64 y1) (.int .i64 y2) (.int .i64 y3) (.int .i64 y4) (.int .i64 y5) (.int .i64 y6) (.int .i64 y7)⟩
                 clear hB9 hc9 hf9 hz9
                 generalize hgc : wr.heap.size = gc at *
                 generalize ((((((((w9.setCell ⟨gc, 0, none⟩ (.int .i64 y0)).setCell ⟨gc, 1, none⟩ (.int .i64 y1)).setCell ⟨gc, 2, none⟩ (.int .i64 y2)).setCell ⟨gc, 3, none⟩ (.int .i64 y3)).setCell ⟨gc, 4, none⟩ (.int .i64 y4)).setCell ⟨gc, 5, none⟩ (.int .i64 y5)).setCell ⟨gc, 6, none⟩ (.int .i64 y6)).setCell ⟨gc, 7, none⟩ (.int .i64 y7)) = W6 at *
                 obtain ⟨hX1, hX2⟩ := hX
                 rw [← hgc] at hX1 bz
                 have hX := And.intro hX1 hX2
                 clear hgc hX1 hX2)
              obtain ⟨cg, fg, zg⟩ := heap_cells hX.2
              have hgb6 : W6.heap[gb]? = _ := (hX.1.block gb bz).trans HGb.out
              obtain ⟨k0, kf, kz⟩ := heap_cells hgb6
              have e0 : W6.cell? ⟨gb, 0, none⟩ = some (.int .i64 z0) := by rw [k0]; rfl
              have e1 : W6.cell? ⟨gb, 1, none⟩ = some (.int .i64 z1) := by rw [k0]; rfl
              have e2 : W6.cell? ⟨gb, 2, none⟩ = some (.int .i64 z2) := by rw [k0]; rfl
              have e3 : W6.cell? ⟨gb, 3, none⟩ = some (.int .i64 z3) := by rw [k0]; rfl
              have e4 : W6.cell? ⟨gb, 4, none⟩ = some (.int .i64 z4) := by rw [k0]; rfl
              have e5 : W6.cell? ⟨gb, 5, none⟩ = some (.int .i64 z5) := by rw [k0]; rfl
              have e6 : W6.cell? ⟨gb, 6, none⟩ = some (.int .i64 z6) := by rw [k0]; rfl
              have e7 : W6.cell? ⟨gb, 7, none⟩ = some (.int .i64 z7) := by rw [k0]; rfl
              clear k0
              have HN : Hid (GetAt w ((((((((W6.setCell ⟨gb, 0, none⟩ (.int .i64 y0)).setCell ⟨gb, 1, none⟩ (.int .i64 y1)).setCell ⟨gb, 2, none⟩ (.int .i64 y2)).setCell ⟨gb, 3, none⟩ (.int .i64 y3)).setCell ⟨gb, 4, none⟩ (.int .i64 y4)).setCell ⟨gb, 5, none⟩ (.int .i64 y5)).setCell ⟨gb, 6, none⟩ (.int .i64 y6)).setCell ⟨gb, 7, none⟩ (.int .i64 y7)) gb (doneRecs ys0 (rs.take (j + 1)))) := by
                show GetAt _ _ _ _
                rw [HN1.out]
                refine ⟨⟨y0, y1, y2, y3, y4, y5, y6, y7, rfl, set8 hgb6 (.int .i64 y0) (.int .i64 y1) (.int .i64 y2) (.int .i64 y3) (.int .i64 y4) (.int .i64 y5) (.int .i64 y6) (.int .i64 y7)⟩, set8_below (HJ.out.bel.trans (hX.1.mono HJ.out.bel.size)) HJ.out.gb (.int .i64 y0) (.int .i64 y1) (.int .i64 y2) (.int .i64 y3) (.int .i64 y4) (.int .i64 y5) (.int .i64 y6) (.int .i64 y7), hy16, HJ.out.gb⟩
              clear g0 g1 g2 g3 g4 g5 g6 g7 hgb6 hX d15 dE v2 v3 bf
              have c0 : W6.cell? ⟨gc, 0, none⟩ = some (.int .i64 y0) := by rw [cg]; rfl
              have c1 : W6.cell? ⟨gc, 1, none⟩ = some (.int .i64 y1) := by rw [cg]; rfl
              have c2 : W6.cell? ⟨gc, 2, none⟩ = some (.int .i64 y2) := by rw [cg]; rfl
              have c3 : W6.cell? ⟨gc, 3, none⟩ = some (.int .i64 y3) := by rw [cg]; rfl
              have c4 : W6.cell? ⟨gc, 4, none⟩ = some (.int .i64 y4) := by rw [cg]; rfl
              have c5 : W6.cell? ⟨gc, 5, none⟩ = some (.int .i64 y5) := by rw [cg]; rfl
              have c6 : W6.cell? ⟨gc, 6, none⟩ = some (.int .i64 y6) := by rw [cg]; rfl
              have c7 : W6.cell? ⟨gc, 7, none⟩ = some (.int .i64 y7) := by rw [cg]; rfl
              have HTh : Hid (W6.there gb 0 8) := fun q hq => ⟨by
                  rw [Nat.zero_add]
                  have : q = 0 ∨ q = 1 ∨ q = 2 ∨ q = 3 ∨ q = 4 ∨ q = 5 ∨ q = 6 ∨ q = 7 := by omega
                  rcases this with rfl | rfl | rfl | rfl | rfl | rfl | rfl | rfl
                  · rw [e0]; rfl
                  · rw [e1]; rfl
                  · rw [e2]; rfl
                  · rw [e3]; rfl
                  · rw [e4]; rfl
                  · rw [e5]; rfl
                  · rw [e6]; rfl
                  · rw [e7]; rfl, kf _⟩
              have HOne : Hid ((#[.int .i64 y0, .int .i64 y1, .int .i64 y2, .int .i64 y3, .int .i64 y4, .int .i64 y5, .int .i64 y6, .int .i64 y7] : Array Value).all (·.oneCell') = true) := all_oneCell_toArray (cs := [.int .i64 y0, .int .i64 y1, .int .i64 y2, .int .i64 y3, .int .i64 y4, .int .i64 y5, .int .i64 y6, .int .i64 y7]) (by intro u hu; simp only [List.mem_cons, List.not_mem_nil, or_false] at hu; rcases hu with rfl | rfl | rfl | rfl | rfl | rfl | rfl | rfl <;> rfl)
              clear cg fg e0 e1 e2 e3 e4 e5 e6 e7 kf
              have HN' : Hid (GetAt w (W6.setCells gb 0 [.int .i64 y0, .int .i64 y1, .int .i64 y2, .int .i64 y3, .int .i64 y4, .int .i64 y5, .int .i64 y6, .int .i64 y7]) gb (doneRecs ys0 (rs.take (j + 1)))) := HN.out
              clear HN
              go_wp2_with (refine wpList_store_mid rfl 109 (.tmp 8) (.tmp 81) rfl gb 0 #[.int .i64 y0, .int .i64 y1, .int .i64 y2, .int .i64 y3, .int .i64 y4, .int .i64 y5, .int .i64 y6, .int .i64 y7] rfl rfl HTh.out info_eight HOne.out ?_; generalize W6.setCells gb 0 [.int .i64 y0, .int .i64 y1, .int .i64 y2, .int .i64 y3, .int .i64 y4, .int .i64 y5, .int .i64 y6, .int .i64 y7] = W7 at HN' ⊢)
              go_wp2
              go_roundw
              case rel => exact ⟨j + 1, by go_num, by omega, HN'⟩
              case measure => simp [intOf]; omega
          · have HN : Hid (GetAt w wr gb (doneRecs ys0 (rs.take (j + 1)))) := by
              show GetAt _ _ _ _
              rw [HS.out]
              exact HJ.out
            go_wp2
            go_roundw
            case rel => exact ⟨j + 1, by go_num, by omega, HN⟩
            case measure => simp [intOf]; omega
        · have hje : j = rl := by omega
          subst hje
          have HN : Hid (GetAt w wr gb (doneEps zero8 (s.epochs.take (i + 1)))) := by
            have := HJ.out
            rw [List.take_of_length_le (by rw [HRl.out]; omega)] at this
            show GetAt _ _ _ _
            rw [HT.out]
            exact this
          have hjj : decide ((j : Int) < (j : Int)) = false := decide_eq_false (by omega)
          clear HJ
          go_wp2
          go_roundw
          case rel => exact ⟨i + 1, by go_num, by omega, HN⟩
          case measure => simp [intOf]; omega
    · have hie : i = ct := by omega
      subst hie
      have hii : decide ((i : Int) < (i : Int)) = false := decide_eq_false (by omega)
      obtain ⟨z0, z1, z2, z3, z4, z5, z6, z7, hzs, hblk⟩ := HL.out.blk
      have HBl : Hid _ := HL.out.bel
      rw [hzs] at HV
      obtain ⟨b0, bf, bz⟩ := heap_cells hblk
      obtain ⟨q, hq⟩ : ∃ q : Nat, (k[0]'(by omega)).toNat = 97 + q := ⟨(k[0]'(by omega)).toNat - 97, by omega⟩
      have hq8 : q < 8 := by omega
      have hqw : IntKind.u8.wrap (((k[0]'(by omega)).toNat : Int) - 97) = (q : Int) := by
        rw [hq]
        unfold IntKind.wrap
        simp [IntKind.bits, IntKind.signed]
        omega
      have hq1 : (q : Int) < 8 := by omega
      have hq0 : (0 : Int) ≤ (q : Int) := by omega
      obtain ⟨v, hv⟩ : ∃ v, ([z0, z1, z2, z3, z4, z5, z6, z7] : List Int)[q]? = some v := ⟨_, List.getElem?_eq_getElem (by exact hq8)⟩
      have dq : wr.cell? ⟨gb, q, none⟩ = some (.int .i64 v) := by
        rw [b0]
        have e : #[Value.int .i64 z0, .int .i64 z1, .int .i64 z2, .int .i64 z3, .int .i64 z4, .int .i64 z5, .int .i64 z6, .int .i64 z7] = (([z0, z1, z2, z3, z4, z5, z6, z7] : List Int).map (Value.int .i64 ·)).toArray := rfl
        rw [e, List.getElem?_toArray, List.getElem?_map, hv]; rfl
      have HV2 : Hid (getV s (r : Int) k = (v, 0)) := by
        show _ = _
        rw [HV.out, hq, show 97 + q - 97 = q from by omega, List.getD_eq_getElem?_getD, hv]; rfl
      clear HL hblk b0 bf hzs HV
      go_wp2
      go_ret2
      exact ⟨by rw [HV2.out]; rfl, HBl.out⟩

end Go.Proofs.YtccckonckddadabGreat
namespace Go.Proofs.YtccckonckddadabGreat
set_option linter.unusedVariables false

/-! ### What a replica of the program is -/
def bytesOf (l : List UInt8) : ByteArray := ⟨l.toArray⟩
theorem bytesOf_list (l : List UInt8) : (bytesOf l).data.toList = l := by simp [bytesOf]
theorem bytesOf_eq {b : ByteArray} {l : List UInt8} (h : b.data.toList = l) : b = bytesOf l := bytes_eq (by rw [h, bytesOf_list])
def repOf (s : CluV) (x : Int × Int) : RepV := ⟨bytesOf (logV s x.1.toNat), (logV s x.2.toNat).length, x.1.toNat, doneEps zero8 (s.epochs.take x.1.toNat)⟩
def repsOf (s : CluV) : List RepV := (s.reps.take s.conf.reps.toNat).map (repOf s)
def RSim (p : SeqV) (s : CluV) : Prop := p.reps = repsOf s

theorem reps_len {s : CluV} (hf : CluFit s) : (repsOf s).length = s.conf.reps.toNat := by
  have := conf_reps hf.conf
  have := hf.reps
  unfold repsOf
  rw [List.length_map, List.length_take]; omega
theorem reps_at {s : CluV} (hf : CluFit s) {k : Nat} (hk : (k : Int) ≤ s.conf.reps - 1) : (repsOf s)[k]? = some (repOf s (s.reps.getD k (0, 0))) := by
  have := conf_reps hf.conf
  have hl := hf.reps
  unfold repsOf
  rw [List.getElem?_map, List.getElem?_take, if_pos (by omega), List.getD_eq_getElem?_getD, List.getElem?_eq_getElem (by omega)]; rfl
theorem reps_put {s : CluV} (k : Nat) (x : Int × Int) : repsOf (repV s k x) = (repsOf s).set k (repOf s x) := by
  unfold repsOf repV
  simp only
  rw [← List.map_set, List.take_set]
  rfl

/-- Nothing of the replicas hangs on more than the epochs that they have. -/
theorem reps_same {s s' : CluV} (h1 : s'.reps = s.reps) (h2 : s'.conf = s.conf) (h3 : ∀ n, n ≤ s.epochs.length → s'.epochs.take n = s.epochs.take n) (hr : RepFit s) : repsOf s' = repsOf s := by
  unfold repsOf
  rw [h1, h2]
  refine List.map_congr_left (fun x hx => ?_)
  obtain ⟨p0, p1, p2⟩ := hr x (List.mem_of_mem_take hx)
  unfold repOf logV
  rw [h3 x.1.toNat (by omega), h3 x.2.toNat (by omega)]

theorem pLate_reps : ∀ (r i : Nat) (p : SeqV) (l : List RecV), (pLateFrom r i p l).1.reps = p.reps ∧ (pLateFrom r i p l).1.eps = p.eps
  | 0, i, p, l => ⟨rfl, rfl⟩
  | r + 1, i, p, l => by
    rw [pLate_step]
    exact pLate_reps r (i + 1) _ _
theorem pVisit_reps : ∀ (r i : Nat) (p : SeqV) (room : Int) (l : List RecV), (pVisitFrom r i p room l).1.reps = p.reps ∧ (pVisitFrom r i p room l).1.eps = p.eps
  | 0, i, p, room, l => ⟨rfl, rfl⟩
  | r + 1, i, p, room, l => by
    rw [pVisit_step]
    exact pVisit_reps r _ _ _ _
theorem fill_reps (p : SeqV) : (pFillV p).1.reps = p.reps := by
  unfold pFillV
  split
  · rfl
  · show (settleV _ _).reps = p.reps
    rw [(settle_reps _ _).2]
    show (pVisitFrom _ _ _ _ _).1.reps = _
    rw [(pVisit_reps _ _ _ _ _).1, (pLate_reps _ _ _ _).1]
theorem submit_reps (p : SeqV) (client id : Int) (t : ByteArray) (d : Int) : (pSubmitV p client id t d).1.reps = p.reps := by
  unfold pSubmitV
  iterate 6 (split; rfl)
  rfl

theorem new_rsim {c : ConfV} (h : confOk c = true) : RSim (pNewV c) (newV c) := by
  have hr := conf_reps h
  have e : ∀ x : Int × Int, x = (0, 0) → repOf (newV c) x = ⟨⟨#[]⟩, 0, 0, [0, 0, 0, 0, 0, 0, 0, 0]⟩ := fun x hx => by subst hx; rfl
  have h4 : c.reps = 1 ∨ c.reps = 2 ∨ c.reps = 3 ∨ c.reps = 4 := by omega
  show List.replicate c.reps.toNat _ = ((newV c).reps.take c.reps.toNat).map (repOf (newV c))
  rcases h4 with h | h | h | h <;> rw [h] <;> rfl
theorem submit_rsim {p : SeqV} {s : CluV} (h : RSim p s) (hr : RepFit s) (client id : Int) (t : ByteArray) (d : Int) : RSim (pSubmitV p client id t d).1 (submitV s client id t d).1 := by
  unfold RSim
  rw [submit_reps, h]
  symm
  have e : (submitV s client id t d).1.reps = s.reps ∧ (submitV s client id t d).1.conf = s.conf ∧ (submitV s client id t d).1.epochs = s.epochs := by
    unfold submitV
    iterate 6 (split; exact ⟨rfl, rfl, rfl⟩)
    exact ⟨rfl, rfl, rfl⟩
  exact reps_same e.1 e.2.1 (fun n _ => by rw [e.2.2]) hr
theorem fill_shape {s : CluV} (hf : CluFit s) (hr : Rest s) : (fillV s).1.reps = s.reps ∧ (fillV s).1.conf = s.conf ∧ (∀ n, n ≤ s.epochs.length → (fillV s).1.epochs.take n = s.epochs.take n) := by
  unfold fillV
  split
  · exact ⟨rfl, rfl, fun _ _ => rfl⟩
  · obtain ⟨e1, e2, e3, _⟩ := conf_edges hf.conf
    obtain ⟨y1, y2, y3⟩ := lateFrom_mild s.conf.clients.toNat 0 s [] hf (by omega)
    obtain ⟨z1, z2⟩ := visitFrom_mild s.conf.clients.toNat 0 (lateFrom s.conf.clients.toNat 0 s []).1 s.conf.room (lateFrom s.conf.clients.toNat 0 s []).2 y2 (by rw [y1.conf]; omega) e3 (fun j _ _ => by rw [y3, y1.epochs]; exact hr.credit _)
    have hM := y1.trans z1
    refine ⟨hM.reps, hM.conf, fun n hn => ?_⟩
    show List.take n ((visitFrom s.conf.clients.toNat 0 (lateFrom s.conf.clients.toNat 0 s []).1 s.conf.room (lateFrom s.conf.clients.toNat 0 s []).2).1.epochs ++ [_]) = _
    rw [hM.epochs, List.take_append_of_le_length hn]
theorem fill_rsim {p : SeqV} {s : CluV} (h : RSim p s) (hf : CluFit s) (hr : Rest s) (hp : RepFit s) : RSim (pFillV p).1 (fillV s).1 := by
  unfold RSim
  rw [fill_reps, h]
  obtain ⟨e1, e2, e3⟩ := fill_shape hf hr
  exact (reps_same e1 e2 e3 hp).symm

/-! ### The texts of the epochs -/
theorem eps_at {p : SeqV} {s : CluV} (h : Sim p s) {n : Nat} (hn : n < s.epochs.length) : ∃ b, p.eps[n]? = some b ∧ b.data.toList = Dk.epoch n (recs s.epochs[n]) := by
  have h2 := congrArg (fun l => l[n]?) h.log.2
  simp only [List.getElem?_map, epsL, List.getElem?_mapIdx, List.getElem?_eq_getElem hn, Option.map_some] at h2
  cases hb : p.eps[n]? with
  | none => rw [hb] at h2; cases h2
  | some b =>
    rw [hb] at h2
    exact ⟨b, rfl, by simpa using h2⟩
theorem frame_ep {s : CluV} (hf : CluFit s) {n : Nat} (hn : n < s.epochs.length) : Dk.frameOk (n : Int) (recs s.epochs[n]) = true := by
  have hep := hf.ep _ (List.getElem_mem hn)
  have := hf.many
  unfold Dk.frameOk
  rw [decide_eq_true ⟨by omega, by omega⟩, decide_eq_true (by rw [recs, List.length_map]; exact hep.1), hep.2]; rfl

/-- The records are told by what is read. -/
theorem told_inj {a b : RecV} (h : a.told = b.told) : a = b := by
  obtain ⟨a1, a2, a3, a4⟩ := a
  obtain ⟨b1, b2, b3, b4⟩ := b
  unfold RecV.told recOf at h
  simp only [Dk.Rec.mk.injEq] at h
  obtain ⟨h1, h2, h3, h4⟩ := h
  subst h1 h2 h3
  rw [bytes_eq h4]
theorem recs_inj : ∀ {a b : List RecV}, recs a = recs b → a = b
  | [], [], _ => rfl
  | [], _ :: _, h => by cases h
  | _ :: _, [], h => by cases h
  | x :: a, y :: b, h => by
    have h' : x.told :: recs a = y.told :: recs b := h
    injection h' with h1 h2
    rw [told_inj h1, recs_inj h2]

theorem recOk_text {r : RecV} (h : Dk.recOk r.told = true) (hl : r.l = false) : Dk.parseOk r.t.data.toList = true := by
  unfold Dk.recOk RecV.told recOf at h
  simp only [hl, Bool.and_eq_true, Bool.false_eq_true, if_false] at h
  exact h.1.1

/-! ### What it does -/
def didRecs (cs : List Int) (rs : List RecV) : List Int := rs.foldl (fun cs r => (doRec r cs).1) cs
theorem didRecs_done : ∀ (rs : List RecV) (cs : List Int), (recs rs).all Dk.recOk = true → didRecs cs rs = doneRecs cs rs
  | [], cs, _ => rfl
  | r :: rs, cs, h => by
    have h' : (r.told :: recs rs).all Dk.recOk = true := h
    rw [List.all_cons, Bool.and_eq_true] at h'
    show didRecs (doRec r cs).1 rs = doneRecs (doneRec cs r) rs
    rw [didRecs_done rs _ h'.2]
    congr 1
    unfold doRec doneRec
    by_cases hl : r.l = true
    · rw [if_pos hl, if_pos hl]
    · rw [if_neg hl, if_neg hl]
      have hp := recOk_text h'.1 (by simpa using hl)
      rw [if_pos hp]

/-- A front of the bytes of some epochs: those that are in it as a whole, and what is no epoch. -/
theorem cut_split {es : List (List Dk.Rec)} (hs : Dk.Sound 0 es) {at' k : Nat} (hk : k ≤ es.length) (h1 : (Dk.logFrom 0 (es.take k)).length ≤ at') (h2 : k < es.length → at' < (Dk.logFrom 0 (es.take (k + 1))).length) :
    ∃ r, (Dk.logFrom 0 es).take at' = Dk.logFrom 0 (es.take k) ++ r ∧ Dk.readV k r = none := by
  have hlk : (es.take k).length = k := by rw [List.length_take]; omega
  by_cases hlt : k < es.length
  · have h2' := h2 hlt
    have hes : es = es.take k ++ es[k] :: es.drop (k + 1) := by rw [← List.drop_eq_getElem_cons hlt, List.take_append_drop]
    have e1 : Dk.logFrom 0 es = Dk.logFrom 0 (es.take k) ++ (Dk.epoch k es[k] ++ Dk.logFrom (k + 1) (es.drop (k + 1))) := by
      conv => lhs; rw [hes]
      rw [Dk.logFrom_append, hlk, Nat.zero_add]
      rfl
    have e2 : (Dk.logFrom 0 (es.take (k + 1))).length = (Dk.logFrom 0 (es.take k)).length + (Dk.epoch k es[k]).length := by
      rw [List.take_succ_eq_append_getElem hlt, Dk.logFrom_snoc, hlk, Nat.zero_add, List.length_append]
    have e3 : (Dk.logFrom 0 es).take at' = Dk.logFrom 0 (es.take k) ++ (Dk.epoch k es[k]).take (at' - (Dk.logFrom 0 (es.take k)).length) := by
      rw [e1, List.take_append, List.take_of_length_le h1, List.take_append_of_le_length (by omega)]
    have hf : Dk.frameOk (k : Int) es[k] = true := by
      have := hs k es[k] (List.getElem?_eq_getElem hlt)
      rw [Nat.zero_add] at this
      exact this
    exact ⟨_, e3, Dk.read_short hf (by omega)⟩
  · have hke : es.take k = es := List.take_of_length_le (by omega)
    rw [hke] at h1 ⊢
    exact ⟨[], by rw [List.take_of_length_le h1, List.append_nil], Dk.read_nil _⟩

theorem sound_eps0 {s : CluV} (hf : CluFit s) (n : Nat) : Dk.Sound 0 ((s.epochs.take n).map recs) := by
  intro i rs hrs
  rw [List.getElem?_map] at hrs
  obtain ⟨es, hes, rfl⟩ := Option.map_eq_some_iff.1 hrs
  have hlt : i < n ∧ i < s.epochs.length := by
    have := (List.getElem?_eq_some_iff.1 hes).1
    rw [List.length_take] at this
    omega
  rw [List.getElem?_take_of_lt hlt.1] at hes
  have hep := hf.ep es (List.mem_of_getElem? hes)
  have := hf.many
  unfold Dk.frameOk
  rw [decide_eq_true ⟨by omega, by omega⟩, decide_eq_true (by rw [recs, List.length_map]; exact hep.1), hep.2]; rfl

/-! ### A crash -/
theorem crash_low (s : CluV) (safe : Nat) (keep : Int) : ∀ f n, n < crashGo s safe keep f n → ((logV s (crashGo s safe keep f n)).length : Int) - (logV s safe).length ≤ keep
  | 0, n, h => by exact absurd h (by show ¬ n < n; omega)
  | f + 1, n, h => by
    rw [crashGo] at h ⊢
    split at h
    · omega
    · rename_i hk
      rw [if_neg hk]
      by_cases hn : n + 1 < crashGo s safe keep f (n + 1)
      · exact crash_low s safe keep f (n + 1) hn
      · have := (crashGo_le s safe keep f (n + 1)).1
        have e : crashGo s safe keep f (n + 1) = n + 1 := by omega
        rw [e]
        omega
theorem crash_high (s : CluV) (safe : Nat) (keep : Int) : ∀ f n, crashGo s safe keep f n < n + f → keep < ((logV s (crashGo s safe keep f n + 1)).length : Int) - (logV s safe).length
  | 0, n, h => by exact absurd h (by show ¬ n < n + 0; omega)
  | f + 1, n, h => by
    rw [crashGo] at h ⊢
    split at h
    · rename_i hk
      rw [if_pos hk]
      exact hk
    · rename_i hk
      rw [if_neg hk]
      exact crash_high s safe keep f (n + 1) (by omega)
/-- How many bytes a crash leaves. -/
def leftN (disk safe : Nat) (keep : Int) : Nat := if (disk : Int) - safe ≤ 0 ∨ (disk : Int) - safe ≤ keep then disk else safe + keep.toNat
theorem log_lt {s : CluV} {n : Nat} (hn : n < s.epochs.length) : (logV s n).length < (logV s (n + 1)).length := by
  rw [log_snoc (List.getElem?_eq_getElem hn), List.length_append]
  have := Dk.epoch_pos n (recs s.epochs[n])
  omega
theorem crash_split {s : CluV} (hf : CluFit s) {x : Int × Int} (hx : 0 ≤ x.2 ∧ x.2 ≤ x.1 ∧ x.1 ≤ (s.epochs.length : Int)) (keep : Int) :
    ∃ r, (logV s x.1.toNat).take (leftN (logV s x.1.toNat).length (logV s x.2.toNat).length keep) = logV s (crashN s x keep) ++ r ∧ Dk.readV (crashN s x keep) r = none := by
  obtain ⟨x1, x2⟩ := x
  simp only at hx
  obtain ⟨c, rfl⟩ : ∃ c : Nat, x1 = c := ⟨x1.toNat, by omega⟩
  obtain ⟨sf, rfl⟩ : ∃ c : Nat, x2 = c := ⟨x2.toNat, by omega⟩
  have hle := crashGo_le s sf keep (c - sf) sf
  have hlow := crash_low s sf keep (c - sf) sf
  have hhigh := crash_high s sf keep (c - sf) sf
  obtain ⟨K, hK⟩ : ∃ K, crashGo s sf keep (c - sf) sf = K := ⟨_, rfl⟩
  have e : crashN s (((c : Nat) : Int), ((sf : Nat) : Int)) keep = K := by
    unfold crashN
    simp only [Int.toNat_natCast]
    exact hK
  rw [hK] at hle hlow hhigh
  simp only [Int.toNat_natCast]
  rw [e]
  have hc : c ≤ s.epochs.length := by omega
  have hsc : sf ≤ c := by omega
  have m1 := logV_mono s sf (K - sf) (by omega)
  rw [show sf + (K - sf) = K from by omega] at m1
  have m2 := logV_mono s K (c - K) (by omega)
  rw [show K + (c - K) = c from by omega] at m2
  have hs := sound_eps0 hf c
  have hlen : ((s.epochs.take c).map recs).length = c := by rw [List.length_map, List.length_take]; omega
  have htake : ∀ j, j ≤ c → ((s.epochs.take c).map recs).take j = (s.epochs.take j).map recs := fun j hj => by
    rw [← List.map_take, List.take_take, Nat.min_eq_left hj]
  have h := cut_split hs (at' := leftN (logV s c).length (logV s sf).length keep) (k := K) (by omega) (by
    rw [htake K (by omega)]
    show (logV s K).length ≤ _
    unfold leftN
    split
    · exact m2
    · by_cases hk : sf < K
      · have := hlow hk; omega
      · have : K = sf := by omega
        rw [this]; omega) (fun hlt => by
    rw [hlen] at hlt
    rw [htake (K + 1) (by omega)]
    show _ < (logV s (K + 1)).length
    have h2 := hhigh (by omega)
    have m3 := logV_mono s (K + 1) (c - (K + 1)) (by omega)
    rw [show K + 1 + (c - (K + 1)) = c from by omega] at m3
    have m4 := log_lt (s := s) (n := K) (by omega)
    unfold leftN
    rw [if_neg (by omega)]
    omega)
  rw [htake K (by omega)] at h
  exact h

end Go.Proofs.YtccckonckddadabGreat
