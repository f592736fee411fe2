import Derived.Test.YtccckonckddadabGreatJ16
namespace Go.Proofs.YtccckonckddadabGreat
open Go.RowKit
set_option linter.unusedVariables false

theorem bytes_nil {b : ByteArray} (h : b.data.toList = []) : b = ⟨#[]⟩ := by
  obtain ⟨⟨l⟩⟩ := b
  have : l = [] := h
  subst this
  rfl

theorem rdo_next {w w2 : World} {X : Array Value} {sl : Value} {n : Nat} {ps : List ByteArray} {y0 y1 y2 y3 y4 y5 y6 y7 : Int} (hD : DoR w w2 X #[.int .i64 y0, .int .i64 y1, .int .i64 y2, .int .i64 y3, .int .i64 y4, .int .i64 y5, .int .i64 y6, .int .i64 y7] sl n ps) (hA : Dk.All16 [y0, y1, y2, y3, y4, y5, y6, y7]) {j jj : Nat} (hj : j < 8) (hJ : jj = j) (nv : Int) (hn : Dk.In16 nv) :
    ∃ z0 z1 z2 z3 z4 z5 z6 z7, [y0, y1, y2, y3, y4, y5, y6, y7].set j nv = [z0, z1, z2, z3, z4, z5, z6, z7] ∧ Dk.All16 [z0, z1, z2, z3, z4, z5, z6, z7] ∧ DoR w (w2.setCell ⟨w.heap.size, jj, none⟩ (.int .i64 nv)) X #[.int .i64 z0, .int .i64 z1, .int .i64 z2, .int .i64 z3, .int .i64 z4, .int .i64 z5, .int .i64 z6, .int .i64 z7] sl n ps := by
  obtain ⟨z0, z1, z2, z3, z4, z5, z6, z7, h1, h2⟩ := put8 y0 y1 y2 y3 y4 y5 y6 y7 nv hj
  subst hJ
  refine ⟨z0, z1, z2, z3, z4, z5, z6, z7, h1, by rw [← h1]; exact Dk.set_16 hA _ hn, ?_⟩
  have := hD.put jj (.int .i64 nv)
  rw [h2] at this
  exact this

theorem kb_is {o kb : ByteArray} (hok : Dk.opOk o.data.toList = true) (h2 : 2 < o.size) (hak : Dk.argKey (o.data.toList.drop 2) = true) (hkb : kb.data.toList = (o.data.toList.take 3).drop 2) :
    ∃ ja : Nat, ja < 8 ∧ (Dk.opV o.data.toList).akey = ja ∧ (∃ h : 0 < kb.size, (kb[0].toNat : Int) = 97 + ja) ∧ (kb.data.toList == []) = false := by
  have hK : Dk.isK o[2].toNat = true := by rw [← drop2_head o h2, Dk.opOk_key hok, hak]
  obtain ⟨k0, k1⟩ := Dk.of_isK hK
  have hl : kb.data.toList = [o[2]] := by
    rw [hkb, List.drop_take, List.drop_eq_getElem_cons (by rw [len_list]; omega)]
    rfl
  have hs : kb.size = 1 := congrArg List.length hl
  refine ⟨o[2].toNat - 97, by omega, ?_, ⟨by omega, ?_⟩, by rw [hl]; rfl⟩
  · show Dk.argK (o.data.toList.drop 2) = _
    rw [(Dk.arg_yes hak).2.1, drop2_head o h2, Dk.keyV_yes k0 k1]; omega
  · have : kb[0]'(by omega) = o[2] := by rw [get_list kb 0 (by omega)]; simp [hl]
    rw [this]; omega

set_option maxRecDepth 100000 in
set_option maxHeartbeats 8000000 in
theorem rdo_any (s : ByteArray) (x0 x1 x2 x3 x4 x5 x6 x7 : Int) (w : World) (hs : s.size ≤ maxLen) (hp : Dk.parseOk s.data.toList = true) (hx : Dk.All16 [x0, x1, x2, x3, x4, x5, x6, x7]) :
    Calls Tryz.prog 50 #[.string s, .agg #[.int .i64 x0, .int .i64 x1, .int .i64 x2, .int .i64 x3, .int .i64 x4, .int .i64 x5, .int .i64 x6, .int .i64 x7]] w (RDoPost s.data.toList [x0, x1, x2, x3, x4, x5, x6, x7] w) := by
  have HP : Hid (Dk.parseOk s.data.toList = true) := hp
  have HX : Hid _ := hx
  clear hp hx
  go_enter Tryz.func50, Tryz.ntmps50
  go_wp2_with fail
  refine (parts_any s _ hs).mono ?_
  rintro e w1 ⟨mk, a, n, c, ps, rfl, hyes, hno, hb⟩
  obtain ⟨hmk, hn, hps, hown⟩ := hyes HP.out
  rewrite [HP.out]
  have hD0 := doR_start hb hown
  have hl8 : n ≤ 8 := by
    have := Dk.opsOf_len HP.out
    unfold Dk.opsOf Dk.opsV at this
    rw [List.length_map, ← hps, lists, List.length_map, ← hn] at this
    exact this
  have hmks : mk.size ≤ maxLen := by
    have h1 := (Dk.cut_len (m := 124) s.data.toList).1
    rw [← hmk, len_list, len_list] at h1
    omega
  have HO : Hid (Dk.opsOf s.data.toList = (lists ps).map Dk.opV) := by show _ = _; unfold Dk.opsOf Dk.opsV; rw [hps]
  have HAll : Hid (∀ o ∈ ps, Dk.opOk o.data.toList = true ∧ o.size ≤ 60) := by
    intro o ho
    have hmem : o.data.toList ∈ Dk.splitAll 59 (Dk.cutAt 124 s.data.toList).2.1 := by rw [← hps]; exact List.mem_map.2 ⟨o, ho, rfl⟩
    have hp := HP.out
    simp only [Dk.parseOk, Dk.opsOk, Bool.and_eq_true, decide_eq_true_eq] at hp
    refine ⟨List.all_eq_true.1 hp.2.2 _ hmem, ?_⟩
    have h1 := Dk.split_len 59 _ _ hmem
    have h2 := (Dk.cut_len (m := 124) s.data.toList).1
    have h3 := hp.1.1.1
    rw [len_list] at h1 h2
    rw [len_list] at h3
    omega
  have HM : Hid (_ ∧ _) := ⟨hmk, hn⟩
  have HD0 : Hid _ := hD0
  clear hyes hno hb hmk hn hps hown hD0 hs
  go_wp2
  go_loopw [10] (fun i wr => ∃ (k : Nat) (y0 y1 y2 y3 y4 y5 y6 y7 : Int), k ≤ n ∧ i = .int .i64 k ∧ Hid (Dk.runV (Dk.keysOf s.data.toList) (Dk.opsOf s.data.toList) [x0, x1, x2, x3, x4, x5, x6, x7] = Dk.runV (Dk.keysOf s.data.toList) (((lists ps).map Dk.opV).drop k) [y0, y1, y2, y3, y4, y5, y6, y7] ∧ Dk.All16 [y0, y1, y2, y3, y4, y5, y6, y7] ∧
      DoR w wr #[.int .i64 x0, .int .i64 x1, .int .i64 x2, .int .i64 x3, .int .i64 x4, .int .i64 x5, .int .i64 x6, .int .i64 x7] #[.int .i64 y0, .int .i64 y1, .int .i64 y2, .int .i64 y3, .int .i64 y4, .int .i64 y5, .int .i64 y6, .int .i64 y7] (.slice a n c) n ps)) (fun i _ => n - (intOf i).toNat)
  case atStart => exact ⟨0, x0, x1, x2, x3, x4, x5, x6, x7, Nat.zero_le _, rfl, by rw [HO.out]; rfl, HX.out, HD0.out⟩
  case round =>
    obtain ⟨k, y0, y1, y2, y3, y4, y5, y6, y7, hk, rfl, HR⟩ := hrel
    clear HD0
    by_cases hlt : k < n
    · obtain ⟨g, rfl, hgB, hg, hcell⟩ := str_cell HR.out.2.2.o HM.out.2 (by omega)
      have hkp : k < ps.length := by rw [← HM.out.2]; exact hlt
      have ck := hcell k ps[k] (List.getElem?_eq_getElem hkp)
      have HPk : Hid ((lists ps)[k]? = some ps[k].data.toList) := by show _ = _; simp [lists, hkp]
      obtain ⟨hok, hsm⟩ := HAll.out ps[k] (List.getElem_mem hkp)
      clear hcell
      generalize ps[k] = o at *
      obtain ⟨j, hI, h0, ho0, h1, hsg, hsgn⟩ := opIs_of hok hsm HM.out.1
      have HI : Hid _ := hI
      have HOk : Hid _ := hok
      have HSg : Hid (_ ∧ _) := ⟨hsg, hsgn⟩
      have H0 : Hid ((o[0].toNat : Int) = 97 + j) := ho0
      have hj8 : j < 8 := hI.j8
      have hbig : 2 < o.size := hI.big
      have hb0 := byte_bd o[0]
      have hb1 := byte_bd o[1]
      have hosz : o.size ≤ maxLen := by unfold maxLen; omega
      clear hI hok hsg hsgn ho0
      obtain ⟨cy, fy, zy⟩ := heap_cells HR.out.2.2.c
      go_wp2_with fail
      refine (argument_any o y0 y1 y2 y3 y4 y5 y6 y7 _ hosz HOk.out).mono ?_
      rintro e w2 ⟨kb, rfl, hkb, hb⟩
      have HD : Hid _ := HR.out.2.2.kept hb
      obtain ⟨cr, fr, zr⟩ := heap_cells HD.out.r
      obtain ⟨cx, fx, zx⟩ := heap_cells HD.out.x
      have hje : o[0].toNat - 97 = j := by have := H0.out; omega
      have hlo : (97 : Int) ≤ (o[0].toNat : Int) := by have := H0.out; omega
      have hhi : (o[0].toNat : Int) ≤ 104 := by have := H0.out; omega
      have HJ : Hid _ := hje
      have cj : w2.cell? ⟨w.heap.size, o[0].toNat - 97, none⟩ = some (.int .i64 ([y0, y1, y2, y3, y4, y5, y6, y7].getD j 0)) := by rw [hje, (heap_cells HD.out.c).1]; exact at8 y0 y1 y2 y3 y4 y5 y6 y7 hj8
      have fj : w2.frozen? ⟨w.heap.size, o[0].toNat - 97, none⟩ = false := (heap_cells HD.out.c).2.1 _
      clear hje
      have av := Dk.argVal_16 HR.out.2.1 o.data.toList
      have hv16 := Dk.getD_16 HR.out.2.1 j
      have HKb : Hid _ := hkb
      clear cy fy zy hb hkb ck
      have HSt : Hid (Dk.stepV (Dk.keysOf s.data.toList) (Dk.opV o.data.toList) [y0, y1, y2, y3, y4, y5, y6, y7] = Dk.stepV (Dk.keysOf s.data.toList) (Dk.opV o.data.toList) [y0, y1, y2, y3, y4, y5, y6, y7]) := rfl
      generalize hav : Dk.argVal (Dk.opV o.data.toList) [y0, y1, y2, y3, y4, y5, y6, y7] = a2 at *
      generalize hhv : ([y0, y1, y2, y3, y4, y5, y6, y7] : List Int).getD j 0 = hv at *
      have HAv : Hid (_ ∧ _) := ⟨hav, hhv⟩
      clear hav hhv
      obtain ⟨av0, av1⟩ := av
      obtain ⟨hv0, hv1⟩ := hv16
      go_wp2_with fail
      refine (in_any mk _ _ hmks).mono ?_
      rintro e w' ⟨rfl, rfl⟩
      rewrite [H0.out]
      cases hin : Dk.inB mk.data.toList (97 + j)
      · have HN : Hid (Dk.runV (Dk.keysOf s.data.toList) (Dk.opsOf s.data.toList) [x0, x1, x2, x3, x4, x5, x6, x7] = none) := by
          show _ = _
          rw [HR.out.1]
          exact Dk.runV_step_no HPk.out (Dk.stepV_key (by rw [HI.out.decl]; exact hin))
        clear hin
        go_wp2
        refine bodyPost_ret (v := .tuple #[.agg #[.int .i64 x0, .int .i64 x1, .int .i64 x2, .int .i64 x3, .int .i64 x4, .int .i64 x5, .int .i64 x6, .int .i64 x7], .bool false]) (by simp [results, Tryz.results50, go_sem, cr]) rfl ?_
        refine ⟨x0, x1, x2, x3, x4, x5, x6, x7, false, rfl, doV_none HN.out, HX.out, ?_⟩
        iterate 8 refine Below.setCell ?_ (by show w.heap.size ≤ w.heap.size + 1; omega) _
        exact HD.out.b
      · have HIn : Hid _ := hin
        clear hin
        cases hak : Dk.argKey (o.data.toList.drop 2)
        · have hkb : kb = ⟨#[]⟩ := by
            have := HKb.out
            rw [hak] at this
            exact bytes_nil this
          subst hkb
          have HSt : Hid (Dk.stepV (Dk.keysOf s.data.toList) (Dk.opV o.data.toList) [y0, y1, y2, y3, y4, y5, y6, y7] = Dk.signV o[1].toNat j hv a2 [y0, y1, y2, y3, y4, y5, y6, y7]) := by
            show _ = _
            rw [Dk.stepV_go (by rw [HI.out.decl]; exact HIn.out) (fun h => by
              have : Dk.argKey (o.data.toList.drop 2) = true := h
              rw [hak] at this; cases this), HAv.out.1, HSg.out.1, HI.out.key, Int.toNat_natCast, HAv.out.2]
          clear hak
          have hpr := Dk.prod_16 (a := hv) (b := a2) ⟨hv0, hv1⟩ ⟨av0, av1⟩
          rcases Dk.isSign_of HSg.out.2 with hc | hc | hc | hc | hc | hc | hc
          · have HS : Hid (Dk.stepV (Dk.keysOf s.data.toList) (Dk.opV o.data.toList) [y0, y1, y2, y3, y4, y5, y6, y7] = ([y0, y1, y2, y3, y4, y5, y6, y7].set j a2, true)) := by show _ = _; rw [HSt.out, hc]; rfl
            obtain ⟨z0, z1, z2, z3, z4, z5, z6, z7, e1, e2, e3⟩ := rdo_next HD.out HR.out.2.1 hj8 HJ.out a2 ⟨av0, av1⟩
            have HZ : Hid (_ ∧ _ ∧ _) := ⟨e1, e2, e3⟩
            clear e1 e2 e3
            go_wp2
            go_roundw
            case rel => exact ⟨k + 1, z0, z1, z2, z3, z4, z5, z6, z7, by omega, by go_num, by rw [HR.out.1, Dk.runV_step_yes HPk.out HS.out, HZ.out.1], HZ.out.2.1, HZ.out.2.2⟩
            case measure => simp [intOf]; omega
          · have HS : Hid (Dk.stepV (Dk.keysOf s.data.toList) (Dk.opV o.data.toList) [y0, y1, y2, y3, y4, y5, y6, y7] = ([y0, y1, y2, y3, y4, y5, y6, y7].set j (Dk.wrap16 (hv + a2)), true)) := by show _ = _; rw [HSt.out, hc]; rfl
            have hw := Dk.wrap16_bd (hv + a2)
            go_wp2_with fail
            refine (wrap_any _ _ (by omega) (by omega)).mono ?_
            rintro e w' ⟨rfl, rfl⟩
            generalize Dk.wrap16 (hv + a2) = nv at *
            obtain ⟨z0, z1, z2, z3, z4, z5, z6, z7, e1, e2, e3⟩ := rdo_next HD.out HR.out.2.1 hj8 HJ.out nv hw
            have HZ : Hid (_ ∧ _ ∧ _) := ⟨e1, e2, e3⟩
            clear e1 e2 e3
            go_wp2
            go_roundw
            case rel => exact ⟨k + 1, z0, z1, z2, z3, z4, z5, z6, z7, by omega, by go_num, by rw [HR.out.1, Dk.runV_step_yes HPk.out HS.out, HZ.out.1], HZ.out.2.1, HZ.out.2.2⟩
            case measure => simp [intOf]; omega
          · have HS : Hid (Dk.stepV (Dk.keysOf s.data.toList) (Dk.opV o.data.toList) [y0, y1, y2, y3, y4, y5, y6, y7] = ([y0, y1, y2, y3, y4, y5, y6, y7].set j (Dk.wrap16 (hv - a2)), true)) := by show _ = _; rw [HSt.out, hc]; rfl
            have hw := Dk.wrap16_bd (hv - a2)
            go_wp2_with fail
            refine (wrap_any _ _ (by omega) (by omega)).mono ?_
            rintro e w' ⟨rfl, rfl⟩
            generalize Dk.wrap16 (hv - a2) = nv at *
            obtain ⟨z0, z1, z2, z3, z4, z5, z6, z7, e1, e2, e3⟩ := rdo_next HD.out HR.out.2.1 hj8 HJ.out nv hw
            have HZ : Hid (_ ∧ _ ∧ _) := ⟨e1, e2, e3⟩
            clear e1 e2 e3
            go_wp2
            go_roundw
            case rel => exact ⟨k + 1, z0, z1, z2, z3, z4, z5, z6, z7, by omega, by go_num, by rw [HR.out.1, Dk.runV_step_yes HPk.out HS.out, HZ.out.1], HZ.out.2.1, HZ.out.2.2⟩
            case measure => simp [intOf]; omega
          · have HS : Hid (Dk.stepV (Dk.keysOf s.data.toList) (Dk.opV o.data.toList) [y0, y1, y2, y3, y4, y5, y6, y7] = ([y0, y1, y2, y3, y4, y5, y6, y7].set j (Dk.wrap16 (hv * a2)), true)) := by show _ = _; rw [HSt.out, hc]; rfl
            have hw := Dk.wrap16_bd (hv * a2)
            go_wp2_with fail
            refine (wrap_any _ _ (by omega) (by omega)).mono ?_
            rintro e w' ⟨rfl, rfl⟩
            generalize Dk.wrap16 (hv * a2) = nv at *
            obtain ⟨z0, z1, z2, z3, z4, z5, z6, z7, e1, e2, e3⟩ := rdo_next HD.out HR.out.2.1 hj8 HJ.out nv hw
            have HZ : Hid (_ ∧ _ ∧ _) := ⟨e1, e2, e3⟩
            clear e1 e2 e3
            go_wp2
            go_roundw
            case rel => exact ⟨k + 1, z0, z1, z2, z3, z4, z5, z6, z7, by omega, by go_num, by rw [HR.out.1, Dk.runV_step_yes HPk.out HS.out, HZ.out.1], HZ.out.2.1, HZ.out.2.2⟩
            case measure => simp [intOf]; omega
          · by_cases hcmp : hv < a2
            · have HS : Hid (Dk.stepV (Dk.keysOf s.data.toList) (Dk.opV o.data.toList) [y0, y1, y2, y3, y4, y5, y6, y7] = ([y0, y1, y2, y3, y4, y5, y6, y7].set j hv, true)) := by
                show _ = _
                have h := @Dk.sign_lt j a2 [y0, y1, y2, y3, y4, y5, y6, y7]
                rw [HAv.out.2] at h
                rw [HSt.out, hc, h, decide_eq_true hcmp]
              obtain ⟨z0, z1, z2, z3, z4, z5, z6, z7, e1, e2, e3⟩ := rdo_next HD.out HR.out.2.1 hj8 HJ.out hv ⟨hv0, hv1⟩
              have HZ : Hid (_ ∧ _ ∧ _) := ⟨e1, e2, e3⟩
              clear e1 e2 e3
              go_wp2
              go_roundw
              case rel => exact ⟨k + 1, z0, z1, z2, z3, z4, z5, z6, z7, by omega, by go_num, by rw [HR.out.1, Dk.runV_step_yes HPk.out HS.out, HZ.out.1], HZ.out.2.1, HZ.out.2.2⟩
              case measure => simp [intOf]; omega
            · have HS : Hid (Dk.stepV (Dk.keysOf s.data.toList) (Dk.opV o.data.toList) [y0, y1, y2, y3, y4, y5, y6, y7] = ([y0, y1, y2, y3, y4, y5, y6, y7].set j hv, false)) := by
                show _ = _
                have h := @Dk.sign_lt j a2 [y0, y1, y2, y3, y4, y5, y6, y7]
                rw [HAv.out.2] at h
                rw [HSt.out, hc, h, decide_eq_false hcmp]
              have hdc := decide_eq_false hcmp
              have HN : Hid (Dk.runV (Dk.keysOf s.data.toList) (Dk.opsOf s.data.toList) [x0, x1, x2, x3, x4, x5, x6, x7] = none) := by
                show _ = _
                rw [HR.out.1]
                exact Dk.runV_step_no HPk.out HS.out
              go_wp2
              refine bodyPost_ret (v := .tuple #[.agg #[.int .i64 x0, .int .i64 x1, .int .i64 x2, .int .i64 x3, .int .i64 x4, .int .i64 x5, .int .i64 x6, .int .i64 x7], .bool false]) (by simp [results, Tryz.results50, go_sem, cr]) rfl ?_
              refine ⟨x0, x1, x2, x3, x4, x5, x6, x7, false, rfl, doV_none HN.out, HX.out, ?_⟩
              iterate 8 refine Below.setCell ?_ (by show w.heap.size ≤ w.heap.size + 1; omega) _
              exact HD.out.b
          · by_cases hcmp : a2 < hv
            · have HS : Hid (Dk.stepV (Dk.keysOf s.data.toList) (Dk.opV o.data.toList) [y0, y1, y2, y3, y4, y5, y6, y7] = ([y0, y1, y2, y3, y4, y5, y6, y7].set j hv, true)) := by
                show _ = _
                have h := @Dk.sign_gt j a2 [y0, y1, y2, y3, y4, y5, y6, y7]
                rw [HAv.out.2] at h
                rw [HSt.out, hc, h, decide_eq_true hcmp]
              obtain ⟨z0, z1, z2, z3, z4, z5, z6, z7, e1, e2, e3⟩ := rdo_next HD.out HR.out.2.1 hj8 HJ.out hv ⟨hv0, hv1⟩
              have HZ : Hid (_ ∧ _ ∧ _) := ⟨e1, e2, e3⟩
              clear e1 e2 e3
              go_wp2
              go_roundw
              case rel => exact ⟨k + 1, z0, z1, z2, z3, z4, z5, z6, z7, by omega, by go_num, by rw [HR.out.1, Dk.runV_step_yes HPk.out HS.out, HZ.out.1], HZ.out.2.1, HZ.out.2.2⟩
              case measure => simp [intOf]; omega
            · have HS : Hid (Dk.stepV (Dk.keysOf s.data.toList) (Dk.opV o.data.toList) [y0, y1, y2, y3, y4, y5, y6, y7] = ([y0, y1, y2, y3, y4, y5, y6, y7].set j hv, false)) := by
                show _ = _
                have h := @Dk.sign_gt j a2 [y0, y1, y2, y3, y4, y5, y6, y7]
                rw [HAv.out.2] at h
                rw [HSt.out, hc, h, decide_eq_false hcmp]
              have hdc := decide_eq_false hcmp
              have HN : Hid (Dk.runV (Dk.keysOf s.data.toList) (Dk.opsOf s.data.toList) [x0, x1, x2, x3, x4, x5, x6, x7] = none) := by
                show _ = _
                rw [HR.out.1]
                exact Dk.runV_step_no HPk.out HS.out
              go_wp2
              refine bodyPost_ret (v := .tuple #[.agg #[.int .i64 x0, .int .i64 x1, .int .i64 x2, .int .i64 x3, .int .i64 x4, .int .i64 x5, .int .i64 x6, .int .i64 x7], .bool false]) (by simp [results, Tryz.results50, go_sem, cr]) rfl ?_
              refine ⟨x0, x1, x2, x3, x4, x5, x6, x7, false, rfl, doV_none HN.out, HX.out, ?_⟩
              iterate 8 refine Below.setCell ?_ (by show w.heap.size ≤ w.heap.size + 1; omega) _
              exact HD.out.b
          · cases hcmp : (hv == a2)
            · have HS : Hid (Dk.stepV (Dk.keysOf s.data.toList) (Dk.opV o.data.toList) [y0, y1, y2, y3, y4, y5, y6, y7] = ([y0, y1, y2, y3, y4, y5, y6, y7].set j hv, false)) := by
                show _ = _
                have h := @Dk.sign_same j a2 [y0, y1, y2, y3, y4, y5, y6, y7]
                rw [HAv.out.2] at h
                rw [HSt.out, hc, h, hcmp]
              have HN : Hid (Dk.runV (Dk.keysOf s.data.toList) (Dk.opsOf s.data.toList) [x0, x1, x2, x3, x4, x5, x6, x7] = none) := by
                show _ = _
                rw [HR.out.1]
                exact Dk.runV_step_no HPk.out HS.out
              go_wp2
              refine bodyPost_ret (v := .tuple #[.agg #[.int .i64 x0, .int .i64 x1, .int .i64 x2, .int .i64 x3, .int .i64 x4, .int .i64 x5, .int .i64 x6, .int .i64 x7], .bool false]) (by simp [results, Tryz.results50, go_sem, cr]) rfl ?_
              refine ⟨x0, x1, x2, x3, x4, x5, x6, x7, false, rfl, doV_none HN.out, HX.out, ?_⟩
              iterate 8 refine Below.setCell ?_ (by show w.heap.size ≤ w.heap.size + 1; omega) _
              exact HD.out.b
            · have HS : Hid (Dk.stepV (Dk.keysOf s.data.toList) (Dk.opV o.data.toList) [y0, y1, y2, y3, y4, y5, y6, y7] = ([y0, y1, y2, y3, y4, y5, y6, y7].set j hv, true)) := by
                show _ = _
                have h := @Dk.sign_same j a2 [y0, y1, y2, y3, y4, y5, y6, y7]
                rw [HAv.out.2] at h
                rw [HSt.out, hc, h, hcmp]
              obtain ⟨z0, z1, z2, z3, z4, z5, z6, z7, e1, e2, e3⟩ := rdo_next HD.out HR.out.2.1 hj8 HJ.out hv ⟨hv0, hv1⟩
              have HZ : Hid (_ ∧ _ ∧ _) := ⟨e1, e2, e3⟩
              clear e1 e2 e3
              go_wp2
              go_roundw
              case rel => exact ⟨k + 1, z0, z1, z2, z3, z4, z5, z6, z7, by omega, by go_num, by rw [HR.out.1, Dk.runV_step_yes HPk.out HS.out, HZ.out.1], HZ.out.2.1, HZ.out.2.2⟩
              case measure => simp [intOf]; omega
        · have hkl : kb.data.toList = (o.data.toList.take 3).drop 2 := by
            have := HKb.out
            rw [hak] at this
            exact this
          obtain ⟨ja, hja, hka, hkb1, hkb2⟩ := kb_is HOk.out hbig hak hkl
          have hkn : (kb.toList == []) = false := by rw [bytes_toList]; exact hkb2
          obtain ⟨hk0, hkv⟩ := hkb1
          have HKV : Hid _ := hkv
          clear hkv
          have HKA : Hid _ := hka
          clear hka
          go_wp2_with fail
          refine (in_any mk _ _ hmks).mono ?_
          rintro e w' ⟨rfl, rfl⟩
          rewrite [HKV.out]
          cases hin2 : Dk.inB mk.data.toList (97 + ja)
          · have HS : Hid (Dk.stepV (Dk.keysOf s.data.toList) (Dk.opV o.data.toList) [y0, y1, y2, y3, y4, y5, y6, y7] = ([y0, y1, y2, y3, y4, y5, y6, y7], false)) := Dk.stepV_arg (by rw [HI.out.decl]; exact HIn.out) hak (by rw [HKA.out, Dk.decl_in hja, ← HM.out.1]; exact hin2)
            clear hin2 hak
            have HN : Hid (Dk.runV (Dk.keysOf s.data.toList) (Dk.opsOf s.data.toList) [x0, x1, x2, x3, x4, x5, x6, x7] = none) := by
              show _ = _
              rw [HR.out.1]
              exact Dk.runV_step_no HPk.out HS.out
            go_wp2
            refine bodyPost_ret (v := .tuple #[.agg #[.int .i64 x0, .int .i64 x1, .int .i64 x2, .int .i64 x3, .int .i64 x4, .int .i64 x5, .int .i64 x6, .int .i64 x7], .bool false]) (by simp [results, Tryz.results50, go_sem, cr]) rfl ?_
            refine ⟨x0, x1, x2, x3, x4, x5, x6, x7, false, rfl, doV_none HN.out, HX.out, ?_⟩
            iterate 8 refine Below.setCell ?_ (by show w.heap.size ≤ w.heap.size + 1; omega) _
            exact HD.out.b
          · have HSt : Hid (Dk.stepV (Dk.keysOf s.data.toList) (Dk.opV o.data.toList) [y0, y1, y2, y3, y4, y5, y6, y7] = Dk.signV o[1].toNat j hv a2 [y0, y1, y2, y3, y4, y5, y6, y7]) := by
              show _ = _
              rw [Dk.stepV_go (by rw [HI.out.decl]; exact HIn.out) (fun _ => by rw [HKA.out, Dk.decl_in hja, ← HM.out.1]; exact hin2), HAv.out.1, HSg.out.1, HI.out.key, Int.toNat_natCast, HAv.out.2]
            clear hin2 hak
            have hpr := Dk.prod_16 (a := hv) (b := a2) ⟨hv0, hv1⟩ ⟨av0, av1⟩
            rcases Dk.isSign_of HSg.out.2 with hc | hc | hc | hc | hc | hc | hc
            · have HS : Hid (Dk.stepV (Dk.keysOf s.data.toList) (Dk.opV o.data.toList) [y0, y1, y2, y3, y4, y5, y6, y7] = ([y0, y1, y2, y3, y4, y5, y6, y7].set j a2, true)) := by show _ = _; rw [HSt.out, hc]; rfl
              obtain ⟨z0, z1, z2, z3, z4, z5, z6, z7, e1, e2, e3⟩ := rdo_next HD.out HR.out.2.1 hj8 HJ.out a2 ⟨av0, av1⟩
              have HZ : Hid (_ ∧ _ ∧ _) := ⟨e1, e2, e3⟩
              clear e1 e2 e3
              go_wp2
              go_roundw
              case rel => exact ⟨k + 1, z0, z1, z2, z3, z4, z5, z6, z7, by omega, by go_num, by rw [HR.out.1, Dk.runV_step_yes HPk.out HS.out, HZ.out.1], HZ.out.2.1, HZ.out.2.2⟩
              case measure => simp [intOf]; omega
            · have HS : Hid (Dk.stepV (Dk.keysOf s.data.toList) (Dk.opV o.data.toList) [y0, y1, y2, y3, y4, y5, y6, y7] = ([y0, y1, y2, y3, y4, y5, y6, y7].set j (Dk.wrap16 (hv + a2)), true)) := by show _ = _; rw [HSt.out, hc]; rfl
              have hw := Dk.wrap16_bd (hv + a2)
              go_wp2_with fail
              refine (wrap_any _ _ (by omega) (by omega)).mono ?_
              rintro e w' ⟨rfl, rfl⟩
              generalize Dk.wrap16 (hv + a2) = nv at *
              obtain ⟨z0, z1, z2, z3, z4, z5, z6, z7, e1, e2, e3⟩ := rdo_next HD.out HR.out.2.1 hj8 HJ.out nv hw
              have HZ : Hid (_ ∧ _ ∧ _) := ⟨e1, e2, e3⟩
              clear e1 e2 e3
              go_wp2
              go_roundw
              case rel => exact ⟨k + 1, z0, z1, z2, z3, z4, z5, z6, z7, by omega, by go_num, by rw [HR.out.1, Dk.runV_step_yes HPk.out HS.out, HZ.out.1], HZ.out.2.1, HZ.out.2.2⟩
              case measure => simp [intOf]; omega
            · have HS : Hid (Dk.stepV (Dk.keysOf s.data.toList) (Dk.opV o.data.toList) [y0, y1, y2, y3, y4, y5, y6, y7] = ([y0, y1, y2, y3, y4, y5, y6, y7].set j (Dk.wrap16 (hv - a2)), true)) := by show _ = _; rw [HSt.out, hc]; rfl
              have hw := Dk.wrap16_bd (hv - a2)
              go_wp2_with fail
              refine (wrap_any _ _ (by omega) (by omega)).mono ?_
              rintro e w' ⟨rfl, rfl⟩
              generalize Dk.wrap16 (hv - a2) = nv at *
              obtain ⟨z0, z1, z2, z3, z4, z5, z6, z7, e1, e2, e3⟩ := rdo_next HD.out HR.out.2.1 hj8 HJ.out nv hw
              have HZ : Hid (_ ∧ _ ∧ _) := ⟨e1, e2, e3⟩
              clear e1 e2 e3
              go_wp2
              go_roundw
              case rel => exact ⟨k + 1, z0, z1, z2, z3, z4, z5, z6, z7, by omega, by go_num, by rw [HR.out.1, Dk.runV_step_yes HPk.out HS.out, HZ.out.1], HZ.out.2.1, HZ.out.2.2⟩
              case measure => simp [intOf]; omega
            · have HS : Hid (Dk.stepV (Dk.keysOf s.data.toList) (Dk.opV o.data.toList) [y0, y1, y2, y3, y4, y5, y6, y7] = ([y0, y1, y2, y3, y4, y5, y6, y7].set j (Dk.wrap16 (hv * a2)), true)) := by show _ = _; rw [HSt.out, hc]; rfl
              have hw := Dk.wrap16_bd (hv * a2)
              go_wp2_with fail
              refine (wrap_any _ _ (by omega) (by omega)).mono ?_
              rintro e w' ⟨rfl, rfl⟩
              generalize Dk.wrap16 (hv * a2) = nv at *
              obtain ⟨z0, z1, z2, z3, z4, z5, z6, z7, e1, e2, e3⟩ := rdo_next HD.out HR.out.2.1 hj8 HJ.out nv hw
              have HZ : Hid (_ ∧ _ ∧ _) := ⟨e1, e2, e3⟩
              clear e1 e2 e3
              go_wp2
              go_roundw
              case rel => exact ⟨k + 1, z0, z1, z2, z3, z4, z5, z6, z7, by omega, by go_num, by rw [HR.out.1, Dk.runV_step_yes HPk.out HS.out, HZ.out.1], HZ.out.2.1, HZ.out.2.2⟩
              case measure => simp [intOf]; omega
            · by_cases hcmp : hv < a2
              · have HS : Hid (Dk.stepV (Dk.keysOf s.data.toList) (Dk.opV o.data.toList) [y0, y1, y2, y3, y4, y5, y6, y7] = ([y0, y1, y2, y3, y4, y5, y6, y7].set j hv, true)) := by
                  show _ = _
                  have h := @Dk.sign_lt j a2 [y0, y1, y2, y3, y4, y5, y6, y7]
                  rw [HAv.out.2] at h
                  rw [HSt.out, hc, h, decide_eq_true hcmp]
                obtain ⟨z0, z1, z2, z3, z4, z5, z6, z7, e1, e2, e3⟩ := rdo_next HD.out HR.out.2.1 hj8 HJ.out hv ⟨hv0, hv1⟩
                have HZ : Hid (_ ∧ _ ∧ _) := ⟨e1, e2, e3⟩
                clear e1 e2 e3
                go_wp2
                go_roundw
                case rel => exact ⟨k + 1, z0, z1, z2, z3, z4, z5, z6, z7, by omega, by go_num, by rw [HR.out.1, Dk.runV_step_yes HPk.out HS.out, HZ.out.1], HZ.out.2.1, HZ.out.2.2⟩
                case measure => simp [intOf]; omega
              · have HS : Hid (Dk.stepV (Dk.keysOf s.data.toList) (Dk.opV o.data.toList) [y0, y1, y2, y3, y4, y5, y6, y7] = ([y0, y1, y2, y3, y4, y5, y6, y7].set j hv, false)) := by
                  show _ = _
                  have h := @Dk.sign_lt j a2 [y0, y1, y2, y3, y4, y5, y6, y7]
                  rw [HAv.out.2] at h
                  rw [HSt.out, hc, h, decide_eq_false hcmp]
                have hdc := decide_eq_false hcmp
                have HN : Hid (Dk.runV (Dk.keysOf s.data.toList) (Dk.opsOf s.data.toList) [x0, x1, x2, x3, x4, x5, x6, x7] = none) := by
                  show _ = _
                  rw [HR.out.1]
                  exact Dk.runV_step_no HPk.out HS.out
                go_wp2
                refine bodyPost_ret (v := .tuple #[.agg #[.int .i64 x0, .int .i64 x1, .int .i64 x2, .int .i64 x3, .int .i64 x4, .int .i64 x5, .int .i64 x6, .int .i64 x7], .bool false]) (by simp [results, Tryz.results50, go_sem, cr]) rfl ?_
                refine ⟨x0, x1, x2, x3, x4, x5, x6, x7, false, rfl, doV_none HN.out, HX.out, ?_⟩
                iterate 8 refine Below.setCell ?_ (by show w.heap.size ≤ w.heap.size + 1; omega) _
                exact HD.out.b
            · by_cases hcmp : a2 < hv
              · have HS : Hid (Dk.stepV (Dk.keysOf s.data.toList) (Dk.opV o.data.toList) [y0, y1, y2, y3, y4, y5, y6, y7] = ([y0, y1, y2, y3, y4, y5, y6, y7].set j hv, true)) := by
                  show _ = _
                  have h := @Dk.sign_gt j a2 [y0, y1, y2, y3, y4, y5, y6, y7]
                  rw [HAv.out.2] at h
                  rw [HSt.out, hc, h, decide_eq_true hcmp]
                obtain ⟨z0, z1, z2, z3, z4, z5, z6, z7, e1, e2, e3⟩ := rdo_next HD.out HR.out.2.1 hj8 HJ.out hv ⟨hv0, hv1⟩
                have HZ : Hid (_ ∧ _ ∧ _) := ⟨e1, e2, e3⟩
                clear e1 e2 e3
                go_wp2
                go_roundw
                case rel => exact ⟨k + 1, z0, z1, z2, z3, z4, z5, z6, z7, by omega, by go_num, by rw [HR.out.1, Dk.runV_step_yes HPk.out HS.out, HZ.out.1], HZ.out.2.1, HZ.out.2.2⟩
                case measure => simp [intOf]; omega
              · have HS : Hid (Dk.stepV (Dk.keysOf s.data.toList) (Dk.opV o.data.toList) [y0, y1, y2, y3, y4, y5, y6, y7] = ([y0, y1, y2, y3, y4, y5, y6, y7].set j hv, false)) := by
                  show _ = _
                  have h := @Dk.sign_gt j a2 [y0, y1, y2, y3, y4, y5, y6, y7]
                  rw [HAv.out.2] at h
                  rw [HSt.out, hc, h, decide_eq_false hcmp]
                have hdc := decide_eq_false hcmp
                have HN : Hid (Dk.runV (Dk.keysOf s.data.toList) (Dk.opsOf s.data.toList) [x0, x1, x2, x3, x4, x5, x6, x7] = none) := by
                  show _ = _
                  rw [HR.out.1]
                  exact Dk.runV_step_no HPk.out HS.out
                go_wp2
                refine bodyPost_ret (v := .tuple #[.agg #[.int .i64 x0, .int .i64 x1, .int .i64 x2, .int .i64 x3, .int .i64 x4, .int .i64 x5, .int .i64 x6, .int .i64 x7], .bool false]) (by simp [results, Tryz.results50, go_sem, cr]) rfl ?_
                refine ⟨x0, x1, x2, x3, x4, x5, x6, x7, false, rfl, doV_none HN.out, HX.out, ?_⟩
                iterate 8 refine Below.setCell ?_ (by show w.heap.size ≤ w.heap.size + 1; omega) _
                exact HD.out.b
            · cases hcmp : (hv == a2)
              · have HS : Hid (Dk.stepV (Dk.keysOf s.data.toList) (Dk.opV o.data.toList) [y0, y1, y2, y3, y4, y5, y6, y7] = ([y0, y1, y2, y3, y4, y5, y6, y7].set j hv, false)) := by
                  show _ = _
                  have h := @Dk.sign_same j a2 [y0, y1, y2, y3, y4, y5, y6, y7]
                  rw [HAv.out.2] at h
                  rw [HSt.out, hc, h, hcmp]
                have HN : Hid (Dk.runV (Dk.keysOf s.data.toList) (Dk.opsOf s.data.toList) [x0, x1, x2, x3, x4, x5, x6, x7] = none) := by
                  show _ = _
                  rw [HR.out.1]
                  exact Dk.runV_step_no HPk.out HS.out
                go_wp2
                refine bodyPost_ret (v := .tuple #[.agg #[.int .i64 x0, .int .i64 x1, .int .i64 x2, .int .i64 x3, .int .i64 x4, .int .i64 x5, .int .i64 x6, .int .i64 x7], .bool false]) (by simp [results, Tryz.results50, go_sem, cr]) rfl ?_
                refine ⟨x0, x1, x2, x3, x4, x5, x6, x7, false, rfl, doV_none HN.out, HX.out, ?_⟩
                iterate 8 refine Below.setCell ?_ (by show w.heap.size ≤ w.heap.size + 1; omega) _
                exact HD.out.b
              · have HS : Hid (Dk.stepV (Dk.keysOf s.data.toList) (Dk.opV o.data.toList) [y0, y1, y2, y3, y4, y5, y6, y7] = ([y0, y1, y2, y3, y4, y5, y6, y7].set j hv, true)) := by
                  show _ = _
                  have h := @Dk.sign_same j a2 [y0, y1, y2, y3, y4, y5, y6, y7]
                  rw [HAv.out.2] at h
                  rw [HSt.out, hc, h, hcmp]
                obtain ⟨z0, z1, z2, z3, z4, z5, z6, z7, e1, e2, e3⟩ := rdo_next HD.out HR.out.2.1 hj8 HJ.out hv ⟨hv0, hv1⟩
                have HZ : Hid (_ ∧ _ ∧ _) := ⟨e1, e2, e3⟩
                clear e1 e2 e3
                go_wp2
                go_roundw
                case rel => exact ⟨k + 1, z0, z1, z2, z3, z4, z5, z6, z7, by omega, by go_num, by rw [HR.out.1, Dk.runV_step_yes HPk.out HS.out, HZ.out.1], HZ.out.2.1, HZ.out.2.2⟩
                case measure => simp [intOf]; omega
    · have hD := HR.out.2.2
      obtain ⟨cy, fy, zy⟩ := heap_cells hD.c
      obtain ⟨cr, fr, zr⟩ := heap_cells hD.r
      have HF : Hid (Dk.runV (Dk.keysOf s.data.toList) (Dk.opsOf s.data.toList) [x0, x1, x2, x3, x4, x5, x6, x7] = some [y0, y1, y2, y3, y4, y5, y6, y7]) := by
        show _ = _
        rw [HR.out.1, Dk.runV_end (by rw [List.length_map, lists, List.length_map, ← HM.out.2]; omega)]
      clear hD
      go_wp2
      refine bodyPost_ret (v := .tuple #[.agg #[.int .i64 y0, .int .i64 y1, .int .i64 y2, .int .i64 y3, .int .i64 y4, .int .i64 y5, .int .i64 y6, .int .i64 y7], .bool true]) (by simp [results, Tryz.results50, go_sem, cr]) rfl ?_
      refine ⟨y0, y1, y2, y3, y4, y5, y6, y7, true, rfl, doV_some HF.out, HR.out.2.1, ?_⟩
      iterate 8 refine Below.setCell ?_ (by show w.heap.size ≤ w.heap.size + 1; omega) _
      exact HR.out.2.2.b

end Go.Proofs.YtccckonckddadabGreat
