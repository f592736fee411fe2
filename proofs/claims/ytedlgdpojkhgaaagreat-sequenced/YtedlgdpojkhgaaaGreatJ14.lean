import Derived.Test.YtedlgdpojkhgaaaGreatJ13
import Derived.Test.YtedlgdpojkhgaaaGreatJ01
namespace Go.Proofs.YtedlgdpojkhgaaaGreat
open Go.RowKit
set_option linter.unusedVariables false

set_option maxHeartbeats 2000000 in
theorem ints_any (x0 x1 x2 x3 x4 x5 x6 x7 : Int) (w : World) (h0 : -32768 ≤ x0 ∧ x0 ≤ 32767) (h1 : -32768 ≤ x1 ∧ x1 ≤ 32767) (h2 : -32768 ≤ x2 ∧ x2 ≤ 32767) (h3 : -32768 ≤ x3 ∧ x3 ≤ 32767) (h4 : -32768 ≤ x4 ∧ x4 ≤ 32767) (h5 : -32768 ≤ x5 ∧ x5 ≤ 32767) (h6 : -32768 ≤ x6 ∧ x6 ≤ 32767) (h7 : -32768 ≤ x7 ∧ x7 ≤ 32767) :
    Calls Tryz.prog 57 #[.agg #[.int .i16 x0, .int .i16 x1, .int .i16 x2, .int .i16 x3, .int .i16 x4, .int .i16 x5, .int .i16 x6, .int .i16 x7]] w fun e w' => e = .returned (.agg #[.int .i64 x0, .int .i64 x1, .int .i64 x2, .int .i64 x3, .int .i64 x4, .int .i64 x5, .int .i64 x6, .int .i64 x7]) ∧ Below w.heap.size w w' := by
  go_enter Tryz.func57, Tryz.ntmps57
  go_wp2
  refine wp_loop_rounds 9 ?_
  iterate 9
    rw [rounds_succ]
    go_wp2
  exact bodyPost_ret (v := .agg #[.int .i64 x0, .int .i64 x1, .int .i64 x2, .int .i64 x3, .int .i64 x4, .int .i64 x5, .int .i64 x6, .int .i64 x7]) (by simp [results, Tryz.results57, go_sem]) rfl
    ⟨rfl, ((((Below.refl _ _).alloc (Nat.le_refl _) _).alloc (by simp) _).alloc (by simp; omega) _)⟩

set_option maxHeartbeats 2000000 in
theorem cells_any (x0 x1 x2 x3 x4 x5 x6 x7 : Int) (w : World) (h0 : -32768 ≤ x0 ∧ x0 ≤ 32767) (h1 : -32768 ≤ x1 ∧ x1 ≤ 32767) (h2 : -32768 ≤ x2 ∧ x2 ≤ 32767) (h3 : -32768 ≤ x3 ∧ x3 ≤ 32767) (h4 : -32768 ≤ x4 ∧ x4 ≤ 32767) (h5 : -32768 ≤ x5 ∧ x5 ≤ 32767) (h6 : -32768 ≤ x6 ∧ x6 ≤ 32767) (h7 : -32768 ≤ x7 ∧ x7 ≤ 32767) :
    Calls Tryz.prog 58 #[.agg #[.int .i64 x0, .int .i64 x1, .int .i64 x2, .int .i64 x3, .int .i64 x4, .int .i64 x5, .int .i64 x6, .int .i64 x7]] w fun e w' => e = .returned (.agg #[.int .i16 x0, .int .i16 x1, .int .i16 x2, .int .i16 x3, .int .i16 x4, .int .i16 x5, .int .i16 x6, .int .i16 x7]) ∧ Below w.heap.size w w' := by
  go_enter Tryz.func58, Tryz.ntmps58
  go_wp2
  refine wp_loop_rounds 9 ?_
  iterate 9
    rw [rounds_succ]
    go_wp2
  exact bodyPost_ret (v := .agg #[.int .i16 x0, .int .i16 x1, .int .i16 x2, .int .i16 x3, .int .i16 x4, .int .i16 x5, .int .i16 x6, .int .i16 x7]) (by simp [results, Tryz.results58, go_sem]) rfl
    ⟨rfl, ((((Below.refl _ _).alloc (Nat.le_refl _) _).alloc (by simp) _).alloc (by simp; omega) _)⟩

/-! ### argument -/
def ArgRPost (l : List UInt8) (cs : List Int) (w : World) (e : Ending) (w' : World) : Prop :=
  ∃ kb : ByteArray, e = .returned (.tuple #[.int .i64 (Dk.argVal (Dk.opV l) cs), .string kb]) ∧ kb.data.toList = (if Dk.argKey (l.drop 2) then (l.take 3).drop 2 else []) ∧ Below w.heap.size w w'

set_option maxHeartbeats 1000000 in
theorem argument_num (s : ByteArray) (x0 x1 x2 x3 x4 x5 x6 x7 : Int) (w : World) (hs : s.size ≤ maxLen) (hop : Dk.opOk s.data.toList = true) (hk : Dk.argKey (s.data.toList.drop 2) = false) :
    Calls Tryz.prog 72 #[.string s, .agg #[.int .i64 x0, .int .i64 x1, .int .i64 x2, .int .i64 x3, .int .i64 x4, .int .i64 x5, .int .i64 x6, .int .i64 x7]] w (ArgRPost s.data.toList [x0, x1, x2, x3, x4, x5, x6, x7] w) := by
  have h3 : 3 ≤ s.size := Dk.opOk_len hop
  have h2 : 2 < s.size := by omega
  have hI : Hid (Dk.isK s[2].toNat = false) := by
    show _ = _
    rw [← drop2_head s h2, Dk.opOk_key hop, hk]
  have HV : Hid (Dk.argVal (Dk.opV s.data.toList) [x0, x1, x2, x3, x4, x5, x6, x7] = Dk.numV (s.data.toList.drop 2)) := Dk.argVal_num hk
  have HN : Hid (Dk.numOk (s.data.toList.drop 2) = true) := Dk.opOk_num hop hk
  have HK : Hid (Dk.argKey (s.data.toList.drop 2) = false) := hk
  have HD2 : Hid ((s.extract 2 s.size).data.toList = s.data.toList.drop 2) := drop2_list s
  have ht : (s.extract 2 s.size).size ≤ maxLen := by simp; omega
  clear hop hk
  unfold maxLen at hs
  go_enter Tryz.func72, Tryz.ntmps72
  go_wp2_with fail
  refine (inK_any _ _).mono ?_
  rintro e w' ⟨rfl, rfl⟩
  rewrite [hI.out]
  go_wp2_with fail
  refine (refnum_any _ _ ht).mono ?_
  rintro e w' ⟨v, rfl, hv, rfl⟩
  have HW : Hid (Dk.numV (s.data.toList.drop 2) = v) := by
    show _ = _
    have := hv (by rw [HD2.out]; exact HN.out)
    rw [this, HD2.out]
  rewrite [HD2.out, HN.out]
  clear hv
  go_wp2
  go_ret2
  exact ⟨⟨#[]⟩, by rw [HV.out, HW.out]; rfl, by rw [HK.out]; rfl, (Below.refl _ _).alloc (Nat.le_refl _) _⟩

set_option maxHeartbeats 4000000 in
theorem argument_key (s : ByteArray) (x0 x1 x2 x3 x4 x5 x6 x7 : Int) (w : World) (hop : Dk.opOk s.data.toList = true) (hk : Dk.argKey (s.data.toList.drop 2) = true) :
    Calls Tryz.prog 72 #[.string s, .agg #[.int .i64 x0, .int .i64 x1, .int .i64 x2, .int .i64 x3, .int .i64 x4, .int .i64 x5, .int .i64 x6, .int .i64 x7]] w (ArgRPost s.data.toList [x0, x1, x2, x3, x4, x5, x6, x7] w) := by
  have h3 : 3 ≤ s.size := Dk.opOk_len hop
  have hs3 : s.size = 3 := Dk.opOk_len3 hk h3
  have h2 : 2 < s.size := by omega
  have hK : Dk.isK s[2].toNat = true := by rw [← drop2_head s h2, Dk.opOk_key hop, hk]
  have hI : Hid (Dk.isK s[2].toNat = true) := hK
  have HK : Hid (Dk.argKey (s.data.toList.drop 2) = true) := hk
  have HD : Hid ((s.data.toList.drop 2).headD 0 = s[2]) := drop2_head s h2
  have HE : Hid ((s.data.toList.take 3).drop 2 = if true = true then (s.data.toList.take 3).drop 2 else []) := rfl
  obtain ⟨k0, k1⟩ := Dk.of_isK hK
  obtain ⟨j, hj, hjs⟩ : ∃ j : Nat, j < 8 ∧ (s[2].toNat : Int) = 97 + j := ⟨s[2].toNat - 97, by omega, by omega⟩
  have hkv : Dk.keyV s[2].toNat = (j : Int) := by rw [Dk.keyV_yes k0 k1]; omega
  have hc : (Dk.keyV s[2].toNat).toNat = j := by rw [hkv]; simp
  clear hop hk hK k0 k1 hkv
  obtain rfl | rfl | rfl | rfl | rfl | rfl | rfl | rfl : j = 0 ∨ j = 1 ∨ j = 2 ∨ j = 3 ∨ j = 4 ∨ j = 5 ∨ j = 6 ∨ j = 7 := by omega
  all_goals
    simp at hjs
  all_goals
    have hI2 := hI.out
    rw [hjs] at hI2
    have HC : Hid _ := hc
    clear hc
    obtain ⟨v, hv⟩ : ∃ v, Dk.argVal (Dk.opV s.data.toList) [x0, x1, x2, x3, x4, x5, x6, x7] = v := ⟨_, rfl⟩
    have hv2 := hv
    rw [Dk.argVal_cell HK.out, HD.out, HC.out] at hv2
    simp at hv2
    have HV : Hid _ := hv
    have HV2 : Hid _ := hv2
    clear hv hv2
    go_enter Tryz.func72, Tryz.ntmps72
    go_wp2_with fail
    refine (inK_any _ _).mono ?_
    rintro e w' ⟨rfl, rfl⟩
    go_wp2
    go_quiet (fail)
    go_wp2
    go_ret2
    exact ⟨s.extract 2 3, by rw [HV.out, ← HV2.out]; rfl, by rw [ext_list, HK.out]; exact HE.out, below_drewN ((Below.refl _ _).alloc (Nat.le_refl _) _) _⟩

theorem argument_any (s : ByteArray) (x0 x1 x2 x3 x4 x5 x6 x7 : Int) (w : World) (hs : s.size ≤ maxLen) (hop : Dk.opOk s.data.toList = true) :
    Calls Tryz.prog 72 #[.string s, .agg #[.int .i64 x0, .int .i64 x1, .int .i64 x2, .int .i64 x3, .int .i64 x4, .int .i64 x5, .int .i64 x6, .int .i64 x7]] w (ArgRPost s.data.toList [x0, x1, x2, x3, x4, x5, x6, x7] w) := by
  cases hk : Dk.argKey (s.data.toList.drop 2)
  · exact argument_num s x0 x1 x2 x3 x4 x5 x6 x7 w hs hop hk
  · exact argument_key s x0 x1 x2 x3 x4 x5 x6 x7 w hop hk

end Go.Proofs.YtedlgdpojkhgaaaGreat
namespace Go.Proofs.YtedlgdpojkhgaaaGreat
open Go.RowKit
set_option linter.unusedVariables false

structure DoR (w wr : World) (X Y : Array Value) (sl : Value) (n : Nat) (ps : List ByteArray) : Prop where
  c : wr.heap[w.heap.size]? = some (.cells Y 105)
  r : wr.heap[w.heap.size + 1]? = some (.cells #[.int .i64 0, .int .i64 0, .int .i64 0, .int .i64 0, .int .i64 0, .int .i64 0, .int .i64 0, .int .i64 0] 105)
  x : wr.heap[w.heap.size + 2]? = some (.cells X 105)
  b : Below w.heap.size w wr
  o : wr.ownsRow (w.heap.size + 3) 9 1 sl n (strs ps)

theorem DoR.kept {w wr W : World} {X Y : Array Value} {sl : Value} {n : Nat} {ps : List ByteArray} (h : DoR w wr X Y sl n ps) (hb : Below wr.heap.size wr W) : DoR w W X Y sl n ps :=
  ⟨(hb.block _ (heap_cells h.c).2.2).trans h.c, (hb.block _ (heap_cells h.r).2.2).trans h.r, (hb.block _ (heap_cells h.x).2.2).trans h.x, h.b.trans (hb.mono h.b.size), own_below h.o hb⟩

theorem set_one {w : World} {g : Nat} {t : TypeId} {cs : Array Value} (h : w.heap[g]? = some (.cells cs t)) (j : Nat) (v : Value) : (w.setCell ⟨g, j, none⟩ v).heap[g]? = some (.cells (cs.setIfInBounds j v) t) := by
  simp [World.setCell, Array.getElem?_modify, h]

theorem DoR.put {w W : World} {X Y : Array Value} {sl : Value} {n : Nat} {ps : List ByteArray} (h : DoR w W X Y sl n ps) (j : Nat) (v : Value) : DoR w (W.setCell ⟨w.heap.size, j, none⟩ v) X (Y.setIfInBounds j v) sl n ps :=
  ⟨set_one h.c j v, (Below.heap_setCell _ _ _ _ (by show _ ≠ w.heap.size; omega)).trans h.r, (Below.heap_setCell _ _ _ _ (by show _ ≠ w.heap.size; omega)).trans h.x, h.b.setCell (Nat.le_refl _) _, ownsRow_setCell_below h.o (by show w.heap.size < _; omega) _⟩

theorem at8 (y0 y1 y2 y3 y4 y5 y6 y7 : Int) {j : Nat} (h : j < 8) : (#[.int .i64 y0, .int .i64 y1, .int .i64 y2, .int .i64 y3, .int .i64 y4, .int .i64 y5, .int .i64 y6, .int .i64 y7] : Array Value)[j]? = some (.int .i64 ([y0, y1, y2, y3, y4, y5, y6, y7].getD j 0)) := by
  obtain rfl | rfl | rfl | rfl | rfl | rfl | rfl | rfl : j = 0 ∨ j = 1 ∨ j = 2 ∨ j = 3 ∨ j = 4 ∨ j = 5 ∨ j = 6 ∨ j = 7 := by omega
  all_goals rfl
theorem put8 (y0 y1 y2 y3 y4 y5 y6 y7 v : Int) {j : Nat} (h : j < 8) : ∃ z0 z1 z2 z3 z4 z5 z6 z7, [y0, y1, y2, y3, y4, y5, y6, y7].set j v = [z0, z1, z2, z3, z4, z5, z6, z7] ∧ (#[.int .i64 y0, .int .i64 y1, .int .i64 y2, .int .i64 y3, .int .i64 y4, .int .i64 y5, .int .i64 y6, .int .i64 y7] : Array Value).setIfInBounds j (.int .i64 v) = #[.int .i64 z0, .int .i64 z1, .int .i64 z2, .int .i64 z3, .int .i64 z4, .int .i64 z5, .int .i64 z6, .int .i64 z7] := by
  obtain rfl | rfl | rfl | rfl | rfl | rfl | rfl | rfl : j = 0 ∨ j = 1 ∨ j = 2 ∨ j = 3 ∨ j = 4 ∨ j = 5 ∨ j = 6 ∨ j = 7 := by omega
  all_goals exact ⟨_, _, _, _, _, _, _, _, rfl, rfl⟩

theorem doR_start {w w1 : World} {X : Array Value} {sl : Value} {n : Nat} {ps : List ByteArray} (hb : Below (((w.alloc (.cells X 105)).alloc (.cells #[.int .i64 0, .int .i64 0, .int .i64 0, .int .i64 0, .int .i64 0, .int .i64 0, .int .i64 0, .int .i64 0] 105)).alloc (.cells X 105)).heap.size (((w.alloc (.cells X 105)).alloc (.cells #[.int .i64 0, .int .i64 0, .int .i64 0, .int .i64 0, .int .i64 0, .int .i64 0, .int .i64 0, .int .i64 0] 105)).alloc (.cells X 105)) w1)
    (ho : w1.ownsRow (((w.alloc (.cells X 105)).alloc (.cells #[.int .i64 0, .int .i64 0, .int .i64 0, .int .i64 0, .int .i64 0, .int .i64 0, .int .i64 0, .int .i64 0] 105)).alloc (.cells X 105)).heap.size 9 1 sl n (strs ps)) : DoR w w1 X X sl n ps := by
  obtain ⟨a, b, c, d⟩ := below_three hb
  exact ⟨a, b, c, d, own_base ho (by simp)⟩

def RDoPost (l : List UInt8) (cs : List Int) (w : World) (e : Ending) (w' : World) : Prop :=
  ∃ (y0 y1 y2 y3 y4 y5 y6 y7 : Int) (d : Bool), e = .returned (.tuple #[.agg #[.int .i64 y0, .int .i64 y1, .int .i64 y2, .int .i64 y3, .int .i64 y4, .int .i64 y5, .int .i64 y6, .int .i64 y7], .bool d]) ∧ ([y0, y1, y2, y3, y4, y5, y6, y7], d) = Dk.doV l cs ∧ Dk.All16 [y0, y1, y2, y3, y4, y5, y6, y7] ∧ Below w.heap.size w w'

theorem doV_none {l : List UInt8} {cs : List Int} (h : Dk.runV (Dk.keysOf l) (Dk.opsOf l) cs = none) : (cs, false) = Dk.doV l cs := by unfold Dk.doV; rw [h]
theorem doV_some {l : List UInt8} {cs ys : List Int} (h : Dk.runV (Dk.keysOf l) (Dk.opsOf l) cs = some ys) : (ys, true) = Dk.doV l cs := by unfold Dk.doV; rw [h]

/-- What is known of an operation's text in a round. -/
structure OpIs (l : List UInt8) (o : ByteArray) (mk : ByteArray) (j : Nat) : Prop where
  ok : Dk.opOk o.data.toList = true
  small : o.size ≤ 60
  big : 3 ≤ o.size
  j8 : j < 8
  key : (Dk.opV o.data.toList).key = j
  decl : Dk.decl (Dk.keysOf l) (Dk.opV o.data.toList).key = Dk.inB mk.data.toList (97 + j)

theorem opIs_of {l : List UInt8} {o mk : ByteArray} (hok : Dk.opOk o.data.toList = true) (hs : o.size ≤ 60) (hm : mk.data.toList = (Dk.cutAt 124 l).1) :
    ∃ j, OpIs l o mk j ∧ ∃ h0 : 0 < o.size, (o[0].toNat : Int) = 97 + j ∧ ∃ h1 : 1 < o.size, (Dk.opV o.data.toList).sign = o[1].toNat ∧ Dk.isSign o[1].toNat = true := by
  have h3 : 3 ≤ o.size := Dk.opOk_len hok
  have hk0 := Dk.opOk_k0 hok
  rw [headD_list o (by omega)] at hk0
  obtain ⟨a, b⟩ := Dk.of_isK hk0
  have hj : ((o[0].toNat - 97 : Nat) : Int) = (o[0].toNat : Int) - 97 := by omega
  have hkey : (Dk.opV o.data.toList).key = ((o[0].toNat - 97 : Nat) : Int) := by
    show Dk.keyV ((o.data.toList.headD 0).toNat) = _
    rw [headD_list o (by omega), Dk.keyV_yes a b, hj]
  have hsg : (Dk.opV o.data.toList).sign = o[1].toNat := by
    show (((o.data.toList.drop 1).headD 0).toNat : Int) = _
    rw [drop1_list o (by omega)]
  have hsign : Dk.isSign o[1].toNat = true := by
    have := hok
    simp only [Dk.opOk, Bool.and_eq_true, decide_eq_true_eq] at this
    have h2 := this.1.2
    rw [drop1_list o (by omega)] at h2
    exact h2
  refine ⟨o[0].toNat - 97, ⟨hok, hs, h3, by omega, hkey, ?_⟩, by omega, by omega, by omega, hsg, hsign⟩
  rw [hkey, Dk.decl_in (by omega), hm]

end Go.Proofs.YtedlgdpojkhgaaaGreat
