import Derived.Test.YtccckonckddadaaWalkB
namespace Go.Proofs.Ytccckonckddadaa
open Go.RowKit
set_option linter.unusedVariables false

theorem bcell {W w1 : World} (hb : Below W.heap.size W w1) : (∀ b o, b < W.heap.size → w1.cell? ⟨b, o, none⟩ = W.cell? ⟨b, o, none⟩) ∧ (∀ b o, b < W.heap.size → w1.frozen? ⟨b, o, none⟩ = W.frozen? ⟨b, o, none⟩) :=
  ⟨fun b o h => hb.cell (p := ⟨b, o, none⟩) h, fun b o h => hb.frozen (p := ⟨b, o, none⟩) h⟩

theorem below_new {w w1 : World} {o : Obj} (hb : Below (w.alloc o).heap.size (w.alloc o) w1) :
    (∀ x, w1.cell? ⟨w.heap.size, x, none⟩ = (w.alloc o).cell? ⟨w.heap.size, x, none⟩) ∧ (∀ x, w1.frozen? ⟨w.heap.size, x, none⟩ = (w.alloc o).frozen? ⟨w.heap.size, x, none⟩) ∧ w.heap.size < w1.heap.size :=
  ⟨fun x => (bcell hb).1 _ x (by simp), fun x => (bcell hb).2 _ x (by simp), by have := hb.size; simp at this; omega⟩

theorem below_of_new {w w1 : World} {o : Obj} (hb : Below (w.alloc o).heap.size (w.alloc o) w1) : Below w.heap.size w w1 :=
  ((Below.refl _ _).alloc (Nat.le_refl _) _).trans (hb.mono (by simp))

def OpPost (l : List UInt8) (w : World) (e : Ending) (w' : World) : Prop :=
  ∃ (k c : Int) (b : Bool) (a n : Int), e = .returned (.tuple #[.agg #[.int .i64 k, .int .u8 c, .bool b, .int .i64 a, .int .i16 n], .bool (Dk.opOk l)]) ∧ (Dk.opOk l = true → Dk.opV l = ⟨k, c, b, a, n⟩) ∧ Below w.heap.size w w'

theorem drop1_list (s : ByteArray) (h : 1 < s.size) : (s.data.toList.drop 1).headD 0 = s[1] := by
  have : 0 < (s.data.toList.drop 1).length := by rw [List.length_drop, len_list]; omega
  rw [Dk.headD_get _ this, List.getElem_drop]; rfl
theorem drop2_list (s : ByteArray) : (s.extract 2 s.size).data.toList = s.data.toList.drop 2 := by
  rw [ext_list, take_all s s.size (Nat.le_refl _)]

set_option maxHeartbeats 400000 in
theorem op_small (s : ByteArray) (w : World) (h : s.size < 3) :
    Calls Try.prog 96 #[.string s] w (OpPost s.data.toList w) := by
  have H : Hid (Dk.opOk s.data.toList = false) := Dk.op_short h
  go_enter Try.func96, Try.ntmps96
  go_wp2
  exact bodyPost_ret (v := .tuple #[.agg #[.int .i64 0, .int .u8 0, .bool false, .int .i64 0, .int .i16 0], .bool false]) (by simp [results, Try.results96, go_sem]) rfl
    ⟨_, _, _, _, _, by rw [H.out], by rw [H.out]; simp, (Below.refl _ _).alloc (Nat.le_refl _) _⟩

set_option maxHeartbeats 400000 in
theorem op_big (s : ByteArray) (w : World) (h : 3 ≤ s.size) (hs : s.size ≤ maxLen) :
    Calls Try.prog 96 #[.string s] w (OpPost s.data.toList w) := by
  have h0 : 0 < s.size := by omega
  have h1 : 1 < s.size := by omega
  have hb0 := byte_bd s[0]
  have hb1 := byte_bd s[1]
  have ht : (s.extract 2 s.size).size ≤ maxLen := by simp; omega
  unfold maxLen at hs
  have HD0 : Hid (s.data.toList.headD 0 = s[0]) := headD_list s h0
  have HD1 : Hid ((s.data.toList.drop 1).headD 0 = s[1]) := drop1_list s h1
  have HD2 : Hid ((s.extract 2 s.size).data.toList = s.data.toList.drop 2) := drop2_list s
  have HO : Hid (Dk.opOk s.data.toList = (Dk.isK s[0].toNat && Dk.isSign s[1].toNat && Dk.argOk (s.data.toList.drop 2))) := Dk.op_long h (by rw [HD0.out]) (by rw [HD1.out]) rfl
  have HV : Hid (Dk.opV s.data.toList = ⟨Dk.keyV s[0].toNat, s[1].toNat, Dk.argKey (s.data.toList.drop 2), Dk.argK (s.data.toList.drop 2), Dk.argN (s.data.toList.drop 2)⟩) := by
    show _ = _
    unfold Dk.opV; rw [HD0.out, HD1.out]
  go_enter Try.func96, Try.ntmps96
  go_wp2_with fail
  refine (key_any _ _ hb0.1 hb0.2).mono ?_
  rintro e w' ⟨rfl, rfl⟩
  generalize Dk.keyV s[0].toNat = kv at *
  generalize Dk.isK s[0].toNat = kb at *
  cases kb
  · go_wp2
    exact bodyPost_ret (v := .tuple #[.agg #[.int .i64 0, .int .u8 0, .bool false, .int .i64 0, .int .i16 0], .bool false]) (by simp [results, Try.results96, go_sem]) rfl
      ⟨_, _, _, _, _, by rw [HO.out]; rfl, by rw [HO.out]; simp, (Below.refl _ _).alloc (Nat.le_refl _) _⟩
  go_wp2_with fail
  refine (sign_any _ _ hb1.1 hb1.2).mono ?_
  rintro e w' ⟨rfl, rfl⟩
  generalize Dk.isSign s[1].toNat = sb at *
  cases sb
  · go_wp2
    exact bodyPost_ret (v := .tuple #[.agg #[.int .i64 0, .int .u8 0, .bool false, .int .i64 0, .int .i16 0], .bool false]) (by simp [results, Try.results96, go_sem]) rfl
      ⟨_, _, _, _, _, by rw [HO.out]; rfl, by rw [HO.out]; simp, (Below.refl _ _).alloc (Nat.le_refl _) _⟩
  go_wp2_with fail
  refine (arg_any _ _ ht).mono ?_
  rintro e w1 ⟨b, a, n, rfl, hx, hb⟩
  have HX : Hid _ := hx
  clear hx
  rewrite [HD2.out] at HX ⊢
  obtain ⟨hc, hf, hz⟩ := below_new hb
  have HB : Hid _ := hb
  clear hb
  generalize Dk.argOk (s.data.toList.drop 2) = ab at *
  have HE : Hid (Below w.heap.size w w1) := below_of_new HB.out
  have h0' : w.heap.size ≤ w1.heap.size := by omega
  cases ab
  · go_wp2
    refine bodyPost_ret (v := .tuple #[.agg #[.int .i64 0, .int .u8 0, .bool false, .int .i64 0, .int .i16 0], .bool false]) (by simp [results, Try.results96, go_sem, hc, hz]) rfl ?_
    refine ⟨_, _, _, _, _, by rw [HO.out]; rfl, by rw [HO.out]; simp, ?_⟩
    exact (((((HE.out.setCell (Nat.le_refl _) _).setCell (Nat.le_refl _) _).setCell (Nat.le_refl _) _).setCell (Nat.le_refl _) _).setCell (Nat.le_refl _) _).alloc (by simpa using h0') _
  · go_wp2
    refine bodyPost_ret (v := .tuple #[.agg #[.int .i64 kv, .int .u8 ↑s[1].toNat, .bool b, .int .i64 a, .int .i16 n], .bool true]) (by simp [results, Try.results96, go_sem, hc, hz]) rfl ?_
    refine ⟨_, _, _, _, _, by rw [HO.out]; rfl, fun _ => ?_, ?_⟩
    · obtain ⟨rfl, rfl, rfl⟩ := HX.out trivial
      exact HV.out
    exact (((((HE.out.setCell (Nat.le_refl _) _).setCell (Nat.le_refl _) _).setCell (Nat.le_refl _) _).setCell (Nat.le_refl _) _).setCell (Nat.le_refl _) _).alloc (by simpa using h0') _

theorem op_any (s : ByteArray) (w : World) (hs : s.size ≤ maxLen) :
    Calls Try.prog 96 #[.string s] w (OpPost s.data.toList w) := by
  by_cases h : s.size < 3
  · exact op_small s w h
  · exact op_big s w (by omega) hs

end Go.Proofs.Ytccckonckddadaa
