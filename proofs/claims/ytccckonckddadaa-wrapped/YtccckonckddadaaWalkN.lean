import Derived.Test.YtccckonckddadaaWalkM
namespace Go.Proofs.Ytccckonckddadaa
open Go.RowKit
set_option linter.unusedVariables false

theorem wrap16_mod (n : Int) : ∃ k, Dk.wrap16 n = n + 65536 * k := ⟨-((n + 32768) / 65536), by unfold Dk.wrap16; omega⟩
theorem tmod_zero {d k : Int} (h : d = 65536 * k) : (d.tmod 65536 == 0) = true := by
  rw [h, Int.mul_tmod_right]; rfl
theorem prod_bd {a b : Int} (ha : -32768 < a ∧ a < 32768) (hb : -32768 < b ∧ b < 32768) : -1073741824 ≤ a * b ∧ a * b ≤ 1073741824 := by
  have h1 : a.natAbs ≤ 32767 := by omega
  have h2 : b.natAbs ≤ 32767 := by omega
  have h3 : (a * b).natAbs ≤ 32767 * 32767 := by rw [Int.natAbs_mul]; exact Nat.mul_le_mul h1 h2
  omega

set_option maxHeartbeats 2000000 in
theorem wrapped_core (x y x0 x1 x2 x3 x4 x5 x6 x7 a b p q r : Int) (w : World) (hx : x.tmod 32768 = a) (hy : y.tmod 32768 = b) (ha : -32768 < a ∧ a < 32768) (hb : -32768 < b ∧ b < 32768)
    (hab : -1073741824 ≤ a * b ∧ a * b ≤ 1073741824)
    (hp : Dk.wrap16 (a + b) = p) (hq : Dk.wrap16 (a - b) = q) (hr : Dk.wrap16 (a * b) = r)
    (bp : -32768 ≤ p ∧ p ≤ 32767) (bq : -32768 ≤ q ∧ q ≤ 32767) (br : -32768 ≤ r ∧ r ≤ 32767)
    (tp : ((p - a - b).tmod 65536 == 0) = true) (tq : ((q - a + b).tmod 65536 == 0) = true) (tr : ((r - a * b).tmod 65536 == 0) = true) :
    Calls Try.prog 4 #[.int .i64 x, .int .i64 y, .agg #[.int .i16 x0, .int .i16 x1, .int .i16 x2, .int .i16 x3, .int .i16 x4, .int .i16 x5, .int .i16 x6, .int .i16 x7]] w fun e w' => e = .returned (.bool true) ∧ Below w.heap.size w w' := by
  have H : Hid (x.tmod 32768 = a ∧ y.tmod 32768 = b ∧ Dk.wrap16 (a + b) = p ∧ Dk.wrap16 (a - b) = q ∧ Dk.wrap16 (a * b) = r) := ⟨hx, hy, hp, hq, hr⟩
  clear hx hy hp hq hr
  go_enter Try.func4, Try.ntmps4
  go_wp2_with fail
  refine (near_any x _).mono ?_
  rintro e w' ⟨rfl, rfl⟩
  rewrite [H.out.1]
  go_wp2_with fail
  refine (near_any y _).mono ?_
  rintro e w' ⟨rfl, rfl⟩
  rewrite [H.out.2.1]
  go_wp2_with fail
  refine (one_yes ⟨#[97, 98, 124, 97, 43, 98]⟩ a b x2 x3 x4 x5 x6 x7 p _ (by decide) bp.1 bp.2 (by rw [← H.out.2.2.1]; exact sum_text _ _ _ _ _ _ _ _)).mono ?_
  rintro e w1 ⟨rfl, hb1⟩
  obtain ⟨_, g1, k1⟩ := below_two hb1
  obtain ⟨c1, f1, z1⟩ := heap_cells g1
  have K1 : Hid _ := k1
  have G1 : Hid _ := g1
  clear hb1 k1 g1
  go_wp2_with fail
  refine (one_yes ⟨#[97, 98, 124, 97, 45, 98]⟩ a b x2 x3 x4 x5 x6 x7 q _ (by decide) bq.1 bq.2 (by rw [← H.out.2.2.2.1]; exact dif_text _ _ _ _ _ _ _ _)).mono ?_
  rintro e w2 ⟨rfl, hb2⟩
  obtain ⟨c2, f2, z2⟩ := heap_cells ((hb2.block _ z1).trans G1.out)
  have K2 : Hid (Below w.heap.size w w2) := K1.out.trans (hb2.mono K1.out.size)
  have G2 : Hid _ := (hb2.block _ z1).trans G1.out
  clear hb2
  go_wp2_with fail
  refine (one_yes ⟨#[97, 98, 124, 97, 42, 98]⟩ a b x2 x3 x4 x5 x6 x7 r _ (by decide) br.1 br.2 (by rw [← H.out.2.2.2.2]; exact mul_text _ _ _ _ _ _ _ _)).mono ?_
  rintro e w3 ⟨rfl, hb3⟩
  have K3 : Hid (Below w.heap.size w w3) := K2.out.trans (hb3.mono K2.out.size)
  clear hb3
  go_wp2
  go_ret
  exact ⟨rfl, K3.out⟩

theorem wrapped_walk (x y x0 x1 x2 x3 x4 x5 x6 x7 : Int) (w : World) :
    Calls Try.prog 4 #[.int .i64 x, .int .i64 y, .agg #[.int .i16 x0, .int .i16 x1, .int .i16 x2, .int .i16 x3, .int .i16 x4, .int .i16 x5, .int .i16 x6, .int .i16 x7]] w fun e w' => e = .returned (.bool true) ∧ Below w.heap.size w w' := by
  have ha : -(32768 : Int) < x.tmod 32768 ∧ x.tmod 32768 < 32768 := tmod_bd x 32768 (by omega)
  have hb : -(32768 : Int) < y.tmod 32768 ∧ y.tmod 32768 < 32768 := tmod_bd y 32768 (by omega)
  obtain ⟨kp, hp⟩ := wrap16_mod (x.tmod 32768 + y.tmod 32768)
  obtain ⟨kq, hq⟩ := wrap16_mod (x.tmod 32768 - y.tmod 32768)
  obtain ⟨kr, hr⟩ := wrap16_mod (x.tmod 32768 * y.tmod 32768)
  exact wrapped_core x y x0 x1 x2 x3 x4 x5 x6 x7 _ _ _ _ _ w rfl rfl ha hb (prod_bd ha hb) rfl rfl rfl (Dk.wrap16_bd _) (Dk.wrap16_bd _) (Dk.wrap16_bd _)
    (tmod_zero (k := kp) (by rw [hp]; omega)) (tmod_zero (k := kq) (by rw [hq]; omega)) (tmod_zero (k := kr) (by rw [hr]; omega))

end Go.Proofs.Ytccckonckddadaa
