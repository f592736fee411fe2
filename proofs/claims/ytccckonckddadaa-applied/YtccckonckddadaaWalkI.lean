import Derived.Test.YtccckonckddadaaWalkE
import Derived.Test.YtccckonckddadaaPlainC
namespace Go.Proofs.Ytccckonckddadaa
open Go.RowKit
set_option linter.unusedVariables false

theorem no_of {p : Bool} {Q : Prop} (h : p = false) : p = true → Q := fun h' => by rw [h] at h'; cases h'

theorem below_keep {w1 w2 : World} {b : Nat} (hb : Below w1.heap.size w1 w2) (hz : b < w1.heap.size) :
    (∀ x, w2.cell? ⟨b, x, none⟩ = w1.cell? ⟨b, x, none⟩) ∧ (∀ x, w2.frozen? ⟨b, x, none⟩ = w1.frozen? ⟨b, x, none⟩) ∧ b < w2.heap.size :=
  ⟨fun x => hb.cell (p := ⟨b, x, none⟩) hz, fun x => hb.frozen (p := ⟨b, x, none⟩) hz, Nat.lt_of_lt_of_le hz hb.size⟩

theorem below_drawn {w w1 : World} {n : Nat} (h : w1 = w.drewN n) : Below w.heap.size w w1 := h ▸ below_drewN (Below.refl _ _) n

theorem own_base {w : World} {B B' e size n : Nat} {v : Value} {xs : List Value} (h : w.ownsRow B e size v n xs) (hB : B' ≤ B) : w.ownsRow B' e size v n xs := by
  refine ⟨h.1, ?_⟩
  rcases h.2 with hn | ⟨g, cap, cur, hv, hg, rest⟩
  · exact .inl hn
  · exact .inr ⟨g, cap, cur, hv, Nat.le_trans hB hg, rest⟩

def ParsePost (l : List UInt8) (w : World) (e : Ending) (w' : World) : Prop :=
  ∃ (b0 b1 b2 b3 b4 b5 b6 b7 : Bool) (a : Option Addr) (n c : Nat), e = .returned (.tuple #[.agg #[.bool b0, .bool b1, .bool b2, .bool b3, .bool b4, .bool b5, .bool b6, .bool b7, .slice a n c], .bool (Dk.parseOk l)]) ∧
    (Dk.parseOk l = true → [b0, b1, b2, b3, b4, b5, b6, b7] = Dk.keysOf l ∧ n = (Dk.opsOf l).length ∧ w'.ownsRow w.heap.size 139 5 (.slice a n c) n (opsCells (Dk.opsOf l))) ∧ Below w.heap.size w w'

set_option maxHeartbeats 1000000 in
theorem parse_big (s : ByteArray) (w : World) (h : 60 < s.size) (hs : s.size ≤ maxLen) :
    Calls Try.prog 40 #[.string s] w (ParsePost s.data.toList w) := by
  have H : Hid (Dk.parseOk s.data.toList = false) := Dk.parse_long h
  unfold maxLen at hs
  go_enter Try.func40, Try.ntmps40
  go_wp2
  exact bodyPost_ret (v := .tuple #[.agg #[.bool false, .bool false, .bool false, .bool false, .bool false, .bool false, .bool false, .bool false, .slice none 0 0], .bool false]) (by simp [results, Try.results40, go_sem]) rfl
    ⟨_, _, _, _, _, _, _, _, _, _, _, by rw [H.out], by rw [H.out]; simp, (Below.refl _ _).alloc (Nat.le_refl _) _⟩

set_option maxHeartbeats 1000000 in
theorem parse_small (s : ByteArray) (w : World) (h : s.size ≤ 60) :
    Calls Try.prog 40 #[.string s] w (ParsePost s.data.toList w) := by
  have HP : Hid (Dk.parseOk s.data.toList = ((Dk.cutAt 124 s.data.toList).2.2 && Dk.rise (-1) (Dk.cutAt 124 s.data.toList).1 && Dk.opsOk (Dk.cutAt 124 s.data.toList).2.1)) := Dk.parse_at h rfl rfl rfl
  have HK : Hid (Dk.keysOf s.data.toList = [0, 1, 2, 3, 4, 5, 6, 7].map (Dk.hasKey (Dk.cutAt 124 s.data.toList).1)) := rfl
  have HO : Hid (Dk.opsOf s.data.toList = Dk.opsV (Dk.cutAt 124 s.data.toList).2.1) := rfl
  have hml : 60 ≤ maxLen := by unfold maxLen; omega
  go_enter Try.func40, Try.ntmps40
  go_wp2_with fail
  refine (cut_any s 124 _ (by omega)).mono ?_
  rintro e w1 ⟨hd, tl, rfl, hh, ht, nq, hw⟩
  have hb := below_drawn hw
  clear hw
  obtain ⟨hc1, hf1, hz1⟩ := below_new hb
  have HB1 : Hid (Below w.heap.size w w1) := below_of_new hb
  clear hb
  have l1 := (Dk.cut_len (m := 124) s.data.toList).1
  rw [← hh, ← ht] at l1 HP
  rw [← hh] at HK
  rw [← ht] at HO
  simp only [len_list] at l1
  clear hh ht
  generalize (Dk.cutAt 124 s.data.toList).2.2 = fd at *
  cases fd
  · go_wp2
    refine bodyPost_ret (v := .tuple #[.agg #[.bool false, .bool false, .bool false, .bool false, .bool false, .bool false, .bool false, .bool false, .slice none 0 0], .bool false]) (by simp [results, Try.results40, go_sem, hc1]) rfl ?_
    refine ⟨_, _, _, _, _, _, _, _, _, _, _, by rw [HP.out]; rfl, no_of (HP.out.trans (by simp)), ?_⟩
    iterate 9 refine Below.setCell ?_ (by exact Nat.le_refl _) _
    exact HB1.out
  go_wp2_with fail
  refine (keys_any hd _ (by omega)).mono ?_
  rintro e w2 ⟨b0, b1, b2, b3, b4, b5, b6, b7, rfl, hx, hb⟩
  have HX : Hid _ := hx
  clear hx
  obtain ⟨hc, hf, hz⟩ := below_keep hb hz1
  have HB2 : Hid (Below w.heap.size w w2) := HB1.out.trans (hb.mono HB1.out.size)
  clear hb
  generalize Dk.rise (-1) hd.data.toList = rs at *
  cases rs
  · go_wp2
    refine bodyPost_ret (v := .tuple #[.agg #[.bool false, .bool false, .bool false, .bool false, .bool false, .bool false, .bool false, .bool false, .slice none 0 0], .bool false]) (by simp [results, Try.results40, go_sem, hc, hc1, hz]) rfl ?_
    refine ⟨_, _, _, _, _, _, _, _, _, _, _, by rw [HP.out]; rfl, no_of (HP.out.trans (by simp)), ?_⟩
    refine Below.alloc ?_ (by simp; omega) _
    iterate 9 refine Below.setCell ?_ (by exact Nat.le_refl _) _
    exact HB2.out
  go_wp2_with fail
  refine (ops_any tl _ (by omega)).mono ?_
  rintro e w3 ⟨a, n, c, rfl, hy, hb⟩
  have HY : Hid _ := hy
  clear hy
  obtain ⟨hc3, hf3, hz3⟩ := below_new hb
  have HB3 : Hid (Below w2.heap.size w2 w3) := below_of_new hb
  obtain ⟨hc4, hf4, hz4⟩ := below_keep HB3.out hz
  have HBw : Hid (Below w.heap.size w w3) := HB2.out.trans (HB3.out.mono HB2.out.size)
  clear hb
  generalize Dk.opsOk tl.data.toList = ok at *
  cases ok
  · go_wp2
    refine bodyPost_ret (v := .tuple #[.agg #[.bool false, .bool false, .bool false, .bool false, .bool false, .bool false, .bool false, .bool false, .slice none 0 0], .bool false]) (by simp [results, Try.results40, go_sem, hc, hc1, hc4]) rfl ?_
    refine ⟨_, _, _, _, _, _, _, _, _, _, _, by rw [HP.out]; rfl, no_of (HP.out.trans (by simp)), ?_⟩
    iterate 9 refine Below.setCell ?_ (by exact Nat.le_refl _) _
    exact HBw.out
  · go_wp2
    refine bodyPost_ret (v := .tuple #[.agg #[.bool b0, .bool b1, .bool b2, .bool b3, .bool b4, .bool b5, .bool b6, .bool b7, .slice a n c], .bool true]) (by simp [results, Try.results40, go_sem, hc, hc1, hc4]) rfl ?_
    refine ⟨_, _, _, _, _, _, _, _, _, _, _, by rw [HP.out]; rfl, fun _ => ⟨by rw [HK.out]; exact HX.out trivial, by rw [HO.out]; exact (HY.out trivial).1, ?_⟩, ?_⟩
    · rw [HO.out]
      have hY := own_base (B' := w2.heap.size + 1) (HY.out trivial).2 (by simp)
      refine own_base (B := w2.heap.size + 1) ?_ (by omega)
      iterate 9 refine ownsRow_setCell_below ?_ (by show w.heap.size < w2.heap.size + 1; omega) _
      exact hY
    · iterate 9 refine Below.setCell ?_ (by exact Nat.le_refl _) _
      exact HBw.out

theorem parse_any (s : ByteArray) (w : World) (hs : s.size ≤ maxLen) :
    Calls Try.prog 40 #[.string s] w (ParsePost s.data.toList w) := by
  by_cases h : s.size ≤ 60
  · exact parse_small s w h
  · exact parse_big s w (by omega) hs

end Go.Proofs.Ytccckonckddadaa
