import Derived.Test.YtccckonckddadaaWalkR5
import Derived.Test.YtccckonckddadaaPlainS
import Derived.Test.YtccckonckddadaaWalkL
namespace Go.Proofs.Ytccckonckddadaa
open Go.RowKit
set_option linter.unusedVariables false

theorem str_cell {w : World} {B n c : Nat} {a : Option Addr} {ps : List ByteArray} (h : w.ownsRow B 9 1 (.slice a n c) n (strs ps)) (hn : n = ps.length) (h0 : 0 < n) :
    ∃ g, a = some ⟨g, 0, none⟩ ∧ B ≤ g ∧ g < w.heap.size ∧ ∀ (k : Nat) (p : ByteArray), ps[k]? = some p → w.cell? ⟨g, k, none⟩ = some (.string p) := by
  rcases h.2 with ⟨_, h0'⟩ | ⟨g, cap, cur, hv, hB, hg, _, _, hcs, ht⟩
  · omega
  · obtain ⟨rfl, _⟩ : a = some ⟨g, 0, none⟩ ∧ c = cap := by simpa using hv
    refine ⟨g, rfl, hB, (heap_cells hg).2.2, fun k p hp => ?_⟩
    have hk : k < ps.length := (List.getElem?_eq_some_iff.1 hp).1
    rw [(heap_cells hg).1]
    have : (strs ps)[k]? = some (.string p) := by simp [strs, hp]
    rw [← ht, List.getElem?_take_of_lt (by omega)] at this
    rw [← Array.getElem?_toList]; exact this

def PartsPost (l : List UInt8) (w : World) (e : Ending) (w' : World) : Prop :=
  ∃ (mk : ByteArray) (a : Option Addr) (n c : Nat) (ps : List ByteArray), e = .returned (.tuple #[.string mk, .slice a n c, .bool (Dk.parseOk l)]) ∧
    (Dk.parseOk l = true → mk.data.toList = (Dk.cutAt 124 l).1 ∧ n = ps.length ∧ lists ps = Dk.splitAll 59 (Dk.cutAt 124 l).2.1 ∧ w'.ownsRow w.heap.size 9 1 (.slice a n c) n (strs ps)) ∧
    (Dk.parseOk l = false → n = 0) ∧ Below w.heap.size w w'

theorem parts_big (s : ByteArray) (w : World) (h : 60 < s.size) (hs : s.size ≤ maxLen) : Calls Try.prog 60 #[.string s] w (PartsPost s.data.toList w) := by
  have H : Hid (Dk.parseOk s.data.toList = false) := Dk.parse_long h
  unfold maxLen at hs
  go_enter Try.func60, Try.ntmps60
  go_wp2
  go_ret3
  exact ⟨⟨#[]⟩, none, 0, 0, [], by rw [H.out]; rfl, no_of H.out, fun _ => rfl, Below.refl _ _⟩

theorem two_of {ps : List ByteArray} (h : ps.length = 2) : ∃ p q, ps = [p, q] := by
  match ps, h with
  | [p, q], _ => exact ⟨p, q, rfl⟩

theorem parse_small_is {l p q : List UInt8} (h60 : l.length ≤ 60) (h : Dk.splitAll 124 l = [p, q]) : Dk.parseOk l = (Dk.rise (-1) p && Dk.opsOk q) ∧ (Dk.cutAt 124 l).1 = p ∧ (Dk.cutAt 124 l).2.1 = q := by
  obtain ⟨h1, h2, h3⟩ := Dk.parse_pair h
  refine ⟨?_, h2, h3⟩
  rw [Dk.parse_at h60 h1 rfl rfl, h2, h3]; rfl

set_option maxHeartbeats 1000000 in
theorem parts_small (s : ByteArray) (w : World) (h : s.size ≤ 60) : Calls Try.prog 60 #[.string s] w (PartsPost s.data.toList w) := by
  have hml : 60 ≤ maxLen := by unfold maxLen; omega
  go_enter Try.func60, Try.ntmps60
  go_wp2_with fail
  refine (split_any s 124 _ h).mono ?_
  rintro e w1 ⟨a, n, c, ps, rfl, hn, hps, hown, hb⟩
  by_cases h2 : n = 2
  · subst h2
    obtain ⟨p, q, rfl⟩ := two_of hn.symm
    obtain ⟨g, rfl, hgB, hg, hcell⟩ := str_cell hown rfl (by omega)
    have c0 := hcell 0 p rfl
    have c1 := hcell 1 q rfl
    obtain ⟨P1, P2, P3⟩ := parse_small_is h hps.symm
    have HP : Hid (_ ∧ _ ∧ _) := ⟨P1, P2, P3⟩
    have HB : Hid (Below w.heap.size w w1) := hb
    have hl := (Dk.cut_len (m := 124) s.data.toList).1
    rw [P2, P3, len_list, len_list, len_list] at hl
    clear hb hown hps hn hcell P1 P2 P3
    go_wp2_with fail
    refine (rising_any p _ (by omega)).mono ?_
    rintro e w2 ⟨rfl, nq, rfl⟩
    generalize Dk.rise (-1) p.data.toList = rs at *
    go_wp2_with fail
    refine (split_any q 59 _ (by omega)).mono ?_
    rintro e w3 ⟨a2, n2, c2, qs, rfl, hn2, hqs, hown2, hb2⟩
    have hb3 : Below w1.heap.size w1 w3 := (below_drewN (Below.refl _ w1) nq).trans (hb2.mono (by simp))
    have c0' := (hb3.cell (p := ⟨g, 0, none⟩) hg).trans c0
    have hown3 : w3.ownsRow w1.heap.size 9 1 (.slice a2 n2 c2) n2 (strs qs) := own_base hown2 (by simp)
    have HQ : Hid (_ ∧ _ ∧ _ ∧ _) := ⟨hn2, hqs, own_base hown3 HB.out.size, HB.out.trans (hb3.mono HB.out.size)⟩
    clear hn2 hqs hown2 hb2 c0 c1
    cases rs
    · have H : Hid (Dk.parseOk s.data.toList = false) := HP.out.1
      clear hown3 hb3
      go_wp2
      go_ret3
      exact ⟨⟨#[]⟩, none, 0, 0, [], by rw [H.out]; rfl, no_of H.out, fun _ => rfl, HQ.out.2.2.2⟩
    · by_cases h8 : 8 < n2
      · have H : Hid (Dk.parseOk s.data.toList = false) := by
          show _ = _
          rw [HP.out.1, Dk.opsOk_many (by rw [← HQ.out.2.1, lists, List.length_map, ← HQ.out.1]; exact h8)]; rfl
        clear hown3 hb3
        go_wp2
        go_ret3
        exact ⟨⟨#[]⟩, none, 0, 0, [], by rw [H.out]; rfl, no_of H.out, fun _ => rfl, HQ.out.2.2.2⟩
      · have HO3 : Hid _ := hown3
        clear hown3 hb3
        go_wp2
        go_loopw [8] (fun i wr => ∃ k : Nat, k ≤ n2 ∧ i = .int .i64 k ∧ wr = w3 ∧ Hid (((lists qs).take k).all Dk.opOk = true)) (fun i _ => n2 - (intOf i).toNat)
        case atStart => exact ⟨0, Nat.zero_le _, rfl, rfl, rfl⟩
        case round =>
          obtain ⟨k, hk, rfl, rfl, HK⟩ := hrel
          by_cases hlt : k < n2
          · obtain ⟨g2, rfl, _, hg2, hcell2⟩ := str_cell HO3.out HQ.out.1 (by omega)
            have hkq : k < qs.length := by rw [← HQ.out.1]; exact hlt
            have ck := hcell2 k qs[k] (List.getElem?_eq_getElem hkq)
            have HMem : Hid (qs[k].data.toList ∈ Dk.splitAll 59 q.data.toList) := by
              show _ ∈ _
              rw [← HQ.out.2.1]; exact List.mem_map.2 ⟨qs[k], List.getElem_mem hkq, rfl⟩
            have hsz : qs[k].size ≤ 60 := by have := Dk.split_len 59 _ _ HMem.out; rw [len_list, len_list] at this; omega
            have HSn : Hid ((lists qs).take (k + 1) = (lists qs).take k ++ [qs[k].data.toList]) := by
              show _ = _
              rw [List.take_succ_eq_append_getElem (by rw [lists, List.length_map]; exact hkq)]; simp [lists]
            clear hcell2
            generalize qs[k] = qk at *
            go_wp2_with fail
            refine (refop_any qk _ (by omega)).mono ?_
            rintro e w' ⟨rfl, rfl⟩
            cases hok : Dk.opOk qk.data.toList
            · have H : Hid (Dk.parseOk s.data.toList = false) := by
                show _ = _
                rw [HP.out.1, Dk.opsOk_one HMem.out hok]; rfl
              clear hok
              go_wp2
              go_ret3
              exact ⟨⟨#[]⟩, none, 0, 0, [], by rw [H.out]; rfl, no_of H.out, fun _ => rfl, HQ.out.2.2.2⟩
            · have HN : Hid (((lists qs).take (k + 1)).all Dk.opOk = true) := by
                show _ = _
                rw [HSn.out, List.all_append, HK.out]; simp [hok]
              clear hok
              go_wp2
              go_roundw
              case rel => exact ⟨k + 1, by omega, by go_num, by simp, HN.out⟩
              case measure => simp [intOf]; omega
          · have H : Hid (Dk.parseOk s.data.toList = true) := by
              show _ = _
              have hl8 : (Dk.splitAll 59 q.data.toList).length = n2 := by rw [← HQ.out.2.1, lists, List.length_map, ← HQ.out.1]
              have ha := HK.out
              rw [List.take_of_length_le (by rw [lists, List.length_map, ← HQ.out.1]; omega), HQ.out.2.1] at ha
              rw [HP.out.1, Dk.opsOk_all (by omega) ha]; rfl
            go_wp2
            go_ret3
            refine ⟨p, a2, n2, c2, qs, by rw [H.out]; rfl, fun _ => ⟨HP.out.2.1.symm, HQ.out.1, by rw [HP.out.2.2]; exact HQ.out.2.1, HQ.out.2.2.1⟩, (fun h => by rw [H.out] at h; cases h), HQ.out.2.2.2⟩
  · have H : Hid (Dk.parseOk s.data.toList = false) := Dk.parse_two (by rw [← hps, lists, List.length_map]; omega)
    have h2' : ((n : Int) != 2) = true := by rw [bne_iff_ne]; omega
    have HB : Hid (Below w.heap.size w w1) := hb
    clear hps hown hb h2 hn
    go_wp2
    go_ret3
    exact ⟨⟨#[]⟩, none, 0, 0, [], by rw [H.out]; rfl, no_of H.out, fun _ => rfl, HB.out⟩

theorem parts_any (s : ByteArray) (w : World) (hs : s.size ≤ maxLen) : Calls Try.prog 60 #[.string s] w (PartsPost s.data.toList w) := by
  by_cases h : s.size ≤ 60
  · exact parts_small s w h
  · exact parts_big s w (by omega) hs

end Go.Proofs.Ytccckonckddadaa
