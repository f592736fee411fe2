import Derived.Test.YtccckonckddadaaWalkS3
namespace Go.Proofs.Ytccckonckddadaa
open Go.RowKit
set_option linter.unusedVariables false

theorem frame_any (n : Int) (a : Option Addr) (m c : Nat) (rs : List RecV) (w : World) (hm : m ≤ maxLen) (hr : RecRow w a m rs) :
    Calls Try.prog 43 #[.int .i64 n, .slice a m c] w (FrameRPost n (recs rs) w) := by
  by_cases h : 0 ≤ n ∧ n < 200 ∧ m ≤ 64
  · exact frame_good n a m c rs w h.1 h.2.1 h.2.2 hr
  · exact frame_bad n a m c rs w hm hr (by omega)

theorem parse_len {l : List UInt8} (h : Dk.parseOk l = true) : l.length ≤ 60 := by
  unfold Dk.parseOk at h
  rw [Bool.and_eq_true, Bool.and_eq_true, Bool.and_eq_true, decide_eq_true_eq] at h
  exact h.1.1.1
theorem recOk_len {r : Dk.Rec} (h : Dk.recOk r = true) : (Dk.recBytes r).length ≤ 66 := by
  unfold Dk.recOk at h
  rw [Bool.and_eq_true, Bool.and_eq_true] at h
  have ht : r.text.length ≤ 60 := by
    obtain ⟨⟨h1, _⟩, _⟩ := h
    cases hl : r.late
    · rw [hl] at h1; exact parse_len h1
    · rw [hl] at h1
      have : r.text = [] := eq_of_beq h1
      rw [this]; simp
  unfold Dk.recBytes
  simp only [List.length_append, Dk.be_len]
  omega
theorem recs_len : ∀ (rs : List Dk.Rec), rs.all Dk.recOk = true → (rs.flatMap Dk.recBytes).length ≤ 66 * rs.length
  | [], _ => by simp
  | r :: rs, h => by
    rw [List.all_cons, Bool.and_eq_true] at h
    have h1 := recOk_len h.1
    have h2 := recs_len rs h.2
    rw [List.flatMap_cons, List.length_append, List.length_cons]
    omega
theorem epoch_len (n : Nat) (rs : List Dk.Rec) : (Dk.epoch n rs).length = 8 + (rs.flatMap Dk.recBytes).length := by
  unfold Dk.epoch Dk.payload
  simp only [List.length_append, Dk.be_len]
  omega
theorem epoch_small {n : Int} {rs : List Dk.Rec} (h : Dk.frameOk n rs = true) : (Dk.epoch n.toNat rs).length ≤ 4232 := by
  unfold Dk.frameOk at h
  rw [Bool.and_eq_true, Bool.and_eq_true, decide_eq_true_eq, decide_eq_true_eq] at h
  have := recs_len rs h.2
  have := h.1.2
  rw [epoch_len]
  omega
theorem frame_low {n : Int} {rs : List Dk.Rec} (h : Dk.frameOk n rs = true) : n < 200 := by
  unfold Dk.frameOk at h
  rw [Bool.and_eq_true, Bool.and_eq_true, decide_eq_true_eq] at h
  exact h.1.1.2

theorem scan_go {l : List UInt8} {k n p : Nat} (h : Dk.frameOk n (Dk.guessV (l.drop p)) = true) (h' : startsB (l.drop p) (Dk.epoch n (Dk.guessV (l.drop p))) = true) : Dk.scanFrom l (k + 1) n p = Dk.scanFrom l k (n + 1) (p + (Dk.epoch n (Dk.guessV (l.drop p))).length) := by
  have h'' := h'
  unfold startsB at h''
  rw [Dk.scanFrom, h, h'']; rfl
theorem scan_stop {l : List UInt8} {k n p : Nat} (h : Dk.frameOk n (Dk.guessV (l.drop p)) = false ∨ startsB (l.drop p) (Dk.epoch n (Dk.guessV (l.drop p))) = false) : Dk.scanFrom l k n p = (n, p) := by
  cases k with
  | zero => rfl
  | succ k =>
    rw [Dk.scanFrom]
    rcases h with h | h
    · rw [h]; rfl
    · unfold startsB at h; rw [h]; simp
theorem drop_list (s : ByteArray) (p : Nat) : (s.extract p s.size).data.toList = s.data.toList.drop p := by
  rw [ext_list, ← len_list, List.take_length]

set_option maxHeartbeats 2000000 in
theorem scan_any (s : ByteArray) (w : World) (hs : s.size ≤ 140737488355328) :
    Calls Try.prog 44 #[.string s] w fun e w' => e = .returned (.tuple #[.int .i64 (Dk.scanV s.data.toList).1, .int .i64 (Dk.scanV s.data.toList).2]) ∧ Below w.heap.size w w' := by
  go_enter Try.func44, Try.ntmps44
  go_wp2
  go_loopw [4, 5] (fun p q wr => ∃ (k at' : Nat), k ≤ 200 ∧ p = .int .i64 at' ∧ q = .int .i64 k ∧ at' ≤ s.size ∧ Hid (Dk.scanV s.data.toList = Dk.scanFrom s.data.toList (201 - k) k at') ∧ Hid (Below w.heap.size w wr)) (fun _ q _ => 201 - (intOf q).toNat)
  case atStart => exact ⟨0, 0, by omega, rfl, rfl, by omega, rfl, Below.refl _ _⟩
  case round =>
    obtain ⟨k, p, hk, rfl, rfl, hp, HS, HB⟩ := hrel
    have hpI : (p : Int) ≤ (s.size : Int) := by omega
    go_wp2_with fail
    refine (guess_any (s.extract p s.size) _ (by rw [ByteArray.size_extract]; omega)).mono ?_
    rintro e w1 ⟨a, m, c, rs, rfl, hm, HR, hg, hB1⟩
    rw [drop_list] at hg
    have HR' : Hid _ := HR
    have HG : Hid _ := hg
    have HB1 : Hid (Below w.heap.size w w1) := HB.out.trans (hB1.mono HB.out.size)
    clear HR hg hB1 HB
    go_wp2_with fail
    refine (frame_any (k : Int) a m c rs _ (by unfold maxLen; omega) HR'.out).mono ?_
    rintro e w2 ⟨b, rfl, hb, hB2⟩
    rw [HG.out] at hb
    rw [HG.out]
    have HB2 : Hid (Below w.heap.size w w2) := HB1.out.trans (hB2.mono HB1.out.size)
    clear hB2 HB1
    cases hf : Dk.frameOk (k : Int) (Dk.guessV (s.data.toList.drop p))
    · have HE : Hid (Dk.scanFrom s.data.toList (201 - k) k p = (k, p)) := scan_stop (.inl hf)
      rw [hf] at hb
      have hbs : b.size = 0 := congrArg List.length hb
      clear hb hf
      go_wp2_with fail
      refine (starts_any (s.extract p s.size) b _ (by rw [ByteArray.size_extract]; unfold maxLen; omega) (by unfold maxLen; omega)).mono ?_
      rintro e w3 ⟨rfl, rfl⟩
      go_wp2
      go_ret2
      exact ⟨by rw [HS.out, HE.out]; rfl, HB2.out⟩
    · rw [hf] at hb
      have hk2 := frame_low hf
      have hlen : b.size = (Dk.epoch k (Dk.guessV (s.data.toList.drop p))).length := congrArg List.length hb
      have hsm := epoch_small hf
      rw [Int.toNat_natCast] at hsm
      have HBb : Hid (b.data.toList = Dk.epoch k (Dk.guessV (s.data.toList.drop p))) := hb
      have HF : Hid _ := hf
      clear hb hf
      have hbs : b.size ≤ 4232 := by omega
      go_wp2_with fail
      refine (starts_any (s.extract p s.size) b _ (by rw [ByteArray.size_extract]; unfold maxLen; omega) (by unfold maxLen; omega)).mono ?_
      rintro e w3 ⟨rfl, rfl⟩
      rw [drop_list]
      cases hst : startsB (s.data.toList.drop p) b.data.toList
      · have HE : Hid (Dk.scanFrom s.data.toList (201 - k) k p = (k, p)) := scan_stop (.inr (by rw [← HBb.out]; exact hst))
        clear hst
        go_wp2
        go_ret2
        exact ⟨by rw [HS.out, HE.out]; rfl, HB2.out⟩
      · have HE : Hid (Dk.scanFrom s.data.toList (201 - k) k p = Dk.scanFrom s.data.toList (201 - (k + 1)) (k + 1) (p + b.size)) := by
          show _ = _
          rw [show 201 - k = (201 - (k + 1)) + 1 from by omega, hlen]
          exact scan_go HF.out (by rw [← HBb.out]; exact hst)
        have hle : p + b.size ≤ s.size := by
          have h' := hst
          unfold startsB at h'
          rw [Bool.and_eq_true, decide_eq_true_eq, len_list, List.length_drop, len_list] at h'
          omega
        clear hst hlen hsm
        go_wp2
        go_roundw
        case rel => exact ⟨k + 1, p + b.size, by omega, by go_num, by go_num, hle, HS.out.trans HE.out, HB2.out⟩
        case measure => simp [intOf]; omega

end Go.Proofs.Ytccckonckddadaa
