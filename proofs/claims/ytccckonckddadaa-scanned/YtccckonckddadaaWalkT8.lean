import Derived.Test.YtccckonckddadaaWalkT7
import Derived.Test.YtccckonckddadaaWalkS4
namespace Go.Proofs.Ytccckonckddadaa
open Go.RowKit
set_option linter.unusedVariables false

theorem lawscan_any (s : ByteArray) (w : World) (hs : s.size ≤ 140737488355328) :
    Calls Try.prog 19 #[.string s] w fun e w' => e = .returned (.bool true) ∧ Below w.heap.size w w' := by
  go_enter Try.func19, Try.ntmps19
  go_wp2_with fail
  refine (pscan_any s _ (by unfold maxLen; omega)).mono ?_
  rintro e w1 ⟨rfl, hB⟩
  have HB : Hid _ := hB
  clear hB
  go_wp2_with fail
  refine (scan_any s _ hs).mono ?_
  rintro e w2 ⟨rfl, hB2⟩
  have HB2 : Hid (Below w.heap.size w w2) := HB.out.trans (hB2.mono HB.out.size)
  clear hB2
  generalize (Dk.scanV s.data.toList).1 = x
  generalize (Dk.scanV s.data.toList).2 = y
  go_wp2
  go_ret
  exact ⟨rfl, HB2.out⟩

theorem scanned_walk (s : ByteArray) (w : World) (hs : s.size ≤ 140737488355328) :
    Calls Try.prog 7 #[.string s] w fun e w' => e = .returned (.bool true) ∧ Below w.heap.size w w' := by
  go_enter Try.func7, Try.ntmps7
  go_wp2_with fail
  refine (lawscan_any s _ hs).mono ?_
  rintro e w1 ⟨rfl, hB⟩
  have HB : Hid _ := hB
  clear hB
  go_wp2
  go_ret
  exact ⟨rfl, HB.out⟩

end Go.Proofs.Ytccckonckddadaa
