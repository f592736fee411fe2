import Derived.Test.YtccckonckddadabGreatJ09
import Derived.Test.YtccckonckddadabGreatJ10
import Derived.Test.YtccckonckddadabGreatJ11
import Derived.Test.YtccckonckddadabGreatJ12
import Derived.Test.YtccckonckddadabGreatJ06
import Derived.Deep.RegionWith
namespace Go.Proofs.YtccckonckddadabGreat
open Go.RowKit
set_option linter.unusedVariables false

theorem step_any (b0 b1 b2 b3 b4 b5 b6 b7 : Bool) (a : Option Addr) (n c : Nat) (k sg : Int) (ab : Bool) (ak nm : Int) (x0 x1 x2 x3 x4 x5 x6 x7 : Int) (w : World)
    (hk0 : 0 ≤ k) (hk8 : k < 8) (ha0 : 0 ≤ ak) (ha8 : ak < 8) :
    Calls Tryz.prog 82 #[.agg #[.bool b0, .bool b1, .bool b2, .bool b3, .bool b4, .bool b5, .bool b6, .bool b7, .slice a n c], .agg #[.int .i64 k, .int .u8 sg, .bool ab, .int .i64 ak, .int .i16 nm],
      .agg #[.int .i16 x0, .int .i16 x1, .int .i16 x2, .int .i16 x3, .int .i16 x4, .int .i16 x5, .int .i16 x6, .int .i16 x7]] w (StepPost [b0, b1, b2, b3, b4, b5, b6, b7] ⟨k, sg, ab, ak, nm⟩ [x0, x1, x2, x3, x4, x5, x6, x7] w) := by
  cases hd : Dk.decl [b0, b1, b2, b3, b4, b5, b6, b7] k
  · exact step_undeclared _ _ _ _ _ _ _ _ _ _ _ _ _ _ _ _ _ _ _ _ _ _ _ _ _ hd
  · cases ab
    · obtain rfl | rfl | rfl | rfl | rfl | rfl | rfl | rfl := key8 hk0 hk8
      · exact step_num0 _ _ _ _ _ _ _ _ _ _ _ _ _ _ _ _ _ _ _ _ _ _ _ hd ha0 ha8
      · exact step_num1 _ _ _ _ _ _ _ _ _ _ _ _ _ _ _ _ _ _ _ _ _ _ _ hd ha0 ha8
      · exact step_num2 _ _ _ _ _ _ _ _ _ _ _ _ _ _ _ _ _ _ _ _ _ _ _ hd ha0 ha8
      · exact step_num3 _ _ _ _ _ _ _ _ _ _ _ _ _ _ _ _ _ _ _ _ _ _ _ hd ha0 ha8
      · exact step_num4 _ _ _ _ _ _ _ _ _ _ _ _ _ _ _ _ _ _ _ _ _ _ _ hd ha0 ha8
      · exact step_num5 _ _ _ _ _ _ _ _ _ _ _ _ _ _ _ _ _ _ _ _ _ _ _ hd ha0 ha8
      · exact step_num6 _ _ _ _ _ _ _ _ _ _ _ _ _ _ _ _ _ _ _ _ _ _ _ hd ha0 ha8
      · exact step_num7 _ _ _ _ _ _ _ _ _ _ _ _ _ _ _ _ _ _ _ _ _ _ _ hd ha0 ha8
    · cases he : Dk.decl [b0, b1, b2, b3, b4, b5, b6, b7] ak
      · exact step_argundeclared _ _ _ _ _ _ _ _ _ _ _ _ _ true _ _ _ _ _ _ _ _ _ _ _ hd he
      · obtain rfl | rfl | rfl | rfl | rfl | rfl | rfl | rfl := key8 hk0 hk8
        · exact step_key0 _ _ _ _ _ _ _ _ _ _ _ _ _ _ _ _ _ _ _ _ _ _ _ hd he ha0 ha8
        · exact step_key1 _ _ _ _ _ _ _ _ _ _ _ _ _ _ _ _ _ _ _ _ _ _ _ hd he ha0 ha8
        · exact step_key2 _ _ _ _ _ _ _ _ _ _ _ _ _ _ _ _ _ _ _ _ _ _ _ hd he ha0 ha8
        · exact step_key3 _ _ _ _ _ _ _ _ _ _ _ _ _ _ _ _ _ _ _ _ _ _ _ hd he ha0 ha8
        · exact step_key4 _ _ _ _ _ _ _ _ _ _ _ _ _ _ _ _ _ _ _ _ _ _ _ hd he ha0 ha8
        · exact step_key5 _ _ _ _ _ _ _ _ _ _ _ _ _ _ _ _ _ _ _ _ _ _ _ hd he ha0 ha8
        · exact step_key6 _ _ _ _ _ _ _ _ _ _ _ _ _ _ _ _ _ _ _ _ _ _ _ hd he ha0 ha8
        · exact step_key7 _ _ _ _ _ _ _ _ _ _ _ _ _ _ _ _ _ _ _ _ _ _ _ hd he ha0 ha8

end Go.Proofs.YtccckonckddadabGreat
