import Derived.Test.YtccckonckddadabGreatJ05
import Derived.ChangeKeysEq
namespace Go.Proofs.YtccckonckddadabGreat
open Go.RowKit
set_option linter.unusedVariables false

theorem cells_i16 : Tryz.prog.cellsOf 35 = 1 := by kernel_rfl
theorem guard_cells : Tryz.prog.eqGuardType Tryz.prog.depth 37 = false := by kernel_rfl
theorem info_i16 : ∃ i, Tryz.prog.info? 35 = some i := by
  cases h : Tryz.prog.info? 35 with
  | none => have : (Tryz.prog.info? 35).isSome = true := by kernel_rfl
            rw [h] at this; cases this
  | some i => exact ⟨i, rfl⟩

set_option maxHeartbeats 1000000 in
theorem equal_cells (x0 x1 x2 x3 x4 x5 x6 x7 y0 y1 y2 y3 y4 y5 y6 y7 : Int) (W : World) :
    (Op.equalIn 10000 37 (.agg #[.int .i16 x0, .int .i16 x1, .int .i16 x2, .int .i16 x3, .int .i16 x4, .int .i16 x5, .int .i16 x6, .int .i16 x7]) (.agg #[.int .i16 y0, .int .i16 y1, .int .i16 y2, .int .i16 y3, .int .i16 y4, .int .i16 y5, .int .i16 y6, .int .i16 y7])).run Tryz.prog W = .ok (decide ([x0, x1, x2, x3, x4, x5, x6, x7] = [y0, y1, y2, y3, y4, y5, y6, y7])) W := by
  obtain ⟨i, hi⟩ := info_i16
  rw [run_equalIn_array W 9999 _ _ Tryz.underlying37 hi, cells_i16]
  have hr : List.range 8 = [0, 1, 2, 3, 4, 5, 6, 7] := by decide
  rw [hr]
  simp [Op.eqItems, go_sem]
  repeat' split
  all_goals simp [*]

theorem equal_same (x0 x1 x2 x3 x4 x5 x6 x7 : Int) (W : World) :
    (Op.equalIn 10000 37 (.agg #[.int .i16 x0, .int .i16 x1, .int .i16 x2, .int .i16 x3, .int .i16 x4, .int .i16 x5, .int .i16 x6, .int .i16 x7]) (.agg #[.int .i16 x0, .int .i16 x1, .int .i16 x2, .int .i16 x3, .int .i16 x4, .int .i16 x5, .int .i16 x6, .int .i16 x7])).run Tryz.prog W = .ok true W := by
  rw [equal_cells]; simp

end Go.Proofs.YtccckonckddadabGreat
