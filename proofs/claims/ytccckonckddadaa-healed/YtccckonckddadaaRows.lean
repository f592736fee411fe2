/-
  No cell of these rows narrows 'for every input' (looked for: loops, veiled, ifaces, maps, wideKeys, modest, calm, conditions, laid).
  DERIVED. THE GIVEN ROWS OF THIS SEAT. 10 by the template 'for every input the law returns true; each argument reads behind the call as it read before'; 0 by the template 'total and deterministic' (their statements: YtccckonckddadaaTotals.lean).
  GIVEN WITH THE SEED: the statements are not yours to turn. If you find one false, say at which input.
  Laid BY PROGRAM, IN A SANDBOX (cutbox-rows.mjs): the forced cells as the released guide's own fill.sh prints them over the translation af2b5bd3e94f60c3… (all of the seat's roots in one cut). By AI agents, Wed Nov 11 2026. No macro, syntax, notation, axiom, sorry.
-/
import Derived.Test.YtccckonckddadaaChecked
import GoSem.Claim
import GoSem.ClaimJoined
import GoSem.ClaimMapViews
import Derived.JoinedTies
import Derived.KernelRfl
namespace Go.Proofs.Ytccckonckddadaa
/- THE CELL 'sum', in the pinned program and in every row, IS THE sha256 OF THE DUMP (.gsa) THAT YtccckonckddadaaProg.lean LOADS. Nothing in Lean hashes anything: it is a label: what it is worth is what the hold of that sum in a sandbox is worth. -/
noncomputable def Try.pinned : Pinned := { name := "ytccckonckddadaa", sum := "af2b5bd3e94f60c3f7a15ceec1d3e46bde4efcd8a21d98ba78da680ca5d40afb", checked := Try.checked }
namespace Rows
def none {H : Type} : Left H := { results := [], args := [] }

/-- 'docketlaw.Applied': WHATEVER THE INPUT: true; the input reads as it did. -/
def appliedSpec : ChangeSpec := { name := "applied", fn := fun _ => fun
  | [d1, d2] => { results := [.lit (.bool true)], args := [d1, d2] }
  | _ => none }
def appliedRow : OpenClaim := { program := "ytccckonckddadaa", sum := "af2b5bd3e94f60c3f7a15ceec1d3e46bde4efcd8a21d98ba78da680ca5d40afb", func := "docket/docketlaw.Applied", spec := "applied", apart := false }
def AppliedSaid : Prop := appliedRow.holds Try.pinned (OpenSpec.ofChange appliedSpec)

/-- ITS FALSE NEIGHBOUR: 'it returns false'. Refute it at one input. -/
def appliedWrong : ChangeSpec := { name := "applied", fn := fun _ => fun
  | [d1, d2] => { results := [.lit (.bool false)], args := [d1, d2] }
  | _ => none }
def AppliedWrongFalsely : Prop := appliedRow.holds Try.pinned (OpenSpec.ofChange appliedWrong)

/-- 'docketkeep.Wrapped': WHATEVER THE INPUT: true; the input reads as it did. -/
def wrappedSpec : ChangeSpec := { name := "wrapped", fn := fun _ => fun
  | [d1, d2, d3] => { results := [.lit (.bool true)], args := [d1, d2, d3] }
  | _ => none }
def wrappedRow : OpenClaim := { program := "ytccckonckddadaa", sum := "af2b5bd3e94f60c3f7a15ceec1d3e46bde4efcd8a21d98ba78da680ca5d40afb", func := "docket/docketkeep.Wrapped", spec := "wrapped", apart := false }
def WrappedSaid : Prop := wrappedRow.holds Try.pinned (OpenSpec.ofChange wrappedSpec)

/-- ITS FALSE NEIGHBOUR: 'it returns false'. Refute it at one input. -/
def wrappedWrong : ChangeSpec := { name := "wrapped", fn := fun _ => fun
  | [d1, d2, d3] => { results := [.lit (.bool false)], args := [d1, d2, d3] }
  | _ => none }
def WrappedWrongFalsely : Prop := wrappedRow.holds Try.pinned (OpenSpec.ofChange wrappedWrong)

/-- 'docketkeep.Undone': WHATEVER THE INPUT: true; the input reads as it did. -/
def undoneSpec : ChangeSpec := { name := "undone", fn := fun _ => fun
  | [d1, d2] => { results := [.lit (.bool true)], args := [d1, d2] }
  | _ => none }
def undoneRow : OpenClaim := { program := "ytccckonckddadaa", sum := "af2b5bd3e94f60c3f7a15ceec1d3e46bde4efcd8a21d98ba78da680ca5d40afb", func := "docket/docketkeep.Undone", spec := "undone", apart := false }
def UndoneSaid : Prop := undoneRow.holds Try.pinned (OpenSpec.ofChange undoneSpec)

/-- ITS FALSE NEIGHBOUR: 'it returns false'. Refute it at one input. -/
def undoneWrong : ChangeSpec := { name := "undone", fn := fun _ => fun
  | [d1, d2] => { results := [.lit (.bool false)], args := [d1, d2] }
  | _ => none }
def UndoneWrongFalsely : Prop := undoneRow.holds Try.pinned (OpenSpec.ofChange undoneWrong)

/-- 'docketlaw.Framed': WHATEVER THE INPUT: true; the input reads as it did. -/
def framedSpec : ChangeSpec := { name := "framed", fn := fun _ => fun
  | [d1, d2] => { results := [.lit (.bool true)], args := [d1, d2] }
  | _ => none }
def framedRow : OpenClaim := { program := "ytccckonckddadaa", sum := "af2b5bd3e94f60c3f7a15ceec1d3e46bde4efcd8a21d98ba78da680ca5d40afb", func := "docket/docketlaw.Framed", spec := "framed", apart := false }
def FramedSaid : Prop := framedRow.holds Try.pinned (OpenSpec.ofChange framedSpec)

/-- ITS FALSE NEIGHBOUR: 'it returns false'. Refute it at one input. -/
def framedWrong : ChangeSpec := { name := "framed", fn := fun _ => fun
  | [d1, d2] => { results := [.lit (.bool false)], args := [d1, d2] }
  | _ => none }
def FramedWrongFalsely : Prop := framedRow.holds Try.pinned (OpenSpec.ofChange framedWrong)

/-- 'docketlaw.Scanned': WHATEVER THE INPUT: true; the input reads as it did. -/
def scannedSpec : ChangeSpec := { name := "scanned", fn := fun _ => fun
  | [d] => { results := [.lit (.bool true)], args := [d] }
  | _ => none }
def scannedRow : OpenClaim := { program := "ytccckonckddadaa", sum := "af2b5bd3e94f60c3f7a15ceec1d3e46bde4efcd8a21d98ba78da680ca5d40afb", func := "docket/docketlaw.Scanned", spec := "scanned", apart := false }
def ScannedSaid : Prop := scannedRow.holds Try.pinned (OpenSpec.ofChange scannedSpec)

/-- ITS FALSE NEIGHBOUR: 'it returns false'. Refute it at one input. -/
def scannedWrong : ChangeSpec := { name := "scanned", fn := fun _ => fun
  | [d] => { results := [.lit (.bool false)], args := [d] }
  | _ => none }
def ScannedWrongFalsely : Prop := scannedRow.holds Try.pinned (OpenSpec.ofChange scannedWrong)

/-- 'docketkeep.Torn': WHATEVER THE INPUT: true; the input reads as it did. -/
def tornSpec : ChangeSpec := { name := "torn", fn := fun _ => fun
  | [d1, d2, d3] => { results := [.lit (.bool true)], args := [d1, d2, d3] }
  | _ => none }
def tornRow : OpenClaim := { program := "ytccckonckddadaa", sum := "af2b5bd3e94f60c3f7a15ceec1d3e46bde4efcd8a21d98ba78da680ca5d40afb", func := "docket/docketkeep.Torn", spec := "torn", apart := false }
def TornSaid : Prop := tornRow.holds Try.pinned (OpenSpec.ofChange tornSpec)

/-- ITS FALSE NEIGHBOUR: 'it returns false'. Refute it at one input. -/
def tornWrong : ChangeSpec := { name := "torn", fn := fun _ => fun
  | [d1, d2, d3] => { results := [.lit (.bool false)], args := [d1, d2, d3] }
  | _ => none }
def TornWrongFalsely : Prop := tornRow.holds Try.pinned (OpenSpec.ofChange tornWrong)

/-- 'docketkeep.Once': WHATEVER THE INPUT: true; the input reads as it did. -/
def onceSpec : ChangeSpec := { name := "once", fn := fun _ => fun
  | [d1, d2] => { results := [.lit (.bool true)], args := [d1, d2] }
  | _ => none }
def onceRow : OpenClaim := { program := "ytccckonckddadaa", sum := "af2b5bd3e94f60c3f7a15ceec1d3e46bde4efcd8a21d98ba78da680ca5d40afb", func := "docket/docketkeep.Once", spec := "once", apart := false }
def OnceSaid : Prop := onceRow.holds Try.pinned (OpenSpec.ofChange onceSpec)

/-- ITS FALSE NEIGHBOUR: 'it returns false'. Refute it at one input. -/
def onceWrong : ChangeSpec := { name := "once", fn := fun _ => fun
  | [d1, d2] => { results := [.lit (.bool false)], args := [d1, d2] }
  | _ => none }
def OnceWrongFalsely : Prop := onceRow.holds Try.pinned (OpenSpec.ofChange onceWrong)

/-- 'docketkeep.Fronts': WHATEVER THE INPUT: true; the input reads as it did. -/
def frontsSpec : ChangeSpec := { name := "fronts", fn := fun _ => fun
  | [d1, d2] => { results := [.lit (.bool true)], args := [d1, d2] }
  | _ => none }
def frontsRow : OpenClaim := { program := "ytccckonckddadaa", sum := "af2b5bd3e94f60c3f7a15ceec1d3e46bde4efcd8a21d98ba78da680ca5d40afb", func := "docket/docketkeep.Fronts", spec := "fronts", apart := false }
def FrontsSaid : Prop := frontsRow.holds Try.pinned (OpenSpec.ofChange frontsSpec)

/-- ITS FALSE NEIGHBOUR: 'it returns false'. Refute it at one input. -/
def frontsWrong : ChangeSpec := { name := "fronts", fn := fun _ => fun
  | [d1, d2] => { results := [.lit (.bool false)], args := [d1, d2] }
  | _ => none }
def FrontsWrongFalsely : Prop := frontsRow.holds Try.pinned (OpenSpec.ofChange frontsWrong)

/-- 'docketkeep.Healed': WHATEVER THE INPUT: true; the input reads as it did. -/
def healedSpec : ChangeSpec := { name := "healed", fn := fun _ => fun
  | [d1, d2, d3, d4] => { results := [.lit (.bool true)], args := [d1, d2, d3, d4] }
  | _ => none }
def healedRow : OpenClaim := { program := "ytccckonckddadaa", sum := "af2b5bd3e94f60c3f7a15ceec1d3e46bde4efcd8a21d98ba78da680ca5d40afb", func := "docket/docketkeep.Healed", spec := "healed", apart := false }
def HealedSaid : Prop := healedRow.holds Try.pinned (OpenSpec.ofChange healedSpec)

/-- ITS FALSE NEIGHBOUR: 'it returns false'. Refute it at one input. -/
def healedWrong : ChangeSpec := { name := "healed", fn := fun _ => fun
  | [d1, d2, d3, d4] => { results := [.lit (.bool false)], args := [d1, d2, d3, d4] }
  | _ => none }
def HealedWrongFalsely : Prop := healedRow.holds Try.pinned (OpenSpec.ofChange healedWrong)

/-- 'docketkeep.Within': WHATEVER THE INPUT: true; the input reads as it did. -/
def withinSpec : ChangeSpec := { name := "within", fn := fun _ => fun
  | [d1, d2, d3, d4, d5] => { results := [.lit (.bool true)], args := [d1, d2, d3, d4, d5] }
  | _ => none }
def withinRow : OpenClaim := { program := "ytccckonckddadaa", sum := "af2b5bd3e94f60c3f7a15ceec1d3e46bde4efcd8a21d98ba78da680ca5d40afb", func := "docket/docketkeep.Within", spec := "within", apart := false }
def WithinSaid : Prop := withinRow.holds Try.pinned (OpenSpec.ofChange withinSpec)

/-- ITS FALSE NEIGHBOUR: 'it returns false'. Refute it at one input. -/
def withinWrong : ChangeSpec := { name := "within", fn := fun _ => fun
  | [d1, d2, d3, d4, d5] => { results := [.lit (.bool false)], args := [d1, d2, d3, d4, d5] }
  | _ => none }
def WithinWrongFalsely : Prop := withinRow.holds Try.pinned (OpenSpec.ofChange withinWrong)

/- THE SECOND FORM. 'bulk': how many values and letters a reading holds, each counted each time it is reached (what is shared counts as often as it is met; a slice's spare places count too). A statement '..UptoSaid' is the law's where the arguments, and the package variables that the reading takes, are together of bulk at most 1048576: NARROWER than '..Said'. Prove '..Said' where nothing that the law and all that it calls make is longer than what came in: it says more and counts as full. Else prove '..UptoSaid'. A law counts once. -/
mutual
def uptoBulk {H : Type} : DataW H → Nat
  | .lit (.string bytes) => bytes.length + 1
  | .lit _ => 1
  | .nil => 1
  | .ptr d => uptoBulk d + 1
  | .slice elems spare => uptoBulkAll elems + uptoBulkAll spare + 1
  | .agg parts => uptoBulkAll parts + 1
  | .iface _ d => uptoBulk d + 1
  | .map entries => uptoBulkEntries entries + 1
  | .held _ => 1
def uptoBulkAll {H : Type} : List (DataW H) → Nat
  | [] => 0
  | d :: r => uptoBulk d + uptoBulkAll r
def uptoBulkEntries {H : Type} : List (Lit × DataW H) → Nat
  | [] => 0
  | x :: r => uptoBulkEntry x + uptoBulkEntries r
def uptoBulkEntry {H : Type} : Lit × DataW H → Nat
  | (.string bytes, d) => bytes.length + uptoBulk d + 1
  | (_, d) => uptoBulk d + 1
 end
def uptoSmall : (H : Type) → List (DataW H) → Bool := fun _ ds => decide (uptoBulkAll ds ≤ 1048576)
def OpenSpec.upto (s : _root_.Go.ChangeSpec) : _root_.Go.OpenSpec := { _root_.Go.OpenSpec.ofChange s with cond := some uptoSmall }

/-- 'docketlaw.Applied', WHERE WHAT IT READS IS OF BULK AT MOST 1048576: true; the input reads as it did. -/
def appliedUptoRow : OpenClaim := { program := "ytccckonckddadaa", sum := "af2b5bd3e94f60c3f7a15ceec1d3e46bde4efcd8a21d98ba78da680ca5d40afb", func := "docket/docketlaw.Applied", spec := "applied", apart := false, narrowed := true }
def AppliedUptoSaid : Prop := appliedUptoRow.holds Try.pinned (OpenSpec.upto appliedSpec)

/-- 'docketkeep.Wrapped', WHERE WHAT IT READS IS OF BULK AT MOST 1048576: true; the input reads as it did. -/
def wrappedUptoRow : OpenClaim := { program := "ytccckonckddadaa", sum := "af2b5bd3e94f60c3f7a15ceec1d3e46bde4efcd8a21d98ba78da680ca5d40afb", func := "docket/docketkeep.Wrapped", spec := "wrapped", apart := false, narrowed := true }
def WrappedUptoSaid : Prop := wrappedUptoRow.holds Try.pinned (OpenSpec.upto wrappedSpec)

/-- 'docketkeep.Undone', WHERE WHAT IT READS IS OF BULK AT MOST 1048576: true; the input reads as it did. -/
def undoneUptoRow : OpenClaim := { program := "ytccckonckddadaa", sum := "af2b5bd3e94f60c3f7a15ceec1d3e46bde4efcd8a21d98ba78da680ca5d40afb", func := "docket/docketkeep.Undone", spec := "undone", apart := false, narrowed := true }
def UndoneUptoSaid : Prop := undoneUptoRow.holds Try.pinned (OpenSpec.upto undoneSpec)

/-- 'docketlaw.Framed', WHERE WHAT IT READS IS OF BULK AT MOST 1048576: true; the input reads as it did. -/
def framedUptoRow : OpenClaim := { program := "ytccckonckddadaa", sum := "af2b5bd3e94f60c3f7a15ceec1d3e46bde4efcd8a21d98ba78da680ca5d40afb", func := "docket/docketlaw.Framed", spec := "framed", apart := false, narrowed := true }
def FramedUptoSaid : Prop := framedUptoRow.holds Try.pinned (OpenSpec.upto framedSpec)

/-- 'docketlaw.Scanned', WHERE WHAT IT READS IS OF BULK AT MOST 1048576: true; the input reads as it did. -/
def scannedUptoRow : OpenClaim := { program := "ytccckonckddadaa", sum := "af2b5bd3e94f60c3f7a15ceec1d3e46bde4efcd8a21d98ba78da680ca5d40afb", func := "docket/docketlaw.Scanned", spec := "scanned", apart := false, narrowed := true }
def ScannedUptoSaid : Prop := scannedUptoRow.holds Try.pinned (OpenSpec.upto scannedSpec)

/-- 'docketkeep.Torn', WHERE WHAT IT READS IS OF BULK AT MOST 1048576: true; the input reads as it did. -/
def tornUptoRow : OpenClaim := { program := "ytccckonckddadaa", sum := "af2b5bd3e94f60c3f7a15ceec1d3e46bde4efcd8a21d98ba78da680ca5d40afb", func := "docket/docketkeep.Torn", spec := "torn", apart := false, narrowed := true }
def TornUptoSaid : Prop := tornUptoRow.holds Try.pinned (OpenSpec.upto tornSpec)

/-- 'docketkeep.Once', WHERE WHAT IT READS IS OF BULK AT MOST 1048576: true; the input reads as it did. -/
def onceUptoRow : OpenClaim := { program := "ytccckonckddadaa", sum := "af2b5bd3e94f60c3f7a15ceec1d3e46bde4efcd8a21d98ba78da680ca5d40afb", func := "docket/docketkeep.Once", spec := "once", apart := false, narrowed := true }
def OnceUptoSaid : Prop := onceUptoRow.holds Try.pinned (OpenSpec.upto onceSpec)

/-- 'docketkeep.Fronts', WHERE WHAT IT READS IS OF BULK AT MOST 1048576: true; the input reads as it did. -/
def frontsUptoRow : OpenClaim := { program := "ytccckonckddadaa", sum := "af2b5bd3e94f60c3f7a15ceec1d3e46bde4efcd8a21d98ba78da680ca5d40afb", func := "docket/docketkeep.Fronts", spec := "fronts", apart := false, narrowed := true }
def FrontsUptoSaid : Prop := frontsUptoRow.holds Try.pinned (OpenSpec.upto frontsSpec)

/-- 'docketkeep.Healed', WHERE WHAT IT READS IS OF BULK AT MOST 1048576: true; the input reads as it did. -/
def healedUptoRow : OpenClaim := { program := "ytccckonckddadaa", sum := "af2b5bd3e94f60c3f7a15ceec1d3e46bde4efcd8a21d98ba78da680ca5d40afb", func := "docket/docketkeep.Healed", spec := "healed", apart := false, narrowed := true }
def HealedUptoSaid : Prop := healedUptoRow.holds Try.pinned (OpenSpec.upto healedSpec)

/-- 'docketkeep.Within', WHERE WHAT IT READS IS OF BULK AT MOST 1048576: true; the input reads as it did. -/
def withinUptoRow : OpenClaim := { program := "ytccckonckddadaa", sum := "af2b5bd3e94f60c3f7a15ceec1d3e46bde4efcd8a21d98ba78da680ca5d40afb", func := "docket/docketkeep.Within", spec := "within", apart := false, narrowed := true }
def WithinUptoSaid : Prop := withinUptoRow.holds Try.pinned (OpenSpec.upto withinSpec)

end Rows
end Go.Proofs.Ytccckonckddadaa
