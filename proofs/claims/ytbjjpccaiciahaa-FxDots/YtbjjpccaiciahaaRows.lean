/-
  No cell of these rows narrows 'for every input' (looked for: loops, veiled, ifaces, maps, wideKeys, modest, calm, conditions, laid).
  DERIVED. THE GIVEN ROWS OF THIS SEAT. 6 by the template 'for every input the law returns true; each argument reads behind the call as it read before'; 0 by the template 'total and deterministic' (their statements: YtbjjpccaiciahaaTotals.lean).
  GIVEN WITH THE SEED: the statements are not yours to turn. If you find one false, say at which input.
  Laid BY PROGRAM, IN A SANDBOX (cutbox-rows.mjs): the forced cells as the released guide's own fill.sh prints them over the translation c6de4616cc6a29cb… (all of the seat's roots in one cut). By AI agents, Wed Nov 11 2026. No macro, syntax, notation, axiom, sorry.
-/
import Derived.Test.YtbjjpccaiciahaaChecked
import GoSem.Claim
import GoSem.ClaimJoined
import GoSem.ClaimMapViews
import Derived.JoinedTies
import Derived.KernelRfl
namespace Go.Proofs.Ytbjjpccaiciahaa
/- THE CELL 'sum', in the pinned program and in every row, IS THE sha256 OF THE DUMP (.gsa) THAT YtbjjpccaiciahaaProg.lean LOADS. Nothing in Lean hashes anything: it is a label: what it is worth is what the hold of that sum in a sandbox is worth. -/
noncomputable def Try.pinned : Pinned := { name := "ytbjjpccaiciahaa", sum := "c6de4616cc6a29cb0cb2abc1d74c68bcaad035bc2fb86798ef120ccba8e63092", checked := Try.checked }
namespace Rows
def none {H : Type} : Left H := { results := [], args := [] }

/-- 'tumblerlaw01.FxSums': WHATEVER THE INPUT: true; the input reads as it did. -/
def fxSumsSpec : ChangeSpec := { name := "fxSums", fn := fun _ => fun
  | [d1, d2] => { results := [.lit (.bool true)], args := [d1, d2] }
  | _ => none }
def fxSumsRow : OpenClaim := { program := "ytbjjpccaiciahaa", sum := "c6de4616cc6a29cb0cb2abc1d74c68bcaad035bc2fb86798ef120ccba8e63092", func := "tumbler/tumblerlaw01.FxSums", spec := "fxSums", inPlace := ["math/bits.Sub64", "math/bits.Add64"], named := ["math/bits.divideError", "math/bits.overflowError"], apart := false }
def FxSumsSaid : Prop := fxSumsRow.holds Try.pinned (OpenSpec.ofChange fxSumsSpec)

/-- ITS FALSE NEIGHBOUR: 'it returns false'. Refute it at one input. -/
def fxSumsWrong : ChangeSpec := { name := "fxSums", fn := fun _ => fun
  | [d1, d2] => { results := [.lit (.bool false)], args := [d1, d2] }
  | _ => none }
def FxSumsWrongFalsely : Prop := fxSumsRow.holds Try.pinned (OpenSpec.ofChange fxSumsWrong)

/-- 'tumblerlaw01.FxRatios': WHATEVER THE INPUT: true; the input reads as it did. -/
def fxRatiosSpec : ChangeSpec := { name := "fxRatios", fn := fun _ => fun
  | [d1, d2, d3] => { results := [.lit (.bool true)], args := [d1, d2, d3] }
  | _ => none }
def fxRatiosRow : OpenClaim := { program := "ytbjjpccaiciahaa", sum := "c6de4616cc6a29cb0cb2abc1d74c68bcaad035bc2fb86798ef120ccba8e63092", func := "tumbler/tumblerlaw01.FxRatios", spec := "fxRatios", inPlace := ["math/bits.Sub64", "math/bits.Add64"], named := ["math/bits.divideError", "math/bits.overflowError"], apart := false }
def FxRatiosSaid : Prop := fxRatiosRow.holds Try.pinned (OpenSpec.ofChange fxRatiosSpec)

/-- ITS FALSE NEIGHBOUR: 'it returns false'. Refute it at one input. -/
def fxRatiosWrong : ChangeSpec := { name := "fxRatios", fn := fun _ => fun
  | [d1, d2, d3] => { results := [.lit (.bool false)], args := [d1, d2, d3] }
  | _ => none }
def FxRatiosWrongFalsely : Prop := fxRatiosRow.holds Try.pinned (OpenSpec.ofChange fxRatiosWrong)

/-- 'tumblerlaw01.FxDots': WHATEVER THE INPUT: true; the input reads as it did. -/
def fxDotsSpec : ChangeSpec := { name := "fxDots", fn := fun _ => fun
  | [d1, d2] => { results := [.lit (.bool true)], args := [d1, d2] }
  | _ => none }
def fxDotsRow : OpenClaim := { program := "ytbjjpccaiciahaa", sum := "c6de4616cc6a29cb0cb2abc1d74c68bcaad035bc2fb86798ef120ccba8e63092", func := "tumbler/tumblerlaw01.FxDots", spec := "fxDots", inPlace := ["math/bits.Sub64", "math/bits.Add64"], named := ["math/bits.divideError", "math/bits.overflowError"], apart := false }
def FxDotsSaid : Prop := fxDotsRow.holds Try.pinned (OpenSpec.ofChange fxDotsSpec)

/-- ITS FALSE NEIGHBOUR: 'it returns false'. Refute it at one input. -/
def fxDotsWrong : ChangeSpec := { name := "fxDots", fn := fun _ => fun
  | [d1, d2] => { results := [.lit (.bool false)], args := [d1, d2] }
  | _ => none }
def FxDotsWrongFalsely : Prop := fxDotsRow.holds Try.pinned (OpenSpec.ofChange fxDotsWrong)

/-- 'tumblerlaw01.FxFloor': WHATEVER THE INPUT: true; the input reads as it did. -/
def fxFloorSpec : ChangeSpec := { name := "fxFloor", fn := fun _ => fun
  | [d1, d2, d3] => { results := [.lit (.bool true)], args := [d1, d2, d3] }
  | _ => none }
def fxFloorRow : OpenClaim := { program := "ytbjjpccaiciahaa", sum := "c6de4616cc6a29cb0cb2abc1d74c68bcaad035bc2fb86798ef120ccba8e63092", func := "tumbler/tumblerlaw01.FxFloor", spec := "fxFloor", inPlace := ["math/bits.Sub64", "math/bits.Add64"], named := ["math/bits.divideError", "math/bits.overflowError"], apart := false }
def FxFloorSaid : Prop := fxFloorRow.holds Try.pinned (OpenSpec.ofChange fxFloorSpec)

/-- ITS FALSE NEIGHBOUR: 'it returns false'. Refute it at one input. -/
def fxFloorWrong : ChangeSpec := { name := "fxFloor", fn := fun _ => fun
  | [d1, d2, d3] => { results := [.lit (.bool false)], args := [d1, d2, d3] }
  | _ => none }
def FxFloorWrongFalsely : Prop := fxFloorRow.holds Try.pinned (OpenSpec.ofChange fxFloorWrong)

/-- 'tumblerlaw02.VecParts': WHATEVER THE INPUT: true; the input reads as it did. -/
def vecPartsSpec : ChangeSpec := { name := "vecParts", fn := fun _ => fun
  | [d1, d2, d3, d4] => { results := [.lit (.bool true)], args := [d1, d2, d3, d4] }
  | _ => none }
def vecPartsRow : OpenClaim := { program := "ytbjjpccaiciahaa", sum := "c6de4616cc6a29cb0cb2abc1d74c68bcaad035bc2fb86798ef120ccba8e63092", func := "tumbler/tumblerlaw02.VecParts", spec := "vecParts", inPlace := ["math/bits.Add64", "math/bits.Sub64"], unfollowed := true, recurses := true, named := ["math/bits.divideError", "math/bits.overflowError"], apart := false }
def VecPartsSaid : Prop := vecPartsRow.holds Try.pinned (OpenSpec.ofChange vecPartsSpec)

/-- ITS FALSE NEIGHBOUR: 'it returns false'. Refute it at one input. -/
def vecPartsWrong : ChangeSpec := { name := "vecParts", fn := fun _ => fun
  | [d1, d2, d3, d4] => { results := [.lit (.bool false)], args := [d1, d2, d3, d4] }
  | _ => none }
def VecPartsWrongFalsely : Prop := vecPartsRow.holds Try.pinned (OpenSpec.ofChange vecPartsWrong)

/-- 'tumblerlaw02.VecTurns': WHATEVER THE INPUT: true; the input reads as it did. -/
def vecTurnsSpec : ChangeSpec := { name := "vecTurns", fn := fun _ => fun
  | [d1, d2, d3, d4] => { results := [.lit (.bool true)], args := [d1, d2, d3, d4] }
  | _ => none }
def vecTurnsRow : OpenClaim := { program := "ytbjjpccaiciahaa", sum := "c6de4616cc6a29cb0cb2abc1d74c68bcaad035bc2fb86798ef120ccba8e63092", func := "tumbler/tumblerlaw02.VecTurns", spec := "vecTurns", inPlace := ["math/bits.Add64", "math/bits.Sub64"], unfollowed := true, recurses := true, named := ["math/bits.divideError", "math/bits.overflowError"], apart := false }
def VecTurnsSaid : Prop := vecTurnsRow.holds Try.pinned (OpenSpec.ofChange vecTurnsSpec)

/-- ITS FALSE NEIGHBOUR: 'it returns false'. Refute it at one input. -/
def vecTurnsWrong : ChangeSpec := { name := "vecTurns", fn := fun _ => fun
  | [d1, d2, d3, d4] => { results := [.lit (.bool false)], args := [d1, d2, d3, d4] }
  | _ => none }
def VecTurnsWrongFalsely : Prop := vecTurnsRow.holds Try.pinned (OpenSpec.ofChange vecTurnsWrong)

/- THE SECOND FORM. 'bulk': how many values and letters a reading holds, each counted each time it is reached (what is shared counts as often as it is met; a slice's spare places count too). A statement '..UptoSaid' is the law's where the arguments, and the package variables that the reading takes, are together of bulk at most 1048576: NARROWER than '..Said'. Prove '..Said' where nothing that the law and all that it calls make is longer than what came in: it says more and counts as full. Else prove '..UptoSaid'. A law counts once. -/
mutual
def uptoBulk {H : Type} : DataW H → Nat
  | .lit (.string bytes) => bytes.length + 1
  | .lit _ => 1
  | .nil => 1
  | .ptr d => uptoBulk d + 1
  | .slice elems spare => uptoBulkAll elems + uptoBulkAll spare + 1
  | .agg parts => uptoBulkAll parts + 1
  | .iface _ d => uptoBulk d + 1
  | .map entries => uptoBulkEntries entries + 1
  | .held _ => 1
def uptoBulkAll {H : Type} : List (DataW H) → Nat
  | [] => 0
  | d :: r => uptoBulk d + uptoBulkAll r
def uptoBulkEntries {H : Type} : List (Lit × DataW H) → Nat
  | [] => 0
  | x :: r => uptoBulkEntry x + uptoBulkEntries r
def uptoBulkEntry {H : Type} : Lit × DataW H → Nat
  | (.string bytes, d) => bytes.length + uptoBulk d + 1
  | (_, d) => uptoBulk d + 1
 end
def uptoSmall : (H : Type) → List (DataW H) → Bool := fun _ ds => decide (uptoBulkAll ds ≤ 1048576)
def OpenSpec.upto (s : _root_.Go.ChangeSpec) : _root_.Go.OpenSpec := { _root_.Go.OpenSpec.ofChange s with cond := some uptoSmall }

/-- 'tumblerlaw01.FxSums', WHERE WHAT IT READS IS OF BULK AT MOST 1048576: true; the input reads as it did. -/
def fxSumsUptoRow : OpenClaim := { program := "ytbjjpccaiciahaa", sum := "c6de4616cc6a29cb0cb2abc1d74c68bcaad035bc2fb86798ef120ccba8e63092", func := "tumbler/tumblerlaw01.FxSums", spec := "fxSums", inPlace := ["math/bits.Sub64", "math/bits.Add64"], named := ["math/bits.divideError", "math/bits.overflowError"], apart := false, narrowed := true }
def FxSumsUptoSaid : Prop := fxSumsUptoRow.holds Try.pinned (OpenSpec.upto fxSumsSpec)

/-- 'tumblerlaw01.FxRatios', WHERE WHAT IT READS IS OF BULK AT MOST 1048576: true; the input reads as it did. -/
def fxRatiosUptoRow : OpenClaim := { program := "ytbjjpccaiciahaa", sum := "c6de4616cc6a29cb0cb2abc1d74c68bcaad035bc2fb86798ef120ccba8e63092", func := "tumbler/tumblerlaw01.FxRatios", spec := "fxRatios", inPlace := ["math/bits.Sub64", "math/bits.Add64"], named := ["math/bits.divideError", "math/bits.overflowError"], apart := false, narrowed := true }
def FxRatiosUptoSaid : Prop := fxRatiosUptoRow.holds Try.pinned (OpenSpec.upto fxRatiosSpec)

/-- 'tumblerlaw01.FxDots', WHERE WHAT IT READS IS OF BULK AT MOST 1048576: true; the input reads as it did. -/
def fxDotsUptoRow : OpenClaim := { program := "ytbjjpccaiciahaa", sum := "c6de4616cc6a29cb0cb2abc1d74c68bcaad035bc2fb86798ef120ccba8e63092", func := "tumbler/tumblerlaw01.FxDots", spec := "fxDots", inPlace := ["math/bits.Sub64", "math/bits.Add64"], named := ["math/bits.divideError", "math/bits.overflowError"], apart := false, narrowed := true }
def FxDotsUptoSaid : Prop := fxDotsUptoRow.holds Try.pinned (OpenSpec.upto fxDotsSpec)

/-- 'tumblerlaw01.FxFloor', WHERE WHAT IT READS IS OF BULK AT MOST 1048576: true; the input reads as it did. -/
def fxFloorUptoRow : OpenClaim := { program := "ytbjjpccaiciahaa", sum := "c6de4616cc6a29cb0cb2abc1d74c68bcaad035bc2fb86798ef120ccba8e63092", func := "tumbler/tumblerlaw01.FxFloor", spec := "fxFloor", inPlace := ["math/bits.Sub64", "math/bits.Add64"], named := ["math/bits.divideError", "math/bits.overflowError"], apart := false, narrowed := true }
def FxFloorUptoSaid : Prop := fxFloorUptoRow.holds Try.pinned (OpenSpec.upto fxFloorSpec)

/-- 'tumblerlaw02.VecParts', WHERE WHAT IT READS IS OF BULK AT MOST 1048576: true; the input reads as it did. -/
def vecPartsUptoRow : OpenClaim := { program := "ytbjjpccaiciahaa", sum := "c6de4616cc6a29cb0cb2abc1d74c68bcaad035bc2fb86798ef120ccba8e63092", func := "tumbler/tumblerlaw02.VecParts", spec := "vecParts", inPlace := ["math/bits.Add64", "math/bits.Sub64"], unfollowed := true, recurses := true, named := ["math/bits.divideError", "math/bits.overflowError"], apart := false, narrowed := true }
def VecPartsUptoSaid : Prop := vecPartsUptoRow.holds Try.pinned (OpenSpec.upto vecPartsSpec)

/-- 'tumblerlaw02.VecTurns', WHERE WHAT IT READS IS OF BULK AT MOST 1048576: true; the input reads as it did. -/
def vecTurnsUptoRow : OpenClaim := { program := "ytbjjpccaiciahaa", sum := "c6de4616cc6a29cb0cb2abc1d74c68bcaad035bc2fb86798ef120ccba8e63092", func := "tumbler/tumblerlaw02.VecTurns", spec := "vecTurns", inPlace := ["math/bits.Add64", "math/bits.Sub64"], unfollowed := true, recurses := true, named := ["math/bits.divideError", "math/bits.overflowError"], apart := false, narrowed := true }
def VecTurnsUptoSaid : Prop := vecTurnsUptoRow.holds Try.pinned (OpenSpec.upto vecTurnsSpec)

end Rows
end Go.Proofs.Ytbjjpccaiciahaa
