/-
  No cell of these rows narrows 'for every input' (looked for: loops, veiled, ifaces, maps, wideKeys, modest, calm, conditions, laid).
  DERIVED. THE GIVEN ROWS OF THIS SEAT. 5 by the template 'for every input the law returns true; each argument reads behind the call as it read before'; 0 by the template 'total and deterministic' (their statements: YteebbpioffdncaaGreatTotals.lean).
  GIVEN WITH THE SEED: the statements are not yours to turn. If you find one false, say at which input.
  Laid BY PROGRAM, IN A SANDBOX (cutbox-rows.mjs): the forced cells as the released guide's own fill.sh prints them over the translation c4191394b6b38e37… (all of the seat's roots in one cut). By AI agents, Wed Nov 11 2026. No macro, syntax, notation, axiom, sorry.
-/
import Derived.Test.YteebbpioffdncaaGreatChecked
import GoSem.Claim
import GoSem.ClaimJoined
import GoSem.ClaimMapViews
import Derived.JoinedTies
import Derived.KernelRfl
namespace Go.Proofs.YteebbpioffdncaaGreat
/- THE CELL 'sum', in the pinned program and in every row, IS THE sha256 OF THE DUMP (.gsa) THAT YteebbpioffdncaaGreatProg.lean LOADS. Nothing in Lean hashes anything: it is a label: what it is worth is what the hold of that sum in a sandbox is worth. -/
noncomputable def Tryz.pinned : Pinned := { name := "yteebbpioffdncaagreat", sum := "c4191394b6b38e3745e6bf339cd9dd84e9aa7dbd4143f3488ecc98b1cb1ffcdc", checked := Tryz.checked }
namespace Rows
def none {H : Type} : Left H := { results := [], args := [] }

/-- 'tumblerlaw12.BodyRight': WHATEVER THE INPUT: true; the input reads as it did. -/
def bodyRightSpec : ChangeSpec := { name := "bodyRight", fn := fun _ => fun
  | [d1, d2, d3] => { results := [.lit (.bool true)], args := [d1, d2, d3] }
  | _ => none }
def bodyRightRow : OpenClaim := { program := "yteebbpioffdncaagreat", sum := "c4191394b6b38e3745e6bf339cd9dd84e9aa7dbd4143f3488ecc98b1cb1ffcdc", func := "tumbler/tumblerlaw12.BodyRight", spec := "bodyRight", inPlace := ["math/bits.Add64", "math/bits.Sub64"], unfollowed := true, recurses := true, named := ["math/bits.divideError", "math/bits.overflowError"], apart := false }
def BodyRightSaid : Prop := bodyRightRow.holds Tryz.pinned (OpenSpec.ofChange bodyRightSpec)

/-- ITS FALSE NEIGHBOUR: 'it returns false'. Refute it at one input. -/
def bodyRightWrong : ChangeSpec := { name := "bodyRight", fn := fun _ => fun
  | [d1, d2, d3] => { results := [.lit (.bool false)], args := [d1, d2, d3] }
  | _ => none }
def BodyRightWrongFalsely : Prop := bodyRightRow.holds Tryz.pinned (OpenSpec.ofChange bodyRightWrong)

/-- 'tumblerlaw12.BodyBack': WHATEVER THE INPUT: true; the input reads as it did. -/
def bodyBackSpec : ChangeSpec := { name := "bodyBack", fn := fun _ => fun
  | [d1, d2, d3, d4] => { results := [.lit (.bool true)], args := [d1, d2, d3, d4] }
  | _ => none }
def bodyBackRow : OpenClaim := { program := "yteebbpioffdncaagreat", sum := "c4191394b6b38e3745e6bf339cd9dd84e9aa7dbd4143f3488ecc98b1cb1ffcdc", func := "tumbler/tumblerlaw12.BodyBack", spec := "bodyBack", inPlace := ["math/bits.Add64", "math/bits.Sub64"], unfollowed := true, recurses := true, named := ["math/bits.divideError", "math/bits.overflowError"], apart := false }
def BodyBackSaid : Prop := bodyBackRow.holds Tryz.pinned (OpenSpec.ofChange bodyBackSpec)

/-- ITS FALSE NEIGHBOUR: 'it returns false'. Refute it at one input. -/
def bodyBackWrong : ChangeSpec := { name := "bodyBack", fn := fun _ => fun
  | [d1, d2, d3, d4] => { results := [.lit (.bool false)], args := [d1, d2, d3, d4] }
  | _ => none }
def BodyBackWrongFalsely : Prop := bodyBackRow.holds Tryz.pinned (OpenSpec.ofChange bodyBackWrong)

/-- 'tumblerlaw12.BodyFree': WHATEVER THE INPUT: true; the input reads as it did. -/
def bodyFreeSpec : ChangeSpec := { name := "bodyFree", fn := fun _ => fun
  | [d1, d2] => { results := [.lit (.bool true)], args := [d1, d2] }
  | _ => none }
def bodyFreeRow : OpenClaim := { program := "yteebbpioffdncaagreat", sum := "c4191394b6b38e3745e6bf339cd9dd84e9aa7dbd4143f3488ecc98b1cb1ffcdc", func := "tumbler/tumblerlaw12.BodyFree", spec := "bodyFree", inPlace := ["math/bits.Add64", "math/bits.Sub64"], unfollowed := true, recurses := true, named := ["math/bits.divideError", "math/bits.overflowError"], apart := false }
def BodyFreeSaid : Prop := bodyFreeRow.holds Tryz.pinned (OpenSpec.ofChange bodyFreeSpec)

/-- ITS FALSE NEIGHBOUR: 'it returns false'. Refute it at one input. -/
def bodyFreeWrong : ChangeSpec := { name := "bodyFree", fn := fun _ => fun
  | [d1, d2] => { results := [.lit (.bool false)], args := [d1, d2] }
  | _ => none }
def BodyFreeWrongFalsely : Prop := bodyFreeRow.holds Tryz.pinned (OpenSpec.ofChange bodyFreeWrong)

/-- 'tumblerlaw12.BodySlow': WHATEVER THE INPUT: true; the input reads as it did. -/
def bodySlowSpec : ChangeSpec := { name := "bodySlow", fn := fun _ => fun
  | [d1, d2, d3] => { results := [.lit (.bool true)], args := [d1, d2, d3] }
  | _ => none }
def bodySlowRow : OpenClaim := { program := "yteebbpioffdncaagreat", sum := "c4191394b6b38e3745e6bf339cd9dd84e9aa7dbd4143f3488ecc98b1cb1ffcdc", func := "tumbler/tumblerlaw12.BodySlow", spec := "bodySlow", inPlace := ["math/bits.Add64", "math/bits.Sub64"], unfollowed := true, recurses := true, named := ["math/bits.divideError", "math/bits.overflowError"], apart := false }
def BodySlowSaid : Prop := bodySlowRow.holds Tryz.pinned (OpenSpec.ofChange bodySlowSpec)

/-- ITS FALSE NEIGHBOUR: 'it returns false'. Refute it at one input. -/
def bodySlowWrong : ChangeSpec := { name := "bodySlow", fn := fun _ => fun
  | [d1, d2, d3] => { results := [.lit (.bool false)], args := [d1, d2, d3] }
  | _ => none }
def BodySlowWrongFalsely : Prop := bodySlowRow.holds Tryz.pinned (OpenSpec.ofChange bodySlowWrong)

/-- 'tumblerlaw12.BodyOrder': WHATEVER THE INPUT: true; the input reads as it did. -/
def bodyOrderSpec : ChangeSpec := { name := "bodyOrder", fn := fun _ => fun
  | [d1, d2, d3, d4, d5] => { results := [.lit (.bool true)], args := [d1, d2, d3, d4, d5] }
  | _ => none }
def bodyOrderRow : OpenClaim := { program := "yteebbpioffdncaagreat", sum := "c4191394b6b38e3745e6bf339cd9dd84e9aa7dbd4143f3488ecc98b1cb1ffcdc", func := "tumbler/tumblerlaw12.BodyOrder", spec := "bodyOrder", inPlace := ["math/bits.Add64", "math/bits.Sub64"], unfollowed := true, recurses := true, named := ["math/bits.divideError", "math/bits.overflowError"], apart := false }
def BodyOrderSaid : Prop := bodyOrderRow.holds Tryz.pinned (OpenSpec.ofChange bodyOrderSpec)

/-- ITS FALSE NEIGHBOUR: 'it returns false'. Refute it at one input. -/
def bodyOrderWrong : ChangeSpec := { name := "bodyOrder", fn := fun _ => fun
  | [d1, d2, d3, d4, d5] => { results := [.lit (.bool false)], args := [d1, d2, d3, d4, d5] }
  | _ => none }
def BodyOrderWrongFalsely : Prop := bodyOrderRow.holds Tryz.pinned (OpenSpec.ofChange bodyOrderWrong)

/- THE SECOND FORM. 'bulk': how many values and letters a reading holds, each counted each time it is reached (what is shared counts as often as it is met; a slice's spare places count too). A statement '..UptoSaid' is the law's where the arguments, and the package variables that the reading takes, are together of bulk at most 1048576: NARROWER than '..Said'. Prove '..Said' where nothing that the law and all that it calls make is longer than what came in: it says more and counts as full. Else prove '..UptoSaid'. A law counts once. -/
mutual
def uptoBulk {H : Type} : DataW H → Nat
  | .lit (.string bytes) => bytes.length + 1
  | .lit _ => 1
  | .nil => 1
  | .ptr d => uptoBulk d + 1
  | .slice elems spare => uptoBulkAll elems + uptoBulkAll spare + 1
  | .agg parts => uptoBulkAll parts + 1
  | .iface _ d => uptoBulk d + 1
  | .map entries => uptoBulkEntries entries + 1
  | .held _ => 1
def uptoBulkAll {H : Type} : List (DataW H) → Nat
  | [] => 0
  | d :: r => uptoBulk d + uptoBulkAll r
def uptoBulkEntries {H : Type} : List (Lit × DataW H) → Nat
  | [] => 0
  | x :: r => uptoBulkEntry x + uptoBulkEntries r
def uptoBulkEntry {H : Type} : Lit × DataW H → Nat
  | (.string bytes, d) => bytes.length + uptoBulk d + 1
  | (_, d) => uptoBulk d + 1
 end
def uptoSmall : (H : Type) → List (DataW H) → Bool := fun _ ds => decide (uptoBulkAll ds ≤ 1048576)
def OpenSpec.upto (s : _root_.Go.ChangeSpec) : _root_.Go.OpenSpec := { _root_.Go.OpenSpec.ofChange s with cond := some uptoSmall }

/-- 'tumblerlaw12.BodyRight', WHERE WHAT IT READS IS OF BULK AT MOST 1048576: true; the input reads as it did. -/
def bodyRightUptoRow : OpenClaim := { program := "yteebbpioffdncaagreat", sum := "c4191394b6b38e3745e6bf339cd9dd84e9aa7dbd4143f3488ecc98b1cb1ffcdc", func := "tumbler/tumblerlaw12.BodyRight", spec := "bodyRight", inPlace := ["math/bits.Add64", "math/bits.Sub64"], unfollowed := true, recurses := true, named := ["math/bits.divideError", "math/bits.overflowError"], apart := false, narrowed := true }
def BodyRightUptoSaid : Prop := bodyRightUptoRow.holds Tryz.pinned (OpenSpec.upto bodyRightSpec)

/-- 'tumblerlaw12.BodyBack', WHERE WHAT IT READS IS OF BULK AT MOST 1048576: true; the input reads as it did. -/
def bodyBackUptoRow : OpenClaim := { program := "yteebbpioffdncaagreat", sum := "c4191394b6b38e3745e6bf339cd9dd84e9aa7dbd4143f3488ecc98b1cb1ffcdc", func := "tumbler/tumblerlaw12.BodyBack", spec := "bodyBack", inPlace := ["math/bits.Add64", "math/bits.Sub64"], unfollowed := true, recurses := true, named := ["math/bits.divideError", "math/bits.overflowError"], apart := false, narrowed := true }
def BodyBackUptoSaid : Prop := bodyBackUptoRow.holds Tryz.pinned (OpenSpec.upto bodyBackSpec)

/-- 'tumblerlaw12.BodyFree', WHERE WHAT IT READS IS OF BULK AT MOST 1048576: true; the input reads as it did. -/
def bodyFreeUptoRow : OpenClaim := { program := "yteebbpioffdncaagreat", sum := "c4191394b6b38e3745e6bf339cd9dd84e9aa7dbd4143f3488ecc98b1cb1ffcdc", func := "tumbler/tumblerlaw12.BodyFree", spec := "bodyFree", inPlace := ["math/bits.Add64", "math/bits.Sub64"], unfollowed := true, recurses := true, named := ["math/bits.divideError", "math/bits.overflowError"], apart := false, narrowed := true }
def BodyFreeUptoSaid : Prop := bodyFreeUptoRow.holds Tryz.pinned (OpenSpec.upto bodyFreeSpec)

/-- 'tumblerlaw12.BodySlow', WHERE WHAT IT READS IS OF BULK AT MOST 1048576: true; the input reads as it did. -/
def bodySlowUptoRow : OpenClaim := { program := "yteebbpioffdncaagreat", sum := "c4191394b6b38e3745e6bf339cd9dd84e9aa7dbd4143f3488ecc98b1cb1ffcdc", func := "tumbler/tumblerlaw12.BodySlow", spec := "bodySlow", inPlace := ["math/bits.Add64", "math/bits.Sub64"], unfollowed := true, recurses := true, named := ["math/bits.divideError", "math/bits.overflowError"], apart := false, narrowed := true }
def BodySlowUptoSaid : Prop := bodySlowUptoRow.holds Tryz.pinned (OpenSpec.upto bodySlowSpec)

/-- 'tumblerlaw12.BodyOrder', WHERE WHAT IT READS IS OF BULK AT MOST 1048576: true; the input reads as it did. -/
def bodyOrderUptoRow : OpenClaim := { program := "yteebbpioffdncaagreat", sum := "c4191394b6b38e3745e6bf339cd9dd84e9aa7dbd4143f3488ecc98b1cb1ffcdc", func := "tumbler/tumblerlaw12.BodyOrder", spec := "bodyOrder", inPlace := ["math/bits.Add64", "math/bits.Sub64"], unfollowed := true, recurses := true, named := ["math/bits.divideError", "math/bits.overflowError"], apart := false, narrowed := true }
def BodyOrderUptoSaid : Prop := bodyOrderUptoRow.holds Tryz.pinned (OpenSpec.upto bodyOrderSpec)

end Rows
end Go.Proofs.YteebbpioffdncaaGreat
