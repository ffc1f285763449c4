/-
  No cell of these rows narrows 'for every input' (looked for: loops, veiled, ifaces, maps, wideKeys, modest, calm, conditions, laid).
  DERIVED. THE GIVEN ROWS OF THIS SEAT. 6 by the template 'for every input the law returns true; each argument reads behind the call as it read before'; 0 by the template 'total and deterministic' (their statements: YtkblcfgamnmbkaaGreatTotals.lean).
  GIVEN WITH THE SEED: the statements are not yours to turn. If you find one false, say at which input.
  Laid BY PROGRAM, IN A SANDBOX (cutbox-rows.mjs): the forced cells as the released guide's own fill.sh prints them over the translation 220dd2b90dbd6ade… (all of the seat's roots in one cut). By AI agents, Wed Nov 11 2026. No macro, syntax, notation, axiom, sorry.
-/
import Derived.Test.YtkblcfgamnmbkaaGreatChecked
import GoSem.Claim
import GoSem.ClaimJoined
import GoSem.ClaimMapViews
import Derived.JoinedTies
import Derived.KernelRfl
namespace Go.Proofs.YtkblcfgamnmbkaaGreat
/- THE CELL 'sum', in the pinned program and in every row, IS THE sha256 OF THE DUMP (.gsa) THAT YtkblcfgamnmbkaaGreatProg.lean LOADS. Nothing in Lean hashes anything: it is a label: what it is worth is what the hold of that sum in a sandbox is worth. -/
noncomputable def Tryz.pinned : Pinned := { name := "ytkblcfgamnmbkaagreat", sum := "220dd2b90dbd6adec6339244784eaa2a6d99c0514730af6bda53a28abf43dceb", checked := Tryz.checked }
namespace Rows
def none {H : Type} : Left H := { results := [], args := [] }

/-- 'tumblerlaw12.BodyRight': WHATEVER THE INPUT: true; the input reads as it did. -/
def bodyRightSpec : ChangeSpec := { name := "bodyRight", fn := fun _ => fun
  | [d1, d2, d3] => { results := [.lit (.bool true)], args := [d1, d2, d3] }
  | _ => none }
def bodyRightRow : OpenClaim := { program := "ytkblcfgamnmbkaagreat", sum := "220dd2b90dbd6adec6339244784eaa2a6d99c0514730af6bda53a28abf43dceb", func := "tumbler/tumblerlaw12.BodyRight", spec := "bodyRight", inPlace := ["math/bits.Add64", "math/bits.Sub64"], unfollowed := true, recurses := true, named := ["math/bits.divideError", "math/bits.overflowError"], apart := false }
def BodyRightSaid : Prop := bodyRightRow.holds Tryz.pinned (OpenSpec.ofChange bodyRightSpec)

/-- ITS FALSE NEIGHBOUR: 'it returns false'. Refute it at one input. -/
def bodyRightWrong : ChangeSpec := { name := "bodyRight", fn := fun _ => fun
  | [d1, d2, d3] => { results := [.lit (.bool false)], args := [d1, d2, d3] }
  | _ => none }
def BodyRightWrongFalsely : Prop := bodyRightRow.holds Tryz.pinned (OpenSpec.ofChange bodyRightWrong)

/-- 'tumblerlaw14.JointTells': WHATEVER THE INPUT: true; the input reads as it did. -/
def jointTellsSpec : ChangeSpec := { name := "jointTells", fn := fun _ => fun
  | [d1, d2, d3, d4] => { results := [.lit (.bool true)], args := [d1, d2, d3, d4] }
  | _ => none }
def jointTellsRow : OpenClaim := { program := "ytkblcfgamnmbkaagreat", sum := "220dd2b90dbd6adec6339244784eaa2a6d99c0514730af6bda53a28abf43dceb", func := "tumbler/tumblerlaw14.JointTells", spec := "jointTells", inPlace := ["math/bits.Add64", "math/bits.Sub64"], unfollowed := true, recurses := true, named := ["math/bits.divideError", "math/bits.overflowError"], apart := false }
def JointTellsSaid : Prop := jointTellsRow.holds Tryz.pinned (OpenSpec.ofChange jointTellsSpec)

/-- ITS FALSE NEIGHBOUR: 'it returns false'. Refute it at one input. -/
def jointTellsWrong : ChangeSpec := { name := "jointTells", fn := fun _ => fun
  | [d1, d2, d3, d4] => { results := [.lit (.bool false)], args := [d1, d2, d3, d4] }
  | _ => none }
def JointTellsWrongFalsely : Prop := jointTellsRow.holds Tryz.pinned (OpenSpec.ofChange jointTellsWrong)

/-- 'tumblerlaw14.JointRight': WHATEVER THE INPUT: true; the input reads as it did. -/
def jointRightSpec : ChangeSpec := { name := "jointRight", fn := fun _ => fun
  | [d1, d2, d3] => { results := [.lit (.bool true)], args := [d1, d2, d3] }
  | _ => none }
def jointRightRow : OpenClaim := { program := "ytkblcfgamnmbkaagreat", sum := "220dd2b90dbd6adec6339244784eaa2a6d99c0514730af6bda53a28abf43dceb", func := "tumbler/tumblerlaw14.JointRight", spec := "jointRight", inPlace := ["math/bits.Add64", "math/bits.Sub64"], unfollowed := true, recurses := true, named := ["math/bits.divideError", "math/bits.overflowError"], apart := false }
def JointRightSaid : Prop := jointRightRow.holds Tryz.pinned (OpenSpec.ofChange jointRightSpec)

/-- ITS FALSE NEIGHBOUR: 'it returns false'. Refute it at one input. -/
def jointRightWrong : ChangeSpec := { name := "jointRight", fn := fun _ => fun
  | [d1, d2, d3] => { results := [.lit (.bool false)], args := [d1, d2, d3] }
  | _ => none }
def JointRightWrongFalsely : Prop := jointRightRow.holds Tryz.pinned (OpenSpec.ofChange jointRightWrong)

/-- 'tumblerlaw14.JointRests': WHATEVER THE INPUT: true; the input reads as it did. -/
def jointRestsSpec : ChangeSpec := { name := "jointRests", fn := fun _ => fun
  | [d1, d2] => { results := [.lit (.bool true)], args := [d1, d2] }
  | _ => none }
def jointRestsRow : OpenClaim := { program := "ytkblcfgamnmbkaagreat", sum := "220dd2b90dbd6adec6339244784eaa2a6d99c0514730af6bda53a28abf43dceb", func := "tumbler/tumblerlaw14.JointRests", spec := "jointRests", inPlace := ["math/bits.Add64", "math/bits.Sub64"], unfollowed := true, recurses := true, named := ["math/bits.divideError", "math/bits.overflowError"], apart := false }
def JointRestsSaid : Prop := jointRestsRow.holds Tryz.pinned (OpenSpec.ofChange jointRestsSpec)

/-- ITS FALSE NEIGHBOUR: 'it returns false'. Refute it at one input. -/
def jointRestsWrong : ChangeSpec := { name := "jointRests", fn := fun _ => fun
  | [d1, d2] => { results := [.lit (.bool false)], args := [d1, d2] }
  | _ => none }
def JointRestsWrongFalsely : Prop := jointRestsRow.holds Tryz.pinned (OpenSpec.ofChange jointRestsWrong)

/-- 'tumblerlaw14.JointRope': WHATEVER THE INPUT: true; the input reads as it did. -/
def jointRopeSpec : ChangeSpec := { name := "jointRope", fn := fun _ => fun
  | [d1, d2, d3] => { results := [.lit (.bool true)], args := [d1, d2, d3] }
  | _ => none }
def jointRopeRow : OpenClaim := { program := "ytkblcfgamnmbkaagreat", sum := "220dd2b90dbd6adec6339244784eaa2a6d99c0514730af6bda53a28abf43dceb", func := "tumbler/tumblerlaw14.JointRope", spec := "jointRope", inPlace := ["math/bits.Add64", "math/bits.Sub64"], unfollowed := true, recurses := true, named := ["math/bits.divideError", "math/bits.overflowError"], apart := false }
def JointRopeSaid : Prop := jointRopeRow.holds Tryz.pinned (OpenSpec.ofChange jointRopeSpec)

/-- ITS FALSE NEIGHBOUR: 'it returns false'. Refute it at one input. -/
def jointRopeWrong : ChangeSpec := { name := "jointRope", fn := fun _ => fun
  | [d1, d2, d3] => { results := [.lit (.bool false)], args := [d1, d2, d3] }
  | _ => none }
def JointRopeWrongFalsely : Prop := jointRopeRow.holds Tryz.pinned (OpenSpec.ofChange jointRopeWrong)

/-- 'tumblerlaw14.JointMoved': WHATEVER THE INPUT: true; the input reads as it did. -/
def jointMovedSpec : ChangeSpec := { name := "jointMoved", fn := fun _ => fun
  | [d1, d2, d3, d4] => { results := [.lit (.bool true)], args := [d1, d2, d3, d4] }
  | _ => none }
def jointMovedRow : OpenClaim := { program := "ytkblcfgamnmbkaagreat", sum := "220dd2b90dbd6adec6339244784eaa2a6d99c0514730af6bda53a28abf43dceb", func := "tumbler/tumblerlaw14.JointMoved", spec := "jointMoved", inPlace := ["math/bits.Add64", "math/bits.Sub64"], unfollowed := true, recurses := true, named := ["math/bits.divideError", "math/bits.overflowError"], apart := false }
def JointMovedSaid : Prop := jointMovedRow.holds Tryz.pinned (OpenSpec.ofChange jointMovedSpec)

/-- ITS FALSE NEIGHBOUR: 'it returns false'. Refute it at one input. -/
def jointMovedWrong : ChangeSpec := { name := "jointMoved", fn := fun _ => fun
  | [d1, d2, d3, d4] => { results := [.lit (.bool false)], args := [d1, d2, d3, d4] }
  | _ => none }
def JointMovedWrongFalsely : Prop := jointMovedRow.holds Tryz.pinned (OpenSpec.ofChange jointMovedWrong)

/- THE SECOND FORM. 'bulk': how many values and letters a reading holds, each counted each time it is reached (what is shared counts as often as it is met; a slice's spare places count too). A statement '..UptoSaid' is the law's where the arguments, and the package variables that the reading takes, are together of bulk at most 1048576: NARROWER than '..Said'. Prove '..Said' where nothing that the law and all that it calls make is longer than what came in: it says more and counts as full. Else prove '..UptoSaid'. A law counts once. -/
mutual
def uptoBulk {H : Type} : DataW H → Nat
  | .lit (.string bytes) => bytes.length + 1
  | .lit _ => 1
  | .nil => 1
  | .ptr d => uptoBulk d + 1
  | .slice elems spare => uptoBulkAll elems + uptoBulkAll spare + 1
  | .agg parts => uptoBulkAll parts + 1
  | .iface _ d => uptoBulk d + 1
  | .map entries => uptoBulkEntries entries + 1
  | .held _ => 1
def uptoBulkAll {H : Type} : List (DataW H) → Nat
  | [] => 0
  | d :: r => uptoBulk d + uptoBulkAll r
def uptoBulkEntries {H : Type} : List (Lit × DataW H) → Nat
  | [] => 0
  | x :: r => uptoBulkEntry x + uptoBulkEntries r
def uptoBulkEntry {H : Type} : Lit × DataW H → Nat
  | (.string bytes, d) => bytes.length + uptoBulk d + 1
  | (_, d) => uptoBulk d + 1
 end
def uptoSmall : (H : Type) → List (DataW H) → Bool := fun _ ds => decide (uptoBulkAll ds ≤ 1048576)
def OpenSpec.upto (s : _root_.Go.ChangeSpec) : _root_.Go.OpenSpec := { _root_.Go.OpenSpec.ofChange s with cond := some uptoSmall }

/-- 'tumblerlaw12.BodyRight', WHERE WHAT IT READS IS OF BULK AT MOST 1048576: true; the input reads as it did. -/
def bodyRightUptoRow : OpenClaim := { program := "ytkblcfgamnmbkaagreat", sum := "220dd2b90dbd6adec6339244784eaa2a6d99c0514730af6bda53a28abf43dceb", func := "tumbler/tumblerlaw12.BodyRight", spec := "bodyRight", inPlace := ["math/bits.Add64", "math/bits.Sub64"], unfollowed := true, recurses := true, named := ["math/bits.divideError", "math/bits.overflowError"], apart := false, narrowed := true }
def BodyRightUptoSaid : Prop := bodyRightUptoRow.holds Tryz.pinned (OpenSpec.upto bodyRightSpec)

/-- 'tumblerlaw14.JointTells', WHERE WHAT IT READS IS OF BULK AT MOST 1048576: true; the input reads as it did. -/
def jointTellsUptoRow : OpenClaim := { program := "ytkblcfgamnmbkaagreat", sum := "220dd2b90dbd6adec6339244784eaa2a6d99c0514730af6bda53a28abf43dceb", func := "tumbler/tumblerlaw14.JointTells", spec := "jointTells", inPlace := ["math/bits.Add64", "math/bits.Sub64"], unfollowed := true, recurses := true, named := ["math/bits.divideError", "math/bits.overflowError"], apart := false, narrowed := true }
def JointTellsUptoSaid : Prop := jointTellsUptoRow.holds Tryz.pinned (OpenSpec.upto jointTellsSpec)

/-- 'tumblerlaw14.JointRight', WHERE WHAT IT READS IS OF BULK AT MOST 1048576: true; the input reads as it did. -/
def jointRightUptoRow : OpenClaim := { program := "ytkblcfgamnmbkaagreat", sum := "220dd2b90dbd6adec6339244784eaa2a6d99c0514730af6bda53a28abf43dceb", func := "tumbler/tumblerlaw14.JointRight", spec := "jointRight", inPlace := ["math/bits.Add64", "math/bits.Sub64"], unfollowed := true, recurses := true, named := ["math/bits.divideError", "math/bits.overflowError"], apart := false, narrowed := true }
def JointRightUptoSaid : Prop := jointRightUptoRow.holds Tryz.pinned (OpenSpec.upto jointRightSpec)

/-- 'tumblerlaw14.JointRests', WHERE WHAT IT READS IS OF BULK AT MOST 1048576: true; the input reads as it did. -/
def jointRestsUptoRow : OpenClaim := { program := "ytkblcfgamnmbkaagreat", sum := "220dd2b90dbd6adec6339244784eaa2a6d99c0514730af6bda53a28abf43dceb", func := "tumbler/tumblerlaw14.JointRests", spec := "jointRests", inPlace := ["math/bits.Add64", "math/bits.Sub64"], unfollowed := true, recurses := true, named := ["math/bits.divideError", "math/bits.overflowError"], apart := false, narrowed := true }
def JointRestsUptoSaid : Prop := jointRestsUptoRow.holds Tryz.pinned (OpenSpec.upto jointRestsSpec)

/-- 'tumblerlaw14.JointRope', WHERE WHAT IT READS IS OF BULK AT MOST 1048576: true; the input reads as it did. -/
def jointRopeUptoRow : OpenClaim := { program := "ytkblcfgamnmbkaagreat", sum := "220dd2b90dbd6adec6339244784eaa2a6d99c0514730af6bda53a28abf43dceb", func := "tumbler/tumblerlaw14.JointRope", spec := "jointRope", inPlace := ["math/bits.Add64", "math/bits.Sub64"], unfollowed := true, recurses := true, named := ["math/bits.divideError", "math/bits.overflowError"], apart := false, narrowed := true }
def JointRopeUptoSaid : Prop := jointRopeUptoRow.holds Tryz.pinned (OpenSpec.upto jointRopeSpec)

/-- 'tumblerlaw14.JointMoved', WHERE WHAT IT READS IS OF BULK AT MOST 1048576: true; the input reads as it did. -/
def jointMovedUptoRow : OpenClaim := { program := "ytkblcfgamnmbkaagreat", sum := "220dd2b90dbd6adec6339244784eaa2a6d99c0514730af6bda53a28abf43dceb", func := "tumbler/tumblerlaw14.JointMoved", spec := "jointMoved", inPlace := ["math/bits.Add64", "math/bits.Sub64"], unfollowed := true, recurses := true, named := ["math/bits.divideError", "math/bits.overflowError"], apart := false, narrowed := true }
def JointMovedUptoSaid : Prop := jointMovedUptoRow.holds Tryz.pinned (OpenSpec.upto jointMovedSpec)

end Rows
end Go.Proofs.YtkblcfgamnmbkaaGreat
