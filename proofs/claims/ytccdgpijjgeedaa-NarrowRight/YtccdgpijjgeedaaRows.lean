/-
  No cell of these rows narrows 'for every input' (looked for: loops, veiled, ifaces, maps, wideKeys, modest, calm, conditions, laid).
  DERIVED. THE GIVEN ROWS OF THIS SEAT. 6 by the template 'for every input the law returns true; each argument reads behind the call as it read before'; 0 by the template 'total and deterministic' (their statements: YtccdgpijjgeedaaTotals.lean).
  GIVEN WITH THE SEED: the statements are not yours to turn. If you find one false, say at which input.
  Laid BY PROGRAM, IN A SANDBOX (cutbox-rows.mjs): the forced cells as the released guide's own fill.sh prints them over the translation fff1111da6327f11… (all of the seat's roots in one cut). By AI agents, Wed Nov 11 2026. No macro, syntax, notation, axiom, sorry.
-/
import Derived.Test.YtccdgpijjgeedaaChecked
import GoSem.Claim
import GoSem.ClaimJoined
import GoSem.ClaimMapViews
import Derived.JoinedTies
import Derived.KernelRfl
namespace Go.Proofs.Ytccdgpijjgeedaa
/- THE CELL 'sum', in the pinned program and in every row, IS THE sha256 OF THE DUMP (.gsa) THAT YtccdgpijjgeedaaProg.lean LOADS. Nothing in Lean hashes anything: it is a label: what it is worth is what the hold of that sum in a sandbox is worth. -/
noncomputable def Try.pinned : Pinned := { name := "ytccdgpijjgeedaa", sum := "fff1111da6327f110f7b2b452afd33a22f5113722f38c169b610f9ead9f6515b", checked := Try.checked }
namespace Rows
def none {H : Type} : Left H := { results := [], args := [] }

/-- 'tumblerlaw09.NarrowTells': WHATEVER THE INPUT: true; the input reads as it did. -/
def narrowTellsSpec : ChangeSpec := { name := "narrowTells", fn := fun _ => fun
  | [d1, d2, d3] => { results := [.lit (.bool true)], args := [d1, d2, d3] }
  | _ => none }
def narrowTellsRow : OpenClaim := { program := "ytccdgpijjgeedaa", sum := "fff1111da6327f110f7b2b452afd33a22f5113722f38c169b610f9ead9f6515b", func := "tumbler/tumblerlaw09.NarrowTells", spec := "narrowTells", unfollowed := true, recurses := true, apart := false }
def NarrowTellsSaid : Prop := narrowTellsRow.holds Try.pinned (OpenSpec.ofChange narrowTellsSpec)

/-- ITS FALSE NEIGHBOUR: 'it returns false'. Refute it at one input. -/
def narrowTellsWrong : ChangeSpec := { name := "narrowTells", fn := fun _ => fun
  | [d1, d2, d3] => { results := [.lit (.bool false)], args := [d1, d2, d3] }
  | _ => none }
def NarrowTellsWrongFalsely : Prop := narrowTellsRow.holds Try.pinned (OpenSpec.ofChange narrowTellsWrong)

/-- 'tumblerlaw09.NarrowRight': WHATEVER THE INPUT: true; the input reads as it did. -/
def narrowRightSpec : ChangeSpec := { name := "narrowRight", fn := fun _ => fun
  | [d] => { results := [.lit (.bool true)], args := [d] }
  | _ => none }
def narrowRightRow : OpenClaim := { program := "ytccdgpijjgeedaa", sum := "fff1111da6327f110f7b2b452afd33a22f5113722f38c169b610f9ead9f6515b", func := "tumbler/tumblerlaw09.NarrowRight", spec := "narrowRight", unfollowed := true, recurses := true, apart := false }
def NarrowRightSaid : Prop := narrowRightRow.holds Try.pinned (OpenSpec.ofChange narrowRightSpec)

/-- ITS FALSE NEIGHBOUR: 'it returns false'. Refute it at one input. -/
def narrowRightWrong : ChangeSpec := { name := "narrowRight", fn := fun _ => fun
  | [d] => { results := [.lit (.bool false)], args := [d] }
  | _ => none }
def NarrowRightWrongFalsely : Prop := narrowRightRow.holds Try.pinned (OpenSpec.ofChange narrowRightWrong)

/-- 'tumblerlaw09.NarrowSound': WHATEVER THE INPUT: true; the input reads as it did. -/
def narrowSoundSpec : ChangeSpec := { name := "narrowSound", fn := fun _ => fun
  | [d] => { results := [.lit (.bool true)], args := [d] }
  | _ => none }
def narrowSoundRow : OpenClaim := { program := "ytccdgpijjgeedaa", sum := "fff1111da6327f110f7b2b452afd33a22f5113722f38c169b610f9ead9f6515b", func := "tumbler/tumblerlaw09.NarrowSound", spec := "narrowSound", unfollowed := true, recurses := true, apart := false }
def NarrowSoundSaid : Prop := narrowSoundRow.holds Try.pinned (OpenSpec.ofChange narrowSoundSpec)

/-- ITS FALSE NEIGHBOUR: 'it returns false'. Refute it at one input. -/
def narrowSoundWrong : ChangeSpec := { name := "narrowSound", fn := fun _ => fun
  | [d] => { results := [.lit (.bool false)], args := [d] }
  | _ => none }
def NarrowSoundWrongFalsely : Prop := narrowSoundRow.holds Try.pinned (OpenSpec.ofChange narrowSoundWrong)

/-- 'tumblerlaw09.NarrowMirror': WHATEVER THE INPUT: true; the input reads as it did. -/
def narrowMirrorSpec : ChangeSpec := { name := "narrowMirror", fn := fun _ => fun
  | [d1, d2] => { results := [.lit (.bool true)], args := [d1, d2] }
  | _ => none }
def narrowMirrorRow : OpenClaim := { program := "ytccdgpijjgeedaa", sum := "fff1111da6327f110f7b2b452afd33a22f5113722f38c169b610f9ead9f6515b", func := "tumbler/tumblerlaw09.NarrowMirror", spec := "narrowMirror", unfollowed := true, recurses := true, apart := false }
def NarrowMirrorSaid : Prop := narrowMirrorRow.holds Try.pinned (OpenSpec.ofChange narrowMirrorSpec)

/-- ITS FALSE NEIGHBOUR: 'it returns false'. Refute it at one input. -/
def narrowMirrorWrong : ChangeSpec := { name := "narrowMirror", fn := fun _ => fun
  | [d1, d2] => { results := [.lit (.bool false)], args := [d1, d2] }
  | _ => none }
def NarrowMirrorWrongFalsely : Prop := narrowMirrorRow.holds Try.pinned (OpenSpec.ofChange narrowMirrorWrong)

/-- 'tumblerlaw09.NarrowThick': WHATEVER THE INPUT: true; the input reads as it did. -/
def narrowThickSpec : ChangeSpec := { name := "narrowThick", fn := fun _ => fun
  | [d1, d2] => { results := [.lit (.bool true)], args := [d1, d2] }
  | _ => none }
def narrowThickRow : OpenClaim := { program := "ytccdgpijjgeedaa", sum := "fff1111da6327f110f7b2b452afd33a22f5113722f38c169b610f9ead9f6515b", func := "tumbler/tumblerlaw09.NarrowThick", spec := "narrowThick", unfollowed := true, recurses := true, apart := false }
def NarrowThickSaid : Prop := narrowThickRow.holds Try.pinned (OpenSpec.ofChange narrowThickSpec)

/-- ITS FALSE NEIGHBOUR: 'it returns false'. Refute it at one input. -/
def narrowThickWrong : ChangeSpec := { name := "narrowThick", fn := fun _ => fun
  | [d1, d2] => { results := [.lit (.bool false)], args := [d1, d2] }
  | _ => none }
def NarrowThickWrongFalsely : Prop := narrowThickRow.holds Try.pinned (OpenSpec.ofChange narrowThickWrong)

/-- 'tumblerlaw09.NarrowSelf': WHATEVER THE INPUT: true; the input reads as it did. -/
def narrowSelfSpec : ChangeSpec := { name := "narrowSelf", fn := fun _ => fun
  | [d] => { results := [.lit (.bool true)], args := [d] }
  | _ => none }
def narrowSelfRow : OpenClaim := { program := "ytccdgpijjgeedaa", sum := "fff1111da6327f110f7b2b452afd33a22f5113722f38c169b610f9ead9f6515b", func := "tumbler/tumblerlaw09.NarrowSelf", spec := "narrowSelf", unfollowed := true, recurses := true, apart := false }
def NarrowSelfSaid : Prop := narrowSelfRow.holds Try.pinned (OpenSpec.ofChange narrowSelfSpec)

/-- ITS FALSE NEIGHBOUR: 'it returns false'. Refute it at one input. -/
def narrowSelfWrong : ChangeSpec := { name := "narrowSelf", fn := fun _ => fun
  | [d] => { results := [.lit (.bool false)], args := [d] }
  | _ => none }
def NarrowSelfWrongFalsely : Prop := narrowSelfRow.holds Try.pinned (OpenSpec.ofChange narrowSelfWrong)

/- THE SECOND FORM. 'bulk': how many values and letters a reading holds, each counted each time it is reached (what is shared counts as often as it is met; a slice's spare places count too). A statement '..UptoSaid' is the law's where the arguments, and the package variables that the reading takes, are together of bulk at most 1048576: NARROWER than '..Said'. Prove '..Said' where nothing that the law and all that it calls make is longer than what came in: it says more and counts as full. Else prove '..UptoSaid'. A law counts once. -/
mutual
def uptoBulk {H : Type} : DataW H → Nat
  | .lit (.string bytes) => bytes.length + 1
  | .lit _ => 1
  | .nil => 1
  | .ptr d => uptoBulk d + 1
  | .slice elems spare => uptoBulkAll elems + uptoBulkAll spare + 1
  | .agg parts => uptoBulkAll parts + 1
  | .iface _ d => uptoBulk d + 1
  | .map entries => uptoBulkEntries entries + 1
  | .held _ => 1
def uptoBulkAll {H : Type} : List (DataW H) → Nat
  | [] => 0
  | d :: r => uptoBulk d + uptoBulkAll r
def uptoBulkEntries {H : Type} : List (Lit × DataW H) → Nat
  | [] => 0
  | x :: r => uptoBulkEntry x + uptoBulkEntries r
def uptoBulkEntry {H : Type} : Lit × DataW H → Nat
  | (.string bytes, d) => bytes.length + uptoBulk d + 1
  | (_, d) => uptoBulk d + 1
 end
def uptoSmall : (H : Type) → List (DataW H) → Bool := fun _ ds => decide (uptoBulkAll ds ≤ 1048576)
def OpenSpec.upto (s : _root_.Go.ChangeSpec) : _root_.Go.OpenSpec := { _root_.Go.OpenSpec.ofChange s with cond := some uptoSmall }

/-- 'tumblerlaw09.NarrowTells', WHERE WHAT IT READS IS OF BULK AT MOST 1048576: true; the input reads as it did. -/
def narrowTellsUptoRow : OpenClaim := { program := "ytccdgpijjgeedaa", sum := "fff1111da6327f110f7b2b452afd33a22f5113722f38c169b610f9ead9f6515b", func := "tumbler/tumblerlaw09.NarrowTells", spec := "narrowTells", unfollowed := true, recurses := true, apart := false, narrowed := true }
def NarrowTellsUptoSaid : Prop := narrowTellsUptoRow.holds Try.pinned (OpenSpec.upto narrowTellsSpec)

/-- 'tumblerlaw09.NarrowRight', WHERE WHAT IT READS IS OF BULK AT MOST 1048576: true; the input reads as it did. -/
def narrowRightUptoRow : OpenClaim := { program := "ytccdgpijjgeedaa", sum := "fff1111da6327f110f7b2b452afd33a22f5113722f38c169b610f9ead9f6515b", func := "tumbler/tumblerlaw09.NarrowRight", spec := "narrowRight", unfollowed := true, recurses := true, apart := false, narrowed := true }
def NarrowRightUptoSaid : Prop := narrowRightUptoRow.holds Try.pinned (OpenSpec.upto narrowRightSpec)

/-- 'tumblerlaw09.NarrowSound', WHERE WHAT IT READS IS OF BULK AT MOST 1048576: true; the input reads as it did. -/
def narrowSoundUptoRow : OpenClaim := { program := "ytccdgpijjgeedaa", sum := "fff1111da6327f110f7b2b452afd33a22f5113722f38c169b610f9ead9f6515b", func := "tumbler/tumblerlaw09.NarrowSound", spec := "narrowSound", unfollowed := true, recurses := true, apart := false, narrowed := true }
def NarrowSoundUptoSaid : Prop := narrowSoundUptoRow.holds Try.pinned (OpenSpec.upto narrowSoundSpec)

/-- 'tumblerlaw09.NarrowMirror', WHERE WHAT IT READS IS OF BULK AT MOST 1048576: true; the input reads as it did. -/
def narrowMirrorUptoRow : OpenClaim := { program := "ytccdgpijjgeedaa", sum := "fff1111da6327f110f7b2b452afd33a22f5113722f38c169b610f9ead9f6515b", func := "tumbler/tumblerlaw09.NarrowMirror", spec := "narrowMirror", unfollowed := true, recurses := true, apart := false, narrowed := true }
def NarrowMirrorUptoSaid : Prop := narrowMirrorUptoRow.holds Try.pinned (OpenSpec.upto narrowMirrorSpec)

/-- 'tumblerlaw09.NarrowThick', WHERE WHAT IT READS IS OF BULK AT MOST 1048576: true; the input reads as it did. -/
def narrowThickUptoRow : OpenClaim := { program := "ytccdgpijjgeedaa", sum := "fff1111da6327f110f7b2b452afd33a22f5113722f38c169b610f9ead9f6515b", func := "tumbler/tumblerlaw09.NarrowThick", spec := "narrowThick", unfollowed := true, recurses := true, apart := false, narrowed := true }
def NarrowThickUptoSaid : Prop := narrowThickUptoRow.holds Try.pinned (OpenSpec.upto narrowThickSpec)

/-- 'tumblerlaw09.NarrowSelf', WHERE WHAT IT READS IS OF BULK AT MOST 1048576: true; the input reads as it did. -/
def narrowSelfUptoRow : OpenClaim := { program := "ytccdgpijjgeedaa", sum := "fff1111da6327f110f7b2b452afd33a22f5113722f38c169b610f9ead9f6515b", func := "tumbler/tumblerlaw09.NarrowSelf", spec := "narrowSelf", unfollowed := true, recurses := true, apart := false, narrowed := true }
def NarrowSelfUptoSaid : Prop := narrowSelfUptoRow.holds Try.pinned (OpenSpec.upto narrowSelfSpec)

end Rows
end Go.Proofs.Ytccdgpijjgeedaa
