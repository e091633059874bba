/-
  No cell of these rows narrows 'for every input' (looked for: loops, veiled, ifaces, maps, wideKeys, modest, calm, conditions, laid).
  DERIVED. THE GIVEN ROWS OF THIS SEAT. 8 by the template 'for every input the law returns true; each argument reads behind the call as it read before'; 0 by the template 'total and deterministic' (their statements: YtfnhnicjomaelaaTotals.lean).
  GIVEN WITH THE SEED: the statements are not yours to turn. If you find one false, say at which input.
  Laid BY PROGRAM, IN A SANDBOX (cutbox-rows.mjs): the forced cells as the released guide's own fill.sh prints them over the translation 410674c1a329cd4f… (all of the seat's roots in one cut). By AI agents, Wed Nov 11 2026. No macro, syntax, notation, axiom, sorry.
-/
import Derived.Test.YtfnhnicjomaelaaChecked
import GoSem.Claim
import GoSem.ClaimJoined
import GoSem.ClaimMapViews
import Derived.JoinedTies
import Derived.KernelRfl
namespace Go.Proofs.Ytfnhnicjomaelaa
/- THE CELL 'sum', in the pinned program and in every row, IS THE sha256 OF THE DUMP (.gsa) THAT YtfnhnicjomaelaaProg.lean LOADS. Nothing in Lean hashes anything: it is a label: what it is worth is what the hold of that sum in a sandbox is worth. -/
noncomputable def Try.pinned : Pinned := { name := "ytfnhnicjomaelaa", sum := "410674c1a329cd4fb99d8716ddf6051f473e5db126383462ab0c0e2e69f5f19e", checked := Try.checked }
namespace Rows
def none {H : Type} : Left H := { results := [], args := [] }

/-- 'waymasterlaw03.RingDoes': WHATEVER THE INPUT: true; the input reads as it did. -/
def ringDoesSpec : ChangeSpec := { name := "ringDoes", fn := fun _ => fun
  | [d1, d2, d3] => { results := [.lit (.bool true)], args := [d1, d2, d3] }
  | _ => none }
def ringDoesRow : OpenClaim := { program := "ytfnhnicjomaelaa", sum := "410674c1a329cd4fb99d8716ddf6051f473e5db126383462ab0c0e2e69f5f19e", func := "waymaster/waymasterlaw03.RingDoes", spec := "ringDoes", unfollowed := true, recurses := true, apart := false }
def RingDoesSaid : Prop := ringDoesRow.holds Try.pinned (OpenSpec.ofChange ringDoesSpec)

/-- ITS FALSE NEIGHBOUR: 'it returns false'. Refute it at one input. -/
def ringDoesWrong : ChangeSpec := { name := "ringDoes", fn := fun _ => fun
  | [d1, d2, d3] => { results := [.lit (.bool false)], args := [d1, d2, d3] }
  | _ => none }
def RingDoesWrongFalsely : Prop := ringDoesRow.holds Try.pinned (OpenSpec.ofChange ringDoesWrong)

/-- 'waymasterlaw03.RingSizes': WHATEVER THE INPUT: true; the input reads as it did. -/
def ringSizesSpec : ChangeSpec := { name := "ringSizes", fn := fun _ => fun
  | [d1, d2, d3] => { results := [.lit (.bool true)], args := [d1, d2, d3] }
  | _ => none }
def ringSizesRow : OpenClaim := { program := "ytfnhnicjomaelaa", sum := "410674c1a329cd4fb99d8716ddf6051f473e5db126383462ab0c0e2e69f5f19e", func := "waymaster/waymasterlaw03.RingSizes", spec := "ringSizes", unfollowed := true, recurses := true, apart := false }
def RingSizesSaid : Prop := ringSizesRow.holds Try.pinned (OpenSpec.ofChange ringSizesSpec)

/-- ITS FALSE NEIGHBOUR: 'it returns false'. Refute it at one input. -/
def ringSizesWrong : ChangeSpec := { name := "ringSizes", fn := fun _ => fun
  | [d1, d2, d3] => { results := [.lit (.bool false)], args := [d1, d2, d3] }
  | _ => none }
def RingSizesWrongFalsely : Prop := ringSizesRow.holds Try.pinned (OpenSpec.ofChange ringSizesWrong)

/-- 'waymasterlaw03.RingOrder': WHATEVER THE INPUT: true; the input reads as it did. -/
def ringOrderSpec : ChangeSpec := { name := "ringOrder", fn := fun _ => fun
  | [d1, d2, d3] => { results := [.lit (.bool true)], args := [d1, d2, d3] }
  | _ => none }
def ringOrderRow : OpenClaim := { program := "ytfnhnicjomaelaa", sum := "410674c1a329cd4fb99d8716ddf6051f473e5db126383462ab0c0e2e69f5f19e", func := "waymaster/waymasterlaw03.RingOrder", spec := "ringOrder", unfollowed := true, recurses := true, apart := false }
def RingOrderSaid : Prop := ringOrderRow.holds Try.pinned (OpenSpec.ofChange ringOrderSpec)

/-- ITS FALSE NEIGHBOUR: 'it returns false'. Refute it at one input. -/
def ringOrderWrong : ChangeSpec := { name := "ringOrder", fn := fun _ => fun
  | [d1, d2, d3] => { results := [.lit (.bool false)], args := [d1, d2, d3] }
  | _ => none }
def RingOrderWrongFalsely : Prop := ringOrderRow.holds Try.pinned (OpenSpec.ofChange ringOrderWrong)

/-- 'waymasterlaw03.RingMarks': WHATEVER THE INPUT: true; the input reads as it did. -/
def ringMarksSpec : ChangeSpec := { name := "ringMarks", fn := fun _ => fun
  | [d1, d2, d3] => { results := [.lit (.bool true)], args := [d1, d2, d3] }
  | _ => none }
def ringMarksRow : OpenClaim := { program := "ytfnhnicjomaelaa", sum := "410674c1a329cd4fb99d8716ddf6051f473e5db126383462ab0c0e2e69f5f19e", func := "waymaster/waymasterlaw03.RingMarks", spec := "ringMarks", unfollowed := true, recurses := true, apart := false }
def RingMarksSaid : Prop := ringMarksRow.holds Try.pinned (OpenSpec.ofChange ringMarksSpec)

/-- ITS FALSE NEIGHBOUR: 'it returns false'. Refute it at one input. -/
def ringMarksWrong : ChangeSpec := { name := "ringMarks", fn := fun _ => fun
  | [d1, d2, d3] => { results := [.lit (.bool false)], args := [d1, d2, d3] }
  | _ => none }
def RingMarksWrongFalsely : Prop := ringMarksRow.holds Try.pinned (OpenSpec.ofChange ringMarksWrong)

/-- 'waymasterlaw03.RingFirst': WHATEVER THE INPUT: true; the input reads as it did. -/
def ringFirstSpec : ChangeSpec := { name := "ringFirst", fn := fun _ => fun
  | [d1, d2, d3, d4] => { results := [.lit (.bool true)], args := [d1, d2, d3, d4] }
  | _ => none }
def ringFirstRow : OpenClaim := { program := "ytfnhnicjomaelaa", sum := "410674c1a329cd4fb99d8716ddf6051f473e5db126383462ab0c0e2e69f5f19e", func := "waymaster/waymasterlaw03.RingFirst", spec := "ringFirst", unfollowed := true, recurses := true, apart := false }
def RingFirstSaid : Prop := ringFirstRow.holds Try.pinned (OpenSpec.ofChange ringFirstSpec)

/-- ITS FALSE NEIGHBOUR: 'it returns false'. Refute it at one input. -/
def ringFirstWrong : ChangeSpec := { name := "ringFirst", fn := fun _ => fun
  | [d1, d2, d3, d4] => { results := [.lit (.bool false)], args := [d1, d2, d3, d4] }
  | _ => none }
def RingFirstWrongFalsely : Prop := ringFirstRow.holds Try.pinned (OpenSpec.ofChange ringFirstWrong)

/-- 'waymasterlaw03.RingSlots': WHATEVER THE INPUT: true; the input reads as it did. -/
def ringSlotsSpec : ChangeSpec := { name := "ringSlots", fn := fun _ => fun
  | [d1, d2, d3] => { results := [.lit (.bool true)], args := [d1, d2, d3] }
  | _ => none }
def ringSlotsRow : OpenClaim := { program := "ytfnhnicjomaelaa", sum := "410674c1a329cd4fb99d8716ddf6051f473e5db126383462ab0c0e2e69f5f19e", func := "waymaster/waymasterlaw03.RingSlots", spec := "ringSlots", unfollowed := true, recurses := true, apart := false }
def RingSlotsSaid : Prop := ringSlotsRow.holds Try.pinned (OpenSpec.ofChange ringSlotsSpec)

/-- ITS FALSE NEIGHBOUR: 'it returns false'. Refute it at one input. -/
def ringSlotsWrong : ChangeSpec := { name := "ringSlots", fn := fun _ => fun
  | [d1, d2, d3] => { results := [.lit (.bool false)], args := [d1, d2, d3] }
  | _ => none }
def RingSlotsWrongFalsely : Prop := ringSlotsRow.holds Try.pinned (OpenSpec.ofChange ringSlotsWrong)

/-- 'waymasterlaw03.RingFull': WHATEVER THE INPUT: true; the input reads as it did. -/
def ringFullSpec : ChangeSpec := { name := "ringFull", fn := fun _ => fun
  | [d1, d2, d3] => { results := [.lit (.bool true)], args := [d1, d2, d3] }
  | _ => none }
def ringFullRow : OpenClaim := { program := "ytfnhnicjomaelaa", sum := "410674c1a329cd4fb99d8716ddf6051f473e5db126383462ab0c0e2e69f5f19e", func := "waymaster/waymasterlaw03.RingFull", spec := "ringFull", unfollowed := true, recurses := true, apart := false }
def RingFullSaid : Prop := ringFullRow.holds Try.pinned (OpenSpec.ofChange ringFullSpec)

/-- ITS FALSE NEIGHBOUR: 'it returns false'. Refute it at one input. -/
def ringFullWrong : ChangeSpec := { name := "ringFull", fn := fun _ => fun
  | [d1, d2, d3] => { results := [.lit (.bool false)], args := [d1, d2, d3] }
  | _ => none }
def RingFullWrongFalsely : Prop := ringFullRow.holds Try.pinned (OpenSpec.ofChange ringFullWrong)

/-- 'waymasterlaw03.RingRest': WHATEVER THE INPUT: true; the input reads as it did. -/
def ringRestSpec : ChangeSpec := { name := "ringRest", fn := fun _ => fun
  | [d1, d2, d3] => { results := [.lit (.bool true)], args := [d1, d2, d3] }
  | _ => none }
def ringRestRow : OpenClaim := { program := "ytfnhnicjomaelaa", sum := "410674c1a329cd4fb99d8716ddf6051f473e5db126383462ab0c0e2e69f5f19e", func := "waymaster/waymasterlaw03.RingRest", spec := "ringRest", unfollowed := true, recurses := true, apart := false }
def RingRestSaid : Prop := ringRestRow.holds Try.pinned (OpenSpec.ofChange ringRestSpec)

/-- ITS FALSE NEIGHBOUR: 'it returns false'. Refute it at one input. -/
def ringRestWrong : ChangeSpec := { name := "ringRest", fn := fun _ => fun
  | [d1, d2, d3] => { results := [.lit (.bool false)], args := [d1, d2, d3] }
  | _ => none }
def RingRestWrongFalsely : Prop := ringRestRow.holds Try.pinned (OpenSpec.ofChange ringRestWrong)

/- THE SECOND FORM. 'bulk': how many values and letters a reading holds, each counted each time it is reached (what is shared counts as often as it is met; a slice's spare places count too). A statement '..UptoSaid' is the law's where the arguments, and the package variables that the reading takes, are together of bulk at most 1048576: NARROWER than '..Said'. Prove '..Said' where nothing that the law and all that it calls make is longer than what came in: it says more and counts as full. Else prove '..UptoSaid'. A law counts once. -/
mutual
def uptoBulk {H : Type} : DataW H → Nat
  | .lit (.string bytes) => bytes.length + 1
  | .lit _ => 1
  | .nil => 1
  | .ptr d => uptoBulk d + 1
  | .slice elems spare => uptoBulkAll elems + uptoBulkAll spare + 1
  | .agg parts => uptoBulkAll parts + 1
  | .iface _ d => uptoBulk d + 1
  | .map entries => uptoBulkEntries entries + 1
  | .held _ => 1
def uptoBulkAll {H : Type} : List (DataW H) → Nat
  | [] => 0
  | d :: r => uptoBulk d + uptoBulkAll r
def uptoBulkEntries {H : Type} : List (Lit × DataW H) → Nat
  | [] => 0
  | x :: r => uptoBulkEntry x + uptoBulkEntries r
def uptoBulkEntry {H : Type} : Lit × DataW H → Nat
  | (.string bytes, d) => bytes.length + uptoBulk d + 1
  | (_, d) => uptoBulk d + 1
 end
def uptoSmall : (H : Type) → List (DataW H) → Bool := fun _ ds => decide (uptoBulkAll ds ≤ 1048576)
def OpenSpec.upto (s : _root_.Go.ChangeSpec) : _root_.Go.OpenSpec := { _root_.Go.OpenSpec.ofChange s with cond := some uptoSmall }

/-- 'waymasterlaw03.RingDoes', WHERE WHAT IT READS IS OF BULK AT MOST 1048576: true; the input reads as it did. -/
def ringDoesUptoRow : OpenClaim := { program := "ytfnhnicjomaelaa", sum := "410674c1a329cd4fb99d8716ddf6051f473e5db126383462ab0c0e2e69f5f19e", func := "waymaster/waymasterlaw03.RingDoes", spec := "ringDoes", unfollowed := true, recurses := true, apart := false, narrowed := true }
def RingDoesUptoSaid : Prop := ringDoesUptoRow.holds Try.pinned (OpenSpec.upto ringDoesSpec)

/-- 'waymasterlaw03.RingSizes', WHERE WHAT IT READS IS OF BULK AT MOST 1048576: true; the input reads as it did. -/
def ringSizesUptoRow : OpenClaim := { program := "ytfnhnicjomaelaa", sum := "410674c1a329cd4fb99d8716ddf6051f473e5db126383462ab0c0e2e69f5f19e", func := "waymaster/waymasterlaw03.RingSizes", spec := "ringSizes", unfollowed := true, recurses := true, apart := false, narrowed := true }
def RingSizesUptoSaid : Prop := ringSizesUptoRow.holds Try.pinned (OpenSpec.upto ringSizesSpec)

/-- 'waymasterlaw03.RingOrder', WHERE WHAT IT READS IS OF BULK AT MOST 1048576: true; the input reads as it did. -/
def ringOrderUptoRow : OpenClaim := { program := "ytfnhnicjomaelaa", sum := "410674c1a329cd4fb99d8716ddf6051f473e5db126383462ab0c0e2e69f5f19e", func := "waymaster/waymasterlaw03.RingOrder", spec := "ringOrder", unfollowed := true, recurses := true, apart := false, narrowed := true }
def RingOrderUptoSaid : Prop := ringOrderUptoRow.holds Try.pinned (OpenSpec.upto ringOrderSpec)

/-- 'waymasterlaw03.RingMarks', WHERE WHAT IT READS IS OF BULK AT MOST 1048576: true; the input reads as it did. -/
def ringMarksUptoRow : OpenClaim := { program := "ytfnhnicjomaelaa", sum := "410674c1a329cd4fb99d8716ddf6051f473e5db126383462ab0c0e2e69f5f19e", func := "waymaster/waymasterlaw03.RingMarks", spec := "ringMarks", unfollowed := true, recurses := true, apart := false, narrowed := true }
def RingMarksUptoSaid : Prop := ringMarksUptoRow.holds Try.pinned (OpenSpec.upto ringMarksSpec)

/-- 'waymasterlaw03.RingFirst', WHERE WHAT IT READS IS OF BULK AT MOST 1048576: true; the input reads as it did. -/
def ringFirstUptoRow : OpenClaim := { program := "ytfnhnicjomaelaa", sum := "410674c1a329cd4fb99d8716ddf6051f473e5db126383462ab0c0e2e69f5f19e", func := "waymaster/waymasterlaw03.RingFirst", spec := "ringFirst", unfollowed := true, recurses := true, apart := false, narrowed := true }
def RingFirstUptoSaid : Prop := ringFirstUptoRow.holds Try.pinned (OpenSpec.upto ringFirstSpec)

/-- 'waymasterlaw03.RingSlots', WHERE WHAT IT READS IS OF BULK AT MOST 1048576: true; the input reads as it did. -/
def ringSlotsUptoRow : OpenClaim := { program := "ytfnhnicjomaelaa", sum := "410674c1a329cd4fb99d8716ddf6051f473e5db126383462ab0c0e2e69f5f19e", func := "waymaster/waymasterlaw03.RingSlots", spec := "ringSlots", unfollowed := true, recurses := true, apart := false, narrowed := true }
def RingSlotsUptoSaid : Prop := ringSlotsUptoRow.holds Try.pinned (OpenSpec.upto ringSlotsSpec)

/-- 'waymasterlaw03.RingFull', WHERE WHAT IT READS IS OF BULK AT MOST 1048576: true; the input reads as it did. -/
def ringFullUptoRow : OpenClaim := { program := "ytfnhnicjomaelaa", sum := "410674c1a329cd4fb99d8716ddf6051f473e5db126383462ab0c0e2e69f5f19e", func := "waymaster/waymasterlaw03.RingFull", spec := "ringFull", unfollowed := true, recurses := true, apart := false, narrowed := true }
def RingFullUptoSaid : Prop := ringFullUptoRow.holds Try.pinned (OpenSpec.upto ringFullSpec)

/-- 'waymasterlaw03.RingRest', WHERE WHAT IT READS IS OF BULK AT MOST 1048576: true; the input reads as it did. -/
def ringRestUptoRow : OpenClaim := { program := "ytfnhnicjomaelaa", sum := "410674c1a329cd4fb99d8716ddf6051f473e5db126383462ab0c0e2e69f5f19e", func := "waymaster/waymasterlaw03.RingRest", spec := "ringRest", unfollowed := true, recurses := true, apart := false, narrowed := true }
def RingRestUptoSaid : Prop := ringRestUptoRow.holds Try.pinned (OpenSpec.upto ringRestSpec)

end Rows
end Go.Proofs.Ytfnhnicjomaelaa
