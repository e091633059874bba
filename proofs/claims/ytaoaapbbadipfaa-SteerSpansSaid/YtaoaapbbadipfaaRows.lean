/-
  No cell of these rows narrows 'for every input' (looked for: loops, veiled, ifaces, maps, wideKeys, modest, calm, conditions, laid).
  DERIVED. THE GIVEN ROWS OF THIS SEAT. 8 by the template 'for every input the law returns true; each argument reads behind the call as it read before'; 0 by the template 'total and deterministic' (their statements: YtaoaapbbadipfaaTotals.lean).
  GIVEN WITH THE SEED: the statements are not yours to turn. If you find one false, say at which input.
  Laid BY PROGRAM, IN A SANDBOX (cutbox-rows.mjs): the forced cells as the released guide's own fill.sh prints them over the translation 38164070a3592eea… (all of the seat's roots in one cut). By AI agents, Wed Nov 11 2026. No macro, syntax, notation, axiom, sorry.
-/
import Derived.Test.YtaoaapbbadipfaaChecked
import GoSem.Claim
import GoSem.ClaimJoined
import GoSem.ClaimMapViews
import Derived.JoinedTies
import Derived.KernelRfl
namespace Go.Proofs.Ytaoaapbbadipfaa
/- THE CELL 'sum', in the pinned program and in every row, IS THE sha256 OF THE DUMP (.gsa) THAT YtaoaapbbadipfaaProg.lean LOADS. Nothing in Lean hashes anything: it is a label: what it is worth is what the hold of that sum in a sandbox is worth. -/
noncomputable def Try.pinned : Pinned := { name := "ytaoaapbbadipfaa", sum := "38164070a3592eea72761ca57feae355de8143f387d23ef0b2aac6fd456b9a2a", checked := Try.checked }
namespace Rows
def none {H : Type} : Left H := { results := [], args := [] }

/-- 'waymasterlaw09.SteerDoes': WHATEVER THE INPUT: true; the input reads as it did. -/
def steerDoesSpec : ChangeSpec := { name := "steerDoes", fn := fun _ => fun
  | [d1, d2, d3, d4] => { results := [.lit (.bool true)], args := [d1, d2, d3, d4] }
  | _ => none }
def steerDoesRow : OpenClaim := { program := "ytaoaapbbadipfaa", sum := "38164070a3592eea72761ca57feae355de8143f387d23ef0b2aac6fd456b9a2a", func := "waymaster/waymasterlaw09.SteerDoes", spec := "steerDoes", unfollowed := true, recurses := true, apart := false }
def SteerDoesSaid : Prop := steerDoesRow.holds Try.pinned (OpenSpec.ofChange steerDoesSpec)

/-- ITS FALSE NEIGHBOUR: 'it returns false'. Refute it at one input. -/
def steerDoesWrong : ChangeSpec := { name := "steerDoes", fn := fun _ => fun
  | [d1, d2, d3, d4] => { results := [.lit (.bool false)], args := [d1, d2, d3, d4] }
  | _ => none }
def SteerDoesWrongFalsely : Prop := steerDoesRow.holds Try.pinned (OpenSpec.ofChange steerDoesWrong)

/-- 'waymasterlaw09.SteerNone': WHATEVER THE INPUT: true; the input reads as it did. -/
def steerNoneSpec : ChangeSpec := { name := "steerNone", fn := fun _ => fun
  | [d1, d2] => { results := [.lit (.bool true)], args := [d1, d2] }
  | _ => none }
def steerNoneRow : OpenClaim := { program := "ytaoaapbbadipfaa", sum := "38164070a3592eea72761ca57feae355de8143f387d23ef0b2aac6fd456b9a2a", func := "waymaster/waymasterlaw09.SteerNone", spec := "steerNone", unfollowed := true, recurses := true, apart := false }
def SteerNoneSaid : Prop := steerNoneRow.holds Try.pinned (OpenSpec.ofChange steerNoneSpec)

/-- ITS FALSE NEIGHBOUR: 'it returns false'. Refute it at one input. -/
def steerNoneWrong : ChangeSpec := { name := "steerNone", fn := fun _ => fun
  | [d1, d2] => { results := [.lit (.bool false)], args := [d1, d2] }
  | _ => none }
def SteerNoneWrongFalsely : Prop := steerNoneRow.holds Try.pinned (OpenSpec.ofChange steerNoneWrong)

/-- 'waymasterlaw09.SteerSpans': WHATEVER THE INPUT: true; the input reads as it did. -/
def steerSpansSpec : ChangeSpec := { name := "steerSpans", fn := fun _ => fun
  | [d1, d2, d3] => { results := [.lit (.bool true)], args := [d1, d2, d3] }
  | _ => none }
def steerSpansRow : OpenClaim := { program := "ytaoaapbbadipfaa", sum := "38164070a3592eea72761ca57feae355de8143f387d23ef0b2aac6fd456b9a2a", func := "waymaster/waymasterlaw09.SteerSpans", spec := "steerSpans", unfollowed := true, recurses := true, apart := false }
def SteerSpansSaid : Prop := steerSpansRow.holds Try.pinned (OpenSpec.ofChange steerSpansSpec)

/-- ITS FALSE NEIGHBOUR: 'it returns false'. Refute it at one input. -/
def steerSpansWrong : ChangeSpec := { name := "steerSpans", fn := fun _ => fun
  | [d1, d2, d3] => { results := [.lit (.bool false)], args := [d1, d2, d3] }
  | _ => none }
def SteerSpansWrongFalsely : Prop := steerSpansRow.holds Try.pinned (OpenSpec.ofChange steerSpansWrong)

/-- 'waymasterlaw09.SteerSticks': WHATEVER THE INPUT: true; the input reads as it did. -/
def steerSticksSpec : ChangeSpec := { name := "steerSticks", fn := fun _ => fun
  | [d1, d2, d3] => { results := [.lit (.bool true)], args := [d1, d2, d3] }
  | _ => none }
def steerSticksRow : OpenClaim := { program := "ytaoaapbbadipfaa", sum := "38164070a3592eea72761ca57feae355de8143f387d23ef0b2aac6fd456b9a2a", func := "waymaster/waymasterlaw09.SteerSticks", spec := "steerSticks", unfollowed := true, recurses := true, apart := false }
def SteerSticksSaid : Prop := steerSticksRow.holds Try.pinned (OpenSpec.ofChange steerSticksSpec)

/-- ITS FALSE NEIGHBOUR: 'it returns false'. Refute it at one input. -/
def steerSticksWrong : ChangeSpec := { name := "steerSticks", fn := fun _ => fun
  | [d1, d2, d3] => { results := [.lit (.bool false)], args := [d1, d2, d3] }
  | _ => none }
def SteerSticksWrongFalsely : Prop := steerSticksRow.holds Try.pinned (OpenSpec.ofChange steerSticksWrong)

/-- 'waymasterlaw09.SteerLists': WHATEVER THE INPUT: true; the input reads as it did. -/
def steerListsSpec : ChangeSpec := { name := "steerLists", fn := fun _ => fun
  | [d1, d2] => { results := [.lit (.bool true)], args := [d1, d2] }
  | _ => none }
def steerListsRow : OpenClaim := { program := "ytaoaapbbadipfaa", sum := "38164070a3592eea72761ca57feae355de8143f387d23ef0b2aac6fd456b9a2a", func := "waymaster/waymasterlaw09.SteerLists", spec := "steerLists", unfollowed := true, recurses := true, apart := false }
def SteerListsSaid : Prop := steerListsRow.holds Try.pinned (OpenSpec.ofChange steerListsSpec)

/-- ITS FALSE NEIGHBOUR: 'it returns false'. Refute it at one input. -/
def steerListsWrong : ChangeSpec := { name := "steerLists", fn := fun _ => fun
  | [d1, d2] => { results := [.lit (.bool false)], args := [d1, d2] }
  | _ => none }
def SteerListsWrongFalsely : Prop := steerListsRow.holds Try.pinned (OpenSpec.ofChange steerListsWrong)

/-- 'waymasterlaw09.SteerCounts': WHATEVER THE INPUT: true; the input reads as it did. -/
def steerCountsSpec : ChangeSpec := { name := "steerCounts", fn := fun _ => fun
  | [d] => { results := [.lit (.bool true)], args := [d] }
  | _ => none }
def steerCountsRow : OpenClaim := { program := "ytaoaapbbadipfaa", sum := "38164070a3592eea72761ca57feae355de8143f387d23ef0b2aac6fd456b9a2a", func := "waymaster/waymasterlaw09.SteerCounts", spec := "steerCounts", unfollowed := true, recurses := true, apart := false }
def SteerCountsSaid : Prop := steerCountsRow.holds Try.pinned (OpenSpec.ofChange steerCountsSpec)

/-- ITS FALSE NEIGHBOUR: 'it returns false'. Refute it at one input. -/
def steerCountsWrong : ChangeSpec := { name := "steerCounts", fn := fun _ => fun
  | [d] => { results := [.lit (.bool false)], args := [d] }
  | _ => none }
def SteerCountsWrongFalsely : Prop := steerCountsRow.holds Try.pinned (OpenSpec.ofChange steerCountsWrong)

/-- 'waymasterlaw09.SteerFlows': WHATEVER THE INPUT: true; the input reads as it did. -/
def steerFlowsSpec : ChangeSpec := { name := "steerFlows", fn := fun _ => fun
  | [d1, d2, d3] => { results := [.lit (.bool true)], args := [d1, d2, d3] }
  | _ => none }
def steerFlowsRow : OpenClaim := { program := "ytaoaapbbadipfaa", sum := "38164070a3592eea72761ca57feae355de8143f387d23ef0b2aac6fd456b9a2a", func := "waymaster/waymasterlaw09.SteerFlows", spec := "steerFlows", unfollowed := true, recurses := true, apart := false }
def SteerFlowsSaid : Prop := steerFlowsRow.holds Try.pinned (OpenSpec.ofChange steerFlowsSpec)

/-- ITS FALSE NEIGHBOUR: 'it returns false'. Refute it at one input. -/
def steerFlowsWrong : ChangeSpec := { name := "steerFlows", fn := fun _ => fun
  | [d1, d2, d3] => { results := [.lit (.bool false)], args := [d1, d2, d3] }
  | _ => none }
def SteerFlowsWrongFalsely : Prop := steerFlowsRow.holds Try.pinned (OpenSpec.ofChange steerFlowsWrong)

/-- 'waymasterlaw09.SteerMaps': WHATEVER THE INPUT: true; the input reads as it did. -/
def steerMapsSpec : ChangeSpec := { name := "steerMaps", fn := fun _ => fun
  | [d1, d2] => { results := [.lit (.bool true)], args := [d1, d2] }
  | _ => none }
def steerMapsRow : OpenClaim := { program := "ytaoaapbbadipfaa", sum := "38164070a3592eea72761ca57feae355de8143f387d23ef0b2aac6fd456b9a2a", func := "waymaster/waymasterlaw09.SteerMaps", spec := "steerMaps", unfollowed := true, recurses := true, apart := false }
def SteerMapsSaid : Prop := steerMapsRow.holds Try.pinned (OpenSpec.ofChange steerMapsSpec)

/-- ITS FALSE NEIGHBOUR: 'it returns false'. Refute it at one input. -/
def steerMapsWrong : ChangeSpec := { name := "steerMaps", fn := fun _ => fun
  | [d1, d2] => { results := [.lit (.bool false)], args := [d1, d2] }
  | _ => none }
def SteerMapsWrongFalsely : Prop := steerMapsRow.holds Try.pinned (OpenSpec.ofChange steerMapsWrong)

/- THE SECOND FORM. 'bulk': how many values and letters a reading holds, each counted each time it is reached (what is shared counts as often as it is met; a slice's spare places count too). A statement '..UptoSaid' is the law's where the arguments, and the package variables that the reading takes, are together of bulk at most 1048576: NARROWER than '..Said'. Prove '..Said' where nothing that the law and all that it calls make is longer than what came in: it says more and counts as full. Else prove '..UptoSaid'. A law counts once. -/
mutual
def uptoBulk {H : Type} : DataW H → Nat
  | .lit (.string bytes) => bytes.length + 1
  | .lit _ => 1
  | .nil => 1
  | .ptr d => uptoBulk d + 1
  | .slice elems spare => uptoBulkAll elems + uptoBulkAll spare + 1
  | .agg parts => uptoBulkAll parts + 1
  | .iface _ d => uptoBulk d + 1
  | .map entries => uptoBulkEntries entries + 1
  | .held _ => 1
def uptoBulkAll {H : Type} : List (DataW H) → Nat
  | [] => 0
  | d :: r => uptoBulk d + uptoBulkAll r
def uptoBulkEntries {H : Type} : List (Lit × DataW H) → Nat
  | [] => 0
  | x :: r => uptoBulkEntry x + uptoBulkEntries r
def uptoBulkEntry {H : Type} : Lit × DataW H → Nat
  | (.string bytes, d) => bytes.length + uptoBulk d + 1
  | (_, d) => uptoBulk d + 1
 end
def uptoSmall : (H : Type) → List (DataW H) → Bool := fun _ ds => decide (uptoBulkAll ds ≤ 1048576)
def OpenSpec.upto (s : _root_.Go.ChangeSpec) : _root_.Go.OpenSpec := { _root_.Go.OpenSpec.ofChange s with cond := some uptoSmall }

/-- 'waymasterlaw09.SteerDoes', WHERE WHAT IT READS IS OF BULK AT MOST 1048576: true; the input reads as it did. -/
def steerDoesUptoRow : OpenClaim := { program := "ytaoaapbbadipfaa", sum := "38164070a3592eea72761ca57feae355de8143f387d23ef0b2aac6fd456b9a2a", func := "waymaster/waymasterlaw09.SteerDoes", spec := "steerDoes", unfollowed := true, recurses := true, apart := false, narrowed := true }
def SteerDoesUptoSaid : Prop := steerDoesUptoRow.holds Try.pinned (OpenSpec.upto steerDoesSpec)

/-- 'waymasterlaw09.SteerNone', WHERE WHAT IT READS IS OF BULK AT MOST 1048576: true; the input reads as it did. -/
def steerNoneUptoRow : OpenClaim := { program := "ytaoaapbbadipfaa", sum := "38164070a3592eea72761ca57feae355de8143f387d23ef0b2aac6fd456b9a2a", func := "waymaster/waymasterlaw09.SteerNone", spec := "steerNone", unfollowed := true, recurses := true, apart := false, narrowed := true }
def SteerNoneUptoSaid : Prop := steerNoneUptoRow.holds Try.pinned (OpenSpec.upto steerNoneSpec)

/-- 'waymasterlaw09.SteerSpans', WHERE WHAT IT READS IS OF BULK AT MOST 1048576: true; the input reads as it did. -/
def steerSpansUptoRow : OpenClaim := { program := "ytaoaapbbadipfaa", sum := "38164070a3592eea72761ca57feae355de8143f387d23ef0b2aac6fd456b9a2a", func := "waymaster/waymasterlaw09.SteerSpans", spec := "steerSpans", unfollowed := true, recurses := true, apart := false, narrowed := true }
def SteerSpansUptoSaid : Prop := steerSpansUptoRow.holds Try.pinned (OpenSpec.upto steerSpansSpec)

/-- 'waymasterlaw09.SteerSticks', WHERE WHAT IT READS IS OF BULK AT MOST 1048576: true; the input reads as it did. -/
def steerSticksUptoRow : OpenClaim := { program := "ytaoaapbbadipfaa", sum := "38164070a3592eea72761ca57feae355de8143f387d23ef0b2aac6fd456b9a2a", func := "waymaster/waymasterlaw09.SteerSticks", spec := "steerSticks", unfollowed := true, recurses := true, apart := false, narrowed := true }
def SteerSticksUptoSaid : Prop := steerSticksUptoRow.holds Try.pinned (OpenSpec.upto steerSticksSpec)

/-- 'waymasterlaw09.SteerLists', WHERE WHAT IT READS IS OF BULK AT MOST 1048576: true; the input reads as it did. -/
def steerListsUptoRow : OpenClaim := { program := "ytaoaapbbadipfaa", sum := "38164070a3592eea72761ca57feae355de8143f387d23ef0b2aac6fd456b9a2a", func := "waymaster/waymasterlaw09.SteerLists", spec := "steerLists", unfollowed := true, recurses := true, apart := false, narrowed := true }
def SteerListsUptoSaid : Prop := steerListsUptoRow.holds Try.pinned (OpenSpec.upto steerListsSpec)

/-- 'waymasterlaw09.SteerCounts', WHERE WHAT IT READS IS OF BULK AT MOST 1048576: true; the input reads as it did. -/
def steerCountsUptoRow : OpenClaim := { program := "ytaoaapbbadipfaa", sum := "38164070a3592eea72761ca57feae355de8143f387d23ef0b2aac6fd456b9a2a", func := "waymaster/waymasterlaw09.SteerCounts", spec := "steerCounts", unfollowed := true, recurses := true, apart := false, narrowed := true }
def SteerCountsUptoSaid : Prop := steerCountsUptoRow.holds Try.pinned (OpenSpec.upto steerCountsSpec)

/-- 'waymasterlaw09.SteerFlows', WHERE WHAT IT READS IS OF BULK AT MOST 1048576: true; the input reads as it did. -/
def steerFlowsUptoRow : OpenClaim := { program := "ytaoaapbbadipfaa", sum := "38164070a3592eea72761ca57feae355de8143f387d23ef0b2aac6fd456b9a2a", func := "waymaster/waymasterlaw09.SteerFlows", spec := "steerFlows", unfollowed := true, recurses := true, apart := false, narrowed := true }
def SteerFlowsUptoSaid : Prop := steerFlowsUptoRow.holds Try.pinned (OpenSpec.upto steerFlowsSpec)

/-- 'waymasterlaw09.SteerMaps', WHERE WHAT IT READS IS OF BULK AT MOST 1048576: true; the input reads as it did. -/
def steerMapsUptoRow : OpenClaim := { program := "ytaoaapbbadipfaa", sum := "38164070a3592eea72761ca57feae355de8143f387d23ef0b2aac6fd456b9a2a", func := "waymaster/waymasterlaw09.SteerMaps", spec := "steerMaps", unfollowed := true, recurses := true, apart := false, narrowed := true }
def SteerMapsUptoSaid : Prop := steerMapsUptoRow.holds Try.pinned (OpenSpec.upto steerMapsSpec)

end Rows
end Go.Proofs.Ytaoaapbbadipfaa
