/-
  No cell of these rows narrows 'for every input' (looked for: loops, veiled, ifaces, maps, wideKeys, modest, calm, conditions, laid).
  DERIVED. THE GIVEN ROWS OF THIS SEAT. 7 by the template 'for every input the law returns true; each argument reads behind the call as it read before'; 0 by the template 'total and deterministic' (their statements: YthhbommdabedeaaTotals.lean).
  GIVEN WITH THE SEED: the statements are not yours to turn. If you find one false, say at which input.
  Laid BY PROGRAM, IN A SANDBOX (cutbox-rows.mjs): the forced cells as the released guide's own fill.sh prints them over the translation 0ecdd2abef915cd1… (all of the seat's roots in one cut). By AI agents, Wed Nov 11 2026. No macro, syntax, notation, axiom, sorry.
-/
import Derived.Test.YthhbommdabedeaaChecked
import GoSem.Claim
import GoSem.ClaimJoined
import GoSem.ClaimMapViews
import Derived.JoinedTies
import Derived.KernelRfl
namespace Go.Proofs.Ythhbommdabedeaa
/- THE CELL 'sum', in the pinned program and in every row, IS THE sha256 OF THE DUMP (.gsa) THAT YthhbommdabedeaaProg.lean LOADS. Nothing in Lean hashes anything: it is a label: what it is worth is what the hold of that sum in a sandbox is worth. -/
noncomputable def Try.pinned : Pinned := { name := "ythhbommdabedeaa", sum := "0ecdd2abef915cd1d511ccac16a8f92c1ea7c2961774c9d0c3e5a5ca7ba571e6", checked := Try.checked }
namespace Rows
def none {H : Type} : Left H := { results := [], args := [] }

/-- 'waymasterlaw02.DescBytes': WHATEVER THE INPUT: true; the input reads as it did. -/
def descBytesSpec : ChangeSpec := { name := "descBytes", fn := fun _ => fun
  | [d] => { results := [.lit (.bool true)], args := [d] }
  | _ => none }
def descBytesRow : OpenClaim := { program := "ythhbommdabedeaa", sum := "0ecdd2abef915cd1d511ccac16a8f92c1ea7c2961774c9d0c3e5a5ca7ba571e6", func := "waymaster/waymasterlaw02.DescBytes", spec := "descBytes", unfollowed := true, recurses := true, apart := false }
def DescBytesSaid : Prop := descBytesRow.holds Try.pinned (OpenSpec.ofChange descBytesSpec)

/-- ITS FALSE NEIGHBOUR: 'it returns false'. Refute it at one input. -/
def descBytesWrong : ChangeSpec := { name := "descBytes", fn := fun _ => fun
  | [d] => { results := [.lit (.bool false)], args := [d] }
  | _ => none }
def DescBytesWrongFalsely : Prop := descBytesRow.holds Try.pinned (OpenSpec.ofChange descBytesWrong)

/-- 'waymasterlaw02.DescDecodes': WHATEVER THE INPUT: true; the input reads as it did. -/
def descDecodesSpec : ChangeSpec := { name := "descDecodes", fn := fun _ => fun
  | [d] => { results := [.lit (.bool true)], args := [d] }
  | _ => none }
def descDecodesRow : OpenClaim := { program := "ythhbommdabedeaa", sum := "0ecdd2abef915cd1d511ccac16a8f92c1ea7c2961774c9d0c3e5a5ca7ba571e6", func := "waymaster/waymasterlaw02.DescDecodes", spec := "descDecodes", unfollowed := true, recurses := true, apart := false }
def DescDecodesSaid : Prop := descDecodesRow.holds Try.pinned (OpenSpec.ofChange descDecodesSpec)

/-- ITS FALSE NEIGHBOUR: 'it returns false'. Refute it at one input. -/
def descDecodesWrong : ChangeSpec := { name := "descDecodes", fn := fun _ => fun
  | [d] => { results := [.lit (.bool false)], args := [d] }
  | _ => none }
def DescDecodesWrongFalsely : Prop := descDecodesRow.holds Try.pinned (OpenSpec.ofChange descDecodesWrong)

/-- 'waymasterlaw02.DescBack': WHATEVER THE INPUT: true; the input reads as it did. -/
def descBackSpec : ChangeSpec := { name := "descBack", fn := fun _ => fun
  | [d1, d2] => { results := [.lit (.bool true)], args := [d1, d2] }
  | _ => none }
def descBackRow : OpenClaim := { program := "ythhbommdabedeaa", sum := "0ecdd2abef915cd1d511ccac16a8f92c1ea7c2961774c9d0c3e5a5ca7ba571e6", func := "waymaster/waymasterlaw02.DescBack", spec := "descBack", unfollowed := true, recurses := true, apart := false }
def DescBackSaid : Prop := descBackRow.holds Try.pinned (OpenSpec.ofChange descBackSpec)

/-- ITS FALSE NEIGHBOUR: 'it returns false'. Refute it at one input. -/
def descBackWrong : ChangeSpec := { name := "descBack", fn := fun _ => fun
  | [d1, d2] => { results := [.lit (.bool false)], args := [d1, d2] }
  | _ => none }
def DescBackWrongFalsely : Prop := descBackRow.holds Try.pinned (OpenSpec.ofChange descBackWrong)

/-- 'waymasterlaw02.DescTurns': WHATEVER THE INPUT: true; the input reads as it did. -/
def descTurnsSpec : ChangeSpec := { name := "descTurns", fn := fun _ => fun
  | [d1, d2, d3] => { results := [.lit (.bool true)], args := [d1, d2, d3] }
  | _ => none }
def descTurnsRow : OpenClaim := { program := "ythhbommdabedeaa", sum := "0ecdd2abef915cd1d511ccac16a8f92c1ea7c2961774c9d0c3e5a5ca7ba571e6", func := "waymaster/waymasterlaw02.DescTurns", spec := "descTurns", unfollowed := true, recurses := true, apart := false }
def DescTurnsSaid : Prop := descTurnsRow.holds Try.pinned (OpenSpec.ofChange descTurnsSpec)

/-- ITS FALSE NEIGHBOUR: 'it returns false'. Refute it at one input. -/
def descTurnsWrong : ChangeSpec := { name := "descTurns", fn := fun _ => fun
  | [d1, d2, d3] => { results := [.lit (.bool false)], args := [d1, d2, d3] }
  | _ => none }
def DescTurnsWrongFalsely : Prop := descTurnsRow.holds Try.pinned (OpenSpec.ofChange descTurnsWrong)

/-- 'waymasterlaw02.DescDone': WHATEVER THE INPUT: true; the input reads as it did. -/
def descDoneSpec : ChangeSpec := { name := "descDone", fn := fun _ => fun
  | [d] => { results := [.lit (.bool true)], args := [d] }
  | _ => none }
def descDoneRow : OpenClaim := { program := "ythhbommdabedeaa", sum := "0ecdd2abef915cd1d511ccac16a8f92c1ea7c2961774c9d0c3e5a5ca7ba571e6", func := "waymaster/waymasterlaw02.DescDone", spec := "descDone", unfollowed := true, recurses := true, apart := false }
def DescDoneSaid : Prop := descDoneRow.holds Try.pinned (OpenSpec.ofChange descDoneSpec)

/-- ITS FALSE NEIGHBOUR: 'it returns false'. Refute it at one input. -/
def descDoneWrong : ChangeSpec := { name := "descDone", fn := fun _ => fun
  | [d] => { results := [.lit (.bool false)], args := [d] }
  | _ => none }
def DescDoneWrongFalsely : Prop := descDoneRow.holds Try.pinned (OpenSpec.ofChange descDoneWrong)

/-- 'waymasterlaw02.DescApart': WHATEVER THE INPUT: true; the input reads as it did. -/
def descApartSpec : ChangeSpec := { name := "descApart", fn := fun _ => fun
  | [d1, d2] => { results := [.lit (.bool true)], args := [d1, d2] }
  | _ => none }
def descApartRow : OpenClaim := { program := "ythhbommdabedeaa", sum := "0ecdd2abef915cd1d511ccac16a8f92c1ea7c2961774c9d0c3e5a5ca7ba571e6", func := "waymaster/waymasterlaw02.DescApart", spec := "descApart", unfollowed := true, recurses := true, apart := false }
def DescApartSaid : Prop := descApartRow.holds Try.pinned (OpenSpec.ofChange descApartSpec)

/-- ITS FALSE NEIGHBOUR: 'it returns false'. Refute it at one input. -/
def descApartWrong : ChangeSpec := { name := "descApart", fn := fun _ => fun
  | [d1, d2] => { results := [.lit (.bool false)], args := [d1, d2] }
  | _ => none }
def DescApartWrongFalsely : Prop := descApartRow.holds Try.pinned (OpenSpec.ofChange descApartWrong)

/-- 'waymasterlaw02.DescEnds': WHATEVER THE INPUT: true; the input reads as it did. -/
def descEndsSpec : ChangeSpec := { name := "descEnds", fn := fun _ => fun
  | [d1, d2, d3] => { results := [.lit (.bool true)], args := [d1, d2, d3] }
  | _ => none }
def descEndsRow : OpenClaim := { program := "ythhbommdabedeaa", sum := "0ecdd2abef915cd1d511ccac16a8f92c1ea7c2961774c9d0c3e5a5ca7ba571e6", func := "waymaster/waymasterlaw02.DescEnds", spec := "descEnds", unfollowed := true, recurses := true, apart := false }
def DescEndsSaid : Prop := descEndsRow.holds Try.pinned (OpenSpec.ofChange descEndsSpec)

/-- ITS FALSE NEIGHBOUR: 'it returns false'. Refute it at one input. -/
def descEndsWrong : ChangeSpec := { name := "descEnds", fn := fun _ => fun
  | [d1, d2, d3] => { results := [.lit (.bool false)], args := [d1, d2, d3] }
  | _ => none }
def DescEndsWrongFalsely : Prop := descEndsRow.holds Try.pinned (OpenSpec.ofChange descEndsWrong)

/- THE SECOND FORM. 'bulk': how many values and letters a reading holds, each counted each time it is reached (what is shared counts as often as it is met; a slice's spare places count too). A statement '..UptoSaid' is the law's where the arguments, and the package variables that the reading takes, are together of bulk at most 1048576: NARROWER than '..Said'. Prove '..Said' where nothing that the law and all that it calls make is longer than what came in: it says more and counts as full. Else prove '..UptoSaid'. A law counts once. -/
mutual
def uptoBulk {H : Type} : DataW H → Nat
  | .lit (.string bytes) => bytes.length + 1
  | .lit _ => 1
  | .nil => 1
  | .ptr d => uptoBulk d + 1
  | .slice elems spare => uptoBulkAll elems + uptoBulkAll spare + 1
  | .agg parts => uptoBulkAll parts + 1
  | .iface _ d => uptoBulk d + 1
  | .map entries => uptoBulkEntries entries + 1
  | .held _ => 1
def uptoBulkAll {H : Type} : List (DataW H) → Nat
  | [] => 0
  | d :: r => uptoBulk d + uptoBulkAll r
def uptoBulkEntries {H : Type} : List (Lit × DataW H) → Nat
  | [] => 0
  | x :: r => uptoBulkEntry x + uptoBulkEntries r
def uptoBulkEntry {H : Type} : Lit × DataW H → Nat
  | (.string bytes, d) => bytes.length + uptoBulk d + 1
  | (_, d) => uptoBulk d + 1
 end
def uptoSmall : (H : Type) → List (DataW H) → Bool := fun _ ds => decide (uptoBulkAll ds ≤ 1048576)
def OpenSpec.upto (s : _root_.Go.ChangeSpec) : _root_.Go.OpenSpec := { _root_.Go.OpenSpec.ofChange s with cond := some uptoSmall }

/-- 'waymasterlaw02.DescBytes', WHERE WHAT IT READS IS OF BULK AT MOST 1048576: true; the input reads as it did. -/
def descBytesUptoRow : OpenClaim := { program := "ythhbommdabedeaa", sum := "0ecdd2abef915cd1d511ccac16a8f92c1ea7c2961774c9d0c3e5a5ca7ba571e6", func := "waymaster/waymasterlaw02.DescBytes", spec := "descBytes", unfollowed := true, recurses := true, apart := false, narrowed := true }
def DescBytesUptoSaid : Prop := descBytesUptoRow.holds Try.pinned (OpenSpec.upto descBytesSpec)

/-- 'waymasterlaw02.DescDecodes', WHERE WHAT IT READS IS OF BULK AT MOST 1048576: true; the input reads as it did. -/
def descDecodesUptoRow : OpenClaim := { program := "ythhbommdabedeaa", sum := "0ecdd2abef915cd1d511ccac16a8f92c1ea7c2961774c9d0c3e5a5ca7ba571e6", func := "waymaster/waymasterlaw02.DescDecodes", spec := "descDecodes", unfollowed := true, recurses := true, apart := false, narrowed := true }
def DescDecodesUptoSaid : Prop := descDecodesUptoRow.holds Try.pinned (OpenSpec.upto descDecodesSpec)

/-- 'waymasterlaw02.DescBack', WHERE WHAT IT READS IS OF BULK AT MOST 1048576: true; the input reads as it did. -/
def descBackUptoRow : OpenClaim := { program := "ythhbommdabedeaa", sum := "0ecdd2abef915cd1d511ccac16a8f92c1ea7c2961774c9d0c3e5a5ca7ba571e6", func := "waymaster/waymasterlaw02.DescBack", spec := "descBack", unfollowed := true, recurses := true, apart := false, narrowed := true }
def DescBackUptoSaid : Prop := descBackUptoRow.holds Try.pinned (OpenSpec.upto descBackSpec)

/-- 'waymasterlaw02.DescTurns', WHERE WHAT IT READS IS OF BULK AT MOST 1048576: true; the input reads as it did. -/
def descTurnsUptoRow : OpenClaim := { program := "ythhbommdabedeaa", sum := "0ecdd2abef915cd1d511ccac16a8f92c1ea7c2961774c9d0c3e5a5ca7ba571e6", func := "waymaster/waymasterlaw02.DescTurns", spec := "descTurns", unfollowed := true, recurses := true, apart := false, narrowed := true }
def DescTurnsUptoSaid : Prop := descTurnsUptoRow.holds Try.pinned (OpenSpec.upto descTurnsSpec)

/-- 'waymasterlaw02.DescDone', WHERE WHAT IT READS IS OF BULK AT MOST 1048576: true; the input reads as it did. -/
def descDoneUptoRow : OpenClaim := { program := "ythhbommdabedeaa", sum := "0ecdd2abef915cd1d511ccac16a8f92c1ea7c2961774c9d0c3e5a5ca7ba571e6", func := "waymaster/waymasterlaw02.DescDone", spec := "descDone", unfollowed := true, recurses := true, apart := false, narrowed := true }
def DescDoneUptoSaid : Prop := descDoneUptoRow.holds Try.pinned (OpenSpec.upto descDoneSpec)

/-- 'waymasterlaw02.DescApart', WHERE WHAT IT READS IS OF BULK AT MOST 1048576: true; the input reads as it did. -/
def descApartUptoRow : OpenClaim := { program := "ythhbommdabedeaa", sum := "0ecdd2abef915cd1d511ccac16a8f92c1ea7c2961774c9d0c3e5a5ca7ba571e6", func := "waymaster/waymasterlaw02.DescApart", spec := "descApart", unfollowed := true, recurses := true, apart := false, narrowed := true }
def DescApartUptoSaid : Prop := descApartUptoRow.holds Try.pinned (OpenSpec.upto descApartSpec)

/-- 'waymasterlaw02.DescEnds', WHERE WHAT IT READS IS OF BULK AT MOST 1048576: true; the input reads as it did. -/
def descEndsUptoRow : OpenClaim := { program := "ythhbommdabedeaa", sum := "0ecdd2abef915cd1d511ccac16a8f92c1ea7c2961774c9d0c3e5a5ca7ba571e6", func := "waymaster/waymasterlaw02.DescEnds", spec := "descEnds", unfollowed := true, recurses := true, apart := false, narrowed := true }
def DescEndsUptoSaid : Prop := descEndsUptoRow.holds Try.pinned (OpenSpec.upto descEndsSpec)

end Rows
end Go.Proofs.Ythhbommdabedeaa
