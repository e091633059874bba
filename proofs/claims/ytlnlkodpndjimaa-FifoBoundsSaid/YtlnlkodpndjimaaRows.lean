/-
  No cell of these rows narrows 'for every input' (looked for: loops, veiled, ifaces, maps, wideKeys, modest, calm, conditions, laid).
  DERIVED. THE GIVEN ROWS OF THIS SEAT. 7 by the template 'for every input the law returns true; each argument reads behind the call as it read before'; 0 by the template 'total and deterministic' (their statements: YtlnlkodpndjimaaTotals.lean).
  GIVEN WITH THE SEED: the statements are not yours to turn. If you find one false, say at which input.
  Laid BY PROGRAM, IN A SANDBOX (cutbox-rows.mjs): the forced cells as the released guide's own fill.sh prints them over the translation cbe73a3babfca280… (all of the seat's roots in one cut). By AI agents, Wed Nov 11 2026. No macro, syntax, notation, axiom, sorry.
-/
import Derived.Test.YtlnlkodpndjimaaChecked
import GoSem.Claim
import GoSem.ClaimJoined
import GoSem.ClaimMapViews
import Derived.JoinedTies
import Derived.KernelRfl
namespace Go.Proofs.Ytlnlkodpndjimaa
/- THE CELL 'sum', in the pinned program and in every row, IS THE sha256 OF THE DUMP (.gsa) THAT YtlnlkodpndjimaaProg.lean LOADS. Nothing in Lean hashes anything: it is a label: what it is worth is what the hold of that sum in a sandbox is worth. -/
noncomputable def Try.pinned : Pinned := { name := "ytlnlkodpndjimaa", sum := "cbe73a3babfca2802a02b6340d064308fa64a54a478afa219afd6fc58021087b", checked := Try.checked }
namespace Rows
def none {H : Type} : Left H := { results := [], args := [] }

/-- 'waymasterlaw10.FifoDoes': WHATEVER THE INPUT: true; the input reads as it did. -/
def fifoDoesSpec : ChangeSpec := { name := "fifoDoes", fn := fun _ => fun
  | [d1, d2, d3] => { results := [.lit (.bool true)], args := [d1, d2, d3] }
  | _ => none }
def fifoDoesRow : OpenClaim := { program := "ytlnlkodpndjimaa", sum := "cbe73a3babfca2802a02b6340d064308fa64a54a478afa219afd6fc58021087b", func := "waymaster/waymasterlaw10.FifoDoes", spec := "fifoDoes", unfollowed := true, recurses := true, apart := false }
def FifoDoesSaid : Prop := fifoDoesRow.holds Try.pinned (OpenSpec.ofChange fifoDoesSpec)

/-- ITS FALSE NEIGHBOUR: 'it returns false'. Refute it at one input. -/
def fifoDoesWrong : ChangeSpec := { name := "fifoDoes", fn := fun _ => fun
  | [d1, d2, d3] => { results := [.lit (.bool false)], args := [d1, d2, d3] }
  | _ => none }
def FifoDoesWrongFalsely : Prop := fifoDoesRow.holds Try.pinned (OpenSpec.ofChange fifoDoesWrong)

/-- 'waymasterlaw10.FifoNone': WHATEVER THE INPUT: true; the input reads as it did. -/
def fifoNoneSpec : ChangeSpec := { name := "fifoNone", fn := fun _ => fun
  | [d1, d2, d3] => { results := [.lit (.bool true)], args := [d1, d2, d3] }
  | _ => none }
def fifoNoneRow : OpenClaim := { program := "ytlnlkodpndjimaa", sum := "cbe73a3babfca2802a02b6340d064308fa64a54a478afa219afd6fc58021087b", func := "waymaster/waymasterlaw10.FifoNone", spec := "fifoNone", unfollowed := true, recurses := true, apart := false }
def FifoNoneSaid : Prop := fifoNoneRow.holds Try.pinned (OpenSpec.ofChange fifoNoneSpec)

/-- ITS FALSE NEIGHBOUR: 'it returns false'. Refute it at one input. -/
def fifoNoneWrong : ChangeSpec := { name := "fifoNone", fn := fun _ => fun
  | [d1, d2, d3] => { results := [.lit (.bool false)], args := [d1, d2, d3] }
  | _ => none }
def FifoNoneWrongFalsely : Prop := fifoNoneRow.holds Try.pinned (OpenSpec.ofChange fifoNoneWrong)

/-- 'waymasterlaw10.FifoOrder': WHATEVER THE INPUT: true; the input reads as it did. -/
def fifoOrderSpec : ChangeSpec := { name := "fifoOrder", fn := fun _ => fun
  | [d1, d2, d3] => { results := [.lit (.bool true)], args := [d1, d2, d3] }
  | _ => none }
def fifoOrderRow : OpenClaim := { program := "ytlnlkodpndjimaa", sum := "cbe73a3babfca2802a02b6340d064308fa64a54a478afa219afd6fc58021087b", func := "waymaster/waymasterlaw10.FifoOrder", spec := "fifoOrder", unfollowed := true, recurses := true, apart := false }
def FifoOrderSaid : Prop := fifoOrderRow.holds Try.pinned (OpenSpec.ofChange fifoOrderSpec)

/-- ITS FALSE NEIGHBOUR: 'it returns false'. Refute it at one input. -/
def fifoOrderWrong : ChangeSpec := { name := "fifoOrder", fn := fun _ => fun
  | [d1, d2, d3] => { results := [.lit (.bool false)], args := [d1, d2, d3] }
  | _ => none }
def FifoOrderWrongFalsely : Prop := fifoOrderRow.holds Try.pinned (OpenSpec.ofChange fifoOrderWrong)

/-- 'waymasterlaw10.FifoBounds': WHATEVER THE INPUT: true; the input reads as it did. -/
def fifoBoundsSpec : ChangeSpec := { name := "fifoBounds", fn := fun _ => fun
  | [d1, d2, d3] => { results := [.lit (.bool true)], args := [d1, d2, d3] }
  | _ => none }
def fifoBoundsRow : OpenClaim := { program := "ytlnlkodpndjimaa", sum := "cbe73a3babfca2802a02b6340d064308fa64a54a478afa219afd6fc58021087b", func := "waymaster/waymasterlaw10.FifoBounds", spec := "fifoBounds", unfollowed := true, recurses := true, apart := false }
def FifoBoundsSaid : Prop := fifoBoundsRow.holds Try.pinned (OpenSpec.ofChange fifoBoundsSpec)

/-- ITS FALSE NEIGHBOUR: 'it returns false'. Refute it at one input. -/
def fifoBoundsWrong : ChangeSpec := { name := "fifoBounds", fn := fun _ => fun
  | [d1, d2, d3] => { results := [.lit (.bool false)], args := [d1, d2, d3] }
  | _ => none }
def FifoBoundsWrongFalsely : Prop := fifoBoundsRow.holds Try.pinned (OpenSpec.ofChange fifoBoundsWrong)

/-- 'waymasterlaw10.FifoBack': WHATEVER THE INPUT: true; the input reads as it did. -/
def fifoBackSpec : ChangeSpec := { name := "fifoBack", fn := fun _ => fun
  | [d1, d2, d3] => { results := [.lit (.bool true)], args := [d1, d2, d3] }
  | _ => none }
def fifoBackRow : OpenClaim := { program := "ytlnlkodpndjimaa", sum := "cbe73a3babfca2802a02b6340d064308fa64a54a478afa219afd6fc58021087b", func := "waymaster/waymasterlaw10.FifoBack", spec := "fifoBack", unfollowed := true, recurses := true, apart := false }
def FifoBackSaid : Prop := fifoBackRow.holds Try.pinned (OpenSpec.ofChange fifoBackSpec)

/-- ITS FALSE NEIGHBOUR: 'it returns false'. Refute it at one input. -/
def fifoBackWrong : ChangeSpec := { name := "fifoBack", fn := fun _ => fun
  | [d1, d2, d3] => { results := [.lit (.bool false)], args := [d1, d2, d3] }
  | _ => none }
def FifoBackWrongFalsely : Prop := fifoBackRow.holds Try.pinned (OpenSpec.ofChange fifoBackWrong)

/-- 'waymasterlaw10.FifoCuts': WHATEVER THE INPUT: true; the input reads as it did. -/
def fifoCutsSpec : ChangeSpec := { name := "fifoCuts", fn := fun _ => fun
  | [d1, d2, d3, d4, d5] => { results := [.lit (.bool true)], args := [d1, d2, d3, d4, d5] }
  | _ => none }
def fifoCutsRow : OpenClaim := { program := "ytlnlkodpndjimaa", sum := "cbe73a3babfca2802a02b6340d064308fa64a54a478afa219afd6fc58021087b", func := "waymaster/waymasterlaw10.FifoCuts", spec := "fifoCuts", unfollowed := true, recurses := true, apart := false }
def FifoCutsSaid : Prop := fifoCutsRow.holds Try.pinned (OpenSpec.ofChange fifoCutsSpec)

/-- ITS FALSE NEIGHBOUR: 'it returns false'. Refute it at one input. -/
def fifoCutsWrong : ChangeSpec := { name := "fifoCuts", fn := fun _ => fun
  | [d1, d2, d3, d4, d5] => { results := [.lit (.bool false)], args := [d1, d2, d3, d4, d5] }
  | _ => none }
def FifoCutsWrongFalsely : Prop := fifoCutsRow.holds Try.pinned (OpenSpec.ofChange fifoCutsWrong)

/-- 'waymasterlaw10.FifoSums': WHATEVER THE INPUT: true; the input reads as it did. -/
def fifoSumsSpec : ChangeSpec := { name := "fifoSums", fn := fun _ => fun
  | [d1, d2, d3] => { results := [.lit (.bool true)], args := [d1, d2, d3] }
  | _ => none }
def fifoSumsRow : OpenClaim := { program := "ytlnlkodpndjimaa", sum := "cbe73a3babfca2802a02b6340d064308fa64a54a478afa219afd6fc58021087b", func := "waymaster/waymasterlaw10.FifoSums", spec := "fifoSums", unfollowed := true, recurses := true, apart := false }
def FifoSumsSaid : Prop := fifoSumsRow.holds Try.pinned (OpenSpec.ofChange fifoSumsSpec)

/-- ITS FALSE NEIGHBOUR: 'it returns false'. Refute it at one input. -/
def fifoSumsWrong : ChangeSpec := { name := "fifoSums", fn := fun _ => fun
  | [d1, d2, d3] => { results := [.lit (.bool false)], args := [d1, d2, d3] }
  | _ => none }
def FifoSumsWrongFalsely : Prop := fifoSumsRow.holds Try.pinned (OpenSpec.ofChange fifoSumsWrong)

/- THE SECOND FORM. 'bulk': how many values and letters a reading holds, each counted each time it is reached (what is shared counts as often as it is met; a slice's spare places count too). A statement '..UptoSaid' is the law's where the arguments, and the package variables that the reading takes, are together of bulk at most 1048576: NARROWER than '..Said'. Prove '..Said' where nothing that the law and all that it calls make is longer than what came in: it says more and counts as full. Else prove '..UptoSaid'. A law counts once. -/
mutual
def uptoBulk {H : Type} : DataW H → Nat
  | .lit (.string bytes) => bytes.length + 1
  | .lit _ => 1
  | .nil => 1
  | .ptr d => uptoBulk d + 1
  | .slice elems spare => uptoBulkAll elems + uptoBulkAll spare + 1
  | .agg parts => uptoBulkAll parts + 1
  | .iface _ d => uptoBulk d + 1
  | .map entries => uptoBulkEntries entries + 1
  | .held _ => 1
def uptoBulkAll {H : Type} : List (DataW H) → Nat
  | [] => 0
  | d :: r => uptoBulk d + uptoBulkAll r
def uptoBulkEntries {H : Type} : List (Lit × DataW H) → Nat
  | [] => 0
  | x :: r => uptoBulkEntry x + uptoBulkEntries r
def uptoBulkEntry {H : Type} : Lit × DataW H → Nat
  | (.string bytes, d) => bytes.length + uptoBulk d + 1
  | (_, d) => uptoBulk d + 1
 end
def uptoSmall : (H : Type) → List (DataW H) → Bool := fun _ ds => decide (uptoBulkAll ds ≤ 1048576)
def OpenSpec.upto (s : _root_.Go.ChangeSpec) : _root_.Go.OpenSpec := { _root_.Go.OpenSpec.ofChange s with cond := some uptoSmall }

/-- 'waymasterlaw10.FifoDoes', WHERE WHAT IT READS IS OF BULK AT MOST 1048576: true; the input reads as it did. -/
def fifoDoesUptoRow : OpenClaim := { program := "ytlnlkodpndjimaa", sum := "cbe73a3babfca2802a02b6340d064308fa64a54a478afa219afd6fc58021087b", func := "waymaster/waymasterlaw10.FifoDoes", spec := "fifoDoes", unfollowed := true, recurses := true, apart := false, narrowed := true }
def FifoDoesUptoSaid : Prop := fifoDoesUptoRow.holds Try.pinned (OpenSpec.upto fifoDoesSpec)

/-- 'waymasterlaw10.FifoNone', WHERE WHAT IT READS IS OF BULK AT MOST 1048576: true; the input reads as it did. -/
def fifoNoneUptoRow : OpenClaim := { program := "ytlnlkodpndjimaa", sum := "cbe73a3babfca2802a02b6340d064308fa64a54a478afa219afd6fc58021087b", func := "waymaster/waymasterlaw10.FifoNone", spec := "fifoNone", unfollowed := true, recurses := true, apart := false, narrowed := true }
def FifoNoneUptoSaid : Prop := fifoNoneUptoRow.holds Try.pinned (OpenSpec.upto fifoNoneSpec)

/-- 'waymasterlaw10.FifoOrder', WHERE WHAT IT READS IS OF BULK AT MOST 1048576: true; the input reads as it did. -/
def fifoOrderUptoRow : OpenClaim := { program := "ytlnlkodpndjimaa", sum := "cbe73a3babfca2802a02b6340d064308fa64a54a478afa219afd6fc58021087b", func := "waymaster/waymasterlaw10.FifoOrder", spec := "fifoOrder", unfollowed := true, recurses := true, apart := false, narrowed := true }
def FifoOrderUptoSaid : Prop := fifoOrderUptoRow.holds Try.pinned (OpenSpec.upto fifoOrderSpec)

/-- 'waymasterlaw10.FifoBounds', WHERE WHAT IT READS IS OF BULK AT MOST 1048576: true; the input reads as it did. -/
def fifoBoundsUptoRow : OpenClaim := { program := "ytlnlkodpndjimaa", sum := "cbe73a3babfca2802a02b6340d064308fa64a54a478afa219afd6fc58021087b", func := "waymaster/waymasterlaw10.FifoBounds", spec := "fifoBounds", unfollowed := true, recurses := true, apart := false, narrowed := true }
def FifoBoundsUptoSaid : Prop := fifoBoundsUptoRow.holds Try.pinned (OpenSpec.upto fifoBoundsSpec)

/-- 'waymasterlaw10.FifoBack', WHERE WHAT IT READS IS OF BULK AT MOST 1048576: true; the input reads as it did. -/
def fifoBackUptoRow : OpenClaim := { program := "ytlnlkodpndjimaa", sum := "cbe73a3babfca2802a02b6340d064308fa64a54a478afa219afd6fc58021087b", func := "waymaster/waymasterlaw10.FifoBack", spec := "fifoBack", unfollowed := true, recurses := true, apart := false, narrowed := true }
def FifoBackUptoSaid : Prop := fifoBackUptoRow.holds Try.pinned (OpenSpec.upto fifoBackSpec)

/-- 'waymasterlaw10.FifoCuts', WHERE WHAT IT READS IS OF BULK AT MOST 1048576: true; the input reads as it did. -/
def fifoCutsUptoRow : OpenClaim := { program := "ytlnlkodpndjimaa", sum := "cbe73a3babfca2802a02b6340d064308fa64a54a478afa219afd6fc58021087b", func := "waymaster/waymasterlaw10.FifoCuts", spec := "fifoCuts", unfollowed := true, recurses := true, apart := false, narrowed := true }
def FifoCutsUptoSaid : Prop := fifoCutsUptoRow.holds Try.pinned (OpenSpec.upto fifoCutsSpec)

/-- 'waymasterlaw10.FifoSums', WHERE WHAT IT READS IS OF BULK AT MOST 1048576: true; the input reads as it did. -/
def fifoSumsUptoRow : OpenClaim := { program := "ytlnlkodpndjimaa", sum := "cbe73a3babfca2802a02b6340d064308fa64a54a478afa219afd6fc58021087b", func := "waymaster/waymasterlaw10.FifoSums", spec := "fifoSums", unfollowed := true, recurses := true, apart := false, narrowed := true }
def FifoSumsUptoSaid : Prop := fifoSumsUptoRow.holds Try.pinned (OpenSpec.upto fifoSumsSpec)

end Rows
end Go.Proofs.Ytlnlkodpndjimaa
