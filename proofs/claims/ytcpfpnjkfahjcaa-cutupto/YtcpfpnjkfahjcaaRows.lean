/-
  No cell of these rows narrows 'for every input' (looked for: loops, veiled, ifaces, maps, wideKeys, modest, calm, conditions, laid).
  DERIVED. THE GIVEN ROWS OF THIS SEAT. 7 by the template 'for every input the law returns true; each argument reads behind the call as it read before'; 0 by the template 'total and deterministic' (their statements: YtcpfpnjkfahjcaaTotals.lean).
  GIVEN WITH THE SEED: the statements are not yours to turn. If you find one false, say at which input.
  Laid BY PROGRAM, IN A SANDBOX (cutbox-rows.mjs): the forced cells as the released guide's own fill.sh prints them over the translation 59366d2ca9688229… (all of the seat's roots in one cut). By AI agents, Wed Nov 11 2026. No macro, syntax, notation, axiom, sorry.
-/
import Derived.Test.YtcpfpnjkfahjcaaChecked
import GoSem.Claim
import GoSem.ClaimJoined
import GoSem.ClaimMapViews
import Derived.JoinedTies
import Derived.KernelRfl
namespace Go.Proofs.Ytcpfpnjkfahjcaa
/- THE CELL 'sum', in the pinned program and in every row, IS THE sha256 OF THE DUMP (.gsa) THAT YtcpfpnjkfahjcaaProg.lean LOADS. Nothing in Lean hashes anything: it is a label: what it is worth is what the hold of that sum in a sandbox is worth. -/
noncomputable def Try.pinned : Pinned := { name := "ytcpfpnjkfahjcaa", sum := "59366d2ca9688229db5d11a83a435f754b18845bf9240212ea9d91ca05eb739c", checked := Try.checked }
namespace Rows
def none {H : Type} : Left H := { results := [], args := [] }

/-- 'scribekeep.Chosen': WHATEVER THE INPUT: true; the input reads as it did. -/
def chosenSpec : ChangeSpec := { name := "chosen", fn := fun _ => fun
  | [d1, d2, d3] => { results := [.lit (.bool true)], args := [d1, d2, d3] }
  | _ => none }
def chosenRow : OpenClaim := { program := "ytcpfpnjkfahjcaa", sum := "59366d2ca9688229db5d11a83a435f754b18845bf9240212ea9d91ca05eb739c", func := "scribe/scribekeep.Chosen", spec := "chosen", inPlace := ["internal/bytealg.IndexByteString"], unfollowed := true, recurses := true, plainKeys := false, apart := false }
def ChosenSaid : Prop := chosenRow.holds Try.pinned (OpenSpec.ofChange chosenSpec)

/-- ITS FALSE NEIGHBOUR: 'it returns false'. Refute it at one input. -/
def chosenWrong : ChangeSpec := { name := "chosen", fn := fun _ => fun
  | [d1, d2, d3] => { results := [.lit (.bool false)], args := [d1, d2, d3] }
  | _ => none }
def ChosenWrongFalsely : Prop := chosenRow.holds Try.pinned (OpenSpec.ofChange chosenWrong)

/-- 'scribekeep.Joined': WHATEVER THE INPUT: true; the input reads as it did. -/
def joinedSpec : ChangeSpec := { name := "joined", fn := fun _ => fun
  | [d1, d2, d3] => { results := [.lit (.bool true)], args := [d1, d2, d3] }
  | _ => none }
def joinedRow : OpenClaim := { program := "ytcpfpnjkfahjcaa", sum := "59366d2ca9688229db5d11a83a435f754b18845bf9240212ea9d91ca05eb739c", func := "scribe/scribekeep.Joined", spec := "joined", inPlace := ["internal/bytealg.IndexByteString"], unfollowed := true, recurses := true, plainKeys := false, apart := false }
def JoinedSaid : Prop := joinedRow.holds Try.pinned (OpenSpec.ofChange joinedSpec)

/-- ITS FALSE NEIGHBOUR: 'it returns false'. Refute it at one input. -/
def joinedWrong : ChangeSpec := { name := "joined", fn := fun _ => fun
  | [d1, d2, d3] => { results := [.lit (.bool false)], args := [d1, d2, d3] }
  | _ => none }
def JoinedWrongFalsely : Prop := joinedRow.holds Try.pinned (OpenSpec.ofChange joinedWrong)

/-- 'scribekeep.Turned': WHATEVER THE INPUT: true; the input reads as it did. -/
def turnedSpec : ChangeSpec := { name := "turned", fn := fun _ => fun
  | [d1, d2] => { results := [.lit (.bool true)], args := [d1, d2] }
  | _ => none }
def turnedRow : OpenClaim := { program := "ytcpfpnjkfahjcaa", sum := "59366d2ca9688229db5d11a83a435f754b18845bf9240212ea9d91ca05eb739c", func := "scribe/scribekeep.Turned", spec := "turned", inPlace := ["internal/bytealg.IndexByteString"], unfollowed := true, recurses := true, plainKeys := false, apart := false }
def TurnedSaid : Prop := turnedRow.holds Try.pinned (OpenSpec.ofChange turnedSpec)

/-- ITS FALSE NEIGHBOUR: 'it returns false'. Refute it at one input. -/
def turnedWrong : ChangeSpec := { name := "turned", fn := fun _ => fun
  | [d1, d2] => { results := [.lit (.bool false)], args := [d1, d2] }
  | _ => none }
def TurnedWrongFalsely : Prop := turnedRow.holds Try.pinned (OpenSpec.ofChange turnedWrong)

/-- 'scribekeep.Furthest': WHATEVER THE INPUT: true; the input reads as it did. -/
def furthestSpec : ChangeSpec := { name := "furthest", fn := fun _ => fun
  | [d1, d2] => { results := [.lit (.bool true)], args := [d1, d2] }
  | _ => none }
def furthestRow : OpenClaim := { program := "ytcpfpnjkfahjcaa", sum := "59366d2ca9688229db5d11a83a435f754b18845bf9240212ea9d91ca05eb739c", func := "scribe/scribekeep.Furthest", spec := "furthest", inPlace := ["internal/bytealg.IndexByteString"], unfollowed := true, recurses := true, plainKeys := false, apart := false }
def FurthestSaid : Prop := furthestRow.holds Try.pinned (OpenSpec.ofChange furthestSpec)

/-- ITS FALSE NEIGHBOUR: 'it returns false'. Refute it at one input. -/
def furthestWrong : ChangeSpec := { name := "furthest", fn := fun _ => fun
  | [d1, d2] => { results := [.lit (.bool false)], args := [d1, d2] }
  | _ => none }
def FurthestWrongFalsely : Prop := furthestRow.holds Try.pinned (OpenSpec.ofChange furthestWrong)

/-- 'scribekeep.Exact': WHATEVER THE INPUT: true; the input reads as it did. -/
def exactSpec : ChangeSpec := { name := "exact", fn := fun _ => fun
  | [d1, d2] => { results := [.lit (.bool true)], args := [d1, d2] }
  | _ => none }
def exactRow : OpenClaim := { program := "ytcpfpnjkfahjcaa", sum := "59366d2ca9688229db5d11a83a435f754b18845bf9240212ea9d91ca05eb739c", func := "scribe/scribekeep.Exact", spec := "exact", inPlace := ["internal/bytealg.IndexByteString"], unfollowed := true, recurses := true, plainKeys := false, apart := false }
def ExactSaid : Prop := exactRow.holds Try.pinned (OpenSpec.ofChange exactSpec)

/-- ITS FALSE NEIGHBOUR: 'it returns false'. Refute it at one input. -/
def exactWrong : ChangeSpec := { name := "exact", fn := fun _ => fun
  | [d1, d2] => { results := [.lit (.bool false)], args := [d1, d2] }
  | _ => none }
def ExactWrongFalsely : Prop := exactRow.holds Try.pinned (OpenSpec.ofChange exactWrong)

/-- 'scribekeep.Counted': WHATEVER THE INPUT: true; the input reads as it did. -/
def countedSpec : ChangeSpec := { name := "counted", fn := fun _ => fun
  | [d1, d2, d3, d4, d5] => { results := [.lit (.bool true)], args := [d1, d2, d3, d4, d5] }
  | _ => none }
def countedRow : OpenClaim := { program := "ytcpfpnjkfahjcaa", sum := "59366d2ca9688229db5d11a83a435f754b18845bf9240212ea9d91ca05eb739c", func := "scribe/scribekeep.Counted", spec := "counted", inPlace := ["internal/bytealg.IndexByteString"], unfollowed := true, recurses := true, plainKeys := false, apart := false }
def CountedSaid : Prop := countedRow.holds Try.pinned (OpenSpec.ofChange countedSpec)

/-- ITS FALSE NEIGHBOUR: 'it returns false'. Refute it at one input. -/
def countedWrong : ChangeSpec := { name := "counted", fn := fun _ => fun
  | [d1, d2, d3, d4, d5] => { results := [.lit (.bool false)], args := [d1, d2, d3, d4, d5] }
  | _ => none }
def CountedWrongFalsely : Prop := countedRow.holds Try.pinned (OpenSpec.ofChange countedWrong)

/-- 'scribekeep.Cut': WHATEVER THE INPUT: true; the input reads as it did. -/
def cutSpec : ChangeSpec := { name := "cut", fn := fun _ => fun
  | [d1, d2, d3, d4] => { results := [.lit (.bool true)], args := [d1, d2, d3, d4] }
  | _ => none }
def cutRow : OpenClaim := { program := "ytcpfpnjkfahjcaa", sum := "59366d2ca9688229db5d11a83a435f754b18845bf9240212ea9d91ca05eb739c", func := "scribe/scribekeep.Cut", spec := "cut", inPlace := ["internal/bytealg.IndexByteString", "internal/bytealg.IndexByte"], unfollowed := true, recurses := true, plainKeys := false, apart := false }
def CutSaid : Prop := cutRow.holds Try.pinned (OpenSpec.ofChange cutSpec)

/-- ITS FALSE NEIGHBOUR: 'it returns false'. Refute it at one input. -/
def cutWrong : ChangeSpec := { name := "cut", fn := fun _ => fun
  | [d1, d2, d3, d4] => { results := [.lit (.bool false)], args := [d1, d2, d3, d4] }
  | _ => none }
def CutWrongFalsely : Prop := cutRow.holds Try.pinned (OpenSpec.ofChange cutWrong)

/- THE SECOND FORM. 'bulk': how many values and letters a reading holds, each counted each time it is reached (what is shared counts as often as it is met; a slice's spare places count too). A statement '..UptoSaid' is the law's where the arguments, and the package variables that the reading takes, are together of bulk at most 1048576: NARROWER than '..Said'. Prove '..Said' where nothing that the law and all that it calls make is longer than what came in: it says more and counts as full. Else prove '..UptoSaid'. A law counts once. -/
mutual
def uptoBulk {H : Type} : DataW H → Nat
  | .lit (.string bytes) => bytes.length + 1
  | .lit _ => 1
  | .nil => 1
  | .ptr d => uptoBulk d + 1
  | .slice elems spare => uptoBulkAll elems + uptoBulkAll spare + 1
  | .agg parts => uptoBulkAll parts + 1
  | .iface _ d => uptoBulk d + 1
  | .map entries => uptoBulkEntries entries + 1
  | .held _ => 1
def uptoBulkAll {H : Type} : List (DataW H) → Nat
  | [] => 0
  | d :: r => uptoBulk d + uptoBulkAll r
def uptoBulkEntries {H : Type} : List (Lit × DataW H) → Nat
  | [] => 0
  | x :: r => uptoBulkEntry x + uptoBulkEntries r
def uptoBulkEntry {H : Type} : Lit × DataW H → Nat
  | (.string bytes, d) => bytes.length + uptoBulk d + 1
  | (_, d) => uptoBulk d + 1
 end
def uptoSmall : (H : Type) → List (DataW H) → Bool := fun _ ds => decide (uptoBulkAll ds ≤ 1048576)
def OpenSpec.upto (s : _root_.Go.ChangeSpec) : _root_.Go.OpenSpec := { _root_.Go.OpenSpec.ofChange s with cond := some uptoSmall }

/-- 'scribekeep.Chosen', WHERE WHAT IT READS IS OF BULK AT MOST 1048576: true; the input reads as it did. -/
def chosenUptoRow : OpenClaim := { program := "ytcpfpnjkfahjcaa", sum := "59366d2ca9688229db5d11a83a435f754b18845bf9240212ea9d91ca05eb739c", func := "scribe/scribekeep.Chosen", spec := "chosen", inPlace := ["internal/bytealg.IndexByteString"], unfollowed := true, recurses := true, plainKeys := false, apart := false, narrowed := true }
def ChosenUptoSaid : Prop := chosenUptoRow.holds Try.pinned (OpenSpec.upto chosenSpec)

/-- 'scribekeep.Joined', WHERE WHAT IT READS IS OF BULK AT MOST 1048576: true; the input reads as it did. -/
def joinedUptoRow : OpenClaim := { program := "ytcpfpnjkfahjcaa", sum := "59366d2ca9688229db5d11a83a435f754b18845bf9240212ea9d91ca05eb739c", func := "scribe/scribekeep.Joined", spec := "joined", inPlace := ["internal/bytealg.IndexByteString"], unfollowed := true, recurses := true, plainKeys := false, apart := false, narrowed := true }
def JoinedUptoSaid : Prop := joinedUptoRow.holds Try.pinned (OpenSpec.upto joinedSpec)

/-- 'scribekeep.Turned', WHERE WHAT IT READS IS OF BULK AT MOST 1048576: true; the input reads as it did. -/
def turnedUptoRow : OpenClaim := { program := "ytcpfpnjkfahjcaa", sum := "59366d2ca9688229db5d11a83a435f754b18845bf9240212ea9d91ca05eb739c", func := "scribe/scribekeep.Turned", spec := "turned", inPlace := ["internal/bytealg.IndexByteString"], unfollowed := true, recurses := true, plainKeys := false, apart := false, narrowed := true }
def TurnedUptoSaid : Prop := turnedUptoRow.holds Try.pinned (OpenSpec.upto turnedSpec)

/-- 'scribekeep.Furthest', WHERE WHAT IT READS IS OF BULK AT MOST 1048576: true; the input reads as it did. -/
def furthestUptoRow : OpenClaim := { program := "ytcpfpnjkfahjcaa", sum := "59366d2ca9688229db5d11a83a435f754b18845bf9240212ea9d91ca05eb739c", func := "scribe/scribekeep.Furthest", spec := "furthest", inPlace := ["internal/bytealg.IndexByteString"], unfollowed := true, recurses := true, plainKeys := false, apart := false, narrowed := true }
def FurthestUptoSaid : Prop := furthestUptoRow.holds Try.pinned (OpenSpec.upto furthestSpec)

/-- 'scribekeep.Exact', WHERE WHAT IT READS IS OF BULK AT MOST 1048576: true; the input reads as it did. -/
def exactUptoRow : OpenClaim := { program := "ytcpfpnjkfahjcaa", sum := "59366d2ca9688229db5d11a83a435f754b18845bf9240212ea9d91ca05eb739c", func := "scribe/scribekeep.Exact", spec := "exact", inPlace := ["internal/bytealg.IndexByteString"], unfollowed := true, recurses := true, plainKeys := false, apart := false, narrowed := true }
def ExactUptoSaid : Prop := exactUptoRow.holds Try.pinned (OpenSpec.upto exactSpec)

/-- 'scribekeep.Counted', WHERE WHAT IT READS IS OF BULK AT MOST 1048576: true; the input reads as it did. -/
def countedUptoRow : OpenClaim := { program := "ytcpfpnjkfahjcaa", sum := "59366d2ca9688229db5d11a83a435f754b18845bf9240212ea9d91ca05eb739c", func := "scribe/scribekeep.Counted", spec := "counted", inPlace := ["internal/bytealg.IndexByteString"], unfollowed := true, recurses := true, plainKeys := false, apart := false, narrowed := true }
def CountedUptoSaid : Prop := countedUptoRow.holds Try.pinned (OpenSpec.upto countedSpec)

/-- 'scribekeep.Cut', WHERE WHAT IT READS IS OF BULK AT MOST 1048576: true; the input reads as it did. -/
def cutUptoRow : OpenClaim := { program := "ytcpfpnjkfahjcaa", sum := "59366d2ca9688229db5d11a83a435f754b18845bf9240212ea9d91ca05eb739c", func := "scribe/scribekeep.Cut", spec := "cut", inPlace := ["internal/bytealg.IndexByteString", "internal/bytealg.IndexByte"], unfollowed := true, recurses := true, plainKeys := false, apart := false, narrowed := true }
def CutUptoSaid : Prop := cutUptoRow.holds Try.pinned (OpenSpec.upto cutSpec)

end Rows
end Go.Proofs.Ytcpfpnjkfahjcaa
