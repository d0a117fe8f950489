/-
  No cell of these rows narrows 'for every input' (looked for: loops, veiled, ifaces, maps, wideKeys, modest, calm, conditions, laid).
  DERIVED. THE GIVEN ROWS OF THIS SEAT. 8 by the template 'for every input the law returns true; each argument reads behind the call as it read before'; 0 by the template 'total and deterministic' (their statements: YtdjhhnolcafkiaaTotals.lean).
  GIVEN WITH THE SEED: the statements are not yours to turn. If you find one false, say at which input.
  Laid BY PROGRAM, IN A SANDBOX (cutbox-rows.mjs): the forced cells as the released guide's own fill.sh prints them over the translation 7563cdf5efaf0bbe… (all of the seat's roots in one cut). By AI agents, Wed Nov 11 2026. No macro, syntax, notation, axiom, sorry.
-/
import Derived.Test.YtdjhhnolcafkiaaChecked
import GoSem.Claim
import GoSem.ClaimJoined
import GoSem.ClaimMapViews
import Derived.JoinedTies
import Derived.KernelRfl
namespace Go.Proofs.Ytdjhhnolcafkiaa
/- THE CELL 'sum', in the pinned program and in every row, IS THE sha256 OF THE DUMP (.gsa) THAT YtdjhhnolcafkiaaProg.lean LOADS. Nothing in Lean hashes anything: it is a label: what it is worth is what the hold of that sum in a sandbox is worth. -/
noncomputable def Try.pinned : Pinned := { name := "ytdjhhnolcafkiaa", sum := "7563cdf5efaf0bbe115fefa40d177405ae37b883e45fcca0219b431e1555218e", checked := Try.checked }
namespace Rows
def none {H : Type} : Left H := { results := [], args := [] }

/-- 'menderlaw.Packets': WHATEVER THE INPUT: true; the input reads as it did. -/
def packetsSpec : ChangeSpec := { name := "packets", fn := fun _ => fun
  | [d1, d2] => { results := [.lit (.bool true)], args := [d1, d2] }
  | _ => none }
def packetsRow : OpenClaim := { program := "ytdjhhnolcafkiaa", sum := "7563cdf5efaf0bbe115fefa40d177405ae37b883e45fcca0219b431e1555218e", func := "mender/menderlaw.Packets", spec := "packets", recurses := true, apart := false }
def PacketsSaid : Prop := packetsRow.holds Try.pinned (OpenSpec.ofChange packetsSpec)

/-- ITS FALSE NEIGHBOUR: 'it returns false'. Refute it at one input. -/
def packetsWrong : ChangeSpec := { name := "packets", fn := fun _ => fun
  | [d1, d2] => { results := [.lit (.bool false)], args := [d1, d2] }
  | _ => none }
def PacketsWrongFalsely : Prop := packetsRow.holds Try.pinned (OpenSpec.ofChange packetsWrong)

/-- 'menderlaw.Reports': WHATEVER THE INPUT: true; the input reads as it did. -/
def reportsSpec : ChangeSpec := { name := "reports", fn := fun _ => fun
  | [d1, d2] => { results := [.lit (.bool true)], args := [d1, d2] }
  | _ => none }
def reportsRow : OpenClaim := { program := "ytdjhhnolcafkiaa", sum := "7563cdf5efaf0bbe115fefa40d177405ae37b883e45fcca0219b431e1555218e", func := "mender/menderlaw.Reports", spec := "reports", recurses := true, apart := false }
def ReportsSaid : Prop := reportsRow.holds Try.pinned (OpenSpec.ofChange reportsSpec)

/-- ITS FALSE NEIGHBOUR: 'it returns false'. Refute it at one input. -/
def reportsWrong : ChangeSpec := { name := "reports", fn := fun _ => fun
  | [d1, d2] => { results := [.lit (.bool false)], args := [d1, d2] }
  | _ => none }
def ReportsWrongFalsely : Prop := reportsRow.holds Try.pinned (OpenSpec.ofChange reportsWrong)

/-- 'menderkeep.Round': WHATEVER THE INPUT: true; the input reads as it did. -/
def roundSpec : ChangeSpec := { name := "round", fn := fun _ => fun
  | [d1, d2] => { results := [.lit (.bool true)], args := [d1, d2] }
  | _ => none }
def roundRow : OpenClaim := { program := "ytdjhhnolcafkiaa", sum := "7563cdf5efaf0bbe115fefa40d177405ae37b883e45fcca0219b431e1555218e", func := "mender/menderkeep.Round", spec := "round", apart := false }
def RoundSaid : Prop := roundRow.holds Try.pinned (OpenSpec.ofChange roundSpec)

/-- ITS FALSE NEIGHBOUR: 'it returns false'. Refute it at one input. -/
def roundWrong : ChangeSpec := { name := "round", fn := fun _ => fun
  | [d1, d2] => { results := [.lit (.bool false)], args := [d1, d2] }
  | _ => none }
def RoundWrongFalsely : Prop := roundRow.holds Try.pinned (OpenSpec.ofChange roundWrong)

/-- 'menderkeep.Asked': WHATEVER THE INPUT: true; the input reads as it did. -/
def askedSpec : ChangeSpec := { name := "asked", fn := fun _ => fun
  | [d1, d2, d3, d4, d5] => { results := [.lit (.bool true)], args := [d1, d2, d3, d4, d5] }
  | _ => none }
def askedRow : OpenClaim := { program := "ytdjhhnolcafkiaa", sum := "7563cdf5efaf0bbe115fefa40d177405ae37b883e45fcca0219b431e1555218e", func := "mender/menderkeep.Asked", spec := "asked", apart := false }
def AskedSaid : Prop := askedRow.holds Try.pinned (OpenSpec.ofChange askedSpec)

/-- ITS FALSE NEIGHBOUR: 'it returns false'. Refute it at one input. -/
def askedWrong : ChangeSpec := { name := "asked", fn := fun _ => fun
  | [d1, d2, d3, d4, d5] => { results := [.lit (.bool false)], args := [d1, d2, d3, d4, d5] }
  | _ => none }
def AskedWrongFalsely : Prop := askedRow.holds Try.pinned (OpenSpec.ofChange askedWrong)

/-- 'menderkeep.Once': WHATEVER THE INPUT: true; the input reads as it did. -/
def onceSpec : ChangeSpec := { name := "once", fn := fun _ => fun
  | [d1, d2, d3] => { results := [.lit (.bool true)], args := [d1, d2, d3] }
  | _ => none }
def onceRow : OpenClaim := { program := "ytdjhhnolcafkiaa", sum := "7563cdf5efaf0bbe115fefa40d177405ae37b883e45fcca0219b431e1555218e", func := "mender/menderkeep.Once", spec := "once", unfollowed := true, recurses := true, apart := false }
def OnceSaid : Prop := onceRow.holds Try.pinned (OpenSpec.ofChange onceSpec)

/-- ITS FALSE NEIGHBOUR: 'it returns false'. Refute it at one input. -/
def onceWrong : ChangeSpec := { name := "once", fn := fun _ => fun
  | [d1, d2, d3] => { results := [.lit (.bool false)], args := [d1, d2, d3] }
  | _ => none }
def OnceWrongFalsely : Prop := onceRow.holds Try.pinned (OpenSpec.ofChange onceWrong)

/-- 'menderkeep.Turned': WHATEVER THE INPUT: true; the input reads as it did. -/
def turnedSpec : ChangeSpec := { name := "turned", fn := fun _ => fun
  | [d1, d2, d3] => { results := [.lit (.bool true)], args := [d1, d2, d3] }
  | _ => none }
def turnedRow : OpenClaim := { program := "ytdjhhnolcafkiaa", sum := "7563cdf5efaf0bbe115fefa40d177405ae37b883e45fcca0219b431e1555218e", func := "mender/menderkeep.Turned", spec := "turned", unfollowed := true, recurses := true, apart := false }
def TurnedSaid : Prop := turnedRow.holds Try.pinned (OpenSpec.ofChange turnedSpec)

/-- ITS FALSE NEIGHBOUR: 'it returns false'. Refute it at one input. -/
def turnedWrong : ChangeSpec := { name := "turned", fn := fun _ => fun
  | [d1, d2, d3] => { results := [.lit (.bool false)], args := [d1, d2, d3] }
  | _ => none }
def TurnedWrongFalsely : Prop := turnedRow.holds Try.pinned (OpenSpec.ofChange turnedWrong)

/-- 'menderkeep.Sent': WHATEVER THE INPUT: true; the input reads as it did. -/
def sentSpec : ChangeSpec := { name := "sent", fn := fun _ => fun
  | [d1, d2] => { results := [.lit (.bool true)], args := [d1, d2] }
  | _ => none }
def sentRow : OpenClaim := { program := "ytdjhhnolcafkiaa", sum := "7563cdf5efaf0bbe115fefa40d177405ae37b883e45fcca0219b431e1555218e", func := "mender/menderkeep.Sent", spec := "sent", unfollowed := true, recurses := true, apart := false }
def SentSaid : Prop := sentRow.holds Try.pinned (OpenSpec.ofChange sentSpec)

/-- ITS FALSE NEIGHBOUR: 'it returns false'. Refute it at one input. -/
def sentWrong : ChangeSpec := { name := "sent", fn := fun _ => fun
  | [d1, d2] => { results := [.lit (.bool false)], args := [d1, d2] }
  | _ => none }
def SentWrongFalsely : Prop := sentRow.holds Try.pinned (OpenSpec.ofChange sentWrong)

/-- 'menderkeep.Wanted': WHATEVER THE INPUT: true; the input reads as it did. -/
def wantedSpec : ChangeSpec := { name := "wanted", fn := fun _ => fun
  | [d1, d2] => { results := [.lit (.bool true)], args := [d1, d2] }
  | _ => none }
def wantedRow : OpenClaim := { program := "ytdjhhnolcafkiaa", sum := "7563cdf5efaf0bbe115fefa40d177405ae37b883e45fcca0219b431e1555218e", func := "mender/menderkeep.Wanted", spec := "wanted", unfollowed := true, recurses := true, apart := false }
def WantedSaid : Prop := wantedRow.holds Try.pinned (OpenSpec.ofChange wantedSpec)

/-- ITS FALSE NEIGHBOUR: 'it returns false'. Refute it at one input. -/
def wantedWrong : ChangeSpec := { name := "wanted", fn := fun _ => fun
  | [d1, d2] => { results := [.lit (.bool false)], args := [d1, d2] }
  | _ => none }
def WantedWrongFalsely : Prop := wantedRow.holds Try.pinned (OpenSpec.ofChange wantedWrong)

/- THE SECOND FORM. 'bulk': how many values and letters a reading holds, each counted each time it is reached (what is shared counts as often as it is met; a slice's spare places count too). A statement '..UptoSaid' is the law's where the arguments, and the package variables that the reading takes, are together of bulk at most 1048576: NARROWER than '..Said'. Prove '..Said' where nothing that the law and all that it calls make is longer than what came in: it says more and counts as full. Else prove '..UptoSaid'. A law counts once. -/
mutual
def uptoBulk {H : Type} : DataW H → Nat
  | .lit (.string bytes) => bytes.length + 1
  | .lit _ => 1
  | .nil => 1
  | .ptr d => uptoBulk d + 1
  | .slice elems spare => uptoBulkAll elems + uptoBulkAll spare + 1
  | .agg parts => uptoBulkAll parts + 1
  | .iface _ d => uptoBulk d + 1
  | .map entries => uptoBulkEntries entries + 1
  | .held _ => 1
def uptoBulkAll {H : Type} : List (DataW H) → Nat
  | [] => 0
  | d :: r => uptoBulk d + uptoBulkAll r
def uptoBulkEntries {H : Type} : List (Lit × DataW H) → Nat
  | [] => 0
  | x :: r => uptoBulkEntry x + uptoBulkEntries r
def uptoBulkEntry {H : Type} : Lit × DataW H → Nat
  | (.string bytes, d) => bytes.length + uptoBulk d + 1
  | (_, d) => uptoBulk d + 1
 end
def uptoSmall : (H : Type) → List (DataW H) → Bool := fun _ ds => decide (uptoBulkAll ds ≤ 1048576)
def OpenSpec.upto (s : _root_.Go.ChangeSpec) : _root_.Go.OpenSpec := { _root_.Go.OpenSpec.ofChange s with cond := some uptoSmall }

/-- 'menderlaw.Packets', WHERE WHAT IT READS IS OF BULK AT MOST 1048576: true; the input reads as it did. -/
def packetsUptoRow : OpenClaim := { program := "ytdjhhnolcafkiaa", sum := "7563cdf5efaf0bbe115fefa40d177405ae37b883e45fcca0219b431e1555218e", func := "mender/menderlaw.Packets", spec := "packets", recurses := true, apart := false, narrowed := true }
def PacketsUptoSaid : Prop := packetsUptoRow.holds Try.pinned (OpenSpec.upto packetsSpec)

/-- 'menderlaw.Reports', WHERE WHAT IT READS IS OF BULK AT MOST 1048576: true; the input reads as it did. -/
def reportsUptoRow : OpenClaim := { program := "ytdjhhnolcafkiaa", sum := "7563cdf5efaf0bbe115fefa40d177405ae37b883e45fcca0219b431e1555218e", func := "mender/menderlaw.Reports", spec := "reports", recurses := true, apart := false, narrowed := true }
def ReportsUptoSaid : Prop := reportsUptoRow.holds Try.pinned (OpenSpec.upto reportsSpec)

/-- 'menderkeep.Round', WHERE WHAT IT READS IS OF BULK AT MOST 1048576: true; the input reads as it did. -/
def roundUptoRow : OpenClaim := { program := "ytdjhhnolcafkiaa", sum := "7563cdf5efaf0bbe115fefa40d177405ae37b883e45fcca0219b431e1555218e", func := "mender/menderkeep.Round", spec := "round", apart := false, narrowed := true }
def RoundUptoSaid : Prop := roundUptoRow.holds Try.pinned (OpenSpec.upto roundSpec)

/-- 'menderkeep.Asked', WHERE WHAT IT READS IS OF BULK AT MOST 1048576: true; the input reads as it did. -/
def askedUptoRow : OpenClaim := { program := "ytdjhhnolcafkiaa", sum := "7563cdf5efaf0bbe115fefa40d177405ae37b883e45fcca0219b431e1555218e", func := "mender/menderkeep.Asked", spec := "asked", apart := false, narrowed := true }
def AskedUptoSaid : Prop := askedUptoRow.holds Try.pinned (OpenSpec.upto askedSpec)

/-- 'menderkeep.Once', WHERE WHAT IT READS IS OF BULK AT MOST 1048576: true; the input reads as it did. -/
def onceUptoRow : OpenClaim := { program := "ytdjhhnolcafkiaa", sum := "7563cdf5efaf0bbe115fefa40d177405ae37b883e45fcca0219b431e1555218e", func := "mender/menderkeep.Once", spec := "once", unfollowed := true, recurses := true, apart := false, narrowed := true }
def OnceUptoSaid : Prop := onceUptoRow.holds Try.pinned (OpenSpec.upto onceSpec)

/-- 'menderkeep.Turned', WHERE WHAT IT READS IS OF BULK AT MOST 1048576: true; the input reads as it did. -/
def turnedUptoRow : OpenClaim := { program := "ytdjhhnolcafkiaa", sum := "7563cdf5efaf0bbe115fefa40d177405ae37b883e45fcca0219b431e1555218e", func := "mender/menderkeep.Turned", spec := "turned", unfollowed := true, recurses := true, apart := false, narrowed := true }
def TurnedUptoSaid : Prop := turnedUptoRow.holds Try.pinned (OpenSpec.upto turnedSpec)

/-- 'menderkeep.Sent', WHERE WHAT IT READS IS OF BULK AT MOST 1048576: true; the input reads as it did. -/
def sentUptoRow : OpenClaim := { program := "ytdjhhnolcafkiaa", sum := "7563cdf5efaf0bbe115fefa40d177405ae37b883e45fcca0219b431e1555218e", func := "mender/menderkeep.Sent", spec := "sent", unfollowed := true, recurses := true, apart := false, narrowed := true }
def SentUptoSaid : Prop := sentUptoRow.holds Try.pinned (OpenSpec.upto sentSpec)

/-- 'menderkeep.Wanted', WHERE WHAT IT READS IS OF BULK AT MOST 1048576: true; the input reads as it did. -/
def wantedUptoRow : OpenClaim := { program := "ytdjhhnolcafkiaa", sum := "7563cdf5efaf0bbe115fefa40d177405ae37b883e45fcca0219b431e1555218e", func := "mender/menderkeep.Wanted", spec := "wanted", unfollowed := true, recurses := true, apart := false, narrowed := true }
def WantedUptoSaid : Prop := wantedUptoRow.holds Try.pinned (OpenSpec.upto wantedSpec)

end Rows
end Go.Proofs.Ytdjhhnolcafkiaa
