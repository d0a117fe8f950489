/-
  No cell of these rows narrows 'for every input' (looked for: loops, veiled, ifaces, maps, wideKeys, modest, calm, conditions, laid).
  DERIVED. THE GIVEN ROWS OF THIS SEAT. 3 by the template 'for every input the law returns true; each argument reads behind the call as it read before'; 0 by the template 'total and deterministic' (their statements: YtdjhhnolcafkiaaGreatTotals.lean).
  GIVEN WITH THE SEED: the statements are not yours to turn. If you find one false, say at which input.
  Laid BY PROGRAM, IN A SANDBOX (cutbox-rows.mjs): the forced cells as the released guide's own fill.sh prints them over the translation e8cc69680df4fa4c… (all of the seat's roots in one cut). By AI agents, Wed Nov 11 2026. No macro, syntax, notation, axiom, sorry.
-/
import Derived.Test.YtdjhhnolcafkiaaGreatChecked
import GoSem.Claim
import GoSem.ClaimJoined
import GoSem.ClaimMapViews
import Derived.JoinedTies
import Derived.KernelRfl
namespace Go.Proofs.YtdjhhnolcafkiaaGreat
/- THE CELL 'sum', in the pinned program and in every row, IS THE sha256 OF THE DUMP (.gsa) THAT YtdjhhnolcafkiaaGreatProg.lean LOADS. Nothing in Lean hashes anything: it is a label: what it is worth is what the hold of that sum in a sandbox is worth. -/
noncomputable def Tryz.pinned : Pinned := { name := "ytdjhhnolcafkiaagreat", sum := "e8cc69680df4fa4ca26ae74b948caf7a519d31ff7e21ea0154d82a22c7e6b12b", checked := Tryz.checked }
namespace Rows
def none {H : Type} : Left H := { results := [], args := [] }

/-- 'menderlaw.Passes': WHATEVER THE INPUT: true; the input reads as it did. -/
def passesSpec : ChangeSpec := { name := "passes", fn := fun _ => fun
  | [d1, d2] => { results := [.lit (.bool true)], args := [d1, d2] }
  | _ => none }
def passesRow : OpenClaim := { program := "ytdjhhnolcafkiaagreat", sum := "e8cc69680df4fa4ca26ae74b948caf7a519d31ff7e21ea0154d82a22c7e6b12b", func := "mender/menderlaw.Passes", spec := "passes", unfollowed := true, recurses := true, apart := false }
def PassesSaid : Prop := passesRow.holds Tryz.pinned (OpenSpec.ofChange passesSpec)

/-- ITS FALSE NEIGHBOUR: 'it returns false'. Refute it at one input. -/
def passesWrong : ChangeSpec := { name := "passes", fn := fun _ => fun
  | [d1, d2] => { results := [.lit (.bool false)], args := [d1, d2] }
  | _ => none }
def PassesWrongFalsely : Prop := passesRow.holds Tryz.pinned (OpenSpec.ofChange passesWrong)

/-- 'menderlaw.Mends': WHATEVER THE INPUT: true; the input reads as it did. -/
def mendsSpec : ChangeSpec := { name := "mends", fn := fun _ => fun
  | [d1, d2] => { results := [.lit (.bool true)], args := [d1, d2] }
  | _ => none }
def mendsRow : OpenClaim := { program := "ytdjhhnolcafkiaagreat", sum := "e8cc69680df4fa4ca26ae74b948caf7a519d31ff7e21ea0154d82a22c7e6b12b", func := "mender/menderlaw.Mends", spec := "mends", unfollowed := true, recurses := true, apart := false }
def MendsSaid : Prop := mendsRow.holds Tryz.pinned (OpenSpec.ofChange mendsSpec)

/-- ITS FALSE NEIGHBOUR: 'it returns false'. Refute it at one input. -/
def mendsWrong : ChangeSpec := { name := "mends", fn := fun _ => fun
  | [d1, d2] => { results := [.lit (.bool false)], args := [d1, d2] }
  | _ => none }
def MendsWrongFalsely : Prop := mendsRow.holds Tryz.pinned (OpenSpec.ofChange mendsWrong)

/-- 'menderlaw.All': WHATEVER THE INPUT: true; the input reads as it did. -/
def allSpec : ChangeSpec := { name := "all", fn := fun _ => fun
  | [d1, d2] => { results := [.lit (.bool true)], args := [d1, d2] }
  | _ => none }
def allRow : OpenClaim := { program := "ytdjhhnolcafkiaagreat", sum := "e8cc69680df4fa4ca26ae74b948caf7a519d31ff7e21ea0154d82a22c7e6b12b", func := "mender/menderlaw.All", spec := "all", unfollowed := true, recurses := true, apart := false }
def AllSaid : Prop := allRow.holds Tryz.pinned (OpenSpec.ofChange allSpec)

/-- ITS FALSE NEIGHBOUR: 'it returns false'. Refute it at one input. -/
def allWrong : ChangeSpec := { name := "all", fn := fun _ => fun
  | [d1, d2] => { results := [.lit (.bool false)], args := [d1, d2] }
  | _ => none }
def AllWrongFalsely : Prop := allRow.holds Tryz.pinned (OpenSpec.ofChange allWrong)

/- THE SECOND FORM. 'bulk': how many values and letters a reading holds, each counted each time it is reached (what is shared counts as often as it is met; a slice's spare places count too). A statement '..UptoSaid' is the law's where the arguments, and the package variables that the reading takes, are together of bulk at most 1048576: NARROWER than '..Said'. Prove '..Said' where nothing that the law and all that it calls make is longer than what came in: it says more and counts as full. Else prove '..UptoSaid'. A law counts once. -/
mutual
def uptoBulk {H : Type} : DataW H → Nat
  | .lit (.string bytes) => bytes.length + 1
  | .lit _ => 1
  | .nil => 1
  | .ptr d => uptoBulk d + 1
  | .slice elems spare => uptoBulkAll elems + uptoBulkAll spare + 1
  | .agg parts => uptoBulkAll parts + 1
  | .iface _ d => uptoBulk d + 1
  | .map entries => uptoBulkEntries entries + 1
  | .held _ => 1
def uptoBulkAll {H : Type} : List (DataW H) → Nat
  | [] => 0
  | d :: r => uptoBulk d + uptoBulkAll r
def uptoBulkEntries {H : Type} : List (Lit × DataW H) → Nat
  | [] => 0
  | x :: r => uptoBulkEntry x + uptoBulkEntries r
def uptoBulkEntry {H : Type} : Lit × DataW H → Nat
  | (.string bytes, d) => bytes.length + uptoBulk d + 1
  | (_, d) => uptoBulk d + 1
 end
def uptoSmall : (H : Type) → List (DataW H) → Bool := fun _ ds => decide (uptoBulkAll ds ≤ 1048576)
def OpenSpec.upto (s : _root_.Go.ChangeSpec) : _root_.Go.OpenSpec := { _root_.Go.OpenSpec.ofChange s with cond := some uptoSmall }

/-- 'menderlaw.Passes', WHERE WHAT IT READS IS OF BULK AT MOST 1048576: true; the input reads as it did. -/
def passesUptoRow : OpenClaim := { program := "ytdjhhnolcafkiaagreat", sum := "e8cc69680df4fa4ca26ae74b948caf7a519d31ff7e21ea0154d82a22c7e6b12b", func := "mender/menderlaw.Passes", spec := "passes", unfollowed := true, recurses := true, apart := false, narrowed := true }
def PassesUptoSaid : Prop := passesUptoRow.holds Tryz.pinned (OpenSpec.upto passesSpec)

/-- 'menderlaw.Mends', WHERE WHAT IT READS IS OF BULK AT MOST 1048576: true; the input reads as it did. -/
def mendsUptoRow : OpenClaim := { program := "ytdjhhnolcafkiaagreat", sum := "e8cc69680df4fa4ca26ae74b948caf7a519d31ff7e21ea0154d82a22c7e6b12b", func := "mender/menderlaw.Mends", spec := "mends", unfollowed := true, recurses := true, apart := false, narrowed := true }
def MendsUptoSaid : Prop := mendsUptoRow.holds Tryz.pinned (OpenSpec.upto mendsSpec)

/-- 'menderlaw.All', WHERE WHAT IT READS IS OF BULK AT MOST 1048576: true; the input reads as it did. -/
def allUptoRow : OpenClaim := { program := "ytdjhhnolcafkiaagreat", sum := "e8cc69680df4fa4ca26ae74b948caf7a519d31ff7e21ea0154d82a22c7e6b12b", func := "mender/menderlaw.All", spec := "all", unfollowed := true, recurses := true, apart := false, narrowed := true }
def AllUptoSaid : Prop := allUptoRow.holds Tryz.pinned (OpenSpec.upto allSpec)

end Rows
end Go.Proofs.YtdjhhnolcafkiaaGreat
