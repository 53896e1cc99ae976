/-
  No cell of these rows narrows 'for every input' (looked for: loops, veiled, ifaces, maps, wideKeys, modest, calm, conditions, laid).
  DERIVED. THE GIVEN ROWS OF THIS SEAT. 4 by the template 'for every input the law returns true; each argument reads behind the call as it read before'; 0 by the template 'total and deterministic' (their statements: YtacfhjcchoefjaaTotals.lean).
  GIVEN WITH THE SEED: the statements are not yours to turn. If you find one false, say at which input.
  Laid BY PROGRAM, IN A SANDBOX (cutbox-rows.mjs): the forced cells as the released guide's own fill.sh prints them over the translation acf4c757596881f9… (all of the seat's roots in one cut). By AI agents, Wed Nov 11 2026. No macro, syntax, notation, axiom, sorry.
-/
import Derived.Test.YtacfhjcchoefjaaChecked
import GoSem.Claim
import GoSem.ClaimJoined
import GoSem.ClaimMapViews
import Derived.JoinedTies
import Derived.KernelRfl
namespace Go.Proofs.Ytacfhjcchoefjaa
/- THE CELL 'sum', in the pinned program and in every row, IS THE sha256 OF THE DUMP (.gsa) THAT YtacfhjcchoefjaaProg.lean LOADS. Nothing in Lean hashes anything: it is a label: what it is worth is what the hold of that sum in a sandbox is worth. -/
noncomputable def Try.pinned : Pinned := { name := "ytacfhjcchoefjaa", sum := "acf4c757596881f9a9876ac7a06d7a7cd5f36cf6d62ca75c25a566e9a4a9b7f3", checked := Try.checked }
namespace Rows
def none {H : Type} : Left H := { results := [], args := [] }

/-- 'hatchwaylaw11.SnapUnpacks': WHATEVER THE INPUT: true; the input reads as it did. -/
def snapUnpacksSpec : ChangeSpec := { name := "snapUnpacks", fn := fun _ => fun
  | [d1, d2] => { results := [.lit (.bool true)], args := [d1, d2] }
  | _ => none }
def snapUnpacksRow : OpenClaim := { program := "ytacfhjcchoefjaa", sum := "acf4c757596881f9a9876ac7a06d7a7cd5f36cf6d62ca75c25a566e9a4a9b7f3", func := "hatchway/hatchwaylaw11.SnapUnpacks", spec := "snapUnpacks", unfollowed := true, recurses := true, apart := false }
def SnapUnpacksSaid : Prop := snapUnpacksRow.holds Try.pinned (OpenSpec.ofChange snapUnpacksSpec)

/-- ITS FALSE NEIGHBOUR: 'it returns false'. Refute it at one input. -/
def snapUnpacksWrong : ChangeSpec := { name := "snapUnpacks", fn := fun _ => fun
  | [d1, d2] => { results := [.lit (.bool false)], args := [d1, d2] }
  | _ => none }
def SnapUnpacksWrongFalsely : Prop := snapUnpacksRow.holds Try.pinned (OpenSpec.ofChange snapUnpacksWrong)

/-- 'hatchwaylaw11.SnapMeters': WHATEVER THE INPUT: true; the input reads as it did. -/
def snapMetersSpec : ChangeSpec := { name := "snapMeters", fn := fun _ => fun
  | [d1, d2, d3] => { results := [.lit (.bool true)], args := [d1, d2, d3] }
  | _ => none }
def snapMetersRow : OpenClaim := { program := "ytacfhjcchoefjaa", sum := "acf4c757596881f9a9876ac7a06d7a7cd5f36cf6d62ca75c25a566e9a4a9b7f3", func := "hatchway/hatchwaylaw11.SnapMeters", spec := "snapMeters", unfollowed := true, recurses := true, apart := false }
def SnapMetersSaid : Prop := snapMetersRow.holds Try.pinned (OpenSpec.ofChange snapMetersSpec)

/-- ITS FALSE NEIGHBOUR: 'it returns false'. Refute it at one input. -/
def snapMetersWrong : ChangeSpec := { name := "snapMeters", fn := fun _ => fun
  | [d1, d2, d3] => { results := [.lit (.bool false)], args := [d1, d2, d3] }
  | _ => none }
def SnapMetersWrongFalsely : Prop := snapMetersRow.holds Try.pinned (OpenSpec.ofChange snapMetersWrong)

/-- 'hatchwaylaw11.SnapPlain': WHATEVER THE INPUT: true; the input reads as it did. -/
def snapPlainSpec : ChangeSpec := { name := "snapPlain", fn := fun _ => fun
  | [d1, d2] => { results := [.lit (.bool true)], args := [d1, d2] }
  | _ => none }
def snapPlainRow : OpenClaim := { program := "ytacfhjcchoefjaa", sum := "acf4c757596881f9a9876ac7a06d7a7cd5f36cf6d62ca75c25a566e9a4a9b7f3", func := "hatchway/hatchwaylaw11.SnapPlain", spec := "snapPlain", unfollowed := true, recurses := true, apart := false }
def SnapPlainSaid : Prop := snapPlainRow.holds Try.pinned (OpenSpec.ofChange snapPlainSpec)

/-- ITS FALSE NEIGHBOUR: 'it returns false'. Refute it at one input. -/
def snapPlainWrong : ChangeSpec := { name := "snapPlain", fn := fun _ => fun
  | [d1, d2] => { results := [.lit (.bool false)], args := [d1, d2] }
  | _ => none }
def SnapPlainWrongFalsely : Prop := snapPlainRow.holds Try.pinned (OpenSpec.ofChange snapPlainWrong)

/-- 'hatchwaylaw11.SnapRuns': WHATEVER THE INPUT: true; the input reads as it did. -/
def snapRunsSpec : ChangeSpec := { name := "snapRuns", fn := fun _ => fun
  | [d1, d2] => { results := [.lit (.bool true)], args := [d1, d2] }
  | _ => none }
def snapRunsRow : OpenClaim := { program := "ytacfhjcchoefjaa", sum := "acf4c757596881f9a9876ac7a06d7a7cd5f36cf6d62ca75c25a566e9a4a9b7f3", func := "hatchway/hatchwaylaw11.SnapRuns", spec := "snapRuns", unfollowed := true, recurses := true, apart := false }
def SnapRunsSaid : Prop := snapRunsRow.holds Try.pinned (OpenSpec.ofChange snapRunsSpec)

/-- ITS FALSE NEIGHBOUR: 'it returns false'. Refute it at one input. -/
def snapRunsWrong : ChangeSpec := { name := "snapRuns", fn := fun _ => fun
  | [d1, d2] => { results := [.lit (.bool false)], args := [d1, d2] }
  | _ => none }
def SnapRunsWrongFalsely : Prop := snapRunsRow.holds Try.pinned (OpenSpec.ofChange snapRunsWrong)

/- THE SECOND FORM. 'bulk': how many values and letters a reading holds, each counted each time it is reached (what is shared counts as often as it is met; a slice's spare places count too). A statement '..UptoSaid' is the law's where the arguments, and the package variables that the reading takes, are together of bulk at most 1048576: NARROWER than '..Said'. Prove '..Said' where nothing that the law and all that it calls make is longer than what came in: it says more and counts as full. Else prove '..UptoSaid'. A law counts once. -/
mutual
def uptoBulk {H : Type} : DataW H → Nat
  | .lit (.string bytes) => bytes.length + 1
  | .lit _ => 1
  | .nil => 1
  | .ptr d => uptoBulk d + 1
  | .slice elems spare => uptoBulkAll elems + uptoBulkAll spare + 1
  | .agg parts => uptoBulkAll parts + 1
  | .iface _ d => uptoBulk d + 1
  | .map entries => uptoBulkEntries entries + 1
  | .held _ => 1
def uptoBulkAll {H : Type} : List (DataW H) → Nat
  | [] => 0
  | d :: r => uptoBulk d + uptoBulkAll r
def uptoBulkEntries {H : Type} : List (Lit × DataW H) → Nat
  | [] => 0
  | x :: r => uptoBulkEntry x + uptoBulkEntries r
def uptoBulkEntry {H : Type} : Lit × DataW H → Nat
  | (.string bytes, d) => bytes.length + uptoBulk d + 1
  | (_, d) => uptoBulk d + 1
 end
def uptoSmall : (H : Type) → List (DataW H) → Bool := fun _ ds => decide (uptoBulkAll ds ≤ 1048576)
def OpenSpec.upto (s : _root_.Go.ChangeSpec) : _root_.Go.OpenSpec := { _root_.Go.OpenSpec.ofChange s with cond := some uptoSmall }

/-- 'hatchwaylaw11.SnapUnpacks', WHERE WHAT IT READS IS OF BULK AT MOST 1048576: true; the input reads as it did. -/
def snapUnpacksUptoRow : OpenClaim := { program := "ytacfhjcchoefjaa", sum := "acf4c757596881f9a9876ac7a06d7a7cd5f36cf6d62ca75c25a566e9a4a9b7f3", func := "hatchway/hatchwaylaw11.SnapUnpacks", spec := "snapUnpacks", unfollowed := true, recurses := true, apart := false, narrowed := true }
def SnapUnpacksUptoSaid : Prop := snapUnpacksUptoRow.holds Try.pinned (OpenSpec.upto snapUnpacksSpec)

/-- 'hatchwaylaw11.SnapMeters', WHERE WHAT IT READS IS OF BULK AT MOST 1048576: true; the input reads as it did. -/
def snapMetersUptoRow : OpenClaim := { program := "ytacfhjcchoefjaa", sum := "acf4c757596881f9a9876ac7a06d7a7cd5f36cf6d62ca75c25a566e9a4a9b7f3", func := "hatchway/hatchwaylaw11.SnapMeters", spec := "snapMeters", unfollowed := true, recurses := true, apart := false, narrowed := true }
def SnapMetersUptoSaid : Prop := snapMetersUptoRow.holds Try.pinned (OpenSpec.upto snapMetersSpec)

/-- 'hatchwaylaw11.SnapPlain', WHERE WHAT IT READS IS OF BULK AT MOST 1048576: true; the input reads as it did. -/
def snapPlainUptoRow : OpenClaim := { program := "ytacfhjcchoefjaa", sum := "acf4c757596881f9a9876ac7a06d7a7cd5f36cf6d62ca75c25a566e9a4a9b7f3", func := "hatchway/hatchwaylaw11.SnapPlain", spec := "snapPlain", unfollowed := true, recurses := true, apart := false, narrowed := true }
def SnapPlainUptoSaid : Prop := snapPlainUptoRow.holds Try.pinned (OpenSpec.upto snapPlainSpec)

/-- 'hatchwaylaw11.SnapRuns', WHERE WHAT IT READS IS OF BULK AT MOST 1048576: true; the input reads as it did. -/
def snapRunsUptoRow : OpenClaim := { program := "ytacfhjcchoefjaa", sum := "acf4c757596881f9a9876ac7a06d7a7cd5f36cf6d62ca75c25a566e9a4a9b7f3", func := "hatchway/hatchwaylaw11.SnapRuns", spec := "snapRuns", unfollowed := true, recurses := true, apart := false, narrowed := true }
def SnapRunsUptoSaid : Prop := snapRunsUptoRow.holds Try.pinned (OpenSpec.upto snapRunsSpec)

end Rows
end Go.Proofs.Ytacfhjcchoefjaa
