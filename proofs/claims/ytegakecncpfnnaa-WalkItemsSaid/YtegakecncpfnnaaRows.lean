/-
  NARROWER THAN 'FOR EVERY INPUT', by the rows' own cells (each row's printed sentence says how): WalkItems: loops.
  DERIVED. THE GIVEN ROWS OF THIS SEAT. 2 by the template 'for every input the law returns true; each argument reads behind the call as it read before'; 0 by the template 'total and deterministic' (their statements: YtegakecncpfnnaaTotals.lean).
  GIVEN WITH THE SEED: the statements are not yours to turn. If you find one false, say at which input.
  Laid BY PROGRAM, IN A SANDBOX (cutbox-rows.mjs): the forced cells as the released guide's own fill.sh prints them over the translation 0acf8167cbb45e75… (all of the seat's roots in one cut). By AI agents, Wed Nov 11 2026. No macro, syntax, notation, axiom, sorry.
-/
import Derived.Test.YtegakecncpfnnaaChecked
import GoSem.Claim
import GoSem.ClaimJoined
import GoSem.ClaimMapViews
import Derived.JoinedTies
import Derived.KernelRfl
namespace Go.Proofs.Ytegakecncpfnnaa
/- THE CELL 'sum', in the pinned program and in every row, IS THE sha256 OF THE DUMP (.gsa) THAT YtegakecncpfnnaaProg.lean LOADS. Nothing in Lean hashes anything: it is a label: what it is worth is what the hold of that sum in a sandbox is worth. -/
noncomputable def Try.pinned : Pinned := { name := "ytegakecncpfnnaa", sum := "0acf8167cbb45e75a1bc37027eaad5b8b92c4eb1f0dff1b97067df37845e1a05", checked := Try.checked }
namespace Rows
def none {H : Type} : Left H := { results := [], args := [] }

/-- 'hatchwaylaw10.WalkItems': WHATEVER THE INPUT: true; the input reads as it did. -/
def walkItemsSpec : ChangeSpec := { name := "walkItems", fn := fun _ => fun
  | [d] => { results := [.lit (.bool true)], args := [d] }
  | _ => none }
def walkItemsRow : OpenClaim := { program := "ytegakecncpfnnaa", sum := "0acf8167cbb45e75a1bc37027eaad5b8b92c4eb1f0dff1b97067df37845e1a05", func := "hatchway/hatchwaylaw10.WalkItems", spec := "walkItems", inPlace := ["internal/abi.NoEscape", "internal/bytealg.MakeNoZero"], unfollowed := true, recurses := true, loops := true, apart := false }
def WalkItemsSaid : Prop := walkItemsRow.holds Try.pinned (OpenSpec.ofChange walkItemsSpec)

/-- ITS FALSE NEIGHBOUR: 'it returns false'. Refute it at one input. -/
def walkItemsWrong : ChangeSpec := { name := "walkItems", fn := fun _ => fun
  | [d] => { results := [.lit (.bool false)], args := [d] }
  | _ => none }
def WalkItemsWrongFalsely : Prop := walkItemsRow.holds Try.pinned (OpenSpec.ofChange walkItemsWrong)

/-- 'hatchwaylaw10.WalkBuilds': WHATEVER THE INPUT: true; the input reads as it did. -/
def walkBuildsSpec : ChangeSpec := { name := "walkBuilds", fn := fun _ => fun
  | [d] => { results := [.lit (.bool true)], args := [d] }
  | _ => none }
def walkBuildsRow : OpenClaim := { program := "ytegakecncpfnnaa", sum := "0acf8167cbb45e75a1bc37027eaad5b8b92c4eb1f0dff1b97067df37845e1a05", func := "hatchway/hatchwaylaw10.WalkBuilds", spec := "walkBuilds", inPlace := ["internal/abi.NoEscape", "internal/bytealg.MakeNoZero"], unfollowed := true, recurses := true, apart := false }
def WalkBuildsSaid : Prop := walkBuildsRow.holds Try.pinned (OpenSpec.ofChange walkBuildsSpec)

/-- ITS FALSE NEIGHBOUR: 'it returns false'. Refute it at one input. -/
def walkBuildsWrong : ChangeSpec := { name := "walkBuilds", fn := fun _ => fun
  | [d] => { results := [.lit (.bool false)], args := [d] }
  | _ => none }
def WalkBuildsWrongFalsely : Prop := walkBuildsRow.holds Try.pinned (OpenSpec.ofChange walkBuildsWrong)

/- THE SECOND FORM. 'bulk': how many values and letters a reading holds, each counted each time it is reached (what is shared counts as often as it is met; a slice's spare places count too). A statement '..UptoSaid' is the law's where the arguments, and the package variables that the reading takes, are together of bulk at most 1048576: NARROWER than '..Said'. Prove '..Said' where nothing that the law and all that it calls make is longer than what came in: it says more and counts as full. Else prove '..UptoSaid'. A law counts once. -/
mutual
def uptoBulk {H : Type} : DataW H → Nat
  | .lit (.string bytes) => bytes.length + 1
  | .lit _ => 1
  | .nil => 1
  | .ptr d => uptoBulk d + 1
  | .slice elems spare => uptoBulkAll elems + uptoBulkAll spare + 1
  | .agg parts => uptoBulkAll parts + 1
  | .iface _ d => uptoBulk d + 1
  | .map entries => uptoBulkEntries entries + 1
  | .held _ => 1
def uptoBulkAll {H : Type} : List (DataW H) → Nat
  | [] => 0
  | d :: r => uptoBulk d + uptoBulkAll r
def uptoBulkEntries {H : Type} : List (Lit × DataW H) → Nat
  | [] => 0
  | x :: r => uptoBulkEntry x + uptoBulkEntries r
def uptoBulkEntry {H : Type} : Lit × DataW H → Nat
  | (.string bytes, d) => bytes.length + uptoBulk d + 1
  | (_, d) => uptoBulk d + 1
 end
def uptoSmall : (H : Type) → List (DataW H) → Bool := fun _ ds => decide (uptoBulkAll ds ≤ 1048576)
def OpenSpec.upto (s : _root_.Go.ChangeSpec) : _root_.Go.OpenSpec := { _root_.Go.OpenSpec.ofChange s with cond := some uptoSmall }

/-- 'hatchwaylaw10.WalkItems', WHERE WHAT IT READS IS OF BULK AT MOST 1048576: true; the input reads as it did. -/
def walkItemsUptoRow : OpenClaim := { program := "ytegakecncpfnnaa", sum := "0acf8167cbb45e75a1bc37027eaad5b8b92c4eb1f0dff1b97067df37845e1a05", func := "hatchway/hatchwaylaw10.WalkItems", spec := "walkItems", inPlace := ["internal/abi.NoEscape", "internal/bytealg.MakeNoZero"], unfollowed := true, recurses := true, loops := true, apart := false, narrowed := true }
def WalkItemsUptoSaid : Prop := walkItemsUptoRow.holds Try.pinned (OpenSpec.upto walkItemsSpec)

/-- 'hatchwaylaw10.WalkBuilds', WHERE WHAT IT READS IS OF BULK AT MOST 1048576: true; the input reads as it did. -/
def walkBuildsUptoRow : OpenClaim := { program := "ytegakecncpfnnaa", sum := "0acf8167cbb45e75a1bc37027eaad5b8b92c4eb1f0dff1b97067df37845e1a05", func := "hatchway/hatchwaylaw10.WalkBuilds", spec := "walkBuilds", inPlace := ["internal/abi.NoEscape", "internal/bytealg.MakeNoZero"], unfollowed := true, recurses := true, apart := false, narrowed := true }
def WalkBuildsUptoSaid : Prop := walkBuildsUptoRow.holds Try.pinned (OpenSpec.upto walkBuildsSpec)

end Rows
end Go.Proofs.Ytegakecncpfnnaa
