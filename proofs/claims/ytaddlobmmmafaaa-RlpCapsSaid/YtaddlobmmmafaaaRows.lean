/-
  NARROWER THAN 'FOR EVERY INPUT', by the rows' own cells (each row's printed sentence says how): RlpPuts: loops · RlpCaps: loops · RlpCuts: loops.
  DERIVED. THE GIVEN ROWS OF THIS SEAT. 3 by the template 'for every input the law returns true; each argument reads behind the call as it read before'; 0 by the template 'total and deterministic' (their statements: YtaddlobmmmafaaaTotals.lean).
  GIVEN WITH THE SEED: the statements are not yours to turn. If you find one false, say at which input.
  Laid BY PROGRAM, IN A SANDBOX (cutbox-rows.mjs): the forced cells as the released guide's own fill.sh prints them over the translation 9adc10736248ba9f… (all of the seat's roots in one cut). By AI agents, Wed Nov 11 2026. No macro, syntax, notation, axiom, sorry.
-/
import Derived.Test.YtaddlobmmmafaaaChecked
import GoSem.Claim
import GoSem.ClaimJoined
import GoSem.ClaimMapViews
import Derived.JoinedTies
import Derived.KernelRfl
namespace Go.Proofs.Ytaddlobmmmafaaa
/- THE CELL 'sum', in the pinned program and in every row, IS THE sha256 OF THE DUMP (.gsa) THAT YtaddlobmmmafaaaProg.lean LOADS. Nothing in Lean hashes anything: it is a label: what it is worth is what the hold of that sum in a sandbox is worth. -/
noncomputable def Try.pinned : Pinned := { name := "ytaddlobmmmafaaa", sum := "9adc10736248ba9f31b4e7d668ffd6aec5dde332def879e26f1a6243e6d7b0dd", checked := Try.checked }
namespace Rows
def none {H : Type} : Left H := { results := [], args := [] }

/-- 'hatchwaylaw09.RlpPuts': WHATEVER THE INPUT: true; the input reads as it did. -/
def rlpPutsSpec : ChangeSpec := { name := "rlpPuts", fn := fun _ => fun
  | [d] => { results := [.lit (.bool true)], args := [d] }
  | _ => none }
def rlpPutsRow : OpenClaim := { program := "ytaddlobmmmafaaa", sum := "9adc10736248ba9f31b4e7d668ffd6aec5dde332def879e26f1a6243e6d7b0dd", func := "hatchway/hatchwaylaw09.RlpPuts", spec := "rlpPuts", unfollowed := true, recurses := true, loops := true, apart := false }
def RlpPutsSaid : Prop := rlpPutsRow.holds Try.pinned (OpenSpec.ofChange rlpPutsSpec)

/-- ITS FALSE NEIGHBOUR: 'it returns false'. Refute it at one input. -/
def rlpPutsWrong : ChangeSpec := { name := "rlpPuts", fn := fun _ => fun
  | [d] => { results := [.lit (.bool false)], args := [d] }
  | _ => none }
def RlpPutsWrongFalsely : Prop := rlpPutsRow.holds Try.pinned (OpenSpec.ofChange rlpPutsWrong)

/-- 'hatchwaylaw09.RlpCaps': WHATEVER THE INPUT: true; the input reads as it did. -/
def rlpCapsSpec : ChangeSpec := { name := "rlpCaps", fn := fun _ => fun
  | [d1, d2] => { results := [.lit (.bool true)], args := [d1, d2] }
  | _ => none }
def rlpCapsRow : OpenClaim := { program := "ytaddlobmmmafaaa", sum := "9adc10736248ba9f31b4e7d668ffd6aec5dde332def879e26f1a6243e6d7b0dd", func := "hatchway/hatchwaylaw09.RlpCaps", spec := "rlpCaps", unfollowed := true, recurses := true, loops := true, apart := false }
def RlpCapsSaid : Prop := rlpCapsRow.holds Try.pinned (OpenSpec.ofChange rlpCapsSpec)

/-- ITS FALSE NEIGHBOUR: 'it returns false'. Refute it at one input. -/
def rlpCapsWrong : ChangeSpec := { name := "rlpCaps", fn := fun _ => fun
  | [d1, d2] => { results := [.lit (.bool false)], args := [d1, d2] }
  | _ => none }
def RlpCapsWrongFalsely : Prop := rlpCapsRow.holds Try.pinned (OpenSpec.ofChange rlpCapsWrong)

/-- 'hatchwaylaw09.RlpCuts': WHATEVER THE INPUT: true; the input reads as it did. -/
def rlpCutsSpec : ChangeSpec := { name := "rlpCuts", fn := fun _ => fun
  | [d1, d2, d3] => { results := [.lit (.bool true)], args := [d1, d2, d3] }
  | _ => none }
def rlpCutsRow : OpenClaim := { program := "ytaddlobmmmafaaa", sum := "9adc10736248ba9f31b4e7d668ffd6aec5dde332def879e26f1a6243e6d7b0dd", func := "hatchway/hatchwaylaw09.RlpCuts", spec := "rlpCuts", unfollowed := true, recurses := true, loops := true, apart := false }
def RlpCutsSaid : Prop := rlpCutsRow.holds Try.pinned (OpenSpec.ofChange rlpCutsSpec)

/-- ITS FALSE NEIGHBOUR: 'it returns false'. Refute it at one input. -/
def rlpCutsWrong : ChangeSpec := { name := "rlpCuts", fn := fun _ => fun
  | [d1, d2, d3] => { results := [.lit (.bool false)], args := [d1, d2, d3] }
  | _ => none }
def RlpCutsWrongFalsely : Prop := rlpCutsRow.holds Try.pinned (OpenSpec.ofChange rlpCutsWrong)

/- THE SECOND FORM. 'bulk': how many values and letters a reading holds, each counted each time it is reached (what is shared counts as often as it is met; a slice's spare places count too). A statement '..UptoSaid' is the law's where the arguments, and the package variables that the reading takes, are together of bulk at most 1048576: NARROWER than '..Said'. Prove '..Said' where nothing that the law and all that it calls make is longer than what came in: it says more and counts as full. Else prove '..UptoSaid'. A law counts once. -/
mutual
def uptoBulk {H : Type} : DataW H → Nat
  | .lit (.string bytes) => bytes.length + 1
  | .lit _ => 1
  | .nil => 1
  | .ptr d => uptoBulk d + 1
  | .slice elems spare => uptoBulkAll elems + uptoBulkAll spare + 1
  | .agg parts => uptoBulkAll parts + 1
  | .iface _ d => uptoBulk d + 1
  | .map entries => uptoBulkEntries entries + 1
  | .held _ => 1
def uptoBulkAll {H : Type} : List (DataW H) → Nat
  | [] => 0
  | d :: r => uptoBulk d + uptoBulkAll r
def uptoBulkEntries {H : Type} : List (Lit × DataW H) → Nat
  | [] => 0
  | x :: r => uptoBulkEntry x + uptoBulkEntries r
def uptoBulkEntry {H : Type} : Lit × DataW H → Nat
  | (.string bytes, d) => bytes.length + uptoBulk d + 1
  | (_, d) => uptoBulk d + 1
 end
def uptoSmall : (H : Type) → List (DataW H) → Bool := fun _ ds => decide (uptoBulkAll ds ≤ 1048576)
def OpenSpec.upto (s : _root_.Go.ChangeSpec) : _root_.Go.OpenSpec := { _root_.Go.OpenSpec.ofChange s with cond := some uptoSmall }

/-- 'hatchwaylaw09.RlpPuts', WHERE WHAT IT READS IS OF BULK AT MOST 1048576: true; the input reads as it did. -/
def rlpPutsUptoRow : OpenClaim := { program := "ytaddlobmmmafaaa", sum := "9adc10736248ba9f31b4e7d668ffd6aec5dde332def879e26f1a6243e6d7b0dd", func := "hatchway/hatchwaylaw09.RlpPuts", spec := "rlpPuts", unfollowed := true, recurses := true, loops := true, apart := false, narrowed := true }
def RlpPutsUptoSaid : Prop := rlpPutsUptoRow.holds Try.pinned (OpenSpec.upto rlpPutsSpec)

/-- 'hatchwaylaw09.RlpCaps', WHERE WHAT IT READS IS OF BULK AT MOST 1048576: true; the input reads as it did. -/
def rlpCapsUptoRow : OpenClaim := { program := "ytaddlobmmmafaaa", sum := "9adc10736248ba9f31b4e7d668ffd6aec5dde332def879e26f1a6243e6d7b0dd", func := "hatchway/hatchwaylaw09.RlpCaps", spec := "rlpCaps", unfollowed := true, recurses := true, loops := true, apart := false, narrowed := true }
def RlpCapsUptoSaid : Prop := rlpCapsUptoRow.holds Try.pinned (OpenSpec.upto rlpCapsSpec)

/-- 'hatchwaylaw09.RlpCuts', WHERE WHAT IT READS IS OF BULK AT MOST 1048576: true; the input reads as it did. -/
def rlpCutsUptoRow : OpenClaim := { program := "ytaddlobmmmafaaa", sum := "9adc10736248ba9f31b4e7d668ffd6aec5dde332def879e26f1a6243e6d7b0dd", func := "hatchway/hatchwaylaw09.RlpCuts", spec := "rlpCuts", unfollowed := true, recurses := true, loops := true, apart := false, narrowed := true }
def RlpCutsUptoSaid : Prop := rlpCutsUptoRow.holds Try.pinned (OpenSpec.upto rlpCutsSpec)

end Rows
end Go.Proofs.Ytaddlobmmmafaaa
