/-
  NARROWER THAN 'FOR EVERY INPUT', by the rows' own cells (each row's printed sentence says how): CompactPuts: laid · CompactReads: laid · CompactCursor: laid.
  DERIVED. THE GIVEN ROWS OF THIS SEAT. 3 by the template 'for every input the law returns true; each argument reads behind the call as it read before'; 0 by the template 'total and deterministic' (their statements: YtpneccbeccgfmaaDoorTotals.lean).
  GIVEN WITH THE SEED: the statements are not yours to turn. If you find one false, say at which input.
  Laid BY PROGRAM, IN A SANDBOX (cutbox-rows.mjs): the forced cells as the released guide's own fill.sh prints them over the translation b093515c715d79cf… (all of the seat's roots in one cut). By AI agents, Wed Nov 11 2026. No macro, syntax, notation, axiom, sorry.
-/
import Derived.Test.YtpneccbeccgfmaaDoorChecked
import GoSem.Claim
import GoSem.ClaimJoined
import GoSem.ClaimMapViews
import Derived.JoinedTies
import Derived.KernelRfl
namespace Go.Proofs.YtpneccbeccgfmaaDoor
/- THE CELL 'sum', in the pinned program and in every row, IS THE sha256 OF THE DUMP (.gsa) THAT YtpneccbeccgfmaaDoorProg.lean LOADS. Nothing in Lean hashes anything: it is a label: what it is worth is what the hold of that sum in a sandbox is worth. -/
noncomputable def Tryd.pinned : Pinned := { name := "ytpneccbeccgfmaadoor", sum := "b093515c715d79cf32aed66c9fa6ecb28bf185171a4ad5f4c9ee44d768cc1430", checked := Tryd.checked }
namespace Rows
def none {H : Type} : Left H := { results := [], args := [] }

/- WHAT THE LISTED PACKAGE-LEVEL VARIABLES READ AS WHEN THE CALL BEGINS. Each datum BY PROGRAM (the guide's laid-datum.mjs) off the statement by which the dump's own 'gosem.cut.vars' lays the variable. In a bare row this is a premise. The card (YtpneccbeccgfmaaDoorCards.lean) ties it to the program's text. -/
def laid_hatchway_compact_sizes {H : Type} : DataW H := .agg [.lit (.int .i64 0), .lit (.int .i64 2), .lit (.int .i64 4), .lit (.int .i64 8)]

/-- 'hatchwaylaw04.CompactPuts': WHATEVER THE INPUT: true; the input reads as it did. -/
def compactPutsSpec : ChangeSpec := { name := "compactPuts", fn := fun _ => fun
  | [d1, d2] => { results := [.lit (.bool true)], args := [d1, d2] }
  | _ => none }
def compactPutsRow : OpenClaim := { program := "ytpneccbeccgfmaadoor", sum := "b093515c715d79cf32aed66c9fa6ecb28bf185171a4ad5f4c9ee44d768cc1430", func := "hatchway/hatchwaylaw04.CompactPuts", spec := "compactPuts", named := ["hatchway/compact.sizes"], apart := false, laid := [("hatchway/compact.sizes", laid_hatchway_compact_sizes)] }
def CompactPutsSaid : Prop := compactPutsRow.holds Tryd.pinned (OpenSpec.ofChange compactPutsSpec)

/-- ITS FALSE NEIGHBOUR: 'it returns false'. Refute it at one input. -/
def compactPutsWrong : ChangeSpec := { name := "compactPuts", fn := fun _ => fun
  | [d1, d2] => { results := [.lit (.bool false)], args := [d1, d2] }
  | _ => none }
def CompactPutsWrongFalsely : Prop := compactPutsRow.holds Tryd.pinned (OpenSpec.ofChange compactPutsWrong)

/-- 'hatchwaylaw04.CompactReads': WHATEVER THE INPUT: true; the input reads as it did. -/
def compactReadsSpec : ChangeSpec := { name := "compactReads", fn := fun _ => fun
  | [d1, d2] => { results := [.lit (.bool true)], args := [d1, d2] }
  | _ => none }
def compactReadsRow : OpenClaim := { program := "ytpneccbeccgfmaadoor", sum := "b093515c715d79cf32aed66c9fa6ecb28bf185171a4ad5f4c9ee44d768cc1430", func := "hatchway/hatchwaylaw04.CompactReads", spec := "compactReads", named := ["hatchway/compact.sizes"], apart := false, laid := [("hatchway/compact.sizes", laid_hatchway_compact_sizes)] }
def CompactReadsSaid : Prop := compactReadsRow.holds Tryd.pinned (OpenSpec.ofChange compactReadsSpec)

/-- ITS FALSE NEIGHBOUR: 'it returns false'. Refute it at one input. -/
def compactReadsWrong : ChangeSpec := { name := "compactReads", fn := fun _ => fun
  | [d1, d2] => { results := [.lit (.bool false)], args := [d1, d2] }
  | _ => none }
def CompactReadsWrongFalsely : Prop := compactReadsRow.holds Tryd.pinned (OpenSpec.ofChange compactReadsWrong)

/-- 'hatchwaylaw04.CompactCursor': WHATEVER THE INPUT: true; the input reads as it did. -/
def compactCursorSpec : ChangeSpec := { name := "compactCursor", fn := fun _ => fun
  | [d1, d2] => { results := [.lit (.bool true)], args := [d1, d2] }
  | _ => none }
def compactCursorRow : OpenClaim := { program := "ytpneccbeccgfmaadoor", sum := "b093515c715d79cf32aed66c9fa6ecb28bf185171a4ad5f4c9ee44d768cc1430", func := "hatchway/hatchwaylaw04.CompactCursor", spec := "compactCursor", unfollowed := true, recurses := true, named := ["hatchway/compact.sizes"], apart := false, laid := [("hatchway/compact.sizes", laid_hatchway_compact_sizes)] }
def CompactCursorSaid : Prop := compactCursorRow.holds Tryd.pinned (OpenSpec.ofChange compactCursorSpec)

/-- ITS FALSE NEIGHBOUR: 'it returns false'. Refute it at one input. -/
def compactCursorWrong : ChangeSpec := { name := "compactCursor", fn := fun _ => fun
  | [d1, d2] => { results := [.lit (.bool false)], args := [d1, d2] }
  | _ => none }
def CompactCursorWrongFalsely : Prop := compactCursorRow.holds Tryd.pinned (OpenSpec.ofChange compactCursorWrong)

/- THE SECOND FORM. 'bulk': how many values and letters a reading holds, each counted each time it is reached (what is shared counts as often as it is met; a slice's spare places count too). A statement '..UptoSaid' is the law's where the arguments, and the package variables that the reading takes, are together of bulk at most 1048576: NARROWER than '..Said'. Prove '..Said' where nothing that the law and all that it calls make is longer than what came in: it says more and counts as full. Else prove '..UptoSaid'. A law counts once. -/
mutual
def uptoBulk {H : Type} : DataW H → Nat
  | .lit (.string bytes) => bytes.length + 1
  | .lit _ => 1
  | .nil => 1
  | .ptr d => uptoBulk d + 1
  | .slice elems spare => uptoBulkAll elems + uptoBulkAll spare + 1
  | .agg parts => uptoBulkAll parts + 1
  | .iface _ d => uptoBulk d + 1
  | .map entries => uptoBulkEntries entries + 1
  | .held _ => 1
def uptoBulkAll {H : Type} : List (DataW H) → Nat
  | [] => 0
  | d :: r => uptoBulk d + uptoBulkAll r
def uptoBulkEntries {H : Type} : List (Lit × DataW H) → Nat
  | [] => 0
  | x :: r => uptoBulkEntry x + uptoBulkEntries r
def uptoBulkEntry {H : Type} : Lit × DataW H → Nat
  | (.string bytes, d) => bytes.length + uptoBulk d + 1
  | (_, d) => uptoBulk d + 1
 end
def uptoSmall : (H : Type) → List (DataW H) → Bool := fun _ ds => decide (uptoBulkAll ds ≤ 1048576)
def OpenSpec.upto (s : _root_.Go.ChangeSpec) : _root_.Go.OpenSpec := { _root_.Go.OpenSpec.ofChange s with cond := some uptoSmall }

/-- 'hatchwaylaw04.CompactPuts', WHERE WHAT IT READS IS OF BULK AT MOST 1048576: true; the input reads as it did. -/
def compactPutsUptoRow : OpenClaim := { program := "ytpneccbeccgfmaadoor", sum := "b093515c715d79cf32aed66c9fa6ecb28bf185171a4ad5f4c9ee44d768cc1430", func := "hatchway/hatchwaylaw04.CompactPuts", spec := "compactPuts", named := ["hatchway/compact.sizes"], apart := false, laid := [("hatchway/compact.sizes", laid_hatchway_compact_sizes)], narrowed := true }
def CompactPutsUptoSaid : Prop := compactPutsUptoRow.holds Tryd.pinned (OpenSpec.upto compactPutsSpec)

/-- 'hatchwaylaw04.CompactReads', WHERE WHAT IT READS IS OF BULK AT MOST 1048576: true; the input reads as it did. -/
def compactReadsUptoRow : OpenClaim := { program := "ytpneccbeccgfmaadoor", sum := "b093515c715d79cf32aed66c9fa6ecb28bf185171a4ad5f4c9ee44d768cc1430", func := "hatchway/hatchwaylaw04.CompactReads", spec := "compactReads", named := ["hatchway/compact.sizes"], apart := false, laid := [("hatchway/compact.sizes", laid_hatchway_compact_sizes)], narrowed := true }
def CompactReadsUptoSaid : Prop := compactReadsUptoRow.holds Tryd.pinned (OpenSpec.upto compactReadsSpec)

/-- 'hatchwaylaw04.CompactCursor', WHERE WHAT IT READS IS OF BULK AT MOST 1048576: true; the input reads as it did. -/
def compactCursorUptoRow : OpenClaim := { program := "ytpneccbeccgfmaadoor", sum := "b093515c715d79cf32aed66c9fa6ecb28bf185171a4ad5f4c9ee44d768cc1430", func := "hatchway/hatchwaylaw04.CompactCursor", spec := "compactCursor", unfollowed := true, recurses := true, named := ["hatchway/compact.sizes"], apart := false, laid := [("hatchway/compact.sizes", laid_hatchway_compact_sizes)], narrowed := true }
def CompactCursorUptoSaid : Prop := compactCursorUptoRow.holds Tryd.pinned (OpenSpec.upto compactCursorSpec)

end Rows
end Go.Proofs.YtpneccbeccgfmaaDoor
