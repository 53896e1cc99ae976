/-
  DERIVED. GIVEN WITH THE SEED: THE CARDS: each row of YtdkeickcbpjedaaDoorRows.lean that lists a variable, with what it lists TIED to the program's text (the seventh form; the later family's looks); each row that meets fmt, with fmt's text TOLD by the authors' own Lean function (tested against real Go, not proved from fmt's source: count such statements apart). THE CARD IS WHAT COUNTS. Prove the row's statement (the work); the ties are given (YtdkeickcbpjedaaDoorTie.lean); close each card by the builder's one call (the guide's Derived/Test/ToyasCard.lean, 'card_holds'). Laid BY PROGRAM, IN A SANDBOX (cutbox-door.mjs). By AI agents, Wed Nov 11 2026. No macro, syntax, notation, axiom, sorry.
-/
import Derived.Test.YtdkeickcbpjedaaDoorRows
import GoSem.ClaimSeven
namespace Go.Proofs.YtdkeickcbpjedaaDoor
namespace Rows

/-- THE TIED CARD OF 'hatchwaylaw08.ItemShows'. -/
def itemShowsCard : Claim7 := { stood := { row := itemShowsRow, standIns := [], harness := (true, "c8bbfcd8a43404704808fbe1a4bb9363c4a6f92d49927e9db0bdff1ee1b35f38"), looks := false }, kinds := [], alts := [], laidByText := true, laidKinds := [.data, .pinned], laidTests := true, laidLooks := .later }
def ItemShowsCardSaid : Prop := Claim7.holds Tryd.pinned (.plain (OpenSpec.ofChange itemShowsSpec)) itemShowsCard

/-- THE TIED CARD OF 'hatchwaylaw08.ItemReads'. -/
def itemReadsCard : Claim7 := { stood := { row := itemReadsRow, standIns := [], harness := (true, "c8bbfcd8a43404704808fbe1a4bb9363c4a6f92d49927e9db0bdff1ee1b35f38"), looks := false }, kinds := [], alts := [], laidByText := true, laidKinds := [.data, .pinned], laidTests := true, laidLooks := .later }
def ItemReadsCardSaid : Prop := Claim7.holds Tryd.pinned (.plain (OpenSpec.ofChange itemReadsSpec)) itemReadsCard

/-- THE SECOND FORM's CARD OF 'hatchwaylaw08.ItemShows'. -/
def itemShowsUptoCard : Claim7 := { stood := { row := itemShowsUptoRow, standIns := [], harness := (true, "c8bbfcd8a43404704808fbe1a4bb9363c4a6f92d49927e9db0bdff1ee1b35f38"), looks := false }, kinds := [], alts := [], laidByText := true, laidKinds := [.data, .pinned], laidTests := true, laidLooks := .later }
def ItemShowsUptoCardSaid : Prop := Claim7.holds Tryd.pinned (.plain (OpenSpec.upto itemShowsSpec)) itemShowsUptoCard

/-- THE SECOND FORM's CARD OF 'hatchwaylaw08.ItemReads'. -/
def itemReadsUptoCard : Claim7 := { stood := { row := itemReadsUptoRow, standIns := [], harness := (true, "c8bbfcd8a43404704808fbe1a4bb9363c4a6f92d49927e9db0bdff1ee1b35f38"), looks := false }, kinds := [], alts := [], laidByText := true, laidKinds := [.data, .pinned], laidTests := true, laidLooks := .later }
def ItemReadsUptoCardSaid : Prop := Claim7.holds Tryd.pinned (.plain (OpenSpec.upto itemReadsSpec)) itemReadsUptoCard
end Rows
end Go.Proofs.YtdkeickcbpjedaaDoor
