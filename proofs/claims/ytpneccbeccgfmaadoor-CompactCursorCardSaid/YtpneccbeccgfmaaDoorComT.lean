/-
  What a row that lists the table of sizes gives the walks over this seat's translation. No condition.
-/
import Derived.Test.YtpneccbeccgfmaaDoorComA
import Derived.Lib.LaidTab
import Derived.LaidMore
namespace Go.Proofs.YtpneccbeccgfmaaDoor
open Go.RowKit

theorem sizes_at : Tryd.prog.globalNamed "hatchway/compact.sizes" = some 0 := by kernel_rfl
theorem sizes_type : (Tryd.prog.globals[0]?).map (·.type) = some 56 := by kernel_rfl
theorem sizes_cells : Tryd.prog.cellsOf 56 = 4 := by kernel_rfl
theorem sizes_cell : Tryd.prog.cellsOf 3 = 1 := by kernel_rfl
theorem tab_of {W : World} {rest : List (String × DataW Unit)} (h : laidMet Tryd.prog (("hatchway/compact.sizes", Rows.laid_hatchway_compact_sizes) :: rest) W) : Tab W := by
  have t : Lib.TabIs Tryd.prog W "hatchway/compact.sizes" .i64 [0, 2, 4, 8] := Lib.tabIs_of_head (rest := rest) sizes_at sizes_type Tryd.underlying56 Tryd.underlying3 sizes_cell sizes_cells h
  exact ⟨t.cell sizes_at 0 (by decide), t.cell sizes_at 1 (by decide), t.cell sizes_at 2 (by decide), t.cell sizes_at 3 (by decide)⟩
end Go.Proofs.YtpneccbeccgfmaaDoor
