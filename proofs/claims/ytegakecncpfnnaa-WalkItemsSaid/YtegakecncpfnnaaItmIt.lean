/-
  The contract of package item's Text over this seat's translation. Conditions: a text of at most 1,000,000 bytes.
-/
import Derived.Test.YtegakecncpfnnaaItmHc
import Derived.Test.YtegakecncpfnnaaItmS
import Derived.Test.YtegakecncpfnnaaItmI3
namespace Go.Proofs.Ytegakecncpfnnaa
open Go.RowKit

theorem text_any (s : ByteArray) (w : World) (hs : s.size ≤ 1000000) :
    Calls Try.prog 29 #[.string s] w fun e w' => e = .returned (.agg #[.string s, .bool false, .slice none 0 0]) ∧ Below w.heap.size w w' := by
  go_enter Try.func29, Try.ntmps29
  go_wp2_with fail
  refine (strClone_any s _ (by omega)).mono ?_
  rintro e w1 ⟨rfl, b1⟩
  have i1 := (I3.new w (.string ⟨#[]⟩) (.bool false) (.slice none 0 0)).bel b1
  have B1 := Lib.hid (bel_put ((bel1 w (.cells #[.string ⟨#[]⟩, .bool false, .slice none 0 0] 24)).trans (b1.mono (by simp))) (g := w.heap.size) (Nat.le_refl _) (.string s) (.bool false) (.slice none 0 0))
  have x0 := i1.c0
  have x1 := i1.c1
  have x2 := i1.c2
  have lx := i1.lt
  have q0 := i1.free 0
  have q1 := i1.free 1
  have q2 := i1.free 2
  have I2 := i1.put (.string s) (.bool false) (.slice none 0 0)
  have HI := Lib.hid I2
  clear b1 i1 I2
  go_wp2_with fail
  have z0 := HI.out.c0
  have z1 := HI.out.c1
  have z2 := HI.out.c2
  refine bodyPost_ret (v := .agg #[.string s, .bool false, .slice none 0 0]) (by simp [results, Try.results29, go_sem, z0, z1, z2]) rfl ?_
  exact ⟨rfl, B1.out⟩
end Go.Proofs.Ytegakecncpfnnaa
