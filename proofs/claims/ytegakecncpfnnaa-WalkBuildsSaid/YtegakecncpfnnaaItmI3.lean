/-
  A variable of type Item in a block of its own. Plain lemmas about the model's worlds, no program. No condition.
-/
import Derived.Test.YtegakecncpfnnaaItmN
namespace Go.Proofs.Ytegakecncpfnnaa
open Go.RowKit

/-- Block g is a variable of type Item that holds x, y, z. -/
def I3 (w : World) (g : Nat) (x y z : Value) : Prop := w.heap[g]? = some (.cells #[x, y, z] 24 (0, 0))
section
variable {w w' : World} {g : Nat} {x y z : Value}
theorem I3.lt (h : I3 w g x y z) : g < w.heap.size := lt_of_block h
theorem I3.c0 (h : I3 w g x y z) : w.cell? ⟨g, 0, none⟩ = some x := by unfold I3 at h; simp [World.cell?, h]
theorem I3.c1 (h : I3 w g x y z) : w.cell? ⟨g, 1, none⟩ = some y := by unfold I3 at h; simp [World.cell?, h]
theorem I3.c2 (h : I3 w g x y z) : w.cell? ⟨g, 2, none⟩ = some z := by unfold I3 at h; simp [World.cell?, h]
theorem I3.free (h : I3 w g x y z) (i : Nat) : w.frozen? ⟨g, i, none⟩ = false := by unfold I3 at h; simp [World.frozen?, h]
theorem I3.new (w : World) (x y z : Value) : I3 (w.alloc (.cells #[x, y, z] 24)) w.heap.size x y z := heap_alloc_new w _
theorem I3.keep (h : I3 w g x y z) (hb : w'.heap[g]? = w.heap[g]?) : I3 w' g x y z := hb.trans h
theorem I3.alloc (h : I3 w g x y z) (o : Obj) : I3 (w.alloc o) g x y z := h.keep (Below.heap_alloc w o g h.lt)
theorem I3.bel (h : I3 w g x y z) (b : Below w.heap.size w w') : I3 w' g x y z := h.keep (b.block g h.lt)
theorem I3.fr (h : I3 w g x y z) {S : Nat → Prop} (f : Fr S w w') (hs : ¬ S g) : I3 w' g x y z := h.keep (f.block g h.lt hs)
theorem I3.put (h : I3 w g x y z) (x' y' z' : Value) : I3 (((w.setCell ⟨g, 0, none⟩ x').setCell ⟨g, 1, none⟩ y').setCell ⟨g, 2, none⟩ z') g x' y' z' := by
  exact (set_cells (i := 2) (set_cells (i := 1) (set_cells (i := 0) h x') y') z').trans rfl
theorem bel_put {B : Nat} {w0 : World} (h : Below B w0 w) (hg : B ≤ g) (x' y' z' : Value) : Below B w0 (((w.setCell ⟨g, 0, none⟩ x').setCell ⟨g, 1, none⟩ y').setCell ⟨g, 2, none⟩ z') :=
  ((h.setCell (p := ⟨g, 0, none⟩) hg x').setCell (p := ⟨g, 1, none⟩) hg y').setCell (p := ⟨g, 2, none⟩) hg z'
theorem fr_put (x' y' z' : Value) : Fr (fun j => j = g) w (((w.setCell ⟨g, 0, none⟩ x').setCell ⟨g, 1, none⟩ y').setCell ⟨g, 2, none⟩ z') :=
  ((fr_set x').trans (fr_set y')).trans (fr_set z')
end
end Go.Proofs.Ytegakecncpfnnaa
