/-
  A variable of one cell in a block of its own. Plain lemmas about the model's worlds, no program. No condition.
-/
import Derived.Test.YtegakecncpfnnaaItmW
import Derived.OneCell
import Derived.ProofKit
namespace Go.Proofs.Ytegakecncpfnnaa
open Go.RowKit

/-- Block b is a variable of type ty that holds v. -/
def V (w : World) (b : Nat) (ty : TypeId) (v : Value) : Prop := w.heap[b]? = some (.cells #[v] ty (0, 0))
section
variable {w w' : World} {b : Nat} {ty : TypeId} {v : Value}
theorem V.lt (h : V w b ty v) : b < w.heap.size := lt_of_block h
theorem V.cell (h : V w b ty v) : w.cell? ⟨b, 0, none⟩ = some v := by unfold V at h; simp [World.cell?, h]
theorem V.free (h : V w b ty v) : w.frozen? ⟨b, 0, none⟩ = false := by unfold V at h; simp [World.frozen?, h]
theorem V.drew (h : V w b ty v) : V w.drew b ty v := h
theorem V.drewN (h : V w b ty v) (n : Nat) : V (w.drewN n) b ty v := h
theorem V.keep (h : V w b ty v) (hb : w'.heap[b]? = w.heap[b]?) : V w' b ty v := hb.trans h
theorem V.alloc (h : V w b ty v) (x : Obj) : V (w.alloc x) b ty v := h.keep (Below.heap_alloc w x b h.lt)
theorem V.far (h : V w b ty v) {p : Addr} (hp : b ≠ p.block) (u : Value) : V (w.setCell p u) b ty v := h.keep (Below.heap_setCell w p u b hp)
theorem V.set (h : V w b ty v) (u : Value) : V (w.setCell ⟨b, 0, none⟩ u) b ty u := by
  unfold V at h ⊢
  simp [World.setCell, Array.getElem?_modify, h]
theorem V.new (w : World) (ty : TypeId) (v : Value) : V (w.alloc (.cells #[v] ty)) w.heap.size ty v := heap_alloc_new w _
theorem V.fr (h : V w b ty v) {S : Nat → Prop} (f : Fr S w w') (hs : ¬ S b) : V w' b ty v := h.keep (f.block b h.lt hs)
theorem V.bel (h : V w b ty v) {B : Nat} (f : Below B w w') (hs : b < B) : V w' b ty v := h.keep (f.block b hs)
end
theorem cells_fr {w w' : World} {S : Nat → Prop} (f : Fr S w w') {b i : Nat} {v : Value} (hc : w.cell? ⟨b, i, none⟩ = some v) (hs : ¬ S b) : w'.cell? ⟨b, i, none⟩ = some v :=
  (f.cell (p := ⟨b, i, none⟩) (lt_of_cell hc) hs).trans hc
theorem fr_set {w : World} {g i : Nat} (u : Value) : Fr (fun j => j = g) w (w.setCell ⟨g, i, none⟩ u) := (Fr.refl (fun j => j = g) w).setCell (p := ⟨g, i, none⟩) (.inl rfl) u
end Go.Proofs.Ytegakecncpfnnaa
