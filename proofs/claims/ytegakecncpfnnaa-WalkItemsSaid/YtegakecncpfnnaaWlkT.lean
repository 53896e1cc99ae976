/-
  Rows of tokens as they lie in memory (layer 10). Plain lemmas about the model's worlds. No condition.
-/
import Derived.Test.YtegakecncpfnnaaWlkM
import Derived.Test.YtegakecncpfnnaaRlpS
import Derived.Test.YtegakecncpfnnaaItmS
namespace Go.Proofs.Ytegakecncpfnnaa
open Go.RowKit

/-- From a on lie these tokens. -/
def TRow (w : World) (a : Option Addr) (l : List Tok) : Prop := ∀ i (h : i < l.length), ∃ b o, a = some ⟨b, o, none⟩ ∧ w.cell? ⟨b, o + i * 2, none⟩ = some (.int .i64 l[i].k) ∧ w.cell? ⟨b, o + i * 2 + 1, none⟩ = some (.string l[i].t)
/-- A slice of these tokens. -/
def TSl (w : World) (v : Value) (l : List Tok) : Prop := ∃ a c, v = .slice a l.length c ∧ l.length ≤ c ∧ TRow w a l
theorem TRow.mono {w w' : World} {a : Option Addr} {l : List Tok} (h : TRow w a l) (hm : ∀ b i v, w.cell? ⟨b, i, none⟩ = some v → w'.cell? ⟨b, i, none⟩ = some v) : TRow w' a l := fun i hi => by
  obtain ⟨b, o, ha, h0, h1⟩ := h i hi
  exact ⟨b, o, ha, hm _ _ _ h0, hm _ _ _ h1⟩
theorem TRow.bel {w w' : World} {a : Option Addr} {l : List Tok} (h : TRow w a l) (hb : Below w.heap.size w w') : TRow w' a l := h.mono (cells_below hb)
theorem TSl.bel {w w' : World} {v : Value} {l : List Tok} (h : TSl w v l) (hb : Below w.heap.size w w') : TSl w' v l := by
  obtain ⟨a, c, e, hc, hr⟩ := h
  exact ⟨a, c, e, hc, hr.bel hb⟩

/-- Block g is a box of two cells. -/
def B2 (w : World) (g : Nat) (ty : TypeId) (x y : Value) : Prop := w.heap[g]? = some (.cells #[x, y] ty (0, 0))
section
variable {w w' : World} {g : Nat} {ty : TypeId} {x y : Value}
theorem B2.lt (h : B2 w g ty x y) : g < w.heap.size := lt_of_block h
theorem B2.c0 (h : B2 w g ty x y) : w.cell? ⟨g, 0, none⟩ = some x := by unfold B2 at h; simp [World.cell?, h]
theorem B2.c1 (h : B2 w g ty x y) : w.cell? ⟨g, 1, none⟩ = some y := by unfold B2 at h; simp [World.cell?, h]
theorem B2.free (h : B2 w g ty x y) (i : Nat) : w.frozen? ⟨g, i, none⟩ = false := by unfold B2 at h; simp [World.frozen?, h]
theorem B2.new (w : World) (ty : TypeId) (x y : Value) : B2 (w.alloc (.cells #[x, y] ty)) w.heap.size ty x y := heap_alloc_new w _
theorem B2.keep (h : B2 w g ty x y) (hb : w'.heap[g]? = w.heap[g]?) : B2 w' g ty x y := hb.trans h
theorem B2.alloc (h : B2 w g ty x y) (o : Obj) : B2 (w.alloc o) g ty x y := h.keep (Below.heap_alloc w o g h.lt)
theorem B2.bel (h : B2 w g ty x y) (b : Below w.heap.size w w') : B2 w' g ty x y := h.keep (b.block g h.lt)
theorem B2.fr (h : B2 w g ty x y) {S : Nat → Prop} (f : Fr S w w') (hs : ¬ S g) : B2 w' g ty x y := h.keep (f.block g h.lt hs)
theorem B2.set (h : B2 w g ty x y) (x' y' : Value) : B2 ((w.setCell ⟨g, 0, none⟩ x').setCell ⟨g, 1, none⟩ y') g ty x' y' :=
  (set_cells (i := 1) (set_cells (i := 0) h x') y').trans rfl
end
/-- Rows are read whatever happens elsewhere. -/
theorem TRow.fr {w w' : World} {a : Option Addr} {l : List Tok} (h : TRow w a l) {S : Nat → Prop} (f : Fr S w w') (hs : ∀ b o, a = some ⟨b, o, none⟩ → ¬ S b) : TRow w' a l := fun i hi => by
  obtain ⟨b, o, ha, h0, h1⟩ := h i hi
  exact ⟨b, o, ha, cells_fr f h0 (hs b o ha), cells_fr f h1 (hs b o ha)⟩
end Go.Proofs.Ytegakecncpfnnaa
