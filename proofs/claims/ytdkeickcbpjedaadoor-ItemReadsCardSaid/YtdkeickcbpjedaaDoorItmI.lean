/-
  The contracts of package item's Text and List over this seat's translation. Conditions: items as they lie in memory, of at most 100,000 bytes.
-/
import Derived.Test.YtdkeickcbpjedaaDoorItmH
namespace Go.Proofs.YtdkeickcbpjedaaDoor
open Go.RowKit

/-- Block g is a variable of type Item that holds x, y, z. -/
def I3 (w : World) (g : Nat) (x y z : Value) : Prop := w.heap[g]? = some (.cells #[x, y, z] 24 (0, 0))
section
variable {w w' : World} {g : Nat} {x y z : Value}
theorem I3.lt (h : I3 w g x y z) : g < w.heap.size := lt_of_block h
theorem I3.c0 (h : I3 w g x y z) : w.cell? ⟨g, 0, none⟩ = some x := by unfold I3 at h; simp [World.cell?, h]
theorem I3.c1 (h : I3 w g x y z) : w.cell? ⟨g, 1, none⟩ = some y := by unfold I3 at h; simp [World.cell?, h]
theorem I3.c2 (h : I3 w g x y z) : w.cell? ⟨g, 2, none⟩ = some z := by unfold I3 at h; simp [World.cell?, h]
theorem I3.free (h : I3 w g x y z) (i : Nat) : w.frozen? ⟨g, i, none⟩ = false := by unfold I3 at h; simp [World.frozen?, h]
theorem I3.new (w : World) (x y z : Value) : I3 (w.alloc (.cells #[x, y, z] 24)) w.heap.size x y z := heap_alloc_new w _
theorem I3.keep (h : I3 w g x y z) (hb : w'.heap[g]? = w.heap[g]?) : I3 w' g x y z := hb.trans h
theorem I3.alloc (h : I3 w g x y z) (o : Obj) : I3 (w.alloc o) g x y z := h.keep (Below.heap_alloc w o g h.lt)
theorem I3.bel (h : I3 w g x y z) (b : Below w.heap.size w w') : I3 w' g x y z := h.keep (b.block g h.lt)
theorem I3.fr (h : I3 w g x y z) {S : Nat → Prop} (f : Fr S w w') (hs : ¬ S g) : I3 w' g x y z := h.keep (f.block g h.lt hs)
theorem I3.put (h : I3 w g x y z) (x' y' z' : Value) : I3 (((w.setCell ⟨g, 0, none⟩ x').setCell ⟨g, 1, none⟩ y').setCell ⟨g, 2, none⟩ z') g x' y' z' := by
  exact (set_cells (i := 2) (set_cells (i := 1) (set_cells (i := 0) h x') y') z').trans rfl
theorem bel_put {B : Nat} {w0 : World} (h : Below B w0 w) (hg : B ≤ g) (x' y' z' : Value) : Below B w0 (((w.setCell ⟨g, 0, none⟩ x').setCell ⟨g, 1, none⟩ y').setCell ⟨g, 2, none⟩ z') :=
  ((h.setCell (p := ⟨g, 0, none⟩) hg x').setCell (p := ⟨g, 1, none⟩) hg y').setCell (p := ⟨g, 2, none⟩) hg z'
theorem fr_put (x' y' z' : Value) : Fr (fun j => j = g) w (((w.setCell ⟨g, 0, none⟩ x').setCell ⟨g, 1, none⟩ y').setCell ⟨g, 2, none⟩ z') :=
  ((fr_set x').trans (fr_set y')).trans (fr_set z')
end

theorem text_any (s : ByteArray) (w : World) (hs : s.size ≤ 1000000) :
    Calls Tryd.prog 14 #[.string s] w fun e w' => e = .returned (.agg #[.string s, .bool false, .slice none 0 0]) ∧ Below w.heap.size w w' := by
  go_enter Tryd.func14, Tryd.ntmps14
  go_wp2_with fail
  refine (strClone_any s _ (by omega)).mono ?_
  rintro e w1 ⟨rfl, b1⟩
  have i1 := (I3.new w (.string ⟨#[]⟩) (.bool false) (.slice none 0 0)).bel b1
  have B1 := Lib.hid (bel_put ((bel1 w (.cells #[.string ⟨#[]⟩, .bool false, .slice none 0 0] 24)).trans (b1.mono (by simp))) (g := w.heap.size) (Nat.le_refl _) (.string s) (.bool false) (.slice none 0 0))
  have x0 := i1.c0
  have x1 := i1.c1
  have x2 := i1.c2
  have lx := i1.lt
  have q0 := i1.free 0
  have q1 := i1.free 1
  have q2 := i1.free 2
  have I2 := i1.put (.string s) (.bool false) (.slice none 0 0)
  have HI := Lib.hid I2
  clear b1 i1 I2
  go_wp2_with fail
  have z0 := HI.out.c0
  have z1 := HI.out.c1
  have z2 := HI.out.c2
  refine bodyPost_ret (v := .agg #[.string s, .bool false, .slice none 0 0]) (by simp [results, Tryd.results14, go_sem, z0, z1, z2]) rfl ?_
  exact ⟨rfl, B1.out⟩

/-- What List answers and leaves. -/
def ListPost (ts : List T) (w : World) (e : Ending) (w' : World) : Prop :=
  ∃ v, e = .returned (.agg #[.string ⟨#[]⟩, .bool true, v]) ∧ InN w' w.heap.size (.mk ⟨#[]⟩ true ts) v ∧ Below w.heap.size w w'

theorem list_any (ts : List T) (v : Value) (w : World) (hI : In w (.mk ⟨#[]⟩ true ts) v) (hc : T.cnts ts ≤ 1048576) (hz : T.sizs ts ≤ 100000) :
    Calls Tryd.prog 13 #[v] w fun e w' => ListPost ts w e w' := by
  obtain ⟨p, p', rfl⟩ := hI.slice
  have hl := T.length_le_cnts ts
  have HI := Lib.hid hI
  have HC := Lib.hid hc
  have HZ := Lib.hid hz
  simp only [T.ts]
  clear hI hz
  go_enter Tryd.func13, Tryd.ntmps13
  go_wp2_with fail
  refine (twins_any w (w.heap.size + 1) (.mk ⟨#[]⟩ true ts) _ _ (ts.length + 1048576) HI.out (Sub.below (bel2 w _ _) (by omega))
    (by have := V.new (w.alloc (.cells #[.string ⟨#[]⟩, .bool false, .slice none 0 0] 24)) 3 (.int .i64 ((ts.length + 1048576 : Nat) : Int)); rw [size_push] at this; exact this)
    (by have := HC.out; simp only [T.ts]; omega) (by have := HC.out; omega) (by have := HZ.out; simp only [T.siz]; have : (⟨#[]⟩ : ByteArray).size = 0 := rfl; omega)).mono ?_
  rintro e w1 ⟨v, rfl, hu, _, f1⟩
  obtain ⟨r, r', rfl⟩ := hu.slice
  have i1 := ((I3.new w (.string ⟨#[]⟩) (.bool false) (.slice none 0 0)).alloc (.cells #[.int .i64 ((ts.length + 1048576 : Nat) : Int)] 3)).fr f1 (by omega)
  have b1 := (bel2 w (.cells #[.string ⟨#[]⟩, .bool false, .slice none 0 0] 24) (.cells #[.int .i64 ((ts.length + 1048576 : Nat) : Int)] 3)).trans (f1.below (by simp; omega) (fun j h => by omega))
  have x0 := i1.c0
  have x1 := i1.c1
  have x2 := i1.c2
  have lx := i1.lt
  have q0 := i1.free 0
  have q1 := i1.free 1
  have q2 := i1.free 2
  have B1 := Lib.hid (bel_put b1 (g := w.heap.size) (Nat.le_refl _) (.string ⟨#[]⟩) (.bool true) (.slice r ts.length r'))
  have HJ := Lib.hid (i1.put (.string ⟨#[]⟩) (.bool true) (.slice r ts.length r'))
  have HU := Lib.hid ((hu.fr (fr_put (g := w.heap.size) (.string ⟨#[]⟩) (.bool true) (.slice r ts.length r')) (fun j h => by simp; omega)).weak (B' := w.heap.size) (by simp; omega))
  simp only [T.ts]
  clear b1 i1 hu f1
  go_wp2_with fail
  have z0 := HJ.out.c0
  have z1 := HJ.out.c1
  have z2 := HJ.out.c2
  refine bodyPost_ret (v := .agg #[.string ⟨#[]⟩, .bool true, .slice r ts.length r']) (by simp [results, Tryd.results13, go_sem, z0, z1, z2]) rfl ?_
  exact ⟨_, rfl, HU.out, B1.out⟩

end Go.Proofs.YtdkeickcbpjedaaDoor
