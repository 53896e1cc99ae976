/-
  The contracts of package item's Text, List and Copy over this seat's translation. Conditions: items as they lie in memory, of at most 100,000 bytes.
-/
import Derived.Test.YtdkeickcbpjedaaItmH
namespace Go.Proofs.Ytdkeickcbpjedaa
open Go.RowKit

/-- Block g is a variable of type Item that holds x, y, z. -/
def I3 (w : World) (g : Nat) (x y z : Value) : Prop := w.heap[g]? = some (.cells #[x, y, z] 24 (0, 0))
section
variable {w w' : World} {g : Nat} {x y z : Value}
theorem I3.lt (h : I3 w g x y z) : g < w.heap.size := lt_of_block h
theorem I3.c0 (h : I3 w g x y z) : w.cell? ⟨g, 0, none⟩ = some x := by unfold I3 at h; simp [World.cell?, h]
theorem I3.c1 (h : I3 w g x y z) : w.cell? ⟨g, 1, none⟩ = some y := by unfold I3 at h; simp [World.cell?, h]
theorem I3.c2 (h : I3 w g x y z) : w.cell? ⟨g, 2, none⟩ = some z := by unfold I3 at h; simp [World.cell?, h]
theorem I3.free (h : I3 w g x y z) (i : Nat) : w.frozen? ⟨g, i, none⟩ = false := by unfold I3 at h; simp [World.frozen?, h]
theorem I3.new (w : World) (x y z : Value) : I3 (w.alloc (.cells #[x, y, z] 24)) w.heap.size x y z := heap_alloc_new w _
theorem I3.keep (h : I3 w g x y z) (hb : w'.heap[g]? = w.heap[g]?) : I3 w' g x y z := hb.trans h
theorem I3.alloc (h : I3 w g x y z) (o : Obj) : I3 (w.alloc o) g x y z := h.keep (Below.heap_alloc w o g h.lt)
theorem I3.bel (h : I3 w g x y z) (b : Below w.heap.size w w') : I3 w' g x y z := h.keep (b.block g h.lt)
theorem I3.fr (h : I3 w g x y z) {S : Nat → Prop} (f : Fr S w w') (hs : ¬ S g) : I3 w' g x y z := h.keep (f.block g h.lt hs)
theorem I3.put (h : I3 w g x y z) (x' y' z' : Value) : I3 (((w.setCell ⟨g, 0, none⟩ x').setCell ⟨g, 1, none⟩ y').setCell ⟨g, 2, none⟩ z') g x' y' z' := by
  exact (set_cells (i := 2) (set_cells (i := 1) (set_cells (i := 0) h x') y') z').trans rfl
theorem bel_put {B : Nat} {w0 : World} (h : Below B w0 w) (hg : B ≤ g) (x' y' z' : Value) : Below B w0 (((w.setCell ⟨g, 0, none⟩ x').setCell ⟨g, 1, none⟩ y').setCell ⟨g, 2, none⟩ z') :=
  ((h.setCell (p := ⟨g, 0, none⟩) hg x').setCell (p := ⟨g, 1, none⟩) hg y').setCell (p := ⟨g, 2, none⟩) hg z'
theorem fr_put (x' y' z' : Value) : Fr (fun j => j = g) w (((w.setCell ⟨g, 0, none⟩ x').setCell ⟨g, 1, none⟩ y').setCell ⟨g, 2, none⟩ z') :=
  ((fr_set x').trans (fr_set y')).trans (fr_set z')
end

theorem text_any (s : ByteArray) (w : World) (hs : s.size ≤ 1000000) :
    Calls Try.prog 20 #[.string s] w fun e w' => e = .returned (.agg #[.string s, .bool false, .slice none 0 0]) ∧ Below w.heap.size w w' := by
  go_enter Try.func20, Try.ntmps20
  go_wp2_with fail
  refine (strClone_any s _ (by omega)).mono ?_
  rintro e w1 ⟨rfl, b1⟩
  have i1 := (I3.new w (.string ⟨#[]⟩) (.bool false) (.slice none 0 0)).bel b1
  have B1 := Lib.hid (bel_put ((bel1 w (.cells #[.string ⟨#[]⟩, .bool false, .slice none 0 0] 24)).trans (b1.mono (by simp))) (g := w.heap.size) (Nat.le_refl _) (.string s) (.bool false) (.slice none 0 0))
  have x0 := i1.c0
  have x1 := i1.c1
  have x2 := i1.c2
  have lx := i1.lt
  have q0 := i1.free 0
  have q1 := i1.free 1
  have q2 := i1.free 2
  have I2 := i1.put (.string s) (.bool false) (.slice none 0 0)
  have HI := Lib.hid I2
  clear b1 i1 I2
  go_wp2_with fail
  have z0 := HI.out.c0
  have z1 := HI.out.c1
  have z2 := HI.out.c2
  refine bodyPost_ret (v := .agg #[.string s, .bool false, .slice none 0 0]) (by simp [results, Try.results20, go_sem, z0, z1, z2]) rfl ?_
  exact ⟨rfl, B1.out⟩

/-- What List answers and leaves. -/
def ListPost (ts : List T) (w : World) (e : Ending) (w' : World) : Prop :=
  ∃ v, e = .returned (.agg #[.string ⟨#[]⟩, .bool true, v]) ∧ InN w' w.heap.size (.mk ⟨#[]⟩ true ts) v ∧ Below w.heap.size w w'

theorem list_any (ts : List T) (v : Value) (w : World) (hI : In w (.mk ⟨#[]⟩ true ts) v) (hc : T.cnts ts ≤ 1048576) (hz : T.sizs ts ≤ 100000) :
    Calls Try.prog 19 #[v] w fun e w' => ListPost ts w e w' := by
  obtain ⟨p, p', rfl⟩ := hI.slice
  have hl := T.length_le_cnts ts
  have HI := Lib.hid hI
  have HC := Lib.hid hc
  have HZ := Lib.hid hz
  simp only [T.ts]
  clear hI hz
  go_enter Try.func19, Try.ntmps19
  go_wp2_with fail
  refine (twins_any w (w.heap.size + 1) (.mk ⟨#[]⟩ true ts) _ _ (ts.length + 1048576) HI.out (Sub.below (bel2 w _ _) (by omega))
    (by have := V.new (w.alloc (.cells #[.string ⟨#[]⟩, .bool false, .slice none 0 0] 24)) 3 (.int .i64 ((ts.length + 1048576 : Nat) : Int)); rw [size_push] at this; exact this)
    (by have := HC.out; simp only [T.ts]; omega) (by have := HC.out; omega) (by have := HZ.out; simp only [T.siz]; have : (⟨#[]⟩ : ByteArray).size = 0 := rfl; omega)).mono ?_
  rintro e w1 ⟨v, rfl, hu, _, f1⟩
  obtain ⟨r, r', rfl⟩ := hu.slice
  have i1 := ((I3.new w (.string ⟨#[]⟩) (.bool false) (.slice none 0 0)).alloc (.cells #[.int .i64 ((ts.length + 1048576 : Nat) : Int)] 3)).fr f1 (by omega)
  have b1 := (bel2 w (.cells #[.string ⟨#[]⟩, .bool false, .slice none 0 0] 24) (.cells #[.int .i64 ((ts.length + 1048576 : Nat) : Int)] 3)).trans (f1.below (by simp; omega) (fun j h => by omega))
  have x0 := i1.c0
  have x1 := i1.c1
  have x2 := i1.c2
  have lx := i1.lt
  have q0 := i1.free 0
  have q1 := i1.free 1
  have q2 := i1.free 2
  have B1 := Lib.hid (bel_put b1 (g := w.heap.size) (Nat.le_refl _) (.string ⟨#[]⟩) (.bool true) (.slice r ts.length r'))
  have HJ := Lib.hid (i1.put (.string ⟨#[]⟩) (.bool true) (.slice r ts.length r'))
  have HU := Lib.hid ((hu.fr (fr_put (g := w.heap.size) (.string ⟨#[]⟩) (.bool true) (.slice r ts.length r')) (fun j h => by simp; omega)).weak (B' := w.heap.size) (by simp; omega))
  simp only [T.ts]
  clear b1 i1 hu f1
  go_wp2_with fail
  have z0 := HJ.out.c0
  have z1 := HJ.out.c1
  have z2 := HJ.out.c2
  refine bodyPost_ret (v := .agg #[.string ⟨#[]⟩, .bool true, .slice r ts.length r']) (by simp [results, Try.results19, go_sem, z0, z1, z2]) rfl ?_
  exact ⟨_, rfl, HU.out, B1.out⟩

theorem swap_sub (w : World) (o' : Obj) (o : Obj) : Sub w.heap.size ((w.alloc (.cells #[] 3)).alloc o) ((w.alloc o').alloc o) := by
  intro b i v hc
  have hh : ∀ x : Obj, ∀ b, b ≠ w.heap.size → ((w.alloc x).alloc o).heap[b]? = ((w.alloc o').alloc o).heap[b]? := by
    intro x b hb
    show ((w.heap.push x).push o)[b]? = ((w.heap.push o').push o)[b]?
    simp only [Array.getElem?_push, Array.size_push]
    rw [if_neg hb, if_neg hb]
  by_cases hb : b = w.heap.size
  · subst hb
    exfalso
    rw [World.cell?_alloc_lt _ _ _ (by simp), World.cell?_alloc_new] at hc
    simp at hc
  · refine ⟨hb, ?_⟩
    rw [← hc]
    exact (World.cell?_of_block (a := ⟨b, i, none⟩) (hh _ b hb)).symm

/-- What Copy answers and leaves. -/
def CopyPost (t : T) (w : World) (e : Ending) (w' : World) : Prop :=
  Below w.heap.size w w' ∧ if T.may t then ∃ v, e = .returned (.agg #[.string t.s, .bool t.l, v]) ∧ InN w' w.heap.size t v else e = .returned (.agg #[.string ⟨#[]⟩, .bool false, .slice none 0 0])

set_option maxHeartbeats 1000000 in
theorem copy_any (t : T) (v : Value) (w : World) (hI : In w t v) (hz : T.siz t ≤ 100000) :
    Calls Try.prog 16 #[.agg #[.string t.s, .bool t.l, v]] w fun e w' => CopyPost t w e w' := by
  obtain ⟨p, p', rfl⟩ := hI.slice
  have HI := Lib.hid hI
  have HZ := Lib.hid hz
  have MA := Lib.hid (may_any t (.slice p t.ts.length p'))
  obtain ⟨r, hr⟩ : ∃ r, r = T.may t := ⟨_, rfl⟩
  have HR := Lib.hid hr
  rw [← hr] at MA
  clear hI hz hr
  go_enter Try.func16, Try.ntmps16
  go_wp2_with fail
  refine (MA.out _ (HI.out.bel (bel2 _ _ _))).mono ?_
  rintro e w1 ⟨rfl, b1⟩
  have i0 := ((I3.new w (.string t.s) (.bool t.l) (.slice p t.ts.length p')).alloc (.cells #[.string ⟨#[]⟩, .bool false, .slice none 0 0] 24)).bel b1
  have i1 := (I3.new (w.alloc (.cells #[.string t.s, .bool t.l, .slice p t.ts.length p'] 24)) (.string ⟨#[]⟩) (.bool false) (.slice none 0 0)).bel b1
  rw [size_push] at i1
  have B1 := Lib.hid ((bel2 w (.cells #[.string t.s, .bool t.l, .slice p t.ts.length p'] 24) (.cells #[.string ⟨#[]⟩, .bool false, .slice none 0 0] 24)).trans (b1.mono (by simp; omega)))
  have x0 := i1.c0
  have x1 := i1.c1
  have x2 := i1.c2
  have lx := i1.lt
  have q0 := i1.free 0
  have q1 := i1.free 1
  have q2 := i1.free 2
  have y0 := i0.c0
  have y1 := i0.c1
  have y2 := i0.c2
  have ly := i0.lt
  have HX := Lib.hid i1
  clear b1 i0 i1
  cases r
  · have B2 := Lib.hid (bel_put B1.out (g := w.heap.size + 1) (by omega) (.string ⟨#[]⟩) (.bool false) (.slice none 0 0))
    have HJ := Lib.hid (HX.out.put (.string ⟨#[]⟩) (.bool false) (.slice none 0 0))
    go_wp2_with fail
    have z0 := HJ.out.c0
    have z1 := HJ.out.c1
    have z2 := HJ.out.c2
    refine bodyPost_ret (v := .agg #[.string ⟨#[]⟩, .bool false, .slice none 0 0]) (by simp [results, Try.results16, go_sem, z0, z1, z2]) rfl ?_
    exact ⟨B2.out, by rw [← HR.out]; rfl⟩
  · go_wp2_with fail
    have hI0 : In ((w1.alloc (.cells #[] 3)).alloc (.cells #[.string t.s, .bool t.l, .slice p t.ts.length p'] 24)) (.mk ⟨#[]⟩ true [t]) (.slice (some ⟨w1.heap.size + 1, 0, none⟩) 1 1) := by
      have g0 := I3.new (w1.alloc (.cells #[] 3)) (.string t.s) (.bool t.l) (.slice p t.ts.length p')
      rw [size_push] at g0
      exact ⟨Nat.zero_le _, by simp [maxLen], _, 1, rfl, ⟨⟨_, _, _, rfl, g0.c0, g0.c1, g0.c2, HI.out.bel (B1.out.trans ((bel2 w1 _ _).mono B1.out.size))⟩, trivial⟩⟩
    have hc : T.cnt t ≤ 1024 := by
      have := HR.out.symm
      simp only [T.may, Bool.and_eq_true, decide_eq_true_eq] at this
      exact this.2
    refine (twins_any _ w1.heap.size (.mk ⟨#[]⟩ true [t]) _ _ 1024 hI0 (swap_sub w1 _ _) ((V.new w1 3 (.int .i64 1024)).alloc _) (by simpa [T.ts, T.cnts] using hc) (by omega) (by
      have := HZ.out
      simp only [T.siz, T.sizs]
      have : (⟨#[]⟩ : ByteArray).size = 0 := rfl
      omega)).mono ?_
    rintro e w4 ⟨v, rfl, hu, _, f4⟩
    obtain ⟨_, _, a, c, rfl, hrow⟩ := hu
    obtain ⟨g, cur, v, rfl, hg, hcur, d0, d1, d2, hv⟩ := RowN.at [t] 0 0 (by simp) hrow
    obtain ⟨r, r', rfl⟩ := hv.slice
    simp only [Nat.zero_add, Nat.zero_mul, List.getElem_cons_zero] at d0 d1 d2
    have e0 : w4.cell? ⟨g, 0, none⟩ = some (.string t.s) := (cell_cells hcur).trans d0
    have e1 : w4.cell? ⟨g, 1, none⟩ = some (.bool t.l) := (cell_cells hcur).trans d1
    have e2 : w4.cell? ⟨g, 2, none⟩ = some (.slice r t.ts.length r') := (cell_cells hcur).trans d2
    have eg := lt_of_cell e0
    have b2 := bel2 w1 (.cells #[.int .i64 1024] 3) (.cells #[.string t.s, .bool t.l, .slice p t.ts.length p'] 24)
    have i4 := (HX.out.bel b2).fr f4 (by omega)
    have b4 := B1.out.trans (b2.mono B1.out.size) |>.trans (f4.below (B := w.heap.size) (by have := B1.out.size; simp; omega) (fun j h => by have := B1.out.size; omega))
    clear x0 x1 x2 lx q0 q1 q2 y0 y1 y2 ly
    have x0 := i4.c0
    have x1 := i4.c1
    have x2 := i4.c2
    have lx := i4.lt
    have q0 := i4.free 0
    have q1 := i4.free 1
    have q2 := i4.free 2
    have B4 := Lib.hid (bel_put b4 (g := w.heap.size + 1) (by omega) (.string t.s) (.bool t.l) (.slice r t.ts.length r'))
    have HJ := Lib.hid (i4.put (.string t.s) (.bool t.l) (.slice r t.ts.length r'))
    have HU := Lib.hid ((hv.fr (fr_put (g := w.heap.size + 1) (.string t.s) (.bool t.l) (.slice r t.ts.length r')) (fun j h => by have := HX.out.lt; simp; omega)).weak (B' := w.heap.size) (by have := B1.out.size; simp; omega))
    simp only [List.length_cons, List.length_nil, Nat.zero_add]
    clear i4 b4 b2 hv hcur d0 d1 d2 f4 hrow hc hI0
    go_wp2_with fail
    have z0 := HJ.out.c0
    have z1 := HJ.out.c1
    have z2 := HJ.out.c2
    refine bodyPost_ret (v := .agg #[.string t.s, .bool t.l, .slice r t.ts.length r']) (by simp [results, Try.results16, go_sem, z0, z1, z2]) rfl ?_
    exact ⟨B4.out, by rw [← HR.out]; exact ⟨_, rfl, HU.out⟩⟩
end Go.Proofs.Ytdkeickcbpjedaa
