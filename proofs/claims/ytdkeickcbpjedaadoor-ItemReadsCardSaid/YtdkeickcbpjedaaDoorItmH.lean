/-
  The contracts of package item's twins, Copy, List, Text over this seat's translation. Conditions: an item as it lies in memory, and a count that is enough.
-/
import Derived.Test.YtdkeickcbpjedaaDoorItmG
import Derived.Test.YtdkeickcbpjedaaDoorItmN
import Derived.Test.YtdkeickcbpjedaaDoorShelf
namespace Go.Proofs.YtdkeickcbpjedaaDoor
open Go.RowKit

theorem strClone_any (s : ByteArray) (w : World) (hs : s.size ≤ 281474976710656) :
    Calls Tryd.prog 26 #[.string s] w fun e w' => e = .returned (.string s) ∧ Below w.heap.size w w' := by
  go_enter Tryd.func26, Tryd.ntmps26
  go_wp2_with fail
  refine (Tryd.stringslite_Clone s _ hs).mono ?_
  rintro e w1 ⟨rfl, b1⟩
  have B1 := Lib.hid b1
  clear b1
  go_wp2
  go_ret
  exact ⟨rfl, B1.out⟩

/-- All that w0 has lies in w too, and not in block bl. -/
def Sub (bl : Nat) (w0 w : World) : Prop := ∀ b i v, w0.cell? ⟨b, i, none⟩ = some v → b ≠ bl ∧ w.cell? ⟨b, i, none⟩ = some v
theorem Sub.fr {bl : Nat} {w0 w w' : World} (h : Sub bl w0 w) (f : Fr (fun j => j = bl) w w') : Sub bl w0 w' :=
  fun b i v hc => ⟨(h b i v hc).1, cells_fr f (h b i v hc).2 (h b i v hc).1⟩
theorem Sub.below {bl : Nat} {w0 w : World} (f : Below w0.heap.size w0 w) (h : w0.heap.size ≤ bl) : Sub bl w0 w :=
  fun _ _ _ hc => ⟨Nat.ne_of_lt (Nat.lt_of_lt_of_le (lt_of_cell hc) h), cells_below f _ _ _ hc⟩

/-- What twins answers and leaves. -/
def TwinPost (t : T) (bl k : Nat) (w : World) (e : Ending) (w' : World) : Prop :=
  ∃ v, e = .returned v ∧ InN w' w.heap.size t v ∧ V w' bl 3 (.int .i64 (k - T.cnts t.ts : Nat)) ∧ Fr (fun j => j = bl) w w'

/-- The row behind j rounds. -/
def Half (w0 wr : World) (g : Nat) (ts : List T) (j : Nat) : Prop :=
  ∃ cur, wr.heap[g]? = some (.cells cur 24 (0, 0)) ∧ ∀ i (h : i < ts.length), cur[i * 3]? = some (.string ts[i].s) ∧ cur[i * 3 + 1]? = some (.bool ts[i].l) ∧ ∃ v, cur[i * 3 + 2]? = some v ∧
    (i < j → InN wr (g + 1) ts[i] v) ∧ (j ≤ i → In w0 ts[i] v)

theorem Half.fr {w0 w w' : World} {g : Nat} {ts : List T} {j : Nat} (h : Half w0 w g ts j) {S : Nat → Prop} (f : Fr S w w') (hs : ∀ j, S j → j < g) : Half w0 w' g ts j := by
  obtain ⟨cur, hg, h⟩ := h
  refine ⟨cur, (f.block g (lt_of_block hg) fun hS => Nat.lt_irrefl g (hs g hS)).trans hg, fun i hi => ?_⟩
  obtain ⟨c0, c1, v, c2, h1, h2⟩ := h i hi
  exact ⟨c0, c1, v, c2, fun hj => (h1 hj).fr f fun j hS => Nat.lt_succ_of_lt (hs j hS), h2⟩
theorem fr_set {w : World} {g i : Nat} (u : Value) : Fr (fun j => j = g) w (w.setCell ⟨g, i, none⟩ u) := (Fr.refl (fun j => j = g) w).setCell (p := ⟨g, i, none⟩) (.inl rfl) u
theorem Half.text {w0 w : World} {g : Nat} {ts : List T} {j : Nat} (h : Half w0 w g ts j) (hj : j < ts.length) : Half w0 (w.setCell ⟨g, j * 3, none⟩ (.string ts[j].s)) g ts j := by
  obtain ⟨cur, hg, h⟩ := h
  refine ⟨_, set_cells hg _, fun i hi => ?_⟩
  obtain ⟨c0, c1, v, c2, h1, h2⟩ := h i hi
  obtain ⟨d0, _, _⟩ := h j hj
  have hlt : j * 3 < cur.size := (Array.getElem?_eq_some_iff.1 d0).1
  refine ⟨?_, ?_, v, ?_, fun hj => (h1 hj).fr (fr_set _) fun j hS => by omega, h2⟩
  · rw [Array.getElem?_setIfInBounds]
    split
    · rename_i he
      obtain rfl : i = j := by omega
      simp
    · exact c0
  · rw [Array.getElem?_setIfInBounds, if_neg (by omega)]; exact c1
  · rw [Array.getElem?_setIfInBounds, if_neg (by omega)]; exact c2
theorem Half.sub {w0 w : World} {g : Nat} {ts : List T} {j : Nat} (h : Half w0 w g ts j) (hj : j < ts.length) (u : Value) (hu : InN w (g + 1) ts[j] u) : Half w0 (w.setCell ⟨g, j * 3 + 2, none⟩ u) g ts (j + 1) := by
  obtain ⟨cur, hg, h⟩ := h
  refine ⟨_, set_cells hg _, fun i hi => ?_⟩
  obtain ⟨c0, c1, v, c2, h1, h2⟩ := h i hi
  obtain ⟨_, _, _, d2, _⟩ := h j hj
  have hlt : j * 3 + 2 < cur.size := (Array.getElem?_eq_some_iff.1 d2).1
  refine ⟨?_, ?_, ?_⟩
  · rw [Array.getElem?_setIfInBounds, if_neg (by omega)]; exact c0
  · rw [Array.getElem?_setIfInBounds, if_neg (by omega)]; exact c1
  · by_cases he : i = j
    · subst he
      refine ⟨u, by simp [hlt], fun _ => hu.fr (fr_set _) fun j hS => by omega, fun hl => by omega⟩
    · refine ⟨v, ?_, fun hl => (h1 (by omega)).fr (fr_set _) fun j hS => by omega, fun hl => h2 (by omega)⟩
      rw [Array.getElem?_setIfInBounds, if_neg (by omega)]; exact c2

set_option maxHeartbeats 1000000 in
theorem twins_any (w0 : World) (bl : Nat) : ∀ (t : T) (v : Value) (w : World) (k : Nat), In w0 t v → Sub bl w0 w → V w bl 3 (.int .i64 k) → T.cnts t.ts ≤ k → k ≤ 2097152 → T.siz t ≤ 100000 →
    Calls Tryd.prog 25 #[v, .pointer (some ⟨bl, 0, none⟩)] w fun e w' => TwinPost t bl k w e w' := by
  refine T.ind_ ?_
  intro s l ts ih v w k hI hw hk hc hk2 hz
  obtain ⟨hs, hlen, a, c, rfl, hr⟩ := hI
  have hn1 := T.length_le_cnts ts
  have ck := hk.cell
  have fk := hk.free
  have lk := hk.lt
  have IH := Lib.hid ih
  have HR := Lib.hid hr
  have HW := Lib.hid hw
  have HK := Lib.hid hk
  have HC := Lib.hid hc
  have HZ := Lib.hid hz
  have SL := Lib.hid (And.intro hs hlen)
  simp only [T.ts] at hc HC ⊢
  clear ih hr hw hk hz hs
  obtain ⟨q, hq⟩ : ∃ q, k = ts.length + q := ⟨k - ts.length, by omega⟩
  have t2 : (k : Int) - (ts.length : Int) = q := by omega
  have HQ := Lib.hid hq
  have W1 := Lib.hid (show V (w.setCell ⟨bl, 0, none⟩ (.int .i64 ((k : Int) - (ts.length : Int)))) bl 3 (.int .i64 q) ∧ Sub bl w0 (w.setCell ⟨bl, 0, none⟩ (.int .i64 ((k : Int) - (ts.length : Int)))) ∧ Fr (fun j => j = bl) w (w.setCell ⟨bl, 0, none⟩ (.int .i64 ((k : Int) - (ts.length : Int)))) from by
    rw [t2]
    exact ⟨HK.out.set _, HW.out.fr (fr_set _), fr_set _⟩)
  have Z1 := Lib.hid (show (w.setCell ⟨bl, 0, none⟩ (.int .i64 ((k : Int) - (ts.length : Int)))).heap.size = w.heap.size by simp [World.setCell])
  clear t2 hq
  go_enter Tryd.func25, Tryd.ntmps25
  go_wp2_with fail
  refine (sclone_any w0 ts a c _ HR.out (fun b i v h => (W1.out.2.1 b i v h).2) (by omega)).mono ?_
  rintro e w1 ⟨v, rfl, htw, b1⟩
  have v1 : V w1 bl 3 (.int .i64 q) := W1.out.1.bel b1 W1.out.1.lt
  have f1 : Fr (fun j => j = bl) w w1 := W1.out.2.2.trans (Fr.ofBelow b1)
  rw [Z1.out] at htw
  have F1 := Lib.hid f1
  have V1 := Lib.hid v1
  clear b1 W1 Z1 ck fk f1 v1
  rcases htw with ⟨rfl, rfl⟩ | ⟨g, cap, cur, rfl, hg, hcur, hcells⟩
  · go_wp2
    go_loopw [26] (fun i wr => i = .int .i64 0 ∧ V wr bl 3 (.int .i64 q) ∧ Fr (fun j => j = bl) w wr) (fun i _ => 0)
    case atStart => exact ⟨rfl, V1.out, F1.out⟩
    case round =>
      obtain ⟨rfl, hv, hf⟩ := hrel
      have VV := Lib.hid hv
      have FF := Lib.hid hf
      clear hv hf
      go_wp2
      go_ret
      exact ⟨_, rfl, ⟨SL.out.1, SL.out.2, none, 0, rfl, trivial⟩, by have := HQ.out; simpa [T.ts, T.cnts, this] using VV.out, FF.out⟩
  · have H0 : Half w0 w1 g ts 0 := ⟨cur, hcur, fun i hi => by
      obtain ⟨c0, c1, v, c2, h⟩ := hcells i hi
      exact ⟨c0, c1, v, c2, fun h => absurd h (Nat.not_lt_zero i), fun _ => h⟩⟩
    have H0 := Lib.hid H0
    have HG := Lib.hid hg
    clear hcur hcells hg
    have hlg : bl < g := by have := HG.out; omega
    go_wp2
    go_loopw [26] (fun i wr => ∃ j : Nat, j ≤ ts.length ∧ i = .int .i64 j ∧ Half w0 wr g ts j ∧ V wr bl 3 (.int .i64 (q + j - T.cnts (ts.take j) : Nat)) ∧ Fr (fun j => j = bl) w wr) (fun i _ => ts.length - (intOf i).toNat)
    case atStart => exact ⟨0, Nat.zero_le _, rfl, H0.out, by simpa [T.cnts] using V1.out, F1.out⟩
    case round =>
      obtain ⟨j, hj, rfl, hh, hv, hf⟩ := hrel
      have HH := Lib.hid hh
      have VV := Lib.hid hv
      have FF := Lib.hid hf
      clear hh hv hf
      by_cases hlt : j < ts.length
      · obtain ⟨cr, hcr, hcs⟩ := HH.out
        obtain ⟨d0, d1, v', d2, _, hi⟩ := hcs j hlt
        have hi := hi (Nat.le_refl _)
        obtain ⟨p, p', rfl⟩ := hi.slice
        have c0 : wr.cell? ⟨g, j * 3, none⟩ = some (.string ts[j].s) := (cell_cells hcr).trans d0
        have c1 : wr.cell? ⟨g, j * 3 + 1, none⟩ = some (.bool ts[j].l) := (cell_cells hcr).trans d1
        have c2 : wr.cell? ⟨g, j * 3 + 2, none⟩ = some (.slice p ts[j].ts.length p') := (cell_cells hcr).trans d2
        have f0 : wr.frozen? ⟨g, j * 3, none⟩ = false := free_cells hcr
        have f2 : wr.frozen? ⟨g, j * 3 + 2, none⟩ = false := free_cells hcr
        have lg := lt_of_block hcr
        have hmem := List.getElem_mem hlt
        have z1 := T.siz_le_of_mem ts _ hmem
        have z2 := T.s_le_siz ts[j]
        have z3 := HZ.out
        rw [T.siz] at z3
        have HI := Lib.hid hi
        clear hi hcs d0 d1 d2 hcr
        go_wp2_with fail
        refine (strClone_any ts[j].s _ (by omega)).mono ?_
        rintro e w2 ⟨rfl, b2⟩
        have F2 := (Fr.refl (fun _ => False) wr).alloc (.cells #[.string ts[j].s, .bool ts[j].l, .slice p ts[j].ts.length p'] 24)
        have F2 := F2.trans (Fr.ofBelow b2)
        have x0 := cells_below b2 _ _ _ (box0 wr (.string ts[j].s) (.bool ts[j].l) (.slice p ts[j].ts.length p') 24)
        have x1 := cells_below b2 _ _ _ (box1 wr (.string ts[j].s) (.bool ts[j].l) (.slice p ts[j].ts.length p') 24)
        have x2 := cells_below b2 _ _ _ (box2 wr (.string ts[j].s) (.bool ts[j].l) (.slice p ts[j].ts.length p') 24)
        have lx := lt_of_cell x0
        have c0' := cells_fr F2 c0 (by simp)
        have c1' := cells_fr F2 c1 (by simp)
        have c2' := cells_fr F2 c2 (by simp)
        have f0' := (F2.frozen (p := ⟨g, j * 3, none⟩) lg (by simp)).trans f0
        have f2' := (F2.frozen (p := ⟨g, j * 3 + 2, none⟩) lg (by simp)).trans f2
        have lg' := lt_of_cell c0'
        have H2 := Lib.hid (HH.out.fr F2 (fun _ h => h.elim))
        have V2 := Lib.hid (VV.out.fr F2 (by simp))
        have FF2 := Lib.hid (FF.out.then_ F2 (fun _ _ h => h.elim))
        clear c0 c1 c2 f0 f2 b2 F2 HH VV FF
        obtain ⟨W3, hW3⟩ : ∃ W3, W3 = w2.setCell ⟨g, j * 3, none⟩ (.string ts[j].s) := ⟨_, rfl⟩
        have hgw := HG.out
        have A3 := Lib.hid (show Half w0 W3 g ts j ∧ V W3 bl 3 (.int .i64 (q + j - T.cnts (ts.take j) : Nat)) ∧ Fr (fun j => j = bl) w W3 ∧ W3.heap.size = w2.heap.size by
          rw [hW3]
          exact ⟨H2.out.text hlt, V2.out.far (by show bl ≠ g; omega) _, FF2.out.setCell (p := ⟨g, j * 3, none⟩) (.inr hgw) _, by simp [World.setCell]⟩)
        have k1 := T.cnts_rest ts j
        have k2 := T.cnts_take ts j hlt
        have k3 := T.cnt_eq ts[j]
        have k4 := HC.out
        have k5 := HQ.out
        have CALL := Lib.hid (IH.out ts[j] hmem (.slice p ts[j].ts.length p') W3 (q + j - T.cnts (ts.take j)) HI.out (HW.out.fr A3.out.2.2.1) A3.out.2.1 (by omega) (by omega) (by omega))
        have HW3 := Lib.hid hW3
        clear H2 V2 FF2 hW3 hgw k1 k3 k4 k5 z1 z2 z3
        go_wp2_with fail
        rw [← HW3.out]
        refine CALL.out.mono ?_
        rintro e w4 ⟨u, rfl, hu, v4, f4⟩
        have h4 := A3.out.1.fr f4 (fun j h => by rw [h]; exact hlg)
        have g4 := A3.out.2.2.1.trans f4
        have hu' := hu.weak (B' := g + 1) (by rw [A3.out.2.2.2]; exact lg')
        obtain ⟨r, r', rfl⟩ := hu.slice
        obtain ⟨cr, hcr, hcs⟩ := h4
        obtain ⟨d0, d1, v', d2, _, _⟩ := hcs j hlt
        have e2 : w4.cell? ⟨g, j * 3 + 2, none⟩ = some v' := (cell_cells hcr).trans d2
        have q2 : w4.frozen? ⟨g, j * 3 + 2, none⟩ = false := free_cells hcr
        have l4 := lt_of_cell e2
        have h5 := (show Half w0 w4 g ts j from ⟨cr, hcr, hcs⟩).sub hlt _ hu'
        have k1 := T.cnts_rest ts j
        have k3 := T.cnt_eq ts[j]
        have k4 := HC.out
        have k5 := HQ.out
        rw [show q + j - T.cnts (ts.take j) - T.cnts ts[j].ts = q + (j + 1) - T.cnts (ts.take (j + 1)) by omega] at v4
        have Z := Lib.hid (And.intro h5 (And.intro (v4.far (p := ⟨g, j * 3 + 2, none⟩) (by show bl ≠ g; omega) (.slice r ts[j].ts.length r')) (g4.setCell (p := ⟨g, j * 3 + 2, none⟩) (.inr HG.out) (.slice r ts[j].ts.length r'))))
        clear v4 f4 hu hu' g4 hcs d0 d1 d2 hcr h5 k1 k2 k3 k4 k5 HW3 CALL c0' c1' c2' f0' f2' x0 x1 x2 lx lg'
        go_wp2
        go_roundw
        case rel => exact ⟨j + 1, by omega, by go_num, Z.out.1, Z.out.2.1, Z.out.2.2⟩
        case measure => (simp [intOf]) <;> omega
      · obtain rfl : j = ts.length := by omega
        rw [List.take_length] at VV
        obtain ⟨cr, hcr, hcs⟩ := HH.out
        have R := Lib.hid (show TwinPost (.mk s l ts) bl k w (.returned (.slice (some ⟨g, 0, none⟩) ts.length cap)) wr from by
          refine ⟨_, rfl, ⟨SL.out.1, SL.out.2, _, cap, rfl, ?_⟩, ?_, FF.out⟩
          · refine RowN.mk hcr HG.out ts 0 fun i hi => ?_
            rw [Nat.zero_add]
            obtain ⟨c0, c1, v, c2, h1, _⟩ := hcs i hi
            exact ⟨c0, c1, v, c2, (h1 hi).weak (Nat.le_succ_of_le HG.out)⟩
          · have := VV.out
            rw [show q + ts.length - T.cnts ts = k - T.cnts (T.mk s l ts).ts by simp only [T.ts]; have := HQ.out; omega] at this
            exact this)
        clear hcr hcs
        go_wp2
        go_ret
        exact R.out
end Go.Proofs.YtdkeickcbpjedaaDoor
