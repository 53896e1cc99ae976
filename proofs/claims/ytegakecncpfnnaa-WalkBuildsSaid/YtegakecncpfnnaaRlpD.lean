/-
  The contracts of package rlp's Size and Put over this seat's translation. Conditions: an item as it lies in memory, whose slices have room, of at most 6,000 bytes and 1,200 items.
-/
import Derived.Test.YtegakecncpfnnaaRlpC
import Derived.Lib.BufferWrite
namespace Go.Proofs.Ytegakecncpfnnaa
open Go.RowKit

set_option maxRecDepth 100000 in
theorem tell_none (M : Nat) : Teller 58 #[] (fun _ => False) (fun _ _ => True) M where
  enter := by intro args w; rfl
  call := by
    intro p acc w _ _
    simp only [Array.append_empty]
    go_enter Try.func58, Try.ntmps58
    go_wp2
    go_end0
    exact ⟨rfl, trivial, Fr.refl _ _⟩
  keep := fun _ _ _ _ _ _ => trivial
  lt := fun _ _ _ _ h => h.elim

/-- How many bytes an item has, as Size tells it. -/
def szd (t : T) : Nat := if T.may t then (T.put t).length else 0
set_option maxRecDepth 100000 in
theorem sizeOf_any (t : T) (v : Value) (w : World) (hx : InC w t v) (hz : T.siz t ≤ 6000) (hc : T.cnt t ≤ 1200) :
    Calls Try.prog 45 #[.agg #[.string t.s, .bool t.l, v]] w fun e w' => e = .returned (.int .i64 (szd t : Int)) ∧ Below w.heap.size w w' := by
  have HX := Lib.hid hx
  have hpl := T.put_le t (by omega)
  obtain ⟨p, p', rfl, _⟩ := hx.slice
  have c0 := box0 w (.string t.s) (.bool t.l) (.slice p t.ts.length p') 24
  have c1 := box1 w (.string t.s) (.bool t.l) (.slice p t.ts.length p') 24
  have c2 := box2 w (.string t.s) (.bool t.l) (.slice p t.ts.length p') 24
  have b1 := bel1 w (.cells #[.string t.s, .bool t.l, .slice p t.ts.length p'] 24)
  have lx : w.heap.size < (w.alloc (.cells #[.string t.s, .bool t.l, .slice p t.ts.length p'] 24)).heap.size := by simp
  obtain ⟨W, hW⟩ : ∃ W, W = w.alloc (.cells #[.string t.s, .bool t.l, .slice p t.ts.length p'] 24) := ⟨_, rfl⟩
  rw [← hW] at c0 c1 c2 b1 lx
  have B1 := Lib.hid b1
  clear hx b1
  go_enter Try.func45, Try.ntmps45
  go_upto_region 1 with fail
  rw [← hW]
  clear hW
  go_wp2_with fail
  refine (may_any t _ W ((HX.out.bel B1.out).in)).mono ?_
  rintro e w1 ⟨rfl, b2⟩
  replace c0 := cells_below b2 _ _ _ c0
  replace c1 := cells_below b2 _ _ _ c1
  replace c2 := cells_below b2 _ _ _ c2
  replace lx := Nat.lt_of_lt_of_le lx b2.size
  have B2 := Lib.hid (B1.out.trans (b2.mono B1.out.size))
  clear b2
  cases hm : T.may t
  · have E := Lib.hid (show szd t = 0 by unfold szd; rw [hm]; rfl)
    clear c0 c1 c2
    go_wp2
    go_ret
    rw [E.out]
    exact ⟨rfl, B2.out⟩
  · go_wp2_with fail
    refine (layAll_any (tell_none 1000000) (Nat.le_refl _) w t _ w1 B2.out (fun j h => h.elim) trivial HX.out (by omega) hz hc).mono ?_
    rintro e w3 ⟨rfl, _, f3⟩
    have B3 := Lib.hid (B2.out.trans (f3.below B2.out.size (fun j h => h.elim)))
    clear f3
    have E := Lib.hid (show szd t = (T.put t).length by unfold szd; rw [hm]; rfl)
    go_wp2
    go_ret
    rw [E.out]
    exact ⟨rfl, B3.out⟩

/-- A row of M bytes whose last ones are these. -/
def Rz (w : World) (g M : Nat) (acc : List UInt8) : Prop := ∃ cur, w.heap[g]? = some (.cells cur 5 (0, 0)) ∧ cur.size = M ∧ cur.toList.drop (M - acc.length) = Lib.byteCells acc
/-- What Put's pieces lie in. -/
def Pz (bt bv g M : Nat) (acc : List UInt8) (w : World) : Prop :=
  ∃ m, acc.length + m = M ∧ V w bt 3 (.int .i64 m) ∧ V w bv 64 (.slice (some ⟨g, 0, none⟩) M M) ∧ Rz w g M acc
set_option maxRecDepth 100000 in
theorem u8_one : (Try.prog.info? 5).map (·.size) = some 1 := by kernel_rfl
set_option maxRecDepth 20000 in
theorem tell_put (bt bv g M : Nat) (h1 : bt ≠ bv) (h2 : bt ≠ g) (h3 : bv ≠ g) (hM : M ≤ 1000000) :
    Teller 50 #[.pointer (some ⟨bt, 0, none⟩), .pointer (some ⟨bv, 0, none⟩)] (fun j => j = bt ∨ j = bv ∨ j = g) (Pz bt bv g M) M where
  enter := by intro args w; rfl
  keep := fun acc w w' ⟨m, e, v1, v2, cur, hc⟩ hs hk => ⟨m, e, v1.keep (hk bt v1.lt (.inl rfl)), v2.keep (hk bv v2.lt (.inr (.inl rfl))), cur, (hk g (lt_of_block hc.1) (.inr (.inr rfl))).trans hc.1, hc.2⟩
  lt := fun acc w ⟨m, e, v1, v2, cur, hc⟩ j hj => by
    rcases hj with rfl | rfl | rfl
    · exact v1.lt
    · exact v2.lt
    · exact lt_of_block hc.1
  call := by
    rintro p acc w ⟨m, e, v1, v2, cur, hc, hz, hd⟩ hp
    obtain ⟨n, rfl⟩ : ∃ n, m = p.length + n := ⟨m - p.length, by omega⟩
    simp only [List.append_toArray, List.cons_append, List.nil_append]
    have d0 : w.cell? ⟨bt, 0, none⟩ = some (.int .i64 ((p.length : Int) + n)) := by rw [v1.cell]; rfl
    have d1 := v1.lt
    have d2 := v1.free
    have s0 := v2.cell
    have s1 := v2.lt
    have hl := bs_size p
    have e5 : (p.length : Int) + n - p.length = (n : Int) := by omega
    have hle : p.length + n ≤ 1000000 := by omega
    have hnM : n ≤ M := by omega
    have W1 := v1.set (.int .i64 n)
    have W2 := v2.far (p := ⟨bt, 0, none⟩) (Ne.symm h1) (.int .i64 n)
    have hg0 : (w.setCell ⟨bt, 0, none⟩ (.int .i64 n)).heap[g]? = some (.cells cur 5 (0, 0)) := (Below.heap_setCell w _ _ g (Ne.symm h2)).trans hc
    have f0 : Fr (fun j => j = bt ∨ j = bv ∨ j = g) w (w.setCell ⟨bt, 0, none⟩ (.int .i64 n)) := (Fr.refl _ w).setCell (p := ⟨bt, 0, none⟩) (.inl (.inl rfl)) _
    obtain ⟨U, hU⟩ : ∃ U, U = w.setCell ⟨bt, 0, none⟩ (.int .i64 n) := ⟨_, rfl⟩
    rw [← hU] at W1 W2 hg0 f0
    rcases Nat.eq_zero_or_pos p.length with h0 | h0
    · obtain rfl : p = [] := List.eq_nil_of_length_eq_zero h0
      have Q := Lib.hid (show Pz bt bv g M ([] ++ acc) U ∧ Fr (fun j => j = bt ∨ j = bv ∨ j = g) w U from ⟨⟨n, by simpa using e, W1, W2, cur, hg0, hz, hd⟩, f0⟩)
      have cp := fun (d : Option Addr) (a b : Nat) => Lib.run_copy_empty_string (P := Try.prog) U 64 9 3 5 d a b (bs []) Try.underlying64 (by rw [u8_one]; rfl) rfl
      rw [hU] at cp
      have CP := Lib.hid cp
      have HU := Lib.hid hU
      have l0 : ([] : List UInt8).length = 0 := rfl
      clear W1 W2 hg0 f0 cp hU hc hz hd e v1 v2 hp
      go_enter Try.func50, Try.ntmps50
      go_wp2_with fail
      all_goals
        rw [CP.out, ← HU.out]
        go_wp2
        go_end0
        exact ⟨rfl, Q.out⟩
    · have hlt : n < M := by omega
      have cp := Lib.run_copy_row_string (P := Try.prog) U 64 9 3 5 g n (M - n) (M - n) (bs p) cur 5 Try.underlying64 u8_one hg0 (by omega) (by omega)
      rw [bs_list, hl] at cp
      have hrow : Rz (U.setRow g (cur.toList.take n ++ Lib.byteCells p ++ cur.toList.drop (n + p.length)).toArray) g M (p ++ acc) := by
        have hcl : cur.toList.length = M := by simpa using hz
        have hbl : (Lib.byteCells p).length = p.length := Lib.byteCells_length _
        refine ⟨_, setRow_heap U g cur _ _ _ hg0, ?_, ?_⟩
        · simp only [List.size_toArray, List.length_append, List.length_take, List.length_drop, hcl, hbl]; omega
        · have h5 : M - (p ++ acc).length = (cur.toList.take n).length := by rw [List.length_append, List.length_take, hcl]; omega
          have h6 : M - acc.length = n + p.length := by omega
          rw [h6] at hd
          simp only [List.append_assoc, h5, List.drop_left, hd]
          simp [Lib.byteCells]
      have Q := Lib.hid (show Pz bt bv g M (p ++ acc) (U.setRow g (cur.toList.take n ++ Lib.byteCells p ++ cur.toList.drop (n + p.length)).toArray) ∧ Fr (fun j => j = bt ∨ j = bv ∨ j = g) w (U.setRow g (cur.toList.take n ++ Lib.byteCells p ++ cur.toList.drop (n + p.length)).toArray) from by
        have fs : Fr (fun j => j = bt ∨ j = bv ∨ j = g) U (U.setRow g (cur.toList.take n ++ Lib.byteCells p ++ cur.toList.drop (n + p.length)).toArray) :=
          ⟨rfl, rfl, rfl, by simp, fun j _ hj => setRow_other U g j _ (fun e => hj (.inr (.inr e)))⟩
        exact ⟨⟨n, by rw [List.length_append]; omega, W1.keep (setRow_other U g bt _ h2), W2.keep (setRow_other U g bv _ h3), hrow⟩, f0.trans fs⟩)
      rw [hU] at cp
      have CP := Lib.hid cp
      have HU := Lib.hid hU
      clear W1 W2 hg0 f0 cp hU hc hz hd e v1 v2 hp hrow
      go_enter Try.func50, Try.ntmps50
      go_wp2_with fail
      rw [CP.out, ← HU.out]
      go_wp2
      go_end0
      have q := Q.out
      rw [List.append_assoc] at q
      exact ⟨rfl, q⟩

set_option maxRecDepth 20000 in
set_option maxHeartbeats 1000000 in
theorem putOf_no (t : T) (v : Value) (w : World) (hx : InC w t v) (hm : T.may t = false) (hz : T.siz t ≤ 6000) (hc : T.cnt t ≤ 1200) :
    Calls Try.prog 35 #[.agg #[.string t.s, .bool t.l, v]] w fun e w' => e = .returned (.tuple #[.string ⟨#[]⟩, .int .i64 1]) ∧ Below w.heap.size w w' := by
  have HX := Lib.hid hx
  obtain ⟨p, p', rfl, _⟩ := hx.slice
  have e0 : szd t = 0 := by unfold szd; rw [hm]; rfl
  have HE := Lib.hid e0
  clear hx hm e0
  go_enter Try.func35, Try.ntmps35
  go_wp2_with fail
  refine (sizeOf_any t _ _ (HX.out.bel (bel1 _ _)) hz hc).mono ?_
  rintro e w1 ⟨rfl, b1⟩
  have B1 := Lib.hid ((bel1 w (.cells #[.string t.s, .bool t.l, .slice p t.ts.length p'] 24)).trans (b1.mono (by simp)))
  rw [HE.out]
  clear b1
  go_wp2
  go_ret2
  exact ⟨rfl, B1.out.alloc B1.out.size _⟩

set_option maxRecDepth 20000 in
set_option maxHeartbeats 1000000 in
theorem putOf_ok (t : T) (v : Value) (w : World) (hx : InC w t v) (hm : T.may t = true) (hz : T.siz t ≤ 6000) (hc : T.cnt t ≤ 1200) :
    Calls Try.prog 35 #[.agg #[.string t.s, .bool t.l, v]] w fun e w' => e = .returned (.tuple #[.string (bs (T.put t)), .int .i64 0]) ∧ Below w.heap.size w w' := by
  have HX := Lib.hid hx
  have hpl := T.put_le t (by omega)
  have hpp := T.put_pos t
  obtain ⟨p, p', rfl, _⟩ := hx.slice
  obtain ⟨M, hMe⟩ : ∃ M, M = (T.put t).length := ⟨_, rfl⟩
  have HE := Lib.hid (show szd t = M by unfold szd; rw [hm, hMe]; rfl)
  have HMe := Lib.hid hMe
  have hM : M ≤ 9600 := by omega
  have hM0 : ((M : Int) == 0) = false := by
    have h : ¬ (M : Int) = 0 := by omega
    simpa using h
  have c0 := box0 w (.string t.s) (.bool t.l) (.slice p t.ts.length p') 24
  have c1 := box1 w (.string t.s) (.bool t.l) (.slice p t.ts.length p') 24
  have c2 := box2 w (.string t.s) (.bool t.l) (.slice p t.ts.length p') 24
  clear hx hm hpl hpp hMe
  go_enter Try.func35, Try.ntmps35
  go_wp2_with fail
  refine (sizeOf_any t _ _ (HX.out.bel (bel1 _ _)) hz hc).mono ?_
  rintro e w1 ⟨rfl, b1⟩
  rw [HE.out]
  replace c0 := cells_below b1 _ _ _ c0
  replace c1 := cells_below b1 _ _ _ c1
  replace c2 := cells_below b1 _ _ _ c2
  have lx : w.heap.size < w1.heap.size := Nat.lt_of_lt_of_le (by simp) b1.size
  have B1 := Lib.hid ((bel1 w (.cells #[.string t.s, .bool t.l, .slice p t.ts.length p'] 24)).trans (b1.mono (by simp)))
  clear b1
  have hmk := make8 M (by omega)
  have P0 : Pz w1.heap.size (w1.heap.size + 1 + 1) (w1.heap.size + 1) M [] (((w1.alloc (.cells #[.int .i64 M] 3)).alloc (.cells (Array.replicate M (.int .u8 0)) 5)).alloc (.cells #[.slice (some ⟨w1.heap.size + 1, 0, none⟩) M M] 64)) := by
    refine ⟨M, by simp, ((V.new w1 _ _).alloc _).alloc _, ?_, ?_⟩
    · have := V.new ((w1.alloc (.cells #[.int .i64 M] 3)).alloc (.cells (Array.replicate M (.int .u8 0)) 5)) 64 (.slice (some ⟨w1.heap.size + 1, 0, none⟩) M M)
      rw [size_push, size_push] at this
      exact this
    · refine ⟨Array.replicate M (.int .u8 0), ?_, by simp, by simp [Lib.byteCells]⟩
      have := heap_alloc_new (w1.alloc (.cells #[.int .i64 M] 3)) (.cells (Array.replicate M (.int .u8 0)) 5)
      rw [size_push] at this
      rw [Below.heap_alloc _ _ _ (by simp)]
      exact this
  have b3 : Below w1.heap.size w1 (((w1.alloc (.cells #[.int .i64 M] 3)).alloc (.cells (Array.replicate M (.int .u8 0)) 5)).alloc (.cells #[.slice (some ⟨w1.heap.size + 1, 0, none⟩) M M] 64)) := (bel2 w1 _ _).alloc (by simp; omega) _
  obtain ⟨W3, hW3⟩ : ∃ W3, W3 = (((w1.alloc (.cells #[.int .i64 M] 3)).alloc (.cells (Array.replicate M (.int .u8 0)) 5)).alloc (.cells #[.slice (some ⟨w1.heap.size + 1, 0, none⟩) M M] 64)) := ⟨_, rfl⟩
  rw [← hW3] at P0 b3
  go_upto_region 5 with fail
  rw [← hW3]
  clear hW3 hmk
  replace c0 := cells_below b3 _ _ _ c0
  replace c1 := cells_below b3 _ _ _ c1
  replace c2 := cells_below b3 _ _ _ c2
  replace lx := Nat.lt_of_lt_of_le lx b3.size
  have B3 := Lib.hid (B1.out.trans (b3.mono B1.out.size))
  have PP := Lib.hid P0
  have hb := B1.out.size
  clear b3 P0
  go_wp2_with fail
  refine (layAll_any (tell_put w1.heap.size (w1.heap.size + 1 + 1) (w1.heap.size + 1) M (by omega) (by omega) (by omega) (by omega)) (by omega) w t _ W3 B3.out (by rintro j (h | h | h) <;> omega) PP.out HX.out (by rw [HMe.out]; exact Nat.le_refl _) hz hc).mono ?_
  rintro e w4 ⟨rfl, ⟨m, hm, v1, v2, cur, hg, hcz, hcd⟩, f4⟩
  have hrow : Row8 w4 (w1.heap.size + 1) (T.put t) := by
    rw [← HMe.out, Nat.sub_self, List.drop_zero] at hcd
    refine row8_of_block hg (fun i hi => ?_) (fun i _ => by omega)
    have h1 := congrArg (fun l => l[i]?) hcd
    simpa [Lib.byteCells, hi] using h1
  have hcv := conv8 hrow HMe.out.symm M
  have s0 := v2.cell
  have s1 := v2.lt
  have B4 := Lib.hid (B3.out.trans (f4.below B3.out.size (by rintro j (h | h | h) <;> omega)))
  clear hrow v1 v2 hg hcz hcd f4 c0 c1 c2 PP hm
  go_wp2
  go_ret2
  exact ⟨rfl, B4.out⟩
end Go.Proofs.Ytegakecncpfnnaa
