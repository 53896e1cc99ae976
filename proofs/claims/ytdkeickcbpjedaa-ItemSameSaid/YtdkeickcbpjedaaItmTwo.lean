/-
  For every two items ItemSame answers true over this seat's translation. Conditions: items as they lie in memory.
-/
import Derived.Test.YtdkeickcbpjedaaItmMay
namespace Go.Proofs.Ytdkeickcbpjedaa
open Go.RowKit

/-- What the law keeps: both items in their variables, and all that was there. -/
structure Cy (t u : T) (v v' : Value) (g h : Nat) (w W : World) : Prop where
  a : I3 W g (.string t.s) (.bool t.l) v
  b : I3 W h (.string u.s) (.bool u.l) v'
  ia : In W t v
  ib : In W u v'
  be : Below w.heap.size w W
theorem Cy.bel {t u : T} {v v' : Value} {g h : Nat} {w W W' : World} (c : Cy t u v v' g h w W) (b : Below W.heap.size W W') : Cy t u v v' g h w W' := ⟨c.a.bel b, c.b.bel b, c.ia.bel b, c.ib.bel b, below_then c.be b⟩
theorem Cy.drew {t u : T} {v v' : Value} {g h : Nat} {w W : World} (c : Cy t u v v' g h w W) : Cy t u v v' g h w W.drew := c.bel ((Below.refl W.heap.size W).drew)
theorem Cy.new {t u : T} {v v' : Value} {w : World} (h : In w t v) (k : In w u v') :
    Cy t u v v' w.heap.size (w.heap.size + 1) w ((w.alloc (.cells #[.string t.s, .bool t.l, v] 24)).alloc (.cells #[.string u.s, .bool u.l, v'] 24)) := by
  have := I3.new (w.alloc (.cells #[.string t.s, .bool t.l, v] 24)) (.string u.s) (.bool u.l) v'
  rw [size_push] at this
  exact ⟨(I3.new w _ _ _).alloc _, this, h.bel (bel2 _ _ _), k.bel (bel2 _ _ _), bel2 _ _ _⟩

/-- .. and a list of the two, whose items are their like. -/
structure Cz (t u : T) (v v' : Value) (g h : Nat) (x x' : Value) (l q c : Nat) (w W : World) : Prop where
  a : I3 W g (.string t.s) (.bool t.l) v
  b : I3 W h (.string u.s) (.bool u.l) v'
  xx : I3 W l (.string ⟨#[]⟩) (.bool true) (.slice (some ⟨q, 0, none⟩) 2 c)
  q0 : W.cell? ⟨q, 0, none⟩ = some (.string t.s)
  q1 : W.cell? ⟨q, 1, none⟩ = some (.bool t.l)
  q2 : W.cell? ⟨q, 2, none⟩ = some x
  q3 : W.cell? ⟨q, 3, none⟩ = some (.string u.s)
  q4 : W.cell? ⟨q, 4, none⟩ = some (.bool u.l)
  q5 : W.cell? ⟨q, 5, none⟩ = some x'
  ia : In W t v
  ib : In W u v'
  ix : In W t x
  iy : In W u x'
  be : Below w.heap.size w W
theorem Cz.bel {t u : T} {v v' x x' : Value} {g h l q c : Nat} {w W W' : World} (z : Cz t u v v' g h x x' l q c w W) (b : Below W.heap.size W W') : Cz t u v v' g h x x' l q c w W' :=
  ⟨z.a.bel b, z.b.bel b, z.xx.bel b, cells_below b _ _ _ z.q0, cells_below b _ _ _ z.q1, cells_below b _ _ _ z.q2, cells_below b _ _ _ z.q3, cells_below b _ _ _ z.q4, cells_below b _ _ _ z.q5, z.ia.bel b, z.ib.bel b, z.ix.bel b, z.iy.bel b, below_then z.be b⟩
theorem Cz.drew {t u : T} {v v' x x' : Value} {g h l q c : Nat} {w W : World} (z : Cz t u v v' g h x x' l q c w W) : Cz t u v v' g h x x' l q c w W.drew := z.bel ((Below.refl W.heap.size W).drew)

set_option maxHeartbeats 8000000 in
theorem itemSame_any (t : T) (v : Value) (u : T) (v' : Value) (w : World) (hI : In w t v) (hJ : In w u v') :
    Calls Try.prog 4 #[.agg #[.string t.s, .bool t.l, v], .agg #[.string u.s, .bool u.l, v']] w fun e w' => e = .returned (.bool true) ∧ Below w.heap.size w w' := by
  obtain ⟨p, p', rfl⟩ := hI.slice
  obtain ⟨r, r', rfl⟩ := hJ.slice
  have C0 := Lib.hid (Cy.new hI hJ)
  have GA := Lib.hid (great_any t (.slice p t.ts.length p'))
  have GB := Lib.hid (great_any u (.slice r u.ts.length r'))
  have NA := Lib.hid (@not_great t)
  have NB := Lib.hid (@not_great u)
  obtain ⟨ga, hga⟩ : ∃ x, x = great t := ⟨_, rfl⟩
  obtain ⟨gb, hgb⟩ : ∃ x, x = great u := ⟨_, rfl⟩
  rw [← hga] at GA NA
  rw [← hgb] at GB NB
  clear hga hgb hI hJ
  go_enter Try.func4, Try.ntmps4
  go_wp2_with fail
  refine (alive_any _).mono ?_
  rintro e w1 ⟨rfl, b1⟩
  have C1 := Lib.hid (C0.out.bel b1)
  clear b1 C0
  have c0 := C1.out.a.c0
  have c1 := C1.out.a.c1
  have c2 := C1.out.a.c2
  have lg := C1.out.a.lt
  go_wp2_with fail
  refine (GA.out _ C1.out.ia).mono ?_
  rintro e w2 ⟨rfl, b2⟩
  have C2 := Lib.hid (C1.out.bel b2)
  clear b2 C1 c0 c1 c2 lg
  cases ga
  case true =>
    go_wp2
    go_ret
    exact ⟨rfl, C2.out.be⟩
  have c0 := C2.out.b.c0
  have c1 := C2.out.b.c1
  have c2 := C2.out.b.c2
  have lg := C2.out.b.lt
  have hna := NA.out rfl
  have HNA := Lib.hid hna
  clear NA hna
  go_wp2_with fail
  refine (GB.out _ C2.out.ib).mono ?_
  rintro e w3 ⟨rfl, b3⟩
  have C3 := Lib.hid (C2.out.bel b3)
  clear b3 C2 c0 c1 c2 lg
  cases gb
  case true =>
    go_wp2
    go_ret
    exact ⟨rfl, C3.out.be⟩
  have hnb := NB.out rfl
  have HNB := Lib.hid hnb
  clear NB hnb GA GB
  have c0 := C3.out.a.c0
  have c1 := C3.out.a.c1
  have c2 := C3.out.a.c2
  have lg := C3.out.a.lt
  have d0 := C3.out.b.c0
  have d1 := C3.out.b.c1
  have d2 := C3.out.b.c2
  have ld := C3.out.b.lt
  obtain ⟨g, hgg⟩ : ∃ g, g = w.heap.size := ⟨_, rfl⟩
  obtain ⟨h, hhh⟩ : ∃ h, h = w.heap.size + 1 := ⟨_, rfl⟩
  have C3 := C3.out
  rw [← hhh] at C3 d0 d1 d2 ld ⊢
  rw [← hgg] at C3 c0 c1 c2 lg ⊢
  have C3 := Lib.hid C3
  have HGG := Lib.hid (And.intro hgg hhh)
  clear hgg hhh
  go_wp2_with fail
  have m := nine w3 #[.string t.s, .bool t.l, .slice p t.ts.length p', .string u.s, .bool u.l, .slice r u.ts.length r']
  have hin : In (w3.alloc (.cells #[.string t.s, .bool t.l, .slice p t.ts.length p', .string u.s, .bool u.l, .slice r u.ts.length r'] 24)) (.mk ⟨#[]⟩ true [t, u]) (.slice (some ⟨w3.heap.size, 0, none⟩) 2 2) :=
    ⟨by decide, by simp [maxLen], some ⟨w3.heap.size, 0, none⟩, 2, rfl, ⟨_, _, _, rfl, m 0 _ rfl, m 1 _ rfl, m 2 _ rfl, C3.out.ia.bel (bel1 _ _)⟩, ⟨_, _, _, rfl, m 3 _ rfl, m 4 _ rfl, m 5 _ rfl, C3.out.ib.bel (bel1 _ _)⟩, trivial⟩
  refine (list_any [t, u] _ _ hin (by have := HNA.out; have := HNB.out; simp only [T.cnts]; omega) (by have := HNA.out; have := HNB.out; simp only [T.sizs]; omega)).mono ?_
  clear m hin
  rintro e w4 ⟨y, rfl, hy, b4⟩
  obtain ⟨_, _, aa, cc, rfl, hrow⟩ := hy
  obtain ⟨q, cur, x, ha, _, hcur, e0, e1, e2, hx⟩ := RowN.at [t, u] 0 0 (by simp) hrow
  obtain ⟨q', cur', x', ha', _, hcur', e3, e4, e5, hx'⟩ := RowN.at [t, u] 0 1 (by simp) hrow
  subst ha
  simp only [Option.some.injEq, Addr.mk.injEq, and_true] at ha'
  subst ha'
  rw [hcur] at hcur'
  simp only [Option.some.injEq, Obj.cells.injEq, and_true] at hcur'
  subst hcur'
  simp only [List.getElem_cons_zero, List.getElem_cons_succ, Nat.zero_add, Nat.zero_mul, Nat.one_mul, Nat.reduceAdd] at e0 e1 e2 e3 e4 e5 hx hx'
  have b5 := (bel1 w3 (.cells #[.string t.s, .bool t.l, .slice p t.ts.length p', .string u.s, .bool u.l, .slice r u.ts.length r'] 24)).trans (b4.mono (by simp))
  have C5 := C3.out.bel b5
  obtain ⟨z, z', rfl⟩ := hx.slice
  obtain ⟨y, y', rfl⟩ := hx'.slice
  have hb6 := bel1 w4 (.cells #[.string ⟨#[]⟩, .bool true, .slice (some ⟨q, 0, none⟩) 2 cc] 24)
  have C6 := C5.bel hb6
  have Z := Lib.hid (show Cz t u (.slice p t.ts.length p') (.slice r u.ts.length r') g h (.slice z t.ts.length z') (.slice y u.ts.length y') w4.heap.size q cc w (w4.alloc (.cells #[.string ⟨#[]⟩, .bool true, .slice (some ⟨q, 0, none⟩) 2 cc] 24)) from
    ⟨C6.a, C6.b, I3.new w4 _ _ _, cells_below hb6 _ _ _ ((cell_cells hcur).trans e0), cells_below hb6 _ _ _ ((cell_cells hcur).trans e1), cells_below hb6 _ _ _ ((cell_cells hcur).trans e2), cells_below hb6 _ _ _ ((cell_cells hcur).trans e3),
     cells_below hb6 _ _ _ ((cell_cells hcur).trans e4), cells_below hb6 _ _ _ ((cell_cells hcur).trans e5), C6.ia, C6.ib, (InN.in _ _ hx).bel hb6, (InN.in _ _ hx').bel hb6, C6.be⟩)
  simp only [T.ts, List.length_cons, List.length_nil, Nat.zero_add, Nat.reduceAdd]
  clear c0 c1 c2 lg d0 d1 d2 ld C3 b4 hrow hcur e0 e1 e2 e3 e4 e5 hx hx' b5 C5 hb6 C6
  have R1 := Lib.hid (fun W h1 h2 => refSame_any t (.slice z t.ts.length z') t (.slice p t.ts.length p') W h1 h2)
  have R2 := Lib.hid (fun W h1 h2 => refSame_any u (.slice y u.ts.length y') u (.slice r u.ts.length r') W h1 h2)
  have R3 := Lib.hid (fun W => refSame_any (.mk t.s false []) (.slice none 0 0) (.mk t.s false []) (.slice none 0 0) W ⟨by have := HNA.out; have := T.s_le_siz t; simp [maxLen]; omega, by simp [maxLen], none, 0, rfl, trivial⟩ ⟨by have := HNA.out; have := T.s_le_siz t; simp [maxLen]; omega, by simp [maxLen], none, 0, rfl, trivial⟩)
  have TX := Lib.hid (fun W => text_any t.s W (by have := HNA.out; have := T.s_le_siz t; omega))
  rw [same_self] at R1 R2 R3
  have hmt : ((⟨#[]⟩ : ByteArray).toList.isEmpty) = true := by rw [ByteArray.toList_eq]; rfl
  go_upto_region 6 with fail
  have hHeld := Z.out.drew
  generalize hW4 : w4.alloc (.cells #[.string ⟨#[]⟩, .bool true, .slice (some ⟨q, 0, none⟩) 2 cc] 24) = w5 at *
  clear hW4
  have BE := Lib.hid ((Below.refl w5.heap.size w5).drew)
  refine wp_region_held_drew (S := Cz t u (.slice p t.ts.length p') (.slice r u.ts.length r') g h (.slice z t.ts.length z') (.slice y u.ts.length y') w4.heap.size q cc w) (by kernel_rfl) hHeld (fun hHeld => ?_)
  refine held_take 0 19 (v := ?va0) rfl rfl (by kernel_rfl) (by kernel_rfl) (by kernel_rfl) (fun _ _ _ h => h) (by rfl) ?hya0 hHeld ?resta0
  case hya0 => (intro w hSw; clear hSw; go_simp; try with_reducible rfl)
  try simp only [Act.put, List.setIfInBounds_toArray, List.set_cons_zero, List.set_cons_succ]
  refine held_take 1 20 (v := .bool true) rfl rfl (by kernel_rfl) (by kernel_rfl) (by kernel_rfl) (fun _ _ _ h => h) (by rfl) ?hya1 hHeld ?resta1
  case hya1 => (intro w hSw; have l0 := hSw.a.c0; have l1 := hSw.a.c1; have l2 := hSw.a.c2; have l3 := hSw.a.lt; have m0 := hSw.b.c0; have m1 := hSw.b.c1; have m2 := hSw.b.c2; have m3 := hSw.b.lt; have n0 := hSw.xx.c0; have n1 := hSw.xx.c1; have n2 := hSw.xx.c2; have n3 := hSw.xx.lt; have q0 := hSw.q0; have q1 := hSw.q1; have q2 := hSw.q2; have q3 := hSw.q3; have q4 := hSw.q4; have q5 := hSw.q5; have q6 := lt_of_cell hSw.q0; clear hSw; go_simp; try with_reducible rfl)
  try simp only [Act.put, List.setIfInBounds_toArray, List.set_cons_zero, List.set_cons_succ]
  refine held_take 2 21 (v := .bool true) rfl rfl (by kernel_rfl) (by kernel_rfl) (by kernel_rfl) (fun _ _ _ h => h) (by rfl) ?hya2 hHeld ?resta2
  case hya2 => (intro w hSw; clear hSw; go_simp; try with_reducible rfl)
  try simp only [Act.put, List.setIfInBounds_toArray, List.set_cons_zero, List.set_cons_succ]
  refine held_take 3 22 (v := ?va3) rfl rfl (by kernel_rfl) (by kernel_rfl) (by kernel_rfl) (fun _ _ _ h => h) (by rfl) ?hya3 hHeld ?resta3
  case hya3 => (intro w hSw; clear hSw; go_simp; try with_reducible rfl)
  try simp only [Act.put, List.setIfInBounds_toArray, List.set_cons_zero, List.set_cons_succ]
  refine held_take 4 23 (v := ?va4) rfl rfl (by kernel_rfl) (by kernel_rfl) (by kernel_rfl) (fun _ _ _ h => h) (by rfl) ?hya4 hHeld ?resta4
  case hya4 => (intro w hSw; have l0 := hSw.a.c0; have l1 := hSw.a.c1; have l2 := hSw.a.c2; have l3 := hSw.a.lt; have m0 := hSw.b.c0; have m1 := hSw.b.c1; have m2 := hSw.b.c2; have m3 := hSw.b.lt; have n0 := hSw.xx.c0; have n1 := hSw.xx.c1; have n2 := hSw.xx.c2; have n3 := hSw.xx.lt; have q0 := hSw.q0; have q1 := hSw.q1; have q2 := hSw.q2; have q3 := hSw.q3; have q4 := hSw.q4; have q5 := hSw.q5; have q6 := lt_of_cell hSw.q0; clear hSw; go_simp; try with_reducible rfl)
  try simp only [Act.put, List.setIfInBounds_toArray, List.set_cons_zero, List.set_cons_succ]
  refine held_take 5 24 (v := .bool true) rfl rfl (by kernel_rfl) (by kernel_rfl) (by kernel_rfl) (fun _ _ _ h => h) (by rfl) ?hya5 hHeld ?resta5
  case hya5 => (intro w hSw; clear hSw; go_simp; try with_reducible rfl)
  try simp only [Act.put, List.setIfInBounds_toArray, List.set_cons_zero, List.set_cons_succ]
  refine held_take 6 25 (v := .bool true) rfl rfl (by kernel_rfl) (by kernel_rfl) (by kernel_rfl) (fun _ _ _ h => h) (by rfl) ?hya6 hHeld ?resta6
  case hya6 => (intro w hSw; clear hSw; go_simp; try with_reducible rfl)
  try simp only [Act.put, List.setIfInBounds_toArray, List.set_cons_zero, List.set_cons_succ]
  refine held_take 7 26 (v := .bool true) rfl rfl (by kernel_rfl) (by kernel_rfl) (by kernel_rfl) (fun _ _ _ h => h) (by rfl) ?hya7 hHeld ?resta7
  case hya7 => (intro w hSw; clear hSw; go_simp; try with_reducible rfl)
  try simp only [Act.put, List.setIfInBounds_toArray, List.set_cons_zero, List.set_cons_succ]
  refine held_take 8 27 (v := ?va8) rfl rfl (by kernel_rfl) (by kernel_rfl) (by kernel_rfl) (fun _ _ _ h => h) (by rfl) ?hya8 hHeld ?resta8
  case hya8 => (intro w hSw; clear hSw; go_simp; try with_reducible rfl)
  try simp only [Act.put, List.setIfInBounds_toArray, List.set_cons_zero, List.set_cons_succ]
  refine held_take 9 28 (v := ?va9) rfl rfl (by kernel_rfl) (by kernel_rfl) (by kernel_rfl) (fun _ _ _ h => h) (by rfl) ?hya9 hHeld ?resta9
  case hya9 => (intro w hSw; have l0 := hSw.a.c0; have l1 := hSw.a.c1; have l2 := hSw.a.c2; have l3 := hSw.a.lt; have m0 := hSw.b.c0; have m1 := hSw.b.c1; have m2 := hSw.b.c2; have m3 := hSw.b.lt; have n0 := hSw.xx.c0; have n1 := hSw.xx.c1; have n2 := hSw.xx.c2; have n3 := hSw.xx.lt; have q0 := hSw.q0; have q1 := hSw.q1; have q2 := hSw.q2; have q3 := hSw.q3; have q4 := hSw.q4; have q5 := hSw.q5; have q6 := lt_of_cell hSw.q0; clear hSw; go_simp; try with_reducible rfl)
  try simp only [Act.put, List.setIfInBounds_toArray, List.set_cons_zero, List.set_cons_succ]
  refine held_take 10 29 (v := ?va10) rfl rfl (by kernel_rfl) (by kernel_rfl) (by kernel_rfl) (fun _ _ _ h => h) (by rfl) ?hya10 hHeld ?resta10
  case hya10 => (intro w hSw; clear hSw; go_simp; try with_reducible rfl)
  try simp only [Act.put, List.setIfInBounds_toArray, List.set_cons_zero, List.set_cons_succ]
  refine held_take 11 30 (v := .bool true) rfl rfl (by kernel_rfl) (by kernel_rfl) (by kernel_rfl) (fun _ _ _ h => h) (by rfl) ?hya11 hHeld ?resta11
  case hya11 => (intro w hSw; clear hSw; go_simp; try with_reducible rfl)
  try simp only [Act.put, List.setIfInBounds_toArray, List.set_cons_zero, List.set_cons_succ]
  refine held_take 12 31 (v := .bool true) rfl rfl (by kernel_rfl) (by kernel_rfl) (by kernel_rfl) (fun _ _ _ h => h) (by rfl) ?hya12 hHeld ?resta12
  case hya12 => (intro w hSw; clear hSw; go_simp; try with_reducible rfl)
  try simp only [Act.put, List.setIfInBounds_toArray, List.set_cons_zero, List.set_cons_succ]
  refine held_take 13 32 (v := .bool true) rfl rfl (by kernel_rfl) (by kernel_rfl) (by kernel_rfl) (fun _ _ _ h => h) (by rfl) ?hya13 hHeld ?resta13
  case hya13 => (intro w hSw; clear hSw; go_simp; try with_reducible rfl)
  try simp only [Act.put, List.setIfInBounds_toArray, List.set_cons_zero, List.set_cons_succ]
  refine held_take 14 33 (v := ?va14) rfl rfl (by kernel_rfl) (by kernel_rfl) (by kernel_rfl) (fun _ _ _ h => h) (by rfl) ?hya14 hHeld ?resta14
  case hya14 => (intro w hSw; clear hSw; go_simp; try with_reducible rfl)
  try simp only [Act.put, List.setIfInBounds_toArray, List.set_cons_zero, List.set_cons_succ]
  refine held_take 15 34 (v := ?va15) rfl rfl (by kernel_rfl) (by kernel_rfl) (by kernel_rfl) (fun _ _ _ h => h) (by rfl) ?hya15 hHeld ?resta15
  case hya15 => (intro w hSw; have l0 := hSw.a.c0; have l1 := hSw.a.c1; have l2 := hSw.a.c2; have l3 := hSw.a.lt; have m0 := hSw.b.c0; have m1 := hSw.b.c1; have m2 := hSw.b.c2; have m3 := hSw.b.lt; have n0 := hSw.xx.c0; have n1 := hSw.xx.c1; have n2 := hSw.xx.c2; have n3 := hSw.xx.lt; have q0 := hSw.q0; have q1 := hSw.q1; have q2 := hSw.q2; have q3 := hSw.q3; have q4 := hSw.q4; have q5 := hSw.q5; have q6 := lt_of_cell hSw.q0; clear hSw; go_simp; try with_reducible rfl)
  try simp only [Act.put, List.setIfInBounds_toArray, List.set_cons_zero, List.set_cons_succ]
  refine held_take 16 35 (v := ?va16) rfl rfl (by kernel_rfl) (by kernel_rfl) (by kernel_rfl) (fun _ _ _ h => h) (by rfl) ?hya16 hHeld ?resta16
  case hya16 => (intro w hSw; clear hSw; go_simp; try with_reducible rfl)
  try simp only [Act.put, List.setIfInBounds_toArray, List.set_cons_zero, List.set_cons_succ]
  refine held_take 17 36 (v := ?va17) rfl rfl (by kernel_rfl) (by kernel_rfl) (by kernel_rfl) (fun _ _ _ h => h) (by rfl) ?hya17 hHeld ?resta17
  case hya17 => (intro w hSw; have l0 := hSw.a.c0; have l1 := hSw.a.c1; have l2 := hSw.a.c2; have l3 := hSw.a.lt; have m0 := hSw.b.c0; have m1 := hSw.b.c1; have m2 := hSw.b.c2; have m3 := hSw.b.lt; have n0 := hSw.xx.c0; have n1 := hSw.xx.c1; have n2 := hSw.xx.c2; have n3 := hSw.xx.lt; have q0 := hSw.q0; have q1 := hSw.q1; have q2 := hSw.q2; have q3 := hSw.q3; have q4 := hSw.q4; have q5 := hSw.q5; have q6 := lt_of_cell hSw.q0; clear hSw; go_simp; try with_reducible rfl)
  try simp only [Act.put, List.setIfInBounds_toArray, List.set_cons_zero, List.set_cons_succ]
  refine held_take 18 37 (v := ?va18) rfl rfl (by kernel_rfl) (by kernel_rfl) (by kernel_rfl) (fun _ _ _ h => h) (by rfl) ?hya18 hHeld ?resta18
  case hya18 => (intro w hSw; have l0 := hSw.a.c0; have l1 := hSw.a.c1; have l2 := hSw.a.c2; have l3 := hSw.a.lt; have m0 := hSw.b.c0; have m1 := hSw.b.c1; have m2 := hSw.b.c2; have m3 := hSw.b.lt; have n0 := hSw.xx.c0; have n1 := hSw.xx.c1; have n2 := hSw.xx.c2; have n3 := hSw.xx.lt; have q0 := hSw.q0; have q1 := hSw.q1; have q2 := hSw.q2; have q3 := hSw.q3; have q4 := hSw.q4; have q5 := hSw.q5; have q6 := lt_of_cell hSw.q0; clear hSw; go_simp; try with_reducible rfl)
  try simp only [Act.put, List.setIfInBounds_toArray, List.set_cons_zero, List.set_cons_succ]
  refine wpAnyH_ready (rs := [19]) (by kernel_rfl) (by simp) ?_
  refine AllReadyH.cons rfl (fun K hK => ?_) AllReadyH.nil
  go_simp
  refine (R1.out _ hHeld.ix hHeld.ia).mono ?_
  rintro e z0 ⟨rfl, bb⟩
  have nn := hHeld.bel bb
  have R0 := Lib.hid (below_then BE.out bb)
  clear bb hHeld
  refine hK.out _ _ nn (fun hHeld => ?_)
  clear hK K nn
  try simp only [Act.put, List.setIfInBounds_toArray, List.set_cons_zero, List.set_cons_succ]
  refine held_take 20 39 (v := .bool true) rfl rfl (by kernel_rfl) (by kernel_rfl) (by kernel_rfl) (fun _ _ _ h => h) (by rfl) ?hya20 hHeld ?resta20
  case hya20 => (intro w hSw; clear hSw; go_simp; try with_reducible rfl)
  try simp only [Act.put, List.setIfInBounds_toArray, List.set_cons_zero, List.set_cons_succ]
  refine held_take 21 40 (v := .bool true) rfl rfl (by kernel_rfl) (by kernel_rfl) (by kernel_rfl) (fun _ _ _ h => h) (by rfl) ?hya21 hHeld ?resta21
  case hya21 => (intro w hSw; clear hSw; go_simp; try with_reducible rfl)
  try simp only [Act.put, List.setIfInBounds_toArray, List.set_cons_zero, List.set_cons_succ]
  refine held_take 22 41 (v := ?va22) rfl rfl (by kernel_rfl) (by kernel_rfl) (by kernel_rfl) (fun _ _ _ h => h) (by rfl) ?hya22 hHeld ?resta22
  case hya22 => (intro w hSw; clear hSw; go_simp; try with_reducible rfl)
  try simp only [Act.put, List.setIfInBounds_toArray, List.set_cons_zero, List.set_cons_succ]
  refine held_take 23 42 (v := ?va23) rfl rfl (by kernel_rfl) (by kernel_rfl) (by kernel_rfl) (fun _ _ _ h => h) (by rfl) ?hya23 hHeld ?resta23
  case hya23 => (intro w hSw; have l0 := hSw.a.c0; have l1 := hSw.a.c1; have l2 := hSw.a.c2; have l3 := hSw.a.lt; have m0 := hSw.b.c0; have m1 := hSw.b.c1; have m2 := hSw.b.c2; have m3 := hSw.b.lt; have n0 := hSw.xx.c0; have n1 := hSw.xx.c1; have n2 := hSw.xx.c2; have n3 := hSw.xx.lt; have q0 := hSw.q0; have q1 := hSw.q1; have q2 := hSw.q2; have q3 := hSw.q3; have q4 := hSw.q4; have q5 := hSw.q5; have q6 := lt_of_cell hSw.q0; clear hSw; go_simp; try with_reducible rfl)
  try simp only [Act.put, List.setIfInBounds_toArray, List.set_cons_zero, List.set_cons_succ]
  refine held_take 24 43 (v := ?va24) rfl rfl (by kernel_rfl) (by kernel_rfl) (by kernel_rfl) (fun _ _ _ h => h) (by rfl) ?hya24 hHeld ?resta24
  case hya24 => (intro w hSw; clear hSw; go_simp; try with_reducible rfl)
  try simp only [Act.put, List.setIfInBounds_toArray, List.set_cons_zero, List.set_cons_succ]
  refine held_take 25 44 (v := ?va25) rfl rfl (by kernel_rfl) (by kernel_rfl) (by kernel_rfl) (fun _ _ _ h => h) (by rfl) ?hya25 hHeld ?resta25
  case hya25 => (intro w hSw; have l0 := hSw.a.c0; have l1 := hSw.a.c1; have l2 := hSw.a.c2; have l3 := hSw.a.lt; have m0 := hSw.b.c0; have m1 := hSw.b.c1; have m2 := hSw.b.c2; have m3 := hSw.b.lt; have n0 := hSw.xx.c0; have n1 := hSw.xx.c1; have n2 := hSw.xx.c2; have n3 := hSw.xx.lt; have q0 := hSw.q0; have q1 := hSw.q1; have q2 := hSw.q2; have q3 := hSw.q3; have q4 := hSw.q4; have q5 := hSw.q5; have q6 := lt_of_cell hSw.q0; clear hSw; go_simp; try with_reducible rfl)
  try simp only [Act.put, List.setIfInBounds_toArray, List.set_cons_zero, List.set_cons_succ]
  refine held_take 26 45 (v := ?va26) rfl rfl (by kernel_rfl) (by kernel_rfl) (by kernel_rfl) (fun _ _ _ h => h) (by rfl) ?hya26 hHeld ?resta26
  case hya26 => (intro w hSw; have l0 := hSw.a.c0; have l1 := hSw.a.c1; have l2 := hSw.a.c2; have l3 := hSw.a.lt; have m0 := hSw.b.c0; have m1 := hSw.b.c1; have m2 := hSw.b.c2; have m3 := hSw.b.lt; have n0 := hSw.xx.c0; have n1 := hSw.xx.c1; have n2 := hSw.xx.c2; have n3 := hSw.xx.lt; have q0 := hSw.q0; have q1 := hSw.q1; have q2 := hSw.q2; have q3 := hSw.q3; have q4 := hSw.q4; have q5 := hSw.q5; have q6 := lt_of_cell hSw.q0; clear hSw; go_simp; try with_reducible rfl)
  try simp only [Act.put, List.setIfInBounds_toArray, List.set_cons_zero, List.set_cons_succ]
  refine wpAnyH_ready (rs := [27]) (by kernel_rfl) (by simp) ?_
  refine AllReadyH.cons rfl (fun K hK => ?_) AllReadyH.nil
  go_simp
  refine (R2.out _ hHeld.iy hHeld.ib).mono ?_
  rintro e z1 ⟨rfl, bb⟩
  have nn := hHeld.bel bb
  have R1 := Lib.hid (below_then R0.out bb)
  clear bb hHeld
  refine hK.out _ _ nn (fun hHeld => ?_)
  clear hK K nn
  try simp only [Act.put, List.setIfInBounds_toArray, List.set_cons_zero, List.set_cons_succ]
  refine held_take 28 47 (v := .bool true) rfl rfl (by kernel_rfl) (by kernel_rfl) (by kernel_rfl) (fun _ _ _ h => h) (by rfl) ?hya28 hHeld ?resta28
  case hya28 => (intro w hSw; clear hSw; go_simp; try with_reducible rfl)
  try simp only [Act.put, List.setIfInBounds_toArray, List.set_cons_zero, List.set_cons_succ]
  refine held_take 29 48 (v := .bool true) rfl rfl (by kernel_rfl) (by kernel_rfl) (by kernel_rfl) (fun _ _ _ h => h) (by rfl) ?hya29 hHeld ?resta29
  case hya29 => (intro w hSw; clear hSw; go_simp; try with_reducible rfl)
  try simp only [Act.put, List.setIfInBounds_toArray, List.set_cons_zero, List.set_cons_succ]
  refine held_take 30 49 (v := ?va30) rfl rfl (by kernel_rfl) (by kernel_rfl) (by kernel_rfl) (fun _ _ _ h => h) (by rfl) ?hya30 hHeld ?resta30
  case hya30 => (intro w hSw; clear hSw; go_simp; try with_reducible rfl)
  try simp only [Act.put, List.setIfInBounds_toArray, List.set_cons_zero, List.set_cons_succ]
  refine held_take 31 50 (v := ?va31) rfl rfl (by kernel_rfl) (by kernel_rfl) (by kernel_rfl) (fun _ _ _ h => h) (by rfl) ?hya31 hHeld ?resta31
  case hya31 => (intro w hSw; have l0 := hSw.a.c0; have l1 := hSw.a.c1; have l2 := hSw.a.c2; have l3 := hSw.a.lt; have m0 := hSw.b.c0; have m1 := hSw.b.c1; have m2 := hSw.b.c2; have m3 := hSw.b.lt; have n0 := hSw.xx.c0; have n1 := hSw.xx.c1; have n2 := hSw.xx.c2; have n3 := hSw.xx.lt; have q0 := hSw.q0; have q1 := hSw.q1; have q2 := hSw.q2; have q3 := hSw.q3; have q4 := hSw.q4; have q5 := hSw.q5; have q6 := lt_of_cell hSw.q0; clear hSw; go_simp; try with_reducible rfl)
  try simp only [Act.put, List.setIfInBounds_toArray, List.set_cons_zero, List.set_cons_succ]
  refine held_take 33 52 (v := ?va33) rfl rfl (by kernel_rfl) (by kernel_rfl) (by kernel_rfl) (fun _ _ _ h => h) (by rfl) ?hya33 hHeld ?resta33
  case hya33 => (intro w hSw; clear hSw; go_simp; try with_reducible rfl)
  try simp only [Act.put, List.setIfInBounds_toArray, List.set_cons_zero, List.set_cons_succ]
  refine held_take 34 53 (v := ?va34) rfl rfl (by kernel_rfl) (by kernel_rfl) (by kernel_rfl) (fun _ _ _ h => h) (by rfl) ?hya34 hHeld ?resta34
  case hya34 => (intro w hSw; have l0 := hSw.a.c0; have l1 := hSw.a.c1; have l2 := hSw.a.c2; have l3 := hSw.a.lt; have m0 := hSw.b.c0; have m1 := hSw.b.c1; have m2 := hSw.b.c2; have m3 := hSw.b.lt; have n0 := hSw.xx.c0; have n1 := hSw.xx.c1; have n2 := hSw.xx.c2; have n3 := hSw.xx.lt; have q0 := hSw.q0; have q1 := hSw.q1; have q2 := hSw.q2; have q3 := hSw.q3; have q4 := hSw.q4; have q5 := hSw.q5; have q6 := lt_of_cell hSw.q0; clear hSw; go_simp; try with_reducible rfl)
  try simp only [Act.put, List.setIfInBounds_toArray, List.set_cons_zero, List.set_cons_succ]
  refine held_take 35 54 (v := ?va35) rfl rfl (by kernel_rfl) (by kernel_rfl) (by kernel_rfl) (fun _ _ _ h => h) (by rfl) ?hya35 hHeld ?resta35
  case hya35 => (intro w hSw; clear hSw; go_simp; try with_reducible rfl)
  try simp only [Act.put, List.setIfInBounds_toArray, List.set_cons_zero, List.set_cons_succ]
  refine wpAnyH_ready (rs := [32]) (by kernel_rfl) (by simp) ?_
  refine AllReadyH.cons rfl (fun K hK => ?_) AllReadyH.nil
  go_simp
  refine (TX.out _).mono ?_
  rintro e z2 ⟨rfl, bb⟩
  have nn := hHeld.bel bb
  have R2 := Lib.hid (below_then R1.out bb)
  clear bb hHeld
  refine hK.out _ _ nn (fun hHeld => ?_)
  clear hK K nn
  try simp only [Act.put, List.setIfInBounds_toArray, List.set_cons_zero, List.set_cons_succ]
  refine wpAnyH_ready (rs := [36]) (by kernel_rfl) (by simp) ?_
  refine AllReadyH.cons rfl (fun K hK => ?_) AllReadyH.nil
  go_simp
  refine (R3.out _).mono ?_
  rintro e z3 ⟨rfl, bb⟩
  have nn := hHeld.bel bb
  have R3 := Lib.hid (below_then R2.out bb)
  clear bb hHeld
  refine hK.out _ _ nn (fun hHeld => ?_)
  clear hK K nn
  try simp only [Act.put, List.setIfInBounds_toArray, List.set_cons_zero, List.set_cons_succ]
  refine held_take 37 56 (v := .bool true) rfl rfl (by kernel_rfl) (by kernel_rfl) (by kernel_rfl) (fun _ _ _ h => h) (by rfl) ?hya37 hHeld ?resta37
  case hya37 => (intro w hSw; clear hSw; go_simp; try with_reducible rfl)
  try simp only [Act.put, List.setIfInBounds_toArray, List.set_cons_zero, List.set_cons_succ]
  refine held_take 38 6 (v := ?va38) rfl rfl (by kernel_rfl) (by kernel_rfl) (by kernel_rfl) (fun _ _ _ h => h) (by rfl) ?hya38 hHeld ?resta38
  case hya38 => (intro w hSw; clear hSw; go_simp; try with_reducible rfl)
  try simp only [Act.put, List.setIfInBounds_toArray, List.set_cons_zero, List.set_cons_succ]
  -- last: R3; left: []
  refine wpAnyH_done (by kernel_rfl) ?_ _
  try simp only [Exit.then]
  have C7 := Lib.hid (show Cy t u (.slice p t.ts.length p') (.slice r u.ts.length r') g h w _ from ⟨hHeld.a, hHeld.b, hHeld.ia, hHeld.ib, hHeld.be⟩)
  clear hHeld Z R1 R2 R3 TX hmt
  have MA := Lib.hid (fun W h => refMay_any t (.slice p t.ts.length p') W h (by have := HNA.out; omega))
  have MB := Lib.hid (fun W h => refMay_any u (.slice r u.ts.length r') W h (by have := HNB.out; omega))
  have SA := Lib.hid (fun W h1 h2 => same_any t (.slice p t.ts.length p') u (.slice r u.ts.length r') W h1 h2)
  have RS := Lib.hid (fun W h1 h2 => refSame_any t (.slice p t.ts.length p') u (.slice r u.ts.length r') W h1 h2)
  have SM := Lib.hid (show T.may t = true → T.may u = false → same t u = false from fun h1 h2 => same_ne (by rintro rfl; rw [h1] at h2; cases h2))
  cases hma : T.may t
  case false =>
    rw [hma, Bool.false_and] at SA
    rw [hma] at MA
    go_upto_region 7 with fail
    have hHeld := C7.out.drew
    have BF := Lib.hid ((Below.refl z3.heap.size z3).drew)
    refine wp_region_held_drew (S := Cy t u (.slice p t.ts.length p') (.slice r u.ts.length r') g h w) (by kernel_rfl) hHeld (fun hHeld => ?_)
    refine held_take 0 57 (v := .bool true) rfl rfl (by kernel_rfl) (by kernel_rfl) (by kernel_rfl) (fun _ _ _ h => h) (by rfl) ?hyb0 hHeld ?restb0
    case hyb0 => (intro w hSw; clear hSw; go_simp; try with_reducible rfl)
    try simp only [Act.put, List.setIfInBounds_toArray, List.set_cons_zero, List.set_cons_succ]
    refine held_take 1 58 (v := .bool true) rfl rfl (by kernel_rfl) (by kernel_rfl) (by kernel_rfl) (fun _ _ _ h => h) (by rfl) ?hyb1 hHeld ?restb1
    case hyb1 => (intro w hSw; clear hSw; go_simp; try with_reducible rfl)
    try simp only [Act.put, List.setIfInBounds_toArray, List.set_cons_zero, List.set_cons_succ]
    refine held_take 2 59 (v := ?vb2) rfl rfl (by kernel_rfl) (by kernel_rfl) (by kernel_rfl) (fun _ _ _ h => h) (by rfl) ?hyb2 hHeld ?restb2
    case hyb2 => (intro w hSw; have l0 := hSw.a.c0; have l1 := hSw.a.c1; have l2 := hSw.a.c2; have l3 := hSw.a.lt; have m0 := hSw.b.c0; have m1 := hSw.b.c1; have m2 := hSw.b.c2; have m3 := hSw.b.lt; clear hSw; go_simp; try with_reducible rfl)
    try simp only [Act.put, List.setIfInBounds_toArray, List.set_cons_zero, List.set_cons_succ]
    refine held_take 3 60 (v := ?vb3) rfl rfl (by kernel_rfl) (by kernel_rfl) (by kernel_rfl) (fun _ _ _ h => h) (by rfl) ?hyb3 hHeld ?restb3
    case hyb3 => (intro w hSw; have l0 := hSw.a.c0; have l1 := hSw.a.c1; have l2 := hSw.a.c2; have l3 := hSw.a.lt; have m0 := hSw.b.c0; have m1 := hSw.b.c1; have m2 := hSw.b.c2; have m3 := hSw.b.lt; clear hSw; go_simp; try with_reducible rfl)
    try simp only [Act.put, List.setIfInBounds_toArray, List.set_cons_zero, List.set_cons_succ]
    refine held_take 5 62 (v := ?vb5) rfl rfl (by kernel_rfl) (by kernel_rfl) (by kernel_rfl) (fun _ _ _ h => h) (by rfl) ?hyb5 hHeld ?restb5
    case hyb5 => (intro w hSw; have l0 := hSw.a.c0; have l1 := hSw.a.c1; have l2 := hSw.a.c2; have l3 := hSw.a.lt; have m0 := hSw.b.c0; have m1 := hSw.b.c1; have m2 := hSw.b.c2; have m3 := hSw.b.lt; clear hSw; go_simp; try with_reducible rfl)
    try simp only [Act.put, List.setIfInBounds_toArray, List.set_cons_zero, List.set_cons_succ]
    refine wpAnyH_ready (rs := [4]) (by kernel_rfl) (by simp) ?_
    refine AllReadyH.cons rfl (fun K hK => ?_) AllReadyH.nil
    go_simp
    refine (SA.out _ hHeld.ia hHeld.ib).mono ?_
    rintro e z0 ⟨rfl, bb⟩
    have nn := hHeld.bel bb
    have R0 := Lib.hid (below_then BF.out bb)
    clear bb hHeld
    refine hK.out _ _ nn (fun hHeld => ?_)
    clear hK K nn
    try simp only [Act.put, List.setIfInBounds_toArray, List.set_cons_zero, List.set_cons_succ]
    refine wpAnyH_ready (rs := [6]) (by kernel_rfl) (by simp) ?_
    refine AllReadyH.cons rfl (fun K hK => ?_) AllReadyH.nil
    go_simp
    refine (MA.out _ hHeld.ia).mono ?_
    rintro e z1 ⟨rfl, bb⟩
    have nn := hHeld.bel bb
    have R1 := Lib.hid (below_then R0.out bb)
    clear bb hHeld
    refine hK.out _ _ nn (fun hHeld => ?_)
    clear hK K nn
    try simp only [Act.put, List.setIfInBounds_toArray, List.set_cons_zero, List.set_cons_succ]
    refine held_take 7 64 (v := .bool false) rfl rfl (by kernel_rfl) (by kernel_rfl) (by kernel_rfl) (fun _ _ _ h => h) (by rfl) ?hyb7 hHeld ?restb7
    case hyb7 => (intro w hSw; clear hSw; go_simp; try with_reducible rfl)
    try simp only [Act.put, List.setIfInBounds_toArray, List.set_cons_zero, List.set_cons_succ]
    refine held_skip 8 65 rfl rfl (by kernel_rfl) (by kernel_rfl) (by kernel_rfl) (fun _ _ _ h => h) (by rfl) hHeld ?skipb8
    try simp only [Act.put, List.setIfInBounds_toArray, List.set_cons_zero, List.set_cons_succ]
    refine held_skip 9 66 rfl rfl (by kernel_rfl) (by kernel_rfl) (by kernel_rfl) (fun _ _ _ h => h) (by rfl) hHeld ?skipb9
    try simp only [Act.put, List.setIfInBounds_toArray, List.set_cons_zero, List.set_cons_succ]
    refine held_take 10 67 (v := .bool false) rfl rfl (by kernel_rfl) (by kernel_rfl) (by kernel_rfl) (fun _ _ _ h => h) (by rfl) ?hyb10 hHeld ?restb10
    case hyb10 => (intro w hSw; clear hSw; go_simp; try with_reducible rfl)
    try simp only [Act.put, List.setIfInBounds_toArray, List.set_cons_zero, List.set_cons_succ]
    refine held_take 11 68 (v := .bool false) rfl rfl (by kernel_rfl) (by kernel_rfl) (by kernel_rfl) (fun _ _ _ h => h) (by rfl) ?hyb11 hHeld ?restb11
    case hyb11 => (intro w hSw; clear hSw; go_simp; try with_reducible rfl)
    try simp only [Act.put, List.setIfInBounds_toArray, List.set_cons_zero, List.set_cons_succ]
    refine held_skip 12 69 rfl rfl (by kernel_rfl) (by kernel_rfl) (by kernel_rfl) (fun _ _ _ h => h) (by rfl) hHeld ?skipb12
    try simp only [Act.put, List.setIfInBounds_toArray, List.set_cons_zero, List.set_cons_succ]
    refine held_skip 13 70 rfl rfl (by kernel_rfl) (by kernel_rfl) (by kernel_rfl) (fun _ _ _ h => h) (by rfl) hHeld ?skipb13
    try simp only [Act.put, List.setIfInBounds_toArray, List.set_cons_zero, List.set_cons_succ]
    refine held_skip 14 71 rfl rfl (by kernel_rfl) (by kernel_rfl) (by kernel_rfl) (fun _ _ _ h => h) (by rfl) hHeld ?skipb14
    try simp only [Act.put, List.setIfInBounds_toArray, List.set_cons_zero, List.set_cons_succ]
    refine held_take 15 72 (v := .bool false) rfl rfl (by kernel_rfl) (by kernel_rfl) (by kernel_rfl) (fun _ _ _ h => h) (by rfl) ?hyb15 hHeld ?restb15
    case hyb15 => (intro w hSw; clear hSw; go_simp; try with_reducible rfl)
    try simp only [Act.put, List.setIfInBounds_toArray, List.set_cons_zero, List.set_cons_succ]
    refine held_take 16 73 (v := .bool true) rfl rfl (by kernel_rfl) (by kernel_rfl) (by kernel_rfl) (fun _ _ _ h => h) (by rfl) ?hyb16 hHeld ?restb16
    case hyb16 => (intro w hSw; clear hSw; go_simp; try with_reducible rfl)
    try simp only [Act.put, List.setIfInBounds_toArray, List.set_cons_zero, List.set_cons_succ]
    refine held_take 17 74 (v := .bool true) rfl rfl (by kernel_rfl) (by kernel_rfl) (by kernel_rfl) (fun _ _ _ h => h) (by rfl) ?hyb17 hHeld ?restb17
    case hyb17 => (intro w hSw; clear hSw; go_simp; try with_reducible rfl)
    try simp only [Act.put, List.setIfInBounds_toArray, List.set_cons_zero, List.set_cons_succ]
    refine held_take 18 4 (v := ?vb18) rfl rfl (by kernel_rfl) (by kernel_rfl) (by kernel_rfl) (fun _ _ _ h => h) (by rfl) ?hyb18 hHeld ?restb18
    case hyb18 => (intro w hSw; clear hSw; go_simp; try with_reducible rfl)
    try simp only [Act.put, List.setIfInBounds_toArray, List.set_cons_zero, List.set_cons_succ]
    -- last: R1; left: []
    refine wpAnyH_done (by kernel_rfl) ?_ _
    have Q := Lib.hid hHeld.be
    clear hHeld
    go_wp2
    go_ret
    exact ⟨rfl, Q.out⟩
  cases hmb : T.may u
  case false =>
    rw [hma, SM.out hma hmb, Bool.and_false] at SA
    rw [hma] at MA
    rw [hmb] at MB
    go_upto_region 7 with fail
    have hHeld := C7.out.drew
    have BF := Lib.hid ((Below.refl z3.heap.size z3).drew)
    refine wp_region_held_drew (S := Cy t u (.slice p t.ts.length p') (.slice r u.ts.length r') g h w) (by kernel_rfl) hHeld (fun hHeld => ?_)
    refine held_take 0 57 (v := .bool true) rfl rfl (by kernel_rfl) (by kernel_rfl) (by kernel_rfl) (fun _ _ _ h => h) (by rfl) ?hyc0 hHeld ?restc0
    case hyc0 => (intro w hSw; clear hSw; go_simp; try with_reducible rfl)
    try simp only [Act.put, List.setIfInBounds_toArray, List.set_cons_zero, List.set_cons_succ]
    refine held_take 1 58 (v := .bool true) rfl rfl (by kernel_rfl) (by kernel_rfl) (by kernel_rfl) (fun _ _ _ h => h) (by rfl) ?hyc1 hHeld ?restc1
    case hyc1 => (intro w hSw; clear hSw; go_simp; try with_reducible rfl)
    try simp only [Act.put, List.setIfInBounds_toArray, List.set_cons_zero, List.set_cons_succ]
    refine held_take 2 59 (v := ?vc2) rfl rfl (by kernel_rfl) (by kernel_rfl) (by kernel_rfl) (fun _ _ _ h => h) (by rfl) ?hyc2 hHeld ?restc2
    case hyc2 => (intro w hSw; have l0 := hSw.a.c0; have l1 := hSw.a.c1; have l2 := hSw.a.c2; have l3 := hSw.a.lt; have m0 := hSw.b.c0; have m1 := hSw.b.c1; have m2 := hSw.b.c2; have m3 := hSw.b.lt; clear hSw; go_simp; try with_reducible rfl)
    try simp only [Act.put, List.setIfInBounds_toArray, List.set_cons_zero, List.set_cons_succ]
    refine held_take 3 60 (v := ?vc3) rfl rfl (by kernel_rfl) (by kernel_rfl) (by kernel_rfl) (fun _ _ _ h => h) (by rfl) ?hyc3 hHeld ?restc3
    case hyc3 => (intro w hSw; have l0 := hSw.a.c0; have l1 := hSw.a.c1; have l2 := hSw.a.c2; have l3 := hSw.a.lt; have m0 := hSw.b.c0; have m1 := hSw.b.c1; have m2 := hSw.b.c2; have m3 := hSw.b.lt; clear hSw; go_simp; try with_reducible rfl)
    try simp only [Act.put, List.setIfInBounds_toArray, List.set_cons_zero, List.set_cons_succ]
    refine held_take 5 62 (v := ?vc5) rfl rfl (by kernel_rfl) (by kernel_rfl) (by kernel_rfl) (fun _ _ _ h => h) (by rfl) ?hyc5 hHeld ?restc5
    case hyc5 => (intro w hSw; have l0 := hSw.a.c0; have l1 := hSw.a.c1; have l2 := hSw.a.c2; have l3 := hSw.a.lt; have m0 := hSw.b.c0; have m1 := hSw.b.c1; have m2 := hSw.b.c2; have m3 := hSw.b.lt; clear hSw; go_simp; try with_reducible rfl)
    try simp only [Act.put, List.setIfInBounds_toArray, List.set_cons_zero, List.set_cons_succ]
    refine wpAnyH_ready (rs := [4]) (by kernel_rfl) (by simp) ?_
    refine AllReadyH.cons rfl (fun K hK => ?_) AllReadyH.nil
    go_simp
    refine (SA.out _ hHeld.ia hHeld.ib).mono ?_
    rintro e z0 ⟨rfl, bb⟩
    have nn := hHeld.bel bb
    have R0 := Lib.hid (below_then BF.out bb)
    clear bb hHeld
    refine hK.out _ _ nn (fun hHeld => ?_)
    clear hK K nn
    try simp only [Act.put, List.setIfInBounds_toArray, List.set_cons_zero, List.set_cons_succ]
    refine wpAnyH_ready (rs := [6]) (by kernel_rfl) (by simp) ?_
    refine AllReadyH.cons rfl (fun K hK => ?_) AllReadyH.nil
    go_simp
    refine (MA.out _ hHeld.ia).mono ?_
    rintro e z1 ⟨rfl, bb⟩
    have nn := hHeld.bel bb
    have R1 := Lib.hid (below_then R0.out bb)
    clear bb hHeld
    refine hK.out _ _ nn (fun hHeld => ?_)
    clear hK K nn
    try simp only [Act.put, List.setIfInBounds_toArray, List.set_cons_zero, List.set_cons_succ]
    refine held_take 7 64 (v := .bool true) rfl rfl (by kernel_rfl) (by kernel_rfl) (by kernel_rfl) (fun _ _ _ h => h) (by rfl) ?hyc7 hHeld ?restc7
    case hyc7 => (intro w hSw; clear hSw; go_simp; try with_reducible rfl)
    try simp only [Act.put, List.setIfInBounds_toArray, List.set_cons_zero, List.set_cons_succ]
    refine held_take 8 65 (v := ?vc8) rfl rfl (by kernel_rfl) (by kernel_rfl) (by kernel_rfl) (fun _ _ _ h => h) (by rfl) ?hyc8 hHeld ?restc8
    case hyc8 => (intro w hSw; have l0 := hSw.a.c0; have l1 := hSw.a.c1; have l2 := hSw.a.c2; have l3 := hSw.a.lt; have m0 := hSw.b.c0; have m1 := hSw.b.c1; have m2 := hSw.b.c2; have m3 := hSw.b.lt; clear hSw; go_simp; try with_reducible rfl)
    try simp only [Act.put, List.setIfInBounds_toArray, List.set_cons_zero, List.set_cons_succ]
    refine wpAnyH_ready (rs := [9]) (by kernel_rfl) (by simp) ?_
    refine AllReadyH.cons rfl (fun K hK => ?_) AllReadyH.nil
    go_simp
    refine (MB.out _ hHeld.ib).mono ?_
    rintro e z2 ⟨rfl, bb⟩
    have nn := hHeld.bel bb
    have R2 := Lib.hid (below_then R1.out bb)
    clear bb hHeld
    refine hK.out _ _ nn (fun hHeld => ?_)
    clear hK K nn
    try simp only [Act.put, List.setIfInBounds_toArray, List.set_cons_zero, List.set_cons_succ]
    refine held_take 10 67 (v := .bool false) rfl rfl (by kernel_rfl) (by kernel_rfl) (by kernel_rfl) (fun _ _ _ h => h) (by rfl) ?hyc10 hHeld ?restc10
    case hyc10 => (intro w hSw; clear hSw; go_simp; try with_reducible rfl)
    try simp only [Act.put, List.setIfInBounds_toArray, List.set_cons_zero, List.set_cons_succ]
    refine held_take 11 68 (v := .bool false) rfl rfl (by kernel_rfl) (by kernel_rfl) (by kernel_rfl) (fun _ _ _ h => h) (by rfl) ?hyc11 hHeld ?restc11
    case hyc11 => (intro w hSw; clear hSw; go_simp; try with_reducible rfl)
    try simp only [Act.put, List.setIfInBounds_toArray, List.set_cons_zero, List.set_cons_succ]
    refine held_skip 12 69 rfl rfl (by kernel_rfl) (by kernel_rfl) (by kernel_rfl) (fun _ _ _ h => h) (by rfl) hHeld ?skipc12
    try simp only [Act.put, List.setIfInBounds_toArray, List.set_cons_zero, List.set_cons_succ]
    refine held_skip 13 70 rfl rfl (by kernel_rfl) (by kernel_rfl) (by kernel_rfl) (fun _ _ _ h => h) (by rfl) hHeld ?skipc13
    try simp only [Act.put, List.setIfInBounds_toArray, List.set_cons_zero, List.set_cons_succ]
    refine held_skip 14 71 rfl rfl (by kernel_rfl) (by kernel_rfl) (by kernel_rfl) (fun _ _ _ h => h) (by rfl) hHeld ?skipc14
    try simp only [Act.put, List.setIfInBounds_toArray, List.set_cons_zero, List.set_cons_succ]
    refine held_take 15 72 (v := .bool false) rfl rfl (by kernel_rfl) (by kernel_rfl) (by kernel_rfl) (fun _ _ _ h => h) (by rfl) ?hyc15 hHeld ?restc15
    case hyc15 => (intro w hSw; clear hSw; go_simp; try with_reducible rfl)
    try simp only [Act.put, List.setIfInBounds_toArray, List.set_cons_zero, List.set_cons_succ]
    refine held_take 16 73 (v := .bool true) rfl rfl (by kernel_rfl) (by kernel_rfl) (by kernel_rfl) (fun _ _ _ h => h) (by rfl) ?hyc16 hHeld ?restc16
    case hyc16 => (intro w hSw; clear hSw; go_simp; try with_reducible rfl)
    try simp only [Act.put, List.setIfInBounds_toArray, List.set_cons_zero, List.set_cons_succ]
    refine held_take 17 74 (v := .bool true) rfl rfl (by kernel_rfl) (by kernel_rfl) (by kernel_rfl) (fun _ _ _ h => h) (by rfl) ?hyc17 hHeld ?restc17
    case hyc17 => (intro w hSw; clear hSw; go_simp; try with_reducible rfl)
    try simp only [Act.put, List.setIfInBounds_toArray, List.set_cons_zero, List.set_cons_succ]
    refine held_take 18 4 (v := ?vc18) rfl rfl (by kernel_rfl) (by kernel_rfl) (by kernel_rfl) (fun _ _ _ h => h) (by rfl) ?hyc18 hHeld ?restc18
    case hyc18 => (intro w hSw; clear hSw; go_simp; try with_reducible rfl)
    try simp only [Act.put, List.setIfInBounds_toArray, List.set_cons_zero, List.set_cons_succ]
    -- last: R2; left: []
    refine wpAnyH_done (by kernel_rfl) ?_ _
    have Q := Lib.hid hHeld.be
    clear hHeld
    go_wp2
    go_ret
    exact ⟨rfl, Q.out⟩
  rw [hma, Bool.true_and] at SA
  rw [hma] at MA
  rw [hmb] at MB
  obtain ⟨sm, hsm⟩ : ∃ sm, sm = same t u := ⟨_, rfl⟩
  rw [← hsm] at SA RS
  clear hsm SM
  have n1 : (sm == sm) = true := by simp
  go_upto_region 7 with fail
  have hHeld := C7.out.drew
  have BF := Lib.hid ((Below.refl z3.heap.size z3).drew)
  refine wp_region_held_drew (S := Cy t u (.slice p t.ts.length p') (.slice r u.ts.length r') g h w) (by kernel_rfl) hHeld (fun hHeld => ?_)
  refine held_take 0 57 (v := .bool true) rfl rfl (by kernel_rfl) (by kernel_rfl) (by kernel_rfl) (fun _ _ _ h => h) (by rfl) ?hyd0 hHeld ?restd0
  case hyd0 => (intro w hSw; clear hSw; go_simp; try with_reducible rfl)
  try simp only [Act.put, List.setIfInBounds_toArray, List.set_cons_zero, List.set_cons_succ]
  refine held_take 1 58 (v := .bool true) rfl rfl (by kernel_rfl) (by kernel_rfl) (by kernel_rfl) (fun _ _ _ h => h) (by rfl) ?hyd1 hHeld ?restd1
  case hyd1 => (intro w hSw; clear hSw; go_simp; try with_reducible rfl)
  try simp only [Act.put, List.setIfInBounds_toArray, List.set_cons_zero, List.set_cons_succ]
  refine held_take 2 59 (v := ?vd2) rfl rfl (by kernel_rfl) (by kernel_rfl) (by kernel_rfl) (fun _ _ _ h => h) (by rfl) ?hyd2 hHeld ?restd2
  case hyd2 => (intro w hSw; have l0 := hSw.a.c0; have l1 := hSw.a.c1; have l2 := hSw.a.c2; have l3 := hSw.a.lt; have m0 := hSw.b.c0; have m1 := hSw.b.c1; have m2 := hSw.b.c2; have m3 := hSw.b.lt; clear hSw; go_simp; try with_reducible rfl)
  try simp only [Act.put, List.setIfInBounds_toArray, List.set_cons_zero, List.set_cons_succ]
  refine held_take 3 60 (v := ?vd3) rfl rfl (by kernel_rfl) (by kernel_rfl) (by kernel_rfl) (fun _ _ _ h => h) (by rfl) ?hyd3 hHeld ?restd3
  case hyd3 => (intro w hSw; have l0 := hSw.a.c0; have l1 := hSw.a.c1; have l2 := hSw.a.c2; have l3 := hSw.a.lt; have m0 := hSw.b.c0; have m1 := hSw.b.c1; have m2 := hSw.b.c2; have m3 := hSw.b.lt; clear hSw; go_simp; try with_reducible rfl)
  try simp only [Act.put, List.setIfInBounds_toArray, List.set_cons_zero, List.set_cons_succ]
  refine held_take 5 62 (v := ?vd5) rfl rfl (by kernel_rfl) (by kernel_rfl) (by kernel_rfl) (fun _ _ _ h => h) (by rfl) ?hyd5 hHeld ?restd5
  case hyd5 => (intro w hSw; have l0 := hSw.a.c0; have l1 := hSw.a.c1; have l2 := hSw.a.c2; have l3 := hSw.a.lt; have m0 := hSw.b.c0; have m1 := hSw.b.c1; have m2 := hSw.b.c2; have m3 := hSw.b.lt; clear hSw; go_simp; try with_reducible rfl)
  try simp only [Act.put, List.setIfInBounds_toArray, List.set_cons_zero, List.set_cons_succ]
  refine wpAnyH_ready (rs := [4]) (by kernel_rfl) (by simp) ?_
  refine AllReadyH.cons rfl (fun K hK => ?_) AllReadyH.nil
  go_simp
  refine (SA.out _ hHeld.ia hHeld.ib).mono ?_
  rintro e z0 ⟨rfl, bb⟩
  have nn := hHeld.bel bb
  have R0 := Lib.hid (below_then BF.out bb)
  clear bb hHeld
  refine hK.out _ _ nn (fun hHeld => ?_)
  clear hK K nn
  try simp only [Act.put, List.setIfInBounds_toArray, List.set_cons_zero, List.set_cons_succ]
  refine wpAnyH_ready (rs := [6]) (by kernel_rfl) (by simp) ?_
  refine AllReadyH.cons rfl (fun K hK => ?_) AllReadyH.nil
  go_simp
  refine (MA.out _ hHeld.ia).mono ?_
  rintro e z1 ⟨rfl, bb⟩
  have nn := hHeld.bel bb
  have R1 := Lib.hid (below_then R0.out bb)
  clear bb hHeld
  refine hK.out _ _ nn (fun hHeld => ?_)
  clear hK K nn
  try simp only [Act.put, List.setIfInBounds_toArray, List.set_cons_zero, List.set_cons_succ]
  refine held_take 7 64 (v := .bool true) rfl rfl (by kernel_rfl) (by kernel_rfl) (by kernel_rfl) (fun _ _ _ h => h) (by rfl) ?hyd7 hHeld ?restd7
  case hyd7 => (intro w hSw; clear hSw; go_simp; try with_reducible rfl)
  try simp only [Act.put, List.setIfInBounds_toArray, List.set_cons_zero, List.set_cons_succ]
  refine held_take 8 65 (v := ?vd8) rfl rfl (by kernel_rfl) (by kernel_rfl) (by kernel_rfl) (fun _ _ _ h => h) (by rfl) ?hyd8 hHeld ?restd8
  case hyd8 => (intro w hSw; have l0 := hSw.a.c0; have l1 := hSw.a.c1; have l2 := hSw.a.c2; have l3 := hSw.a.lt; have m0 := hSw.b.c0; have m1 := hSw.b.c1; have m2 := hSw.b.c2; have m3 := hSw.b.lt; clear hSw; go_simp; try with_reducible rfl)
  try simp only [Act.put, List.setIfInBounds_toArray, List.set_cons_zero, List.set_cons_succ]
  refine wpAnyH_ready (rs := [9]) (by kernel_rfl) (by simp) ?_
  refine AllReadyH.cons rfl (fun K hK => ?_) AllReadyH.nil
  go_simp
  refine (MB.out _ hHeld.ib).mono ?_
  rintro e z2 ⟨rfl, bb⟩
  have nn := hHeld.bel bb
  have R2 := Lib.hid (below_then R1.out bb)
  clear bb hHeld
  refine hK.out _ _ nn (fun hHeld => ?_)
  clear hK K nn
  try simp only [Act.put, List.setIfInBounds_toArray, List.set_cons_zero, List.set_cons_succ]
  refine held_take 10 67 (v := .bool true) rfl rfl (by kernel_rfl) (by kernel_rfl) (by kernel_rfl) (fun _ _ _ h => h) (by rfl) ?hyd10 hHeld ?restd10
  case hyd10 => (intro w hSw; clear hSw; go_simp; try with_reducible rfl)
  try simp only [Act.put, List.setIfInBounds_toArray, List.set_cons_zero, List.set_cons_succ]
  refine held_take 11 68 (v := .bool true) rfl rfl (by kernel_rfl) (by kernel_rfl) (by kernel_rfl) (fun _ _ _ h => h) (by rfl) ?hyd11 hHeld ?restd11
  case hyd11 => (intro w hSw; clear hSw; go_simp; try with_reducible rfl)
  try simp only [Act.put, List.setIfInBounds_toArray, List.set_cons_zero, List.set_cons_succ]
  refine held_take 12 69 (v := ?vd12) rfl rfl (by kernel_rfl) (by kernel_rfl) (by kernel_rfl) (fun _ _ _ h => h) (by rfl) ?hyd12 hHeld ?restd12
  case hyd12 => (intro w hSw; have l0 := hSw.a.c0; have l1 := hSw.a.c1; have l2 := hSw.a.c2; have l3 := hSw.a.lt; have m0 := hSw.b.c0; have m1 := hSw.b.c1; have m2 := hSw.b.c2; have m3 := hSw.b.lt; clear hSw; go_simp; try with_reducible rfl)
  try simp only [Act.put, List.setIfInBounds_toArray, List.set_cons_zero, List.set_cons_succ]
  refine held_take 13 70 (v := ?vd13) rfl rfl (by kernel_rfl) (by kernel_rfl) (by kernel_rfl) (fun _ _ _ h => h) (by rfl) ?hyd13 hHeld ?restd13
  case hyd13 => (intro w hSw; have l0 := hSw.a.c0; have l1 := hSw.a.c1; have l2 := hSw.a.c2; have l3 := hSw.a.lt; have m0 := hSw.b.c0; have m1 := hSw.b.c1; have m2 := hSw.b.c2; have m3 := hSw.b.lt; clear hSw; go_simp; try with_reducible rfl)
  try simp only [Act.put, List.setIfInBounds_toArray, List.set_cons_zero, List.set_cons_succ]
  refine wpAnyH_ready (rs := [14]) (by kernel_rfl) (by simp) ?_
  refine AllReadyH.cons rfl (fun K hK => ?_) AllReadyH.nil
  go_simp
  refine (RS.out _ hHeld.ia hHeld.ib).mono ?_
  rintro e z3 ⟨rfl, bb⟩
  have nn := hHeld.bel bb
  have R3 := Lib.hid (below_then R2.out bb)
  clear bb hHeld
  refine hK.out _ _ nn (fun hHeld => ?_)
  clear hK K nn
  try simp only [Act.put, List.setIfInBounds_toArray, List.set_cons_zero, List.set_cons_succ]
  refine held_take 15 72 (v := .bool sm) rfl rfl (by kernel_rfl) (by kernel_rfl) (by kernel_rfl) (fun _ _ _ h => h) (by rfl) ?hyd15 hHeld ?restd15
  case hyd15 => (intro w hSw; clear hSw; go_simp; try with_reducible rfl)
  try simp only [Act.put, List.setIfInBounds_toArray, List.set_cons_zero, List.set_cons_succ]
  refine held_take 16 73 (v := .bool true) rfl rfl (by kernel_rfl) (by kernel_rfl) (by kernel_rfl) (fun _ _ _ h => h) (by rfl) ?hyd16 hHeld ?restd16
  case hyd16 => (intro w hSw; clear hSw; go_simp; try with_reducible rfl)
  try simp only [Act.put, List.setIfInBounds_toArray, List.set_cons_zero, List.set_cons_succ]
  refine held_take 17 74 (v := .bool true) rfl rfl (by kernel_rfl) (by kernel_rfl) (by kernel_rfl) (fun _ _ _ h => h) (by rfl) ?hyd17 hHeld ?restd17
  case hyd17 => (intro w hSw; clear hSw; go_simp; try with_reducible rfl)
  try simp only [Act.put, List.setIfInBounds_toArray, List.set_cons_zero, List.set_cons_succ]
  refine held_take 18 4 (v := ?vd18) rfl rfl (by kernel_rfl) (by kernel_rfl) (by kernel_rfl) (fun _ _ _ h => h) (by rfl) ?hyd18 hHeld ?restd18
  case hyd18 => (intro w hSw; clear hSw; go_simp; try with_reducible rfl)
  try simp only [Act.put, List.setIfInBounds_toArray, List.set_cons_zero, List.set_cons_succ]
  -- last: R3; left: []
  refine wpAnyH_done (by kernel_rfl) ?_ _
  have Q := Lib.hid hHeld.be
  clear hHeld
  go_wp2
  go_ret
  exact ⟨rfl, Q.out⟩
end Go.Proofs.Ytdkeickcbpjedaa
