/-
  The walk of the statement WalkItems over this seat's translation. Condition: an item as it lies in memory, whose slices have room.
-/
import Derived.Test.YtegakecncpfnnaaWlkA
import Derived.Test.YtegakecncpfnnaaHeld
namespace Go.Proofs.Ytegakecncpfnnaa
open Go.RowKit

/-- What the last region of the law keeps. -/
def Ki (bx bY : Nat) (t : T) (v vY lv : Value) (W : World) : Prop :=
  I3 W bx (.string t.s) (.bool t.l) v ∧ I3 W bY (.string t.s) (.bool t.l) vY ∧ TSl W lv (T.toks t) ∧ In W t v ∧ In W t vY
theorem Ki.bel {bx bY : Nat} {t : T} {v vY lv : Value} {W W' : World} (h : Ki bx bY t v vY lv W) (b : Below W.heap.size W W') : Ki bx bY t v vY lv W' :=
  ⟨h.1.bel b, h.2.1.bel b, h.2.2.1.bel b, h.2.2.2.1.bel b, h.2.2.2.2.bel b⟩
theorem great_bounds {t : T} (h : great t = false) : T.cnt t ≤ 1199 ∧ T.siz t ≤ 6000 := by
  simp only [great, Bool.or_eq_false_iff, decide_eq_false_iff_not] at h
  omega
theorem may_rgt {t : T} (h : T.may t = true) : T.rgt t = true := by unfold T.may at h; simp only [Bool.and_eq_true] at h; exact h.1.1

set_option maxRecDepth 100000 in
set_option maxHeartbeats 1000000 in
theorem walkItems_any (t : T) (v : Value) (w : World) (hI : InC w t v) :
    Calls Try.prog 3 #[.agg #[.string t.s, .bool t.l, v]] w fun e w' => e = .returned (.bool true) ∧ Below w.heap.size w w' := by
  obtain ⟨pa, pc, rfl, _⟩ := hI.slice
  have b0 := bel1 w (.cells #[.string t.s, .bool t.l, .slice pa t.ts.length pc] 24)
  have i0 := I3.new w (.string t.s) (.bool t.l) (.slice pa t.ts.length pc)
  have H0 := Lib.hid (And.intro b0 (And.intro i0 (hI.bel b0)))
  clear hI b0 i0
  go_enter Try.func3, Try.ntmps3
  go_wp2_with fail
  refine (alive_any _).mono ?_
  rintro e w1 ⟨rfl, b1⟩
  obtain ⟨x, hx⟩ : ∃ x, x = w.heap.size := ⟨_, rfl⟩
  have H1 := Lib.hid (show Below x w w1 ∧ I3 w1 x (.string t.s) (.bool t.l) (.slice pa t.ts.length pc) ∧ InC w1 t (.slice pa t.ts.length pc) from ⟨by rw [hx]; exact H0.out.1.trans (b1.mono (by simp)), by rw [hx]; exact H0.out.2.1.bel b1, H0.out.2.2.bel b1⟩)
  rw [← hx]
  have HX := Lib.hid hx
  have XS := Lib.hid (fun W (h : Below x w W) => show x ≤ W.heap.size by rw [hx]; exact h.size)
  have y0 := H1.out.2.1.c0
  have y1 := H1.out.2.1.c1
  have y2 := H1.out.2.1.c2
  have yl := H1.out.2.1.lt
  clear b1 H0 hx
  go_wp2_with fail
  refine (great_any t _ _ (InC.in t _ H1.out.2.2)).mono ?_
  rintro e w2 ⟨rfl, b2⟩
  have H2 := Lib.hid (show Below x w w2 ∧ I3 w2 x (.string t.s) (.bool t.l) (.slice pa t.ts.length pc) ∧ InC w2 t (.slice pa t.ts.length pc) from ⟨H1.out.1.trans (b2.mono (XS.out _ H1.out.1)), H1.out.2.1.bel b2, H1.out.2.2.bel b2⟩)
  have z0 := H2.out.2.1.c0
  have z1 := H2.out.2.1.c1
  have z2 := H2.out.2.1.c2
  have zl := H2.out.2.1.lt
  clear b2 H1 y0 y1 y2 yl
  cases hg : great t with
  | true =>
    go_wp2
    go_ret
    exact ⟨rfl, by rw [← HX.out]; exact H2.out.1⟩
  | false =>
    obtain ⟨hb1, hb2⟩ := great_bounds hg
    have BD := Lib.hid (show T.siz t + 3 * T.cnt t ≤ 60000 ∧ T.cnt t ≤ 1199 ∧ T.siz t ≤ 6000 by omega)
    have HL := Lib.hid (show (T.toks t).length ≤ 2400 by have := T.toks_le t; omega)
    clear hg hb1 hb2
    cases hm : T.may t with
    | false =>
      have OF := Lib.hid (of_no t _ w2 H2.out.2.2 hm)
      go_wp2_with fail
      refine OF.out.mono ?_
      rintro e w3 ⟨rfl, b3⟩
      have H3 := Lib.hid (show Below x w w3 ∧ I3 w3 x (.string t.s) (.bool t.l) (.slice pa t.ts.length pc) ∧ InC w3 t (.slice pa t.ts.length pc) from ⟨H2.out.1.trans (b3.mono (XS.out _ H2.out.1)), H2.out.2.1.bel b3, H2.out.2.2.bel b3⟩)
      have y0 := H3.out.2.1.c0
      have y1 := H3.out.2.1.c1
      have y2 := H3.out.2.1.c2
      have yl := H3.out.2.1.lt
      have MY := Lib.hid (refMay_any t _ w3 (InC.in t _ H3.out.2.2) (by have := BD.out; omega))
      rw [hm] at MY
      clear b3 H2 z0 z1 z2 zl OF hm
      go_wp2_with fail
      refine MY.out.mono ?_
      rintro e w4 ⟨rfl, b4⟩
      have H4 := Lib.hid (H3.out.1.trans (b4.mono (XS.out _ H3.out.1)))
      clear b4
      go_wp2
      go_ret
      exact ⟨rfl, by rw [← HX.out]; exact H4.out⟩
    | true =>
      have TZ := Lib.hid (show tsz (T.toks t) ≤ 6000 by rw [tsz_toks t (may_rgt hm)]; exact BD.out.2.2)
      have TP := Lib.hid (show (T.put t).length ≤ 60000 by have := T.put_le t (by have := BD.out; omega); have := BD.out; omega)
      have OF := Lib.hid (of_ok t _ w2 H2.out.2.2 hm (by have := HL.out; omega) (by have := TZ.out; omega))
      go_wp2_with fail
      refine OF.out.mono ?_
      rintro e w3 ⟨lv, rfl, tl, b3⟩
      obtain ⟨la, lc, rfl, lh, lr⟩ := tl
      have H3 := Lib.hid (show Below x w w3 ∧ I3 w3 x (.string t.s) (.bool t.l) (.slice pa t.ts.length pc) ∧ InC w3 t (.slice pa t.ts.length pc) ∧ TSl w3 (.slice la (T.toks t).length lc) (T.toks t) from ⟨H2.out.1.trans (b3.mono (XS.out _ H2.out.1)), H2.out.2.1.bel b3, H2.out.2.2.bel b3, ⟨la, lc, rfl, lh, lr⟩⟩)
      have y0 := H3.out.2.1.c0
      have y1 := H3.out.2.1.c1
      have y2 := H3.out.2.1.c2
      have yl := H3.out.2.1.lt
      have MY := Lib.hid (refMay_any t _ w3 (InC.in t _ H3.out.2.2.1) (by have := BD.out; omega))
      rw [hm] at MY
      clear b3 H2 z0 z1 z2 zl OF lh lr
      go_wp2_with fail
      refine MY.out.mono ?_
      rintro e w4 ⟨rfl, b4⟩
      have H4 := Lib.hid (show Below x w w4 ∧ I3 w4 x (.string t.s) (.bool t.l) (.slice pa t.ts.length pc) ∧ InC w4 t (.slice pa t.ts.length pc) ∧ TSl w4 (.slice la (T.toks t).length lc) (T.toks t) from ⟨H3.out.1.trans (b4.mono (XS.out _ H3.out.1)), H3.out.2.1.bel b4, H3.out.2.2.1.bel b4, H3.out.2.2.2.bel b4⟩)
      have BU := Lib.hid (build_ok t _ w4 H4.out.2.2.2 (by have := HL.out; omega) (by have := TZ.out; omega) hm)
      clear b4 H3 y0 y1 y2 yl MY
      go_wp2_with fail
      refine BU.out.mono ?_
      rintro e w5 ⟨vX, rfl, hX, b5⟩
      obtain ⟨va, vc, rfl⟩ := hX.slice
      obtain ⟨by_, hby⟩ : ∃ by_, by_ = w5.heap.size := ⟨_, rfl⟩
      have b6 := bel1 w5 (.cells #[.string t.s, .bool t.l, .slice va t.ts.length vc] 24)
      have H6 := Lib.hid (show Below x w (w5.alloc (.cells #[.string t.s, .bool t.l, .slice va t.ts.length vc] 24)) ∧ Ki x by_ t (.slice pa t.ts.length pc) (.slice va t.ts.length vc) (.slice la (T.toks t).length lc) (w5.alloc (.cells #[.string t.s, .bool t.l, .slice va t.ts.length vc] 24)) from
        ⟨(H4.out.1.trans (b5.mono (XS.out _ H4.out.1))).trans (b6.mono (Nat.le_trans (XS.out _ H4.out.1) b5.size)), (H4.out.2.1.bel b5).bel b6, by rw [hby]; exact I3.new w5 _ _ _, (H4.out.2.2.2.bel b5).bel b6, (InC.in t _ (H4.out.2.2.1.bel b5)).bel b6, hX.bel b6⟩)
      have PU := Lib.hid (put_ok t _ _ H6.out.2.2.2.1 (by have := HL.out; omega) TZ.out TP.out hm)
      have HBY := Lib.hid hby
      clear b5 b6 hX H4 BU hby hm
      go_wp2_with fail
      rw [← HBY.out]
      refine PU.out.mono ?_
      rintro e w7 ⟨rfl, b7⟩
      have H7 := Lib.hid (show Below x w w7 ∧ Ki x by_ t (.slice pa t.ts.length pc) (.slice va t.ts.length vc) (.slice la (T.toks t).length lc) w7 from ⟨H6.out.1.trans (b7.mono (XS.out _ H6.out.1)), H6.out.2.bel b7⟩)
      have SK := Lib.hid (skip_any (T.toks t) _ w7 H7.out.2.2.2.1 (by have := HL.out; omega))
      rw [skip0_toks] at SK
      clear b7 H6 PU
      go_wp2_with fail
      refine SK.out.mono ?_
      rintro e w8 ⟨rfl, b8⟩
      have H8 := Lib.hid (show Below x w w8 ∧ Ki x by_ t (.slice pa t.ts.length pc) (.slice va t.ts.length vc) (.slice la (T.toks t).length lc) w8 from ⟨H7.out.1.trans (b8.mono (XS.out _ H7.out.1)), H7.out.2.bel b8⟩)
      clear b8 H7 SK
      go_upto_region 11 with fail
      refine wp_region_held_drew (S := Ki x by_ t (.slice pa t.ts.length pc) (.slice va t.ts.length vc) (.slice la (T.toks t).length lc)) (by kernel_rfl) (H8.out.2.bel (Below.refl _ _).drew) (fun hHeld => ?_)
      have B8 := Lib.hid (show Below w.heap.size w w8.drew from by rw [← HX.out]; exact H8.out.1.drew)
      generalize w8.drew = W9 at *
      refine held_take 0 45 (v := ?vi0) rfl rfl (by kernel_rfl) (by kernel_rfl) (by kernel_rfl) (fun _ _ _ h => h) (by rfl) ?hyi0 hHeld ?resti0
      case hyi0 => (intro w hSw; clear hSw; go_simp; try with_reducible rfl)
      try simp only [Act.put, List.setIfInBounds_toArray, List.set_cons_zero, List.set_cons_succ]
      refine held_take 1 46 (v := .bool true) rfl rfl (by kernel_rfl) (by kernel_rfl) (by kernel_rfl) (fun _ _ _ h => h) (by rfl) ?hyi1 hHeld ?resti1
      case hyi1 => (intro w hSw; clear hSw; go_simp; try with_reducible rfl)
      try simp only [Act.put, List.setIfInBounds_toArray, List.set_cons_zero, List.set_cons_succ]
      refine held_take 2 47 (v := ?vi2) rfl rfl (by kernel_rfl) (by kernel_rfl) (by kernel_rfl) (fun _ _ _ h => h) (by rfl) ?hyi2 hHeld ?resti2
      case hyi2 => (intro w hSw; clear hSw; go_simp; try with_reducible rfl)
      try simp only [Act.put, List.setIfInBounds_toArray, List.set_cons_zero, List.set_cons_succ]
      refine held_take 3 48 (v := ?vi3) rfl rfl (by kernel_rfl) (by kernel_rfl) (by kernel_rfl) (fun _ _ _ h => h) (by rfl) ?hyi3 hHeld ?resti3
      case hyi3 => (intro w hSw; clear hSw; go_simp; try with_reducible rfl)
      try simp only [Act.put, List.setIfInBounds_toArray, List.set_cons_zero, List.set_cons_succ]
      refine held_take 5 50 (v := ?vi5) rfl rfl (by kernel_rfl) (by kernel_rfl) (by kernel_rfl) (fun _ _ _ h => h) (by rfl) ?hyi5 hHeld ?resti5
      case hyi5 => (intro w hSw; have hS0 := hSw.1.c0; have hS1 := hSw.1.c1; have hS2 := hSw.1.c2; have hSl := hSw.1.lt; have hT0 := hSw.2.1.c0; have hT1 := hSw.2.1.c1; have hT2 := hSw.2.1.c2; have hTl := hSw.2.1.lt; clear hSw; go_simp; try with_reducible rfl)
      try simp only [Act.put, List.setIfInBounds_toArray, List.set_cons_zero, List.set_cons_succ]
      refine wpAnyH_ready (rs := [4]) (by kernel_rfl) (by simp) ?_
      refine AllReadyH.cons rfl (fun K hK => ?_) AllReadyH.nil
      go_simp
      refine (plain_any (T.toks t) _ _ hHeld.2.2.1 (by have := HL.out; omega)).mono ?_
      rintro e z0 ⟨u1, rfl, tu1, bb⟩
      obtain ⟨ua, uc, rfl, uh, ur⟩ := tu1
      have P1 := Lib.hid (show TSl z0 (.slice ua (T.toks t).length uc) (T.toks t) from ⟨ua, uc, rfl, uh, ur⟩)
      clear uh ur
      have nn := hHeld.bel bb
      have R0 := Lib.hid (below_then B8.out bb)
      clear bb hHeld
      refine hK.out _ _ nn (fun hHeld => ?_)
      clear hK K nn
      try simp only [Act.put, List.setIfInBounds_toArray, List.set_cons_zero, List.set_cons_succ]
      refine wpAnyH_ready (rs := [6]) (by kernel_rfl) (by simp) ?_
      refine AllReadyH.cons rfl (fun K hK => ?_) AllReadyH.nil
      go_simp
      refine (refOf_any t _ _ hHeld.2.2.2.1 (by have := HL.out; omega)).mono ?_
      rintro e z1 ⟨u2, rfl, tu2, bb⟩
      have tu2 := tu2.tsl
      obtain ⟨xa, xc, rfl, xh, xr⟩ := tu2
      have P2 := Lib.hid (show TSl z1 (.slice xa (T.toks t).length xc) (T.toks t) from ⟨xa, xc, rfl, xh, xr⟩)
      have P1 := Lib.hid (P1.out.bel bb)
      clear xh xr
      have nn := hHeld.bel bb
      have R1 := Lib.hid (below_then R0.out bb)
      clear bb hHeld
      refine hK.out _ _ nn (fun hHeld => ?_)
      clear hK K nn
      try simp only [Act.put, List.setIfInBounds_toArray, List.set_cons_zero, List.set_cons_succ]
      refine wpAnyH_ready (rs := [7]) (by kernel_rfl) (by simp) ?_
      refine AllReadyH.cons rfl (fun K hK => ?_) AllReadyH.nil
      go_simp
      refine (tsame_any (T.toks t) (T.toks t) _ _ _ P1.out P2.out (by have := HL.out; omega)).mono ?_
      rintro e z2 ⟨rfl, bb⟩
      rw [tsame_eq rfl]
      have nn := hHeld.bel bb
      have R2 := Lib.hid (below_then R1.out bb)
      clear bb hHeld
      refine hK.out _ _ nn (fun hHeld => ?_)
      clear hK K nn
      try simp only [Act.put, List.setIfInBounds_toArray, List.set_cons_zero, List.set_cons_succ]
      refine held_take 8 53 (v := ?vi8) rfl rfl (by kernel_rfl) (by kernel_rfl) (by kernel_rfl) (fun _ _ _ h => h) (by rfl) ?hyi8 hHeld ?resti8
      case hyi8 => (intro w hSw; clear hSw; go_simp; try with_reducible rfl)
      try simp only [Act.put, List.setIfInBounds_toArray, List.set_cons_zero, List.set_cons_succ]
      refine held_take 9 54 (v := ?vi9) rfl rfl (by kernel_rfl) (by kernel_rfl) (by kernel_rfl) (fun _ _ _ h => h) (by rfl) ?hyi9 hHeld ?resti9
      case hyi9 => (intro w hSw; clear hSw; go_simp; try with_reducible rfl)
      try simp only [Act.put, List.setIfInBounds_toArray, List.set_cons_zero, List.set_cons_succ]
      refine held_take 10 55 (v := ?vi10) rfl rfl (by kernel_rfl) (by kernel_rfl) (by kernel_rfl) (fun _ _ _ h => h) (by rfl) ?hyi10 hHeld ?resti10
      case hyi10 => (intro w hSw; clear hSw; go_simp; try with_reducible rfl)
      try simp only [Act.put, List.setIfInBounds_toArray, List.set_cons_zero, List.set_cons_succ]
      refine held_take 11 56 (v := .bool true) rfl rfl (by kernel_rfl) (by kernel_rfl) (by kernel_rfl) (fun _ _ _ h => h) (by rfl) ?hyi11 hHeld ?resti11
      case hyi11 => (intro w hSw; clear hSw; go_simp; try with_reducible rfl)
      try simp only [Act.put, List.setIfInBounds_toArray, List.set_cons_zero, List.set_cons_succ]
      refine held_take 12 57 (v := ?vi12) rfl rfl (by kernel_rfl) (by kernel_rfl) (by kernel_rfl) (fun _ _ _ h => h) (by rfl) ?hyi12 hHeld ?resti12
      case hyi12 => (intro w hSw; clear hSw; go_simp; try with_reducible rfl)
      try simp only [Act.put, List.setIfInBounds_toArray, List.set_cons_zero, List.set_cons_succ]
      refine held_take 13 58 (v := ?vi13) rfl rfl (by kernel_rfl) (by kernel_rfl) (by kernel_rfl) (fun _ _ _ h => h) (by rfl) ?hyi13 hHeld ?resti13
      case hyi13 => (intro w hSw; clear hSw; go_simp; try with_reducible rfl)
      try simp only [Act.put, List.setIfInBounds_toArray, List.set_cons_zero, List.set_cons_succ]
      refine held_take 14 59 (v := ?vi14) rfl rfl (by kernel_rfl) (by kernel_rfl) (by kernel_rfl) (fun _ _ _ h => h) (by rfl) ?hyi14 hHeld ?resti14
      case hyi14 => (intro w hSw; have hS0 := hSw.1.c0; have hS1 := hSw.1.c1; have hS2 := hSw.1.c2; have hSl := hSw.1.lt; have hT0 := hSw.2.1.c0; have hT1 := hSw.2.1.c1; have hT2 := hSw.2.1.c2; have hTl := hSw.2.1.lt; clear hSw; go_simp; try with_reducible rfl)
      try simp only [Act.put, List.setIfInBounds_toArray, List.set_cons_zero, List.set_cons_succ]
      refine held_take 15 60 (v := ?vi15) rfl rfl (by kernel_rfl) (by kernel_rfl) (by kernel_rfl) (fun _ _ _ h => h) (by rfl) ?hyi15 hHeld ?resti15
      case hyi15 => (intro w hSw; have hS0 := hSw.1.c0; have hS1 := hSw.1.c1; have hS2 := hSw.1.c2; have hSl := hSw.1.lt; have hT0 := hSw.2.1.c0; have hT1 := hSw.2.1.c1; have hT2 := hSw.2.1.c2; have hTl := hSw.2.1.lt; clear hSw; go_simp; try with_reducible rfl)
      try simp only [Act.put, List.setIfInBounds_toArray, List.set_cons_zero, List.set_cons_succ]
      refine wpAnyH_ready (rs := [16]) (by kernel_rfl) (by simp) ?_
      refine AllReadyH.cons rfl (fun K hK => ?_) AllReadyH.nil
      go_simp
      refine (refSame_any t _ t _ _ hHeld.2.2.2.1 hHeld.2.2.2.2).mono ?_
      rintro e z3 ⟨rfl, bb⟩
      rw [same_self]
      have nn := hHeld.bel bb
      have R3 := Lib.hid (below_then R2.out bb)
      clear bb hHeld
      refine hK.out _ _ nn (fun hHeld => ?_)
      clear hK K nn
      try simp only [Act.put, List.setIfInBounds_toArray, List.set_cons_zero, List.set_cons_succ]
      refine held_take 17 62 (v := ?vi17) rfl rfl (by kernel_rfl) (by kernel_rfl) (by kernel_rfl) (fun _ _ _ h => h) (by rfl) ?hyi17 hHeld ?resti17
      case hyi17 => (intro w hSw; clear hSw; go_simp; try with_reducible rfl)
      try simp only [Act.put, List.setIfInBounds_toArray, List.set_cons_zero, List.set_cons_succ]
      refine held_take 18 63 (v := ?vi18) rfl rfl (by kernel_rfl) (by kernel_rfl) (by kernel_rfl) (fun _ _ _ h => h) (by rfl) ?hyi18 hHeld ?resti18
      case hyi18 => (intro w hSw; clear hSw; go_simp; try with_reducible rfl)
      try simp only [Act.put, List.setIfInBounds_toArray, List.set_cons_zero, List.set_cons_succ]
      refine held_take 19 64 (v := ?vi19) rfl rfl (by kernel_rfl) (by kernel_rfl) (by kernel_rfl) (fun _ _ _ h => h) (by rfl) ?hyi19 hHeld ?resti19
      case hyi19 => (intro w hSw; clear hSw; go_simp; try with_reducible rfl)
      try simp only [Act.put, List.setIfInBounds_toArray, List.set_cons_zero, List.set_cons_succ]
      refine held_take 20 65 (v := .bool true) rfl rfl (by kernel_rfl) (by kernel_rfl) (by kernel_rfl) (fun _ _ _ h => h) (by rfl) ?hyi20 hHeld ?resti20
      case hyi20 => (intro w hSw; clear hSw; go_simp; try with_reducible rfl)
      try simp only [Act.put, List.setIfInBounds_toArray, List.set_cons_zero, List.set_cons_succ]
      refine held_take 21 66 (v := ?vi21) rfl rfl (by kernel_rfl) (by kernel_rfl) (by kernel_rfl) (fun _ _ _ h => h) (by rfl) ?hyi21 hHeld ?resti21
      case hyi21 => (intro w hSw; clear hSw; go_simp; try with_reducible rfl)
      try simp only [Act.put, List.setIfInBounds_toArray, List.set_cons_zero, List.set_cons_succ]
      refine held_take 22 67 (v := ?vi22) rfl rfl (by kernel_rfl) (by kernel_rfl) (by kernel_rfl) (fun _ _ _ h => h) (by rfl) ?hyi22 hHeld ?resti22
      case hyi22 => (intro w hSw; clear hSw; go_simp; try with_reducible rfl)
      try simp only [Act.put, List.setIfInBounds_toArray, List.set_cons_zero, List.set_cons_succ]
      refine held_take 23 68 (v := ?vi23) rfl rfl (by kernel_rfl) (by kernel_rfl) (by kernel_rfl) (fun _ _ _ h => h) (by rfl) ?hyi23 hHeld ?resti23
      case hyi23 => (intro w hSw; clear hSw; go_simp; try with_reducible rfl)
      try simp only [Act.put, List.setIfInBounds_toArray, List.set_cons_zero, List.set_cons_succ]
      refine held_take 24 69 (v := ?vi24) rfl rfl (by kernel_rfl) (by kernel_rfl) (by kernel_rfl) (fun _ _ _ h => h) (by rfl) ?hyi24 hHeld ?resti24
      case hyi24 => (intro w hSw; have hS0 := hSw.1.c0; have hS1 := hSw.1.c1; have hS2 := hSw.1.c2; have hSl := hSw.1.lt; have hT0 := hSw.2.1.c0; have hT1 := hSw.2.1.c1; have hT2 := hSw.2.1.c2; have hTl := hSw.2.1.lt; clear hSw; go_simp; try with_reducible rfl)
      try simp only [Act.put, List.setIfInBounds_toArray, List.set_cons_zero, List.set_cons_succ]
      refine wpAnyH_ready (rs := [25]) (by kernel_rfl) (by simp) ?_
      refine AllReadyH.cons rfl (fun K hK => ?_) AllReadyH.nil
      go_simp
      refine (refPut_any t _ _ hHeld.2.2.2.1 (by have := BD.out; omega)).mono ?_
      rintro e z4 ⟨rfl, bb⟩
      have nn := hHeld.bel bb
      have R4 := Lib.hid (below_then R3.out bb)
      clear bb hHeld
      refine hK.out _ _ nn (fun hHeld => ?_)
      clear hK K nn
      try simp only [Act.put, List.setIfInBounds_toArray, List.set_cons_zero, List.set_cons_succ]
      refine held_take 26 71 (v := .bool true) rfl rfl (by kernel_rfl) (by kernel_rfl) (by kernel_rfl) (fun _ _ _ h => h) (by rfl) ?hyi26 hHeld ?resti26
      case hyi26 => (intro w hSw; clear hSw; go_simp; try with_reducible rfl)
      try simp only [Act.put, List.setIfInBounds_toArray, List.set_cons_zero, List.set_cons_succ]
      refine held_take 27 72 (v := ?vi27) rfl rfl (by kernel_rfl) (by kernel_rfl) (by kernel_rfl) (fun _ _ _ h => h) (by rfl) ?hyi27 hHeld ?resti27
      case hyi27 => (intro w hSw; clear hSw; go_simp; try with_reducible rfl)
      try simp only [Act.put, List.setIfInBounds_toArray, List.set_cons_zero, List.set_cons_succ]
      refine held_take 28 73 (v := ?vi28) rfl rfl (by kernel_rfl) (by kernel_rfl) (by kernel_rfl) (fun _ _ _ h => h) (by rfl) ?hyi28 hHeld ?resti28
      case hyi28 => (intro w hSw; clear hSw; go_simp; try with_reducible rfl)
      try simp only [Act.put, List.setIfInBounds_toArray, List.set_cons_zero, List.set_cons_succ]
      refine held_take 29 74 (v := ?vi29) rfl rfl (by kernel_rfl) (by kernel_rfl) (by kernel_rfl) (fun _ _ _ h => h) (by rfl) ?hyi29 hHeld ?resti29
      case hyi29 => (intro w hSw; clear hSw; go_simp; try with_reducible rfl)
      try simp only [Act.put, List.setIfInBounds_toArray, List.set_cons_zero, List.set_cons_succ]
      refine held_take 30 75 (v := .bool true) rfl rfl (by kernel_rfl) (by kernel_rfl) (by kernel_rfl) (fun _ _ _ h => h) (by rfl) ?hyi30 hHeld ?resti30
      case hyi30 => (intro w hSw; clear hSw; go_simp; try with_reducible rfl)
      try simp only [Act.put, List.setIfInBounds_toArray, List.set_cons_zero, List.set_cons_succ]
      refine held_take 31 76 (v := ?vi31) rfl rfl (by kernel_rfl) (by kernel_rfl) (by kernel_rfl) (fun _ _ _ h => h) (by rfl) ?hyi31 hHeld ?resti31
      case hyi31 => (intro w hSw; clear hSw; go_simp; try with_reducible rfl)
      try simp only [Act.put, List.setIfInBounds_toArray, List.set_cons_zero, List.set_cons_succ]
      refine held_take 32 77 (v := ?vi32) rfl rfl (by kernel_rfl) (by kernel_rfl) (by kernel_rfl) (fun _ _ _ h => h) (by rfl) ?hyi32 hHeld ?resti32
      case hyi32 => (intro w hSw; clear hSw; go_simp; try with_reducible rfl)
      try simp only [Act.put, List.setIfInBounds_toArray, List.set_cons_zero, List.set_cons_succ]
      refine held_take 33 78 (v := ?vi33) rfl rfl (by kernel_rfl) (by kernel_rfl) (by kernel_rfl) (fun _ _ _ h => h) (by rfl) ?hyi33 hHeld ?resti33
      case hyi33 => (intro w hSw; clear hSw; go_simp; try with_reducible rfl)
      try simp only [Act.put, List.setIfInBounds_toArray, List.set_cons_zero, List.set_cons_succ]
      refine held_take 34 79 (v := ?vi34) rfl rfl (by kernel_rfl) (by kernel_rfl) (by kernel_rfl) (fun _ _ _ h => h) (by rfl) ?hyi34 hHeld ?resti34
      case hyi34 => (intro w hSw; clear hSw; go_simp; try with_reducible rfl)
      try simp only [Act.put, List.setIfInBounds_toArray, List.set_cons_zero, List.set_cons_succ]
      refine held_take 35 80 (v := ?vi35) rfl rfl (by kernel_rfl) (by kernel_rfl) (by kernel_rfl) (fun _ _ _ h => h) (by rfl) ?hyi35 hHeld ?resti35
      case hyi35 => (intro w hSw; clear hSw; go_simp; try with_reducible rfl)
      try simp only [Act.put, List.setIfInBounds_toArray, List.set_cons_zero, List.set_cons_succ]
      refine held_take 36 81 (v := .bool true) rfl rfl (by kernel_rfl) (by kernel_rfl) (by kernel_rfl) (fun _ _ _ h => h) (by rfl) ?hyi36 hHeld ?resti36
      case hyi36 => (intro w hSw; clear hSw; go_simp; try with_reducible rfl)
      try simp only [Act.put, List.setIfInBounds_toArray, List.set_cons_zero, List.set_cons_succ]
      refine held_take 37 82 (v := ?vi37) rfl rfl (by kernel_rfl) (by kernel_rfl) (by kernel_rfl) (fun _ _ _ h => h) (by rfl) ?hyi37 hHeld ?resti37
      case hyi37 => (intro w hSw; clear hSw; go_simp; try with_reducible rfl)
      try simp only [Act.put, List.setIfInBounds_toArray, List.set_cons_zero, List.set_cons_succ]
      refine held_take 38 2 (v := ?vi38) rfl rfl (by kernel_rfl) (by kernel_rfl) (by kernel_rfl) (fun _ _ _ h => h) (by rfl) ?hyi38 hHeld ?resti38
      case hyi38 => (intro w hSw; clear hSw; go_simp; try with_reducible rfl)
      try simp only [Act.put, List.setIfInBounds_toArray, List.set_cons_zero, List.set_cons_succ]
      -- last: R4; left: []
      refine wpAnyH_done (by kernel_rfl) ?_ _
      clear hHeld
      go_wp2
      go_ret
      exact ⟨rfl, R4.out⟩
end Go.Proofs.Ytegakecncpfnnaa
