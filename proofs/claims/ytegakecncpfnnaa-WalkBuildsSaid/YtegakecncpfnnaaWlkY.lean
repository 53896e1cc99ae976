/-
  The walk of the statement WalkBuilds over this seat's translation. Condition: a row of tokens as it lies in memory.
-/
import Derived.Test.YtegakecncpfnnaaWlkA
import Derived.Test.YtegakecncpfnnaaWlkN
namespace Go.Proofs.Ytegakecncpfnnaa
open Go.RowKit

theorem mayk_rgt {t : T} (h : T.may t = true) : T.rgt t = true ∧ T.dep t ≤ 16 ∧ T.cnt t ≤ 1024 := by
  unfold T.may at h
  simp only [Bool.and_eq_true, decide_eq_true_eq] at h
  exact ⟨h.1.1, h.1.2, h.2⟩

set_option maxRecDepth 100000 in
set_option maxHeartbeats 1000000 in
theorem walkBuilds_any (l : List Tok) (v : Value) (w : World) (hl : TSl w v l) (hn : l.length ≤ maxLen) :
    Calls Try.prog 4 #[v] w fun e w' => e = .returned (.bool true) ∧ Below w.heap.size w w' := by
  unfold maxLen at hn
  have HL := Lib.hid hl
  obtain ⟨la, lc, rfl, hlc, _⟩ := hl
  go_enter Try.func4, Try.ntmps4
  go_wp2_with fail
  refine (alive_any _).mono ?_
  rintro e w1 ⟨rfl, b1⟩
  have H1 := Lib.hid (And.intro b1 (HL.out.bel b1))
  clear b1
  go_wp2_with fail
  refine (tgreat_any l _ _ H1.out.2 hn).mono ?_
  rintro e w2 ⟨rfl, b2⟩
  have H2 := Lib.hid (And.intro (H1.out.1.trans (b2.mono H1.out.1.size)) (H1.out.2.bel b2))
  clear b2 H1
  cases hg : tgreat l with
  | true =>
    go_wp2
    go_ret
    exact ⟨rfl, H2.out.1⟩
  | false =>
    obtain ⟨hb1, hb2⟩ := tgreat_no hg
    clear hg hn
    go_wp2_with fail
    refine (lawOf_any l _ _ H2.out.2 (by omega)).mono ?_
    rintro e w3 ⟨u1, rfl, t1, b3⟩
    obtain ⟨ua, uc, rfl, uh, ur⟩ := t1
    have T1 := Lib.hid (show TSl w3 (.slice ua l.length uc) l from ⟨ua, uc, rfl, uh, ur⟩)
    have H3 := Lib.hid (And.intro (H2.out.1.trans (b3.mono H2.out.1.size)) (H2.out.2.bel b3))
    clear b3 H2 uh ur
    cases hm : mayk l with
    | true =>
      obtain ⟨t, hmt, hlt⟩ := (mayk_iff l).1 hm
      obtain ⟨hrg, hdp, hct⟩ := mayk_rgt hmt
      have hsz : T.siz t ≤ 6000 := by rw [← tsz_toks t hrg, ← hlt]; exact hb2
      have hpl := T.put_le t (by omega)
      have BU := Lib.hid (build_ok t (.slice ua l.length uc) w3 (hlt ▸ T1.out) (by rw [← hlt]; omega) (by rw [← hlt]; omega) hmt)
      have PU := Lib.hid (fun (u : Value) (W : World) (h : TSl W u l) => put_ok t u W (hlt ▸ h) (by rw [← hlt]; omega) (by rw [← hlt]; omega) (by omega) hmt)
      have HT := Lib.hid (show l = T.toks t ∧ T.rgt t = true ∧ T.dep t ≤ 16 ∧ T.cnt t ≤ 1024 ∧ T.siz t ≤ 6000 ∧ T.may t = true from ⟨hlt, hrg, hdp, hct, hsz, hmt⟩)
      clear hmt hrg hdp hct hsz hpl hlt hm
      go_wp2_with fail
      refine BU.out.mono ?_
      rintro e w4 ⟨vX, rfl, hX, b4⟩
      obtain ⟨xa, xc, rfl⟩ := hX.slice
      have b5 := bel1 w4 (.cells #[.string t.s, .bool t.l, .slice xa t.ts.length xc] 24)
      obtain ⟨x, hx⟩ : ∃ x, x = w4.heap.size := ⟨_, rfl⟩
      have jx := I3.new w4 (.string t.s) (.bool t.l) (.slice xa t.ts.length xc)
      rw [← hx] at jx
      obtain ⟨w5, hw5⟩ : ∃ w5, w5 = w4.alloc (.cells #[.string t.s, .bool t.l, .slice xa t.ts.length xc] 24) := ⟨_, rfl⟩
      have H5 := Lib.hid (show Below w.heap.size w w5 ∧ TSl w5 (.slice la l.length lc) l ∧ I3 w5 x (.string t.s) (.bool t.l) (.slice xa t.ts.length xc) ∧ In w5 t (.slice xa t.ts.length xc) from by
        rw [hw5]
        exact ⟨(H3.out.1.trans (b4.mono H3.out.1.size)).trans (b5.mono (Nat.le_trans H3.out.1.size b4.size)), (H3.out.2.bel b4).bel b5, jx, hX.bel b5⟩)
      have HX := Lib.hid hx
      have HW := Lib.hid hw5
      clear b4 b5 hX H3 jx hx hw5 BU T1
      go_wp2_with fail
      rw [← HW.out]
      refine (lawOf_any l _ _ H5.out.2.1 (by omega)).mono ?_
      rintro e w6 ⟨u2, rfl, t2, b6⟩
      obtain ⟨pa, pc, rfl, ph, pr⟩ := t2
      have PUT := Lib.hid (PU.out _ w6 ⟨pa, pc, rfl, ph, pr⟩)
      have H6 := Lib.hid (show Below w.heap.size w w6 ∧ TSl w6 (.slice la l.length lc) l ∧ I3 w6 x (.string t.s) (.bool t.l) (.slice xa t.ts.length xc) ∧ In w6 t (.slice xa t.ts.length xc) from ⟨H5.out.1.trans (b6.mono H5.out.1.size), H5.out.2.1.bel b6, H5.out.2.2.1.bel b6, H5.out.2.2.2.bel b6⟩)
      clear b6 H5 ph pr
      rw [← HX.out]
      go_wp2_with fail
      refine PUT.out.mono ?_
      rintro e w7 ⟨rfl, b7⟩
      have H7 := Lib.hid (show Below w.heap.size w w7 ∧ TSl w7 (.slice la l.length lc) l ∧ I3 w7 x (.string t.s) (.bool t.l) (.slice xa t.ts.length xc) ∧ In w7 t (.slice xa t.ts.length xc) from ⟨H6.out.1.trans (b7.mono H6.out.1.size), H6.out.2.1.bel b7, H6.out.2.2.1.bel b7, H6.out.2.2.2.bel b7⟩)
      have RB := Lib.hid (show Calls Try.prog 19 #[.slice la l.length lc] w7 fun e w' => BldPost l w7 e w' from by
        obtain ⟨a', c', e', h1, h2⟩ := H7.out.2.1
        injection e' with e1 e2 e3
        subst e1 e3
        exact refBuild_any l la lc w7 (by omega) h1 (by omega) h2)
      clear b7 H6 PUT
      go_wp2_with fail
      refine RB.out.mono ?_
      rintro e w8 ⟨b8, h8⟩
      rcases h8 with ⟨y, vY, rfl, ⟨hy1, hy2, hy3⟩, hY⟩ | ⟨rfl, hno⟩
      · have hyt : y = t := by
          have := HT.out.1
          rw [hy1] at this
          exact (T.toks_inj y t [] [] hy2 HT.out.2.1 (by rw [List.append_nil, List.append_nil]; exact this)).1
        subst hyt
        obtain ⟨ya, yc, rfl⟩ := hY.slice
        have b9 := bel1 w8 (.cells #[.string y.s, .bool y.l, .slice ya y.ts.length yc] 24)
        obtain ⟨z, hz⟩ : ∃ z, z = w8.heap.size := ⟨_, rfl⟩
        have jz := I3.new w8 (.string y.s) (.bool y.l) (.slice ya y.ts.length yc)
        rw [← hz] at jz
        obtain ⟨w9, hw9⟩ : ∃ w9, w9 = w8.alloc (.cells #[.string y.s, .bool y.l, .slice ya y.ts.length yc] 24) := ⟨_, rfl⟩
        have H9 := Lib.hid (show Below w.heap.size w w9 ∧ I3 w9 x (.string y.s) (.bool y.l) (.slice xa y.ts.length xc) ∧ In w9 y (.slice xa y.ts.length xc) ∧ I3 w9 z (.string y.s) (.bool y.l) (.slice ya y.ts.length yc) ∧ In w9 y (.slice ya y.ts.length yc) from by
          rw [hw9]
          exact ⟨(H7.out.1.trans (b8.mono H7.out.1.size)).trans (b9.mono (Nat.le_trans H7.out.1.size b8.size)), (H7.out.2.2.1.bel b8).bel b9, (H7.out.2.2.2.bel b8).bel b9, jz, hY.bel b9⟩)
        have HZ := Lib.hid hz
        have HW9 := Lib.hid hw9
        have g0 := H9.out.2.2.2.1.c0
        have g1 := H9.out.2.2.2.1.c1
        have g2 := H9.out.2.2.2.1.c2
        have gl := H9.out.2.2.2.1.lt
        have MY := Lib.hid (refMay_any y _ w9 H9.out.2.2.2.2 (by have := HT.out.2.2.2.1; omega))
        rw [HT.out.2.2.2.2.2] at MY
        have BD := Lib.hid (show T.siz y + 3 * T.cnt y ≤ 60000 by have := HT.out.2.2.2; omega)
        clear hy1 hy2 hy3 hY b8 b9 jz hz hw9 H7 RB
        go_upto_region 8 with fail
        rw [← HW9.out, ← HZ.out]
        go_wp2_with fail
        refine MY.out.mono ?_
        rintro e wa ⟨rfl, ba⟩
        have HA := Lib.hid (show Below w.heap.size w wa ∧ I3 wa x (.string y.s) (.bool y.l) (.slice xa y.ts.length xc) ∧ In wa y (.slice xa y.ts.length xc) ∧ I3 wa z (.string y.s) (.bool y.l) (.slice ya y.ts.length yc) ∧ In wa y (.slice ya y.ts.length yc) from
          ⟨H9.out.1.trans (ba.mono H9.out.1.size), H9.out.2.1.bel ba, H9.out.2.2.1.bel ba, H9.out.2.2.2.1.bel ba, H9.out.2.2.2.2.bel ba⟩)
        have f0 := HA.out.2.1.c0
        have f1 := HA.out.2.1.c1
        have f2 := HA.out.2.1.c2
        have fl := HA.out.2.1.lt
        have k0 := HA.out.2.2.2.1.c0
        have k1 := HA.out.2.2.2.1.c1
        have k2 := HA.out.2.2.2.1.c2
        have kl := HA.out.2.2.2.1.lt
        have SM := Lib.hid (refSame_any y _ y _ wa HA.out.2.2.1 HA.out.2.2.2.2)
        rw [same_self] at SM
        clear ba H9 MY g0 g1 g2 gl
        go_wp2_with fail
        refine SM.out.mono ?_
        rintro e wb ⟨rfl, bb⟩
        have HB := Lib.hid (show Below w.heap.size w wb ∧ I3 wb z (.string y.s) (.bool y.l) (.slice ya y.ts.length yc) ∧ In wb y (.slice ya y.ts.length yc) from ⟨HA.out.1.trans (bb.mono HA.out.1.size), HA.out.2.2.2.1.bel bb, HA.out.2.2.2.2.bel bb⟩)
        have g0 := HB.out.2.1.c0
        have g1 := HB.out.2.1.c1
        have g2 := HB.out.2.1.c2
        have gl := HB.out.2.1.lt
        have RP := Lib.hid (refPut_any y _ wb HB.out.2.2 BD.out)
        clear bb HA SM f0 f1 f2 fl k0 k1 k2 kl
        go_wp2_with fail
        refine RP.out.mono ?_
        rintro e wc ⟨rfl, bc⟩
        have HC := Lib.hid (HB.out.1.trans (bc.mono HB.out.1.size))
        clear bc
        go_wp2
        go_ret
        exact ⟨rfl, HC.out⟩
      · exact absurd HT.out.1 (hno t HT.out.2.1 HT.out.2.2.1)
    | false =>
      have BU := Lib.hid (build_no l (.slice ua l.length uc) w3 T1.out (by omega) hm)
      have PU := Lib.hid (fun (u : Value) (W : World) (h : TSl W u l) => put_no l u W h (by omega) hm)
      have NM := Lib.hid (show ∀ t, T.may t = true → l ≠ T.toks t from fun t h e => by
        have := (mayk_iff l).2 ⟨t, h, e⟩
        rw [hm] at this
        cases this)
      have BL := Lib.hid (show ∀ t, T.rgt t = true → l = T.toks t → T.cnt t ≤ 1000000 from fun t h e => by
        have := cnt_toks t h
        rw [← e] at this
        omega)
      clear hm
      unfold ZV at BU
      go_wp2_with fail
      refine BU.out.mono ?_
      rintro e w4 ⟨rfl, b4⟩
      have b5 := bel1 w4 (.cells #[.string ⟨#[]⟩, .bool false, .slice none 0 0] 24)
      obtain ⟨x, hx⟩ : ∃ x, x = w4.heap.size := ⟨_, rfl⟩
      have jx := I3.new w4 (.string ⟨#[]⟩) (.bool false) (.slice none 0 0)
      rw [← hx] at jx
      obtain ⟨w5, hw5⟩ : ∃ w5, w5 = w4.alloc (.cells #[.string ⟨#[]⟩, .bool false, .slice none 0 0] 24) := ⟨_, rfl⟩
      have H5 := Lib.hid (show Below w.heap.size w w5 ∧ TSl w5 (.slice la l.length lc) l ∧ I3 w5 x (.string ⟨#[]⟩) (.bool false) (.slice none 0 0) from by
        rw [hw5]
        exact ⟨(H3.out.1.trans (b4.mono H3.out.1.size)).trans (b5.mono (Nat.le_trans H3.out.1.size b4.size)), (H3.out.2.bel b4).bel b5, jx⟩)
      have HX := Lib.hid hx
      have HW := Lib.hid hw5
      clear b4 b5 H3 jx hx hw5 BU T1
      go_wp2_with fail
      rw [← HW.out]
      refine (lawOf_any l _ _ H5.out.2.1 (by omega)).mono ?_
      rintro e w6 ⟨u2, rfl, t2, b6⟩
      obtain ⟨pa, pc, rfl, ph, pr⟩ := t2
      have PUT := Lib.hid (PU.out _ w6 ⟨pa, pc, rfl, ph, pr⟩)
      have H6 := Lib.hid (show Below w.heap.size w w6 ∧ TSl w6 (.slice la l.length lc) l ∧ I3 w6 x (.string ⟨#[]⟩) (.bool false) (.slice none 0 0) from ⟨H5.out.1.trans (b6.mono H5.out.1.size), H5.out.2.1.bel b6, H5.out.2.2.bel b6⟩)
      clear b6 H5 ph pr
      rw [← HX.out]
      go_wp2_with fail
      refine PUT.out.mono ?_
      rintro e w7 ⟨rfl, b7⟩
      have H7 := Lib.hid (show Below w.heap.size w w7 ∧ TSl w7 (.slice la l.length lc) l ∧ I3 w7 x (.string ⟨#[]⟩) (.bool false) (.slice none 0 0) from ⟨H6.out.1.trans (b7.mono H6.out.1.size), H6.out.2.1.bel b7, H6.out.2.2.bel b7⟩)
      have RB := Lib.hid (show Calls Try.prog 19 #[.slice la l.length lc] w7 fun e w' => BldPost l w7 e w' from by
        obtain ⟨a', c', e', h1, h2⟩ := H7.out.2.1
        injection e' with e1 e2 e3
        subst e1 e3
        exact refBuild_any l la lc w7 (by omega) h1 (by omega) h2)
      clear b7 H6 PUT
      go_wp2_with fail
      refine RB.out.mono ?_
      rintro e w8 ⟨b8, h8⟩
      have ZI : ∀ W, In W (.mk ⟨#[]⟩ false []) (.slice none 0 0) := fun W => ⟨by decide, by decide, none, 0, rfl, trivial⟩
      rcases h8 with ⟨y, vY, rfl, ⟨hy1, hy2, hy3⟩, hY⟩ | ⟨rfl, hno⟩
      · have hmy : T.may y = false := by
          cases h : T.may y with
          | true => exact absurd hy1 (NM.out y h)
          | false => rfl
        obtain ⟨ya, yc, rfl⟩ := hY.slice
        have b9 := bel1 w8 (.cells #[.string y.s, .bool y.l, .slice ya y.ts.length yc] 24)
        obtain ⟨z, hz⟩ : ∃ z, z = w8.heap.size := ⟨_, rfl⟩
        have jz := I3.new w8 (.string y.s) (.bool y.l) (.slice ya y.ts.length yc)
        rw [← hz] at jz
        obtain ⟨w9, hw9⟩ : ∃ w9, w9 = w8.alloc (.cells #[.string y.s, .bool y.l, .slice ya y.ts.length yc] 24) := ⟨_, rfl⟩
        have H9 := Lib.hid (show Below w.heap.size w w9 ∧ I3 w9 x (.string ⟨#[]⟩) (.bool false) (.slice none 0 0) ∧ I3 w9 z (.string y.s) (.bool y.l) (.slice ya y.ts.length yc) ∧ In w9 y (.slice ya y.ts.length yc) from by
          rw [hw9]
          exact ⟨(H7.out.1.trans (b8.mono H7.out.1.size)).trans (b9.mono (Nat.le_trans H7.out.1.size b8.size)), (H7.out.2.2.bel b8).bel b9, jz, hY.bel b9⟩)
        have HZ := Lib.hid hz
        have HW9 := Lib.hid hw9
        have g0 := H9.out.2.2.1.c0
        have g1 := H9.out.2.2.1.c1
        have g2 := H9.out.2.2.1.c2
        have gl := H9.out.2.2.1.lt
        have MY := Lib.hid (refMay_any y _ w9 H9.out.2.2.2 (BL.out y hy2 hy1))
        rw [hmy] at MY
        clear hy1 hy2 hy3 hY b8 b9 jz hz hw9 H7 RB hmy
        go_upto_region 8 with fail
        rw [← HW9.out, ← HZ.out]
        go_wp2_with fail
        refine MY.out.mono ?_
        rintro e wa ⟨rfl, ba⟩
        have HA := Lib.hid (show Below w.heap.size w wa ∧ I3 wa x (.string ⟨#[]⟩) (.bool false) (.slice none 0 0) from ⟨H9.out.1.trans (ba.mono H9.out.1.size), H9.out.2.1.bel ba⟩)
        have f0 := HA.out.2.c0
        have f1 := HA.out.2.c1
        have f2 := HA.out.2.c2
        have fl := HA.out.2.lt
        have SM := Lib.hid (refSame_any (.mk ⟨#[]⟩ false []) (.slice none 0 0) (.mk ⟨#[]⟩ false []) (.slice none 0 0) wa (ZI _) (ZI _))
        rw [same_self] at SM
        simp only [T.s, T.l] at SM
        clear ba H9 MY g0 g1 g2 gl ZI
        go_wp2_with fail
        refine SM.out.mono ?_
        rintro e wb ⟨rfl, bb⟩
        have HB := Lib.hid (HA.out.1.trans (bb.mono HA.out.1.size))
        clear bb
        go_wp2
        go_ret
        exact ⟨rfl, HB.out⟩
      · have b9 := bel1 w8 (.cells #[.string ⟨#[]⟩, .bool false, .slice none 0 0] 24)
        obtain ⟨w9, hw9⟩ : ∃ w9, w9 = w8.alloc (.cells #[.string ⟨#[]⟩, .bool false, .slice none 0 0] 24) := ⟨_, rfl⟩
        have H9 := Lib.hid (show Below w.heap.size w w9 ∧ I3 w9 x (.string ⟨#[]⟩) (.bool false) (.slice none 0 0) from by
          rw [hw9]
          exact ⟨(H7.out.1.trans (b8.mono H7.out.1.size)).trans (b9.mono (Nat.le_trans H7.out.1.size b8.size)), (H7.out.2.2.bel b8).bel b9⟩)
        have HW9 := Lib.hid hw9
        have f0 := H9.out.2.c0
        have f1 := H9.out.2.c1
        have f2 := H9.out.2.c2
        have fl := H9.out.2.lt
        have SM := Lib.hid (refSame_any (.mk ⟨#[]⟩ false []) (.slice none 0 0) (.mk ⟨#[]⟩ false []) (.slice none 0 0) w9 (ZI _) (ZI _))
        rw [same_self] at SM
        simp only [T.s, T.l] at SM
        clear b8 b9 hw9 H7 RB hno ZI
        unfold ZV
        go_upto_region 8 with fail
        rw [← HW9.out]
        go_wp2_with fail
        refine SM.out.mono ?_
        rintro e wb ⟨rfl, bb⟩
        have HB := Lib.hid (H9.out.1.trans (bb.mono H9.out.1.size))
        clear bb
        go_wp2
        go_ret
        exact ⟨rfl, HB.out⟩
end Go.Proofs.Ytegakecncpfnnaa
