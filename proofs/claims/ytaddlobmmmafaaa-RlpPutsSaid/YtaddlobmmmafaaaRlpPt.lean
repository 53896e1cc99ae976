/-
  For every item RlpPuts answers true over this seat's translation. Conditions: an item as it lies in memory, whose slices have room.
-/
import Derived.Test.YtaddlobmmmafaaaRlpX
import Derived.Deep.Cut
namespace Go.Proofs.Ytaddlobmmmafaaa
open Go.RowKit

set_option maxRecDepth 20000 in
set_option maxHeartbeats 2000000 in
theorem rlpPuts_any (t : T) (v : Value) (w : World) (hI : InC w t v) :
    Calls Try.prog 3 #[.agg #[.string t.s, .bool t.l, v]] w fun e w' => e = .returned (.bool true) ∧ Below w.heap.size w w' := by
  obtain ⟨p, p', rfl, _⟩ := hI.slice
  have C0 := Lib.hid (Cr.new hI)
  have HI0 := Lib.hid hI
  clear hI
  go_enter Try.func3, Try.ntmps3
  go_wp2_with fail
  refine (alive_any _).mono ?_
  rintro e w1 ⟨rfl, b1⟩
  have c1 := C0.out.bel b1
  have x0 := c1.1.c0
  have x1 := c1.1.c1
  have x2 := c1.1.c2
  have xl := c1.1.lt
  have C1 := Lib.hid c1
  clear b1 c1
  go_wp2_with fail
  refine (great_any t _ _ (C1.out.2.1.in)).mono ?_
  rintro e w2 ⟨rfl, b2⟩
  have c2 := C1.out.bel b2
  have x0 := c2.1.c0
  have x1 := c2.1.c1
  have x2 := c2.1.c2
  have xl := c2.1.lt
  have C2 := Lib.hid c2
  clear b2 c2
  cases hg : great t
  · obtain ⟨hc, hz⟩ := not_greatR hg
    clear hg
    cases hm : T.may t
    · have hsz0 : szd t = 0 := by unfold szd; rw [hm]; rfl
      have te : (⟨#[]⟩ : ByteArray).toList.isEmpty = true := by rw [ByteArray.toList_eq]; rfl
      go_wp2_with fail
      refine (putOf_no t _ _ (C2.out.2.1) hm hz (by omega)).mono ?_
      rintro e w3 ⟨rfl, b3⟩
      have c3 := C2.out.bel b3
      have x0 := c3.1.c0
      have x1 := c3.1.c1
      have x2 := c3.1.c2
      have xl := c3.1.lt
      have C3 := Lib.hid c3
      clear b3 c3
      go_wp2_with fail
      refine (refMay_any t _ _ (C3.out.2.1.in) (by omega)).mono ?_
      rw [hm]
      rintro e w4 ⟨rfl, b4⟩
      have c4 := C3.out.bel b4
      have x0 := c4.1.c0
      have x1 := c4.1.c1
      have x2 := c4.1.c2
      have xl := c4.1.lt
      have C4 := Lib.hid c4
      clear b4 c4 hm
      go_wp2_with fail
      refine (sizeOf_any t _ _ (C4.out.2.1) hz (by omega)).mono ?_
      rw [hsz0]
      rintro e w5 ⟨rfl, b5⟩
      have C5 := Lib.hid (C4.out.bel b5).2.2
      clear b5 hsz0
      go_wp2
      go_ret
      exact ⟨rfl, C5.out⟩
    · obtain ⟨hr, hd, hcm⟩ := mayR hm
      have hszd : szd t = (T.put t).length := by unfold szd; rw [hm]; rfl
      have HSZ := Lib.hid hszd
      have hpl := T.put_le t (by omega)
      have hpp := T.put_pos t
      have hc6 : T.cnt t ≤ 1000000 := by omega
      clear hszd
      go_wp2_with fail
      refine (putOf_ok t _ _ (C2.out.2.1) hm hz (by omega)).mono ?_
      rintro e w3 ⟨rfl, b3⟩
      have c3 := C2.out.bel b3
      have x0 := c3.1.c0
      have x1 := c3.1.c1
      have x2 := c3.1.c2
      have xl := c3.1.lt
      have C3 := Lib.hid c3
      clear b3 c3
      go_wp2_with fail
      refine (refMay_any t _ _ (C3.out.2.1.in) (by omega)).mono ?_
      rw [hm]
      rintro e w4 ⟨rfl, b4⟩
      have C4 := Lib.hid (C3.out.bel b4)
      have G4 := Lib.hid (fun W => getOk_any t (bs (T.put t ++ [])) (T.dep t : Nat) (T.cnt t : Nat) W (by rw [bs_size, List.append_nil]) (fun W' => next_ok_of (x := t) (more := []) (depth := (T.dep t : Nat)) (items := (T.cnt t : Nat)) hr (by omega) (by omega) hz (by omega) (by decide) (by omega) (by omega) W'))
      rw [List.append_nil] at G4
      clear b4 hm x0 x1 x2 xl
      go_upto_region 8 with fail
      go_cut [5, 6] from 7 (fun v5 v6 wc => v6 = .int .i64 0 ∧ ∃ g xa xc, v5 = .pointer (some ⟨g, 0, none⟩) ∧ Cr t (.slice p t.ts.length p') w.heap.size w wc ∧ I3 wc g (.string t.s) (.bool t.l) (.slice xa t.ts.length xc) ∧ In wc t (.slice xa t.ts.length xc))
      case first =>
        refine wp_region_held_drew (S := fun W => Cr t (.slice p t.ts.length p') w.heap.size w W) (by kernel_rfl) C4.out.drew (fun hHeld => ?_)
        obtain ⟨u0, hu0⟩ : ∃ u, u = w4.drew := ⟨_, rfl⟩
        rw [← hu0] at hHeld ⊢
        clear hu0
        refine held_take 0 31 (v := .string (bs (T.put t))) rfl rfl (by kernel_rfl) (by kernel_rfl) (by kernel_rfl) (fun _ _ _ h => h) (by rfl) ?hyp1 hHeld ?restp1
        case hyp1 => (intro W hSw; clear hSw; go_simp; try with_reducible rfl)
        try simp only [Act.put, List.setIfInBounds_toArray, List.set_cons_zero, List.set_cons_succ]
        refine held_take 1 32 (v := .agg #[.string t.s, .bool t.l, .slice p t.ts.length p']) rfl rfl (by kernel_rfl) (by kernel_rfl) (by kernel_rfl) (fun _ _ _ h => h) (by rfl) ?hyp2 hHeld ?restp2
        case hyp2 => (intro W hSw; have hS0 := hSw.1.c0; have hS1 := hSw.1.c1; have hS2 := hSw.1.c2; have hSl := hSw.1.lt; clear hSw; go_simp; try with_reducible rfl)
        try simp only [Act.put, List.setIfInBounds_toArray, List.set_cons_zero, List.set_cons_succ]
        refine held_take 3 34 (v := .agg #[.string t.s, .bool t.l, .slice p t.ts.length p']) rfl rfl (by kernel_rfl) (by kernel_rfl) (by kernel_rfl) (fun _ _ _ h => h) (by rfl) ?hyp3 hHeld ?restp3
        case hyp3 => (intro W hSw; have hS0 := hSw.1.c0; have hS1 := hSw.1.c1; have hS2 := hSw.1.c2; have hSl := hSw.1.lt; clear hSw; go_simp; try with_reducible rfl)
        try simp only [Act.put, List.setIfInBounds_toArray, List.set_cons_zero, List.set_cons_succ]
        refine wpAnyH_ready (rs := [2, 9]) (by kernel_rfl) (by simp) ?_
        refine AllReadyH.cons rfl (fun K hK => ?_) (AllReadyH.cons rfl (fun K hK => ?_) AllReadyH.nil)
        · go_simp
          refine (refDeep_any t _ _ (hHeld.2.1.in) hc6).mono ?_
          rintro e u1 ⟨rfl, bu1⟩
          have nu1 := hHeld.bel bu1
          clear bu1 hHeld
          refine hK.out _ _ nu1 (fun hHeld => ?_)
          clear hK K nu1
          try simp only [Act.put, List.setIfInBounds_toArray, List.set_cons_zero, List.set_cons_succ]
          refine wpAnyH_ready (rs := [4, 9]) (by kernel_rfl) (by simp) ?_
          refine AllReadyH.cons rfl (fun K hK => ?_) (AllReadyH.cons rfl (fun K hK => ?_) AllReadyH.nil)
          · go_simp
            refine (refCount_any t _ _ (hHeld.2.1.in) hc6).mono ?_
            rintro e u2 ⟨rfl, bu2⟩
            have nu2 := hHeld.bel bu2
            clear bu2 hHeld
            refine hK.out _ _ nu2 (fun hHeld => ?_)
            clear hK K nu2
            try simp only [Act.put, List.setIfInBounds_toArray, List.set_cons_zero, List.set_cons_succ]
            refine wpAnyH_ready (rs := [5, 9]) (by kernel_rfl) (by simp) ?_
            refine AllReadyH.cons rfl (fun K hK => ?_) (AllReadyH.cons rfl (fun K hK => ?_) AllReadyH.nil)
            · go_simp
              refine (G4.out _).mono ?_
              rintro e u3 ⟨vX, rfl, hin, bu3⟩
              obtain ⟨xa, xc, rfl⟩ := hin.slice
              have nu3 := hHeld.bel bu3
              have YP := Lib.hid hin
              clear bu3 hHeld hin
              refine hK.out _ _ nu3 (fun hHeld => ?_)
              clear hK K nu3
              try simp only [Act.put, List.setIfInBounds_toArray, List.set_cons_zero, List.set_cons_succ]
              refine held_take 6 30 (v := .tuple #[.agg #[.string t.s, .bool t.l, .slice xa t.ts.length xc], .int .i64 0]) rfl rfl (by kernel_rfl) (by kernel_rfl) (by kernel_rfl) (fun _ _ _ h => h) (by rfl) ?hyp4 hHeld ?restp4
              case hyp4 => (intro W hSw; clear hSw; go_simp; try with_reducible rfl)
              try simp only [Act.put, List.setIfInBounds_toArray, List.set_cons_zero, List.set_cons_succ]
              refine held_take 7 37 (v := .agg #[.string t.s, .bool t.l, .slice xa t.ts.length xc]) rfl rfl (by kernel_rfl) (by kernel_rfl) (by kernel_rfl) (fun _ _ _ h => h) (by rfl) ?hyp5 hHeld ?restp5
              case hyp5 => (intro W hSw; clear hSw; go_simp; try with_reducible rfl)
              try simp only [Act.put, List.setIfInBounds_toArray, List.set_cons_zero, List.set_cons_succ]
              refine held_take 8 38 (v := .int .i64 0) rfl rfl (by kernel_rfl) (by kernel_rfl) (by kernel_rfl) (fun _ _ _ h => h) (by rfl) ?hyp6 hHeld ?restp6
              case hyp6 => (intro W hSw; clear hSw; go_simp; try with_reducible rfl)
              try simp only [Act.put, List.setIfInBounds_toArray, List.set_cons_zero, List.set_cons_succ]
              refine wpAnyH_ready (rs := [9]) (by kernel_rfl) (by simp) ?_
              refine AllReadyH.cons rfl (fun K hK => ?_) AllReadyH.nil
              go_simp
              have AH := Lib.hid (show w.heap.size < u3.heap.size from hHeld.1.lt)
              have nu4 := hHeld.al (.cells #[.string ⟨#[]⟩, .bool false, .slice none 0 0] 24)
              have JA := I3.new u3 (.string ⟨#[]⟩) (.bool false) (.slice none 0 0)
              have YP := InP.keep (w' := u3.alloc (.cells #[.string ⟨#[]⟩, .bool false, .slice none 0 0] 24)) (N' := fun j => j ≠ u3.heap.size) (by simp) (fun j _ hl => ⟨Nat.ne_of_lt hl, Below.heap_alloc u3 _ j hl⟩) t _ YP.out
              obtain ⟨u4, hu4⟩ : ∃ x, x = u3.alloc (.cells #[.string ⟨#[]⟩, .bool false, .slice none 0 0] 24) := ⟨_, rfl⟩
              rw [← hu4] at nu4 JA YP ⊢
              have JA := Lib.hid JA
              have YP := Lib.hid YP
              clear hu4 hHeld
              refine hK.out _ _ nu4 (fun hHeld => ?_)
              clear hK K nu4
              try simp only [Act.put, List.setIfInBounds_toArray, List.set_cons_zero, List.set_cons_succ]
              refine wpAnyH_ready (rs := [10]) (by kernel_rfl) (by simp) ?_
              refine AllReadyH.cons rfl (fun K hK => ?_) AllReadyH.nil
              have q0 := JA.out.c0
              have q1 := JA.out.c1
              have q2 := JA.out.c2
              have g0 := JA.out.free 0
              have g1 := JA.out.free 1
              have g2 := JA.out.free 2
              have ql := JA.out.lt
              have f10 : Fr (fun j => j = u3.heap.size) u4 (((u4.setCell ⟨u3.heap.size, 0, none⟩ (.string t.s)).setCell ⟨u3.heap.size, 1, none⟩ (.bool t.l)).setCell ⟨u3.heap.size, 2, none⟩ (.slice xa t.ts.length xc)) := fr_put _ _ _
              have bb : Below w.heap.size w (((u4.setCell ⟨u3.heap.size, 0, none⟩ (.string t.s)).setCell ⟨u3.heap.size, 1, none⟩ (.bool t.l)).setCell ⟨u3.heap.size, 2, none⟩ (.slice xa t.ts.length xc)) := bel_put hHeld.2.2 (Nat.le_of_lt AH.out) _ _ _
              have n10 : Cr t (.slice p t.ts.length p') w.heap.size w (((u4.setCell ⟨u3.heap.size, 0, none⟩ (.string t.s)).setCell ⟨u3.heap.size, 1, none⟩ (.bool t.l)).setCell ⟨u3.heap.size, 2, none⟩ (.slice xa t.ts.length xc)) := ⟨hHeld.1.fr f10 (by have := AH.out; omega), HI0.out.bel bb, bb⟩
              have DONE := Lib.hid (And.intro (JA.out.put (.string t.s) (.bool t.l) (.slice xa t.ts.length xc)) (show In (((u4.setCell ⟨u3.heap.size, 0, none⟩ (.string t.s)).setCell ⟨u3.heap.size, 1, none⟩ (.bool t.l)).setCell ⟨u3.heap.size, 2, none⟩ (.slice xa t.ts.length xc)) t (.slice xa t.ts.length xc) from (InP.keep (N' := fun _ => True) f10.size (fun j hj hl => ⟨trivial, f10.block j hl hj⟩) t _ YP.out).in))
              clear f10 bb hHeld
              go_simp
              refine hK.out _ _ n10 (fun hHeld => ?_)
              clear hK K n10
              try simp only [Act.put, List.setIfInBounds_toArray, List.set_cons_zero, List.set_cons_succ]
              refine held_take 11 6 (v := .int .i64 0) rfl rfl (by kernel_rfl) (by kernel_rfl) (by kernel_rfl) (fun _ _ _ h => h) (by rfl) ?hyp7 hHeld ?restp7
              case hyp7 => (intro W hSw; clear hSw; go_simp; try with_reducible rfl)
              try simp only [Act.put]
              refine wpAnyH_done (by kernel_rfl) ?_ _
              go_wp2_with fail
              go_meet
              case rel => exact ⟨rfl, u3.heap.size, xa, xc, rfl, hHeld, DONE.out.1, DONE.out.2⟩
            · go_simp
              have AH := Lib.hid (show w.heap.size < u2.heap.size from hHeld.1.lt)
              have nu5 := hHeld.al (.cells #[.string ⟨#[]⟩, .bool false, .slice none 0 0] 24)
              have JA := I3.new u2 (.string ⟨#[]⟩) (.bool false) (.slice none 0 0)
              obtain ⟨u5, hu5⟩ : ∃ x, x = u2.alloc (.cells #[.string ⟨#[]⟩, .bool false, .slice none 0 0] 24) := ⟨_, rfl⟩
              rw [← hu5] at nu5 JA ⊢
              have JA := Lib.hid JA
              clear hu5 hHeld
              refine hK.out _ _ nu5 (fun hHeld => ?_)
              clear hK K nu5
              try simp only [Act.put, List.setIfInBounds_toArray, List.set_cons_zero, List.set_cons_succ]
              refine wpAnyH_ready (rs := [5]) (by kernel_rfl) (by simp) ?_
              refine AllReadyH.cons rfl (fun K hK => ?_) AllReadyH.nil
              go_simp
              have jlt := JA.out.lt
              refine (G4.out _).mono ?_
              rintro e u6 ⟨vX, rfl, hin, bu6⟩
              obtain ⟨xa, xc, rfl⟩ := hin.slice
              have nu6 := hHeld.bel bu6
              have JA := Lib.hid (JA.out.bel bu6)
              have YP := Lib.hid (InP.keep (N' := fun j => j ≠ u2.heap.size) (Nat.le_refl _) (fun j hj _ => ⟨by have h1 : u5.heap.size ≤ j := hj; omega, rfl⟩) t _ hin)
              clear jlt
              clear bu6 hHeld hin
              refine hK.out _ _ nu6 (fun hHeld => ?_)
              clear hK K nu6
              try simp only [Act.put, List.setIfInBounds_toArray, List.set_cons_zero, List.set_cons_succ]
              refine held_take 6 30 (v := .tuple #[.agg #[.string t.s, .bool t.l, .slice xa t.ts.length xc], .int .i64 0]) rfl rfl (by kernel_rfl) (by kernel_rfl) (by kernel_rfl) (fun _ _ _ h => h) (by rfl) ?hyp8 hHeld ?restp8
              case hyp8 => (intro W hSw; clear hSw; go_simp; try with_reducible rfl)
              try simp only [Act.put, List.setIfInBounds_toArray, List.set_cons_zero, List.set_cons_succ]
              refine held_take 7 37 (v := .agg #[.string t.s, .bool t.l, .slice xa t.ts.length xc]) rfl rfl (by kernel_rfl) (by kernel_rfl) (by kernel_rfl) (fun _ _ _ h => h) (by rfl) ?hyp9 hHeld ?restp9
              case hyp9 => (intro W hSw; clear hSw; go_simp; try with_reducible rfl)
              try simp only [Act.put, List.setIfInBounds_toArray, List.set_cons_zero, List.set_cons_succ]
              refine held_take 8 38 (v := .int .i64 0) rfl rfl (by kernel_rfl) (by kernel_rfl) (by kernel_rfl) (fun _ _ _ h => h) (by rfl) ?hyp10 hHeld ?restp10
              case hyp10 => (intro W hSw; clear hSw; go_simp; try with_reducible rfl)
              try simp only [Act.put, List.setIfInBounds_toArray, List.set_cons_zero, List.set_cons_succ]
              refine wpAnyH_ready (rs := [10]) (by kernel_rfl) (by simp) ?_
              refine AllReadyH.cons rfl (fun K hK => ?_) AllReadyH.nil
              have q0 := JA.out.c0
              have q1 := JA.out.c1
              have q2 := JA.out.c2
              have g0 := JA.out.free 0
              have g1 := JA.out.free 1
              have g2 := JA.out.free 2
              have ql := JA.out.lt
              have f10 : Fr (fun j => j = u2.heap.size) u6 (((u6.setCell ⟨u2.heap.size, 0, none⟩ (.string t.s)).setCell ⟨u2.heap.size, 1, none⟩ (.bool t.l)).setCell ⟨u2.heap.size, 2, none⟩ (.slice xa t.ts.length xc)) := fr_put _ _ _
              have bb : Below w.heap.size w (((u6.setCell ⟨u2.heap.size, 0, none⟩ (.string t.s)).setCell ⟨u2.heap.size, 1, none⟩ (.bool t.l)).setCell ⟨u2.heap.size, 2, none⟩ (.slice xa t.ts.length xc)) := bel_put hHeld.2.2 (Nat.le_of_lt AH.out) _ _ _
              have n10 : Cr t (.slice p t.ts.length p') w.heap.size w (((u6.setCell ⟨u2.heap.size, 0, none⟩ (.string t.s)).setCell ⟨u2.heap.size, 1, none⟩ (.bool t.l)).setCell ⟨u2.heap.size, 2, none⟩ (.slice xa t.ts.length xc)) := ⟨hHeld.1.fr f10 (by have := AH.out; omega), HI0.out.bel bb, bb⟩
              have DONE := Lib.hid (And.intro (JA.out.put (.string t.s) (.bool t.l) (.slice xa t.ts.length xc)) (show In (((u6.setCell ⟨u2.heap.size, 0, none⟩ (.string t.s)).setCell ⟨u2.heap.size, 1, none⟩ (.bool t.l)).setCell ⟨u2.heap.size, 2, none⟩ (.slice xa t.ts.length xc)) t (.slice xa t.ts.length xc) from (InP.keep (N' := fun _ => True) f10.size (fun j hj hl => ⟨trivial, f10.block j hl hj⟩) t _ YP.out).in))
              clear f10 bb hHeld
              go_simp
              refine hK.out _ _ n10 (fun hHeld => ?_)
              clear hK K n10
              try simp only [Act.put, List.setIfInBounds_toArray, List.set_cons_zero, List.set_cons_succ]
              refine held_take 11 6 (v := .int .i64 0) rfl rfl (by kernel_rfl) (by kernel_rfl) (by kernel_rfl) (fun _ _ _ h => h) (by rfl) ?hyp11 hHeld ?restp11
              case hyp11 => (intro W hSw; clear hSw; go_simp; try with_reducible rfl)
              try simp only [Act.put]
              refine wpAnyH_done (by kernel_rfl) ?_ _
              go_wp2_with fail
              go_meet
              case rel => exact ⟨rfl, u2.heap.size, xa, xc, rfl, hHeld, DONE.out.1, DONE.out.2⟩
          · go_simp
            have AH := Lib.hid (show w.heap.size < u1.heap.size from hHeld.1.lt)
            have nu7 := hHeld.al (.cells #[.string ⟨#[]⟩, .bool false, .slice none 0 0] 24)
            have JA := I3.new u1 (.string ⟨#[]⟩) (.bool false) (.slice none 0 0)
            obtain ⟨u7, hu7⟩ : ∃ x, x = u1.alloc (.cells #[.string ⟨#[]⟩, .bool false, .slice none 0 0] 24) := ⟨_, rfl⟩
            rw [← hu7] at nu7 JA ⊢
            have JA := Lib.hid JA
            clear hu7 hHeld
            refine hK.out _ _ nu7 (fun hHeld => ?_)
            clear hK K nu7
            try simp only [Act.put, List.setIfInBounds_toArray, List.set_cons_zero, List.set_cons_succ]
            refine wpAnyH_ready (rs := [4]) (by kernel_rfl) (by simp) ?_
            refine AllReadyH.cons rfl (fun K hK => ?_) AllReadyH.nil
            go_simp
            refine (refCount_any t _ _ (hHeld.2.1.in) hc6).mono ?_
            rintro e u8 ⟨rfl, bu8⟩
            have nu8 := hHeld.bel bu8
            have JA := Lib.hid (JA.out.bel bu8)
            clear bu8 hHeld
            refine hK.out _ _ nu8 (fun hHeld => ?_)
            clear hK K nu8
            try simp only [Act.put, List.setIfInBounds_toArray, List.set_cons_zero, List.set_cons_succ]
            refine wpAnyH_ready (rs := [5]) (by kernel_rfl) (by simp) ?_
            refine AllReadyH.cons rfl (fun K hK => ?_) AllReadyH.nil
            go_simp
            have jlt := JA.out.lt
            refine (G4.out _).mono ?_
            rintro e u9 ⟨vX, rfl, hin, bu9⟩
            obtain ⟨xa, xc, rfl⟩ := hin.slice
            have nu9 := hHeld.bel bu9
            have JA := Lib.hid (JA.out.bel bu9)
            have YP := Lib.hid (InP.keep (N' := fun j => j ≠ u1.heap.size) (Nat.le_refl _) (fun j hj _ => ⟨by have h1 : u8.heap.size ≤ j := hj; omega, rfl⟩) t _ hin)
            clear jlt
            clear bu9 hHeld hin
            refine hK.out _ _ nu9 (fun hHeld => ?_)
            clear hK K nu9
            try simp only [Act.put, List.setIfInBounds_toArray, List.set_cons_zero, List.set_cons_succ]
            refine held_take 6 30 (v := .tuple #[.agg #[.string t.s, .bool t.l, .slice xa t.ts.length xc], .int .i64 0]) rfl rfl (by kernel_rfl) (by kernel_rfl) (by kernel_rfl) (fun _ _ _ h => h) (by rfl) ?hyp12 hHeld ?restp12
            case hyp12 => (intro W hSw; clear hSw; go_simp; try with_reducible rfl)
            try simp only [Act.put, List.setIfInBounds_toArray, List.set_cons_zero, List.set_cons_succ]
            refine held_take 7 37 (v := .agg #[.string t.s, .bool t.l, .slice xa t.ts.length xc]) rfl rfl (by kernel_rfl) (by kernel_rfl) (by kernel_rfl) (fun _ _ _ h => h) (by rfl) ?hyp13 hHeld ?restp13
            case hyp13 => (intro W hSw; clear hSw; go_simp; try with_reducible rfl)
            try simp only [Act.put, List.setIfInBounds_toArray, List.set_cons_zero, List.set_cons_succ]
            refine held_take 8 38 (v := .int .i64 0) rfl rfl (by kernel_rfl) (by kernel_rfl) (by kernel_rfl) (fun _ _ _ h => h) (by rfl) ?hyp14 hHeld ?restp14
            case hyp14 => (intro W hSw; clear hSw; go_simp; try with_reducible rfl)
            try simp only [Act.put, List.setIfInBounds_toArray, List.set_cons_zero, List.set_cons_succ]
            refine wpAnyH_ready (rs := [10]) (by kernel_rfl) (by simp) ?_
            refine AllReadyH.cons rfl (fun K hK => ?_) AllReadyH.nil
            have q0 := JA.out.c0
            have q1 := JA.out.c1
            have q2 := JA.out.c2
            have g0 := JA.out.free 0
            have g1 := JA.out.free 1
            have g2 := JA.out.free 2
            have ql := JA.out.lt
            have f10 : Fr (fun j => j = u1.heap.size) u9 (((u9.setCell ⟨u1.heap.size, 0, none⟩ (.string t.s)).setCell ⟨u1.heap.size, 1, none⟩ (.bool t.l)).setCell ⟨u1.heap.size, 2, none⟩ (.slice xa t.ts.length xc)) := fr_put _ _ _
            have bb : Below w.heap.size w (((u9.setCell ⟨u1.heap.size, 0, none⟩ (.string t.s)).setCell ⟨u1.heap.size, 1, none⟩ (.bool t.l)).setCell ⟨u1.heap.size, 2, none⟩ (.slice xa t.ts.length xc)) := bel_put hHeld.2.2 (Nat.le_of_lt AH.out) _ _ _
            have n10 : Cr t (.slice p t.ts.length p') w.heap.size w (((u9.setCell ⟨u1.heap.size, 0, none⟩ (.string t.s)).setCell ⟨u1.heap.size, 1, none⟩ (.bool t.l)).setCell ⟨u1.heap.size, 2, none⟩ (.slice xa t.ts.length xc)) := ⟨hHeld.1.fr f10 (by have := AH.out; omega), HI0.out.bel bb, bb⟩
            have DONE := Lib.hid (And.intro (JA.out.put (.string t.s) (.bool t.l) (.slice xa t.ts.length xc)) (show In (((u9.setCell ⟨u1.heap.size, 0, none⟩ (.string t.s)).setCell ⟨u1.heap.size, 1, none⟩ (.bool t.l)).setCell ⟨u1.heap.size, 2, none⟩ (.slice xa t.ts.length xc)) t (.slice xa t.ts.length xc) from (InP.keep (N' := fun _ => True) f10.size (fun j hj hl => ⟨trivial, f10.block j hl hj⟩) t _ YP.out).in))
            clear f10 bb hHeld
            go_simp
            refine hK.out _ _ n10 (fun hHeld => ?_)
            clear hK K n10
            try simp only [Act.put, List.setIfInBounds_toArray, List.set_cons_zero, List.set_cons_succ]
            refine held_take 11 6 (v := .int .i64 0) rfl rfl (by kernel_rfl) (by kernel_rfl) (by kernel_rfl) (fun _ _ _ h => h) (by rfl) ?hyp15 hHeld ?restp15
            case hyp15 => (intro W hSw; clear hSw; go_simp; try with_reducible rfl)
            try simp only [Act.put]
            refine wpAnyH_done (by kernel_rfl) ?_ _
            go_wp2_with fail
            go_meet
            case rel => exact ⟨rfl, u1.heap.size, xa, xc, rfl, hHeld, DONE.out.1, DONE.out.2⟩
        · go_simp
          have AH := Lib.hid (show w.heap.size < u0.heap.size from hHeld.1.lt)
          have nu10 := hHeld.al (.cells #[.string ⟨#[]⟩, .bool false, .slice none 0 0] 24)
          have JA := I3.new u0 (.string ⟨#[]⟩) (.bool false) (.slice none 0 0)
          obtain ⟨u10, hu10⟩ : ∃ x, x = u0.alloc (.cells #[.string ⟨#[]⟩, .bool false, .slice none 0 0] 24) := ⟨_, rfl⟩
          rw [← hu10] at nu10 JA ⊢
          have JA := Lib.hid JA
          clear hu10 hHeld
          refine hK.out _ _ nu10 (fun hHeld => ?_)
          clear hK K nu10
          try simp only [Act.put, List.setIfInBounds_toArray, List.set_cons_zero, List.set_cons_succ]
          refine wpAnyH_ready (rs := [2]) (by kernel_rfl) (by simp) ?_
          refine AllReadyH.cons rfl (fun K hK => ?_) AllReadyH.nil
          go_simp
          refine (refDeep_any t _ _ (hHeld.2.1.in) hc6).mono ?_
          rintro e u11 ⟨rfl, bu11⟩
          have nu11 := hHeld.bel bu11
          have JA := Lib.hid (JA.out.bel bu11)
          clear bu11 hHeld
          refine hK.out _ _ nu11 (fun hHeld => ?_)
          clear hK K nu11
          try simp only [Act.put, List.setIfInBounds_toArray, List.set_cons_zero, List.set_cons_succ]
          refine wpAnyH_ready (rs := [4]) (by kernel_rfl) (by simp) ?_
          refine AllReadyH.cons rfl (fun K hK => ?_) AllReadyH.nil
          go_simp
          refine (refCount_any t _ _ (hHeld.2.1.in) hc6).mono ?_
          rintro e u12 ⟨rfl, bu12⟩
          have nu12 := hHeld.bel bu12
          have JA := Lib.hid (JA.out.bel bu12)
          clear bu12 hHeld
          refine hK.out _ _ nu12 (fun hHeld => ?_)
          clear hK K nu12
          try simp only [Act.put, List.setIfInBounds_toArray, List.set_cons_zero, List.set_cons_succ]
          refine wpAnyH_ready (rs := [5]) (by kernel_rfl) (by simp) ?_
          refine AllReadyH.cons rfl (fun K hK => ?_) AllReadyH.nil
          go_simp
          have jlt := JA.out.lt
          refine (G4.out _).mono ?_
          rintro e u13 ⟨vX, rfl, hin, bu13⟩
          obtain ⟨xa, xc, rfl⟩ := hin.slice
          have nu13 := hHeld.bel bu13
          have JA := Lib.hid (JA.out.bel bu13)
          have YP := Lib.hid (InP.keep (N' := fun j => j ≠ u0.heap.size) (Nat.le_refl _) (fun j hj _ => ⟨by have h1 : u12.heap.size ≤ j := hj; omega, rfl⟩) t _ hin)
          clear jlt
          clear bu13 hHeld hin
          refine hK.out _ _ nu13 (fun hHeld => ?_)
          clear hK K nu13
          try simp only [Act.put, List.setIfInBounds_toArray, List.set_cons_zero, List.set_cons_succ]
          refine held_take 6 30 (v := .tuple #[.agg #[.string t.s, .bool t.l, .slice xa t.ts.length xc], .int .i64 0]) rfl rfl (by kernel_rfl) (by kernel_rfl) (by kernel_rfl) (fun _ _ _ h => h) (by rfl) ?hyp16 hHeld ?restp16
          case hyp16 => (intro W hSw; clear hSw; go_simp; try with_reducible rfl)
          try simp only [Act.put, List.setIfInBounds_toArray, List.set_cons_zero, List.set_cons_succ]
          refine held_take 7 37 (v := .agg #[.string t.s, .bool t.l, .slice xa t.ts.length xc]) rfl rfl (by kernel_rfl) (by kernel_rfl) (by kernel_rfl) (fun _ _ _ h => h) (by rfl) ?hyp17 hHeld ?restp17
          case hyp17 => (intro W hSw; clear hSw; go_simp; try with_reducible rfl)
          try simp only [Act.put, List.setIfInBounds_toArray, List.set_cons_zero, List.set_cons_succ]
          refine held_take 8 38 (v := .int .i64 0) rfl rfl (by kernel_rfl) (by kernel_rfl) (by kernel_rfl) (fun _ _ _ h => h) (by rfl) ?hyp18 hHeld ?restp18
          case hyp18 => (intro W hSw; clear hSw; go_simp; try with_reducible rfl)
          try simp only [Act.put, List.setIfInBounds_toArray, List.set_cons_zero, List.set_cons_succ]
          refine wpAnyH_ready (rs := [10]) (by kernel_rfl) (by simp) ?_
          refine AllReadyH.cons rfl (fun K hK => ?_) AllReadyH.nil
          have q0 := JA.out.c0
          have q1 := JA.out.c1
          have q2 := JA.out.c2
          have g0 := JA.out.free 0
          have g1 := JA.out.free 1
          have g2 := JA.out.free 2
          have ql := JA.out.lt
          have f10 : Fr (fun j => j = u0.heap.size) u13 (((u13.setCell ⟨u0.heap.size, 0, none⟩ (.string t.s)).setCell ⟨u0.heap.size, 1, none⟩ (.bool t.l)).setCell ⟨u0.heap.size, 2, none⟩ (.slice xa t.ts.length xc)) := fr_put _ _ _
          have bb : Below w.heap.size w (((u13.setCell ⟨u0.heap.size, 0, none⟩ (.string t.s)).setCell ⟨u0.heap.size, 1, none⟩ (.bool t.l)).setCell ⟨u0.heap.size, 2, none⟩ (.slice xa t.ts.length xc)) := bel_put hHeld.2.2 (Nat.le_of_lt AH.out) _ _ _
          have n10 : Cr t (.slice p t.ts.length p') w.heap.size w (((u13.setCell ⟨u0.heap.size, 0, none⟩ (.string t.s)).setCell ⟨u0.heap.size, 1, none⟩ (.bool t.l)).setCell ⟨u0.heap.size, 2, none⟩ (.slice xa t.ts.length xc)) := ⟨hHeld.1.fr f10 (by have := AH.out; omega), HI0.out.bel bb, bb⟩
          have DONE := Lib.hid (And.intro (JA.out.put (.string t.s) (.bool t.l) (.slice xa t.ts.length xc)) (show In (((u13.setCell ⟨u0.heap.size, 0, none⟩ (.string t.s)).setCell ⟨u0.heap.size, 1, none⟩ (.bool t.l)).setCell ⟨u0.heap.size, 2, none⟩ (.slice xa t.ts.length xc)) t (.slice xa t.ts.length xc) from (InP.keep (N' := fun _ => True) f10.size (fun j hj hl => ⟨trivial, f10.block j hl hj⟩) t _ YP.out).in))
          clear f10 bb hHeld
          go_simp
          refine hK.out _ _ n10 (fun hHeld => ?_)
          clear hK K n10
          try simp only [Act.put, List.setIfInBounds_toArray, List.set_cons_zero, List.set_cons_succ]
          refine held_take 11 6 (v := .int .i64 0) rfl rfl (by kernel_rfl) (by kernel_rfl) (by kernel_rfl) (fun _ _ _ h => h) (by rfl) ?hyp19 hHeld ?restp19
          case hyp19 => (intro W hSw; clear hSw; go_simp; try with_reducible rfl)
          try simp only [Act.put]
          refine wpAnyH_done (by kernel_rfl) ?_ _
          go_wp2_with fail
          go_meet
          case rel => exact ⟨rfl, u0.heap.size, xa, xc, rfl, hHeld, DONE.out.1, DONE.out.2⟩
      case rest =>
        obtain ⟨rfl, g, xa, xc, rfl, hC, hJ, hY⟩ := hcut
        have x0 := hC.1.c0
        have x1 := hC.1.c1
        have x2 := hC.1.c2
        have xl := hC.1.lt
        have CC := Lib.hid hC
        have JJ := Lib.hid hJ
        have YY := Lib.hid hY
        have hzz := bs_size (T.put t)
        clear hC hJ hY G4
        go_wp2_with fail
        refine (refPut_any t _ _ (CC.out.2.1.in) (by omega)).mono ?_
        rintro e w5 ⟨rfl, b5⟩
        have c5 := CC.out.bel b5
        have x0 := c5.1.c0
        have x1 := c5.1.c1
        have x2 := c5.1.c2
        have xl := c5.1.lt
        have C5 := Lib.hid c5
        have J5 := Lib.hid (JJ.out.bel b5)
        have Y5 := Lib.hid (YY.out.bel b5)
        clear b5 c5
        go_wp2_with fail
        refine (sizeOf_any t _ _ (C5.out.2.1) hz (by omega)).mono ?_
        rw [HSZ.out]
        rintro e w6 ⟨rfl, b6⟩
        have c6 := C5.out.bel b6
        have x0 := c6.1.c0
        have x1 := c6.1.c1
        have x2 := c6.1.c2
        have xl := c6.1.lt
        have j6 := J5.out.bel b6
        have j0 := j6.c0
        have j1 := j6.c1
        have j2 := j6.c2
        have jl := j6.lt
        have SM := Lib.hid (refSame_any t (.slice p t.ts.length p') t (.slice xa t.ts.length xc) w6 (c6.2.1.in) (Y5.out.bel b6))
        rw [same_self] at SM
        have C6 := Lib.hid c6
        clear b6 c6 j6
        go_wp2_with fail
        refine SM.out.mono ?_
        rintro e w7 ⟨rfl, b7⟩
        have F7 := Lib.hid (C6.out.bel b7).2.2
        clear b7 x0 x1 x2 xl j0 j1 j2 jl
        go_wp2
        go_ret
        exact ⟨rfl, F7.out⟩
  · clear hg
    go_wp2
    go_ret
    exact ⟨rfl, C2.out.2.2⟩
end Go.Proofs.Ytaddlobmmmafaaa
