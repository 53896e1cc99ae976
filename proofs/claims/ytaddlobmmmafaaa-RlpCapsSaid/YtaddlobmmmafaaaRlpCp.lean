/-
  For every item and number RlpCaps answers true over this seat's translation. Conditions: an item as it lies in memory, whose slices have room.
-/
import Derived.Test.YtaddlobmmmafaaaRlpX
import Derived.Deep.Cut
namespace Go.Proofs.Ytaddlobmmmafaaa
open Go.RowKit

set_option maxRecDepth 20000 in
set_option maxHeartbeats 2000000 in
theorem rlpCaps_any (t : T) (v : Value) (k : Nat) (hk : k ≤ 255) (w : World) (hI : InC w t v) :
    Calls Try.prog 4 #[.agg #[.string t.s, .bool t.l, v], .int .u8 k] w fun e w' => e = .returned (.bool true) ∧ Below w.heap.size w w' := by
  obtain ⟨p, p', rfl, _⟩ := hI.slice
  have C0 := Lib.hid (Cr.new hI)
  clear hI
  go_enter Try.func4, Try.ntmps4
  go_wp2_with fail
  refine (alive_any _).mono ?_
  rintro e w1 ⟨rfl, b1⟩
  have c1 := C0.out.bel b1
  have x0 := c1.1.c0
  have x1 := c1.1.c1
  have x2 := c1.1.c2
  have xl := c1.1.lt
  have C1 := Lib.hid c1
  clear b1 c1
  go_wp2_with fail
  refine (great_any t _ _ (C1.out.2.1.in)).mono ?_
  rintro e w2 ⟨rfl, b2⟩
  have c2 := C1.out.bel b2
  have x0 := c2.1.c0
  have x1 := c2.1.c1
  have x2 := c2.1.c2
  have xl := c2.1.lt
  have C2 := Lib.hid c2
  clear b2 c2
  cases hg : great t
  · obtain ⟨hc, hz⟩ := not_greatR hg
    clear hg
    go_wp2_with fail
    refine (refMay_any t _ _ (C2.out.2.1.in) (by omega)).mono ?_
    rintro e w3 ⟨rfl, b3⟩
    have c3 := C2.out.bel b3
    have x0 := c3.1.c0
    have x1 := c3.1.c1
    have x2 := c3.1.c2
    have xl := c3.1.lt
    have C3 := Lib.hid c3
    clear b3 c3
    cases hm : T.may t
    · clear hm
      go_wp2
      go_ret
      exact ⟨rfl, C3.out.2.2⟩
    · obtain ⟨hr, hd, hcm⟩ := mayR hm
      have hpl := T.put_le t (by omega)
      have hdp := T.dep_pos t
      have hcp := T.cnt_pos t
      have hc6 : T.cnt t ≤ 1000000 := by omega
      clear hm
      go_wp2_with fail
      refine (refPut_any t _ _ (C3.out.2.1.in) (by omega)).mono ?_
      rintro e w4 ⟨rfl, b4⟩
      have C4 := Lib.hid (C3.out.bel b4)
      clear b4 x0 x1 x2 xl
      go_upto_region 6 with fail
      go_cut [6, 7] from 8 (fun v6 v7 wc => v6 = .int .i64 (T.dep t : Nat) ∧ v7 = .int .i64 (T.cnt t : Nat) ∧ Cr t (.slice p t.ts.length p') w.heap.size w wc)
      case first =>
        refine wp_region_held_drew (S := fun W => Cr t (.slice p t.ts.length p') w.heap.size w W) (by kernel_rfl) C4.out.drew (fun hHeld => ?_)
        refine held_take 0 25 (v := .agg #[.string t.s, .bool t.l, .slice p t.ts.length p']) rfl rfl (by kernel_rfl) (by kernel_rfl) (by kernel_rfl) (fun _ _ _ h => h) (by rfl) ?hyp1 hHeld ?restp1
        case hyp1 => (intro W hSw; have hS0 := hSw.1.c0; have hS1 := hSw.1.c1; have hS2 := hSw.1.c2; have hSl := hSw.1.lt; clear hSw; go_simp; try with_reducible rfl)
        try simp only [Act.put, List.setIfInBounds_toArray, List.set_cons_zero, List.set_cons_succ]
        refine held_take 2 27 (v := .agg #[.string t.s, .bool t.l, .slice p t.ts.length p']) rfl rfl (by kernel_rfl) (by kernel_rfl) (by kernel_rfl) (fun _ _ _ h => h) (by rfl) ?hyp2 hHeld ?restp2
        case hyp2 => (intro W hSw; have hS0 := hSw.1.c0; have hS1 := hSw.1.c1; have hS2 := hSw.1.c2; have hSl := hSw.1.lt; clear hSw; go_simp; try with_reducible rfl)
        try simp only [Act.put, List.setIfInBounds_toArray, List.set_cons_zero, List.set_cons_succ]
        refine wpAnyH_ready (rs := [1]) (by kernel_rfl) (by simp) ?_
        refine AllReadyH.cons rfl (fun K hK => ?_) AllReadyH.nil
        go_simp
        refine (refDeep_any t _ _ (hHeld.2.1.in) hc6).mono ?_
        rintro e u1 ⟨rfl, b1⟩
        have n1 := hHeld.bel b1
        clear b1 hHeld
        refine hK.out _ _ n1 (fun hHeld => ?_)
        clear hK K n1
        try simp only [Act.put, List.setIfInBounds_toArray, List.set_cons_zero, List.set_cons_succ]
        refine wpAnyH_ready (rs := [3]) (by kernel_rfl) (by simp) ?_
        refine AllReadyH.cons rfl (fun K hK => ?_) AllReadyH.nil
        go_simp
        refine (refCount_any t _ _ (hHeld.2.1.in) hc6).mono ?_
        rintro e u2 ⟨rfl, b2⟩
        have n2 := hHeld.bel b2
        clear b2 hHeld
        refine hK.out _ _ n2 (fun hHeld => ?_)
        clear hK K n2
        try simp only [Act.put, List.setIfInBounds_toArray, List.set_cons_zero, List.set_cons_succ]
        refine held_take 4 6 (v := .int .i64 (T.dep t : Nat)) rfl rfl (by kernel_rfl) (by kernel_rfl) (by kernel_rfl) (fun _ _ _ h => h) (by rfl) ?hyp3 hHeld ?restp3
        case hyp3 => (intro W hSw; clear hSw; go_simp; try with_reducible rfl)
        try simp only [Act.put, List.setIfInBounds_toArray, List.set_cons_zero, List.set_cons_succ]
        refine held_take 5 7 (v := .int .i64 (T.cnt t : Nat)) rfl rfl (by kernel_rfl) (by kernel_rfl) (by kernel_rfl) (fun _ _ _ h => h) (by rfl) ?hyp4 hHeld ?restp4
        case hyp4 => (intro W hSw; clear hSw; go_simp; try with_reducible rfl)
        try simp only [Act.put, List.setIfInBounds_toArray, List.set_cons_zero, List.set_cons_succ]
        refine wpAnyH_done (by kernel_rfl) ?_ _
        go_wp2_with fail
        go_meet
        case rel => exact ⟨rfl, rfl, hHeld⟩
      case rest =>
        obtain ⟨rfl, rfl, hC⟩ := hcut
        obtain ⟨D, hD⟩ : ∃ D, D = T.dep t := ⟨_, rfl⟩
        obtain ⟨N, hN⟩ : ∃ N, N = T.cnt t := ⟨_, rfl⟩
        obtain ⟨D1, hD1⟩ : ∃ D1, D1 = D - 1 - k % D := ⟨_, rfl⟩
        obtain ⟨N1, hN1⟩ : ∃ N1, N1 = N - 1 - k % N := ⟨_, rfl⟩
        have m1 : k % D < D := Nat.mod_lt _ (by omega)
        have m2 : k % N < N := Nat.mod_lt _ (by omega)
        obtain ⟨r1, hr1⟩ : ∃ r1, r1 = k % D := ⟨_, rfl⟩
        obtain ⟨r2, hr2⟩ : ∃ r2, r2 = k % N := ⟨_, rfl⟩
        have e1 : (k : Int) % (D : Int) = (r1 : Int) := by omega
        have e2 : (k : Int) % (N : Int) = (r2 : Int) := by omega
        rw [← hr1] at hD1 m1
        rw [← hr2] at hN1 m2
        have e3 : (D : Int) - 1 - r1 = (D1 : Int) := by omega
        have e4 : (N : Int) - 1 - r2 = (N1 : Int) := by omega
        have hDb : 0 < D ∧ D ≤ 16 := by omega
        have hNb : 0 < N ∧ N ≤ 1024 := by omega
        have hput : bs (T.put t ++ []) = bs (T.put t) := by rw [List.append_nil]
        have g1 := fun W => getErr_any (bs (T.put t ++ [])) (D1 : Int) 1024 6 (by decide) W (fun W' => next_err_of (x := t) (more := []) (depth := (D1 : Int)) (items := 1024) 6 (T.rd_deep _ _ _ _ (by omega) (by omega)) hr hz (by omega) (by decide) (by omega) (by decide) W')
        have g2 := fun W => getErr_any (bs (T.put t ++ [])) 16 (N1 : Int) 4 (by decide) W (fun W' => next_err_of (x := t) (more := []) (depth := 16) (items := (N1 : Int)) 4 (T.rd_many _ _ _ _ (by omega) (by omega)) hr hz (by omega) (by decide) (by decide) (by omega) W')
        have g3 := fun W => getOk_any t (bs (T.put t ++ [])) (D : Int) (N : Int) W (by rw [bs_size, List.append_nil]) (fun W' => next_ok_of (x := t) (more := []) (depth := (D : Int)) (items := (N : Int)) hr (by omega) (by omega) hz (by omega) (by decide) (by omega) (by omega) W')
        rw [hput] at g1 g2 g3
        rw [← hD, ← hN]
        have G1 := Lib.hid g1
        have G2 := Lib.hid g2
        have G3 := Lib.hid g3
        have BC := Lib.hid hC.2.2
        clear g1 g2 g3 hput hD hN hD1 hN1 hr1 hr2 hC
        go_wp2_with fail
        refine (G1.out _).mono ?_
        rintro e w5 ⟨rfl, b5⟩
        have B5 := Lib.hid ((below_then BC.out b5).alloc (by have h1 := BC.out.size; have h2 := b5.size; omega) (.cells #[.string ⟨#[]⟩, .bool false, .slice none 0 0] 24))
        unfold ZV
        clear b5
        go_wp2_with fail
        refine (G2.out _).mono ?_
        rintro e w6 ⟨rfl, b6⟩
        have B6 := Lib.hid ((below_then B5.out b6).alloc (by have h1 := B5.out.size; have h2 := b6.size; omega) (.cells #[.string ⟨#[]⟩, .bool false, .slice none 0 0] 24))
        unfold ZV
        clear b6
        go_wp2_with fail
        refine (G3.out _).mono ?_
        rintro e w7 ⟨vX, rfl, hin, b7⟩
        obtain ⟨xa, xc, rfl⟩ := hin.slice
        have B7 := Lib.hid ((below_then B6.out b7).alloc (by have h1 := B6.out.size; have h2 := b7.size; omega) (.cells #[.string t.s, .bool t.l, .slice xa t.ts.length xc] 24))
        clear b7 hin
        go_wp2
        go_ret
        exact ⟨rfl, B7.out⟩
  · clear hg
    go_wp2
    go_ret
    exact ⟨rfl, C2.out.2.2⟩
end Go.Proofs.Ytaddlobmmmafaaa
