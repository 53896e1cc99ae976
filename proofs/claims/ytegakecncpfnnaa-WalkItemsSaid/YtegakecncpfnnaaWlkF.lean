/-
  The contracts of the laws' own Plain and Of (a row of tokens, copied; layer 10) over this seat's translation. Conditions: a row of at most 10,000 tokens.
-/
import Derived.Test.YtegakecncpfnnaaWlkB
import Derived.Deep.RegionHeldLaw
namespace Go.Proofs.Ytegakecncpfnnaa
open Go.RowKit

set_option maxRecDepth 100000 in
theorem plain_info : (Try.prog.info? 77).map (fun i => (i.zero, i.size, i.bytes)) = some (some (.agg #[.int .i64 0, .string ⟨#[]⟩]), 2, 24) := by kernel_rfl

set_option maxRecDepth 100000 in
set_option maxHeartbeats 1000000 in
theorem plain_any (l : List Tok) (v : Value) (w : World) (hl : TSl w v l) (hn : l.length ≤ 10000) :
    Calls Try.prog 13 #[v] w fun e w' => ∃ u, e = .returned u ∧ TSl w' u l ∧ Below w.heap.size w w' := by
  obtain ⟨a, c, rfl, hc, hr⟩ := hl
  have HR := Lib.hid hr
  obtain ⟨n, hnn⟩ : ∃ n, n = l.length := ⟨_, rfl⟩
  have HN := Lib.hid hnn
  rw [← hnn] at hn hc ⊢
  clear hr hnn
  go_enter Try.func13, Try.ntmps13
  go_wp2
  go_loopw [4, 3] (fun v x wr => ∃ i : Nat, v = .int .i64 i ∧ i ≤ n ∧ Tw wr w.heap.size 77 x (l.take i) ∧ Below w.heap.size w wr) (fun i _ _ => n - (intOf i).toNat)
  case atStart => exact ⟨0, rfl, Nat.zero_le _, Tw.nil _ _ _, Below.refl _ _⟩
  case round =>
    obtain ⟨i, rfl, hi, htw, hb⟩ := hrel
    by_cases hlt : i < n
    · have hiL : i < l.length := by have := HN.out; omega
      obtain ⟨b', o', rfl, d0, d1⟩ := (HR.out.bel hb) i hiL
      have lb' := lt_of_cell d0
      have bb := lt_of_cell ((HR.out i hiL).choose_spec.choose_spec.2.1)
      have hbw : b' < w.heap.size := by
        obtain ⟨b2, o2, e2, d2, _⟩ := HR.out i hiL
        injection e2 with e2
        injection e2 with e2
        rw [e2]
        exact lt_of_cell d2
      have hlen : (l.take i).length = i := by rw [List.length_take]; omega
      obtain ⟨ba, bc, hlv⟩ := htw.slice
      rw [hlen] at hlv
      subst hlv
      have NB0 : ∀ j, (Value.slice ba i bc).ownBlock = some j → w.heap.size ≤ j := fun j e => (htw.block j e).1
      obtain ⟨tk, htk⟩ : ∃ tk, tk = l[i] := ⟨_, rfl⟩
      rw [← htk] at d0 d1
      have hsz := hb.size
      have fwd : Fr (fun _ => False) wr ((wr.alloc (.cells #[.int .i64 tk.k, .string tk.t] 77)).drew) := ((Fr.refl _ wr).alloc _).drew
      obtain ⟨wd, hwd⟩ : ∃ wd, wd = (wr.alloc (.cells #[.int .i64 tk.k, .string tk.t] 77)).drew := ⟨_, rfl⟩
      have zwd : wd.heap.size = wr.heap.size + 1 := by rw [hwd]; simp [World.drew]
      have nb : B2 wd wr.heap.size 77 (.int .i64 tk.k) (.string tk.t) := by rw [hwd]; exact B2.new wr _ _ _
      rw [← hwd] at fwd
      have htd : Tw wd w.heap.size 77 (.slice ba i bc) (l.take i) := htw.fr fwd (fun _ _ e => e)
      have hbd : Below w.heap.size w wd := hb.trans (fwd.below hb.size (fun _ e => e.elim))
      have hzd : w.heap.size ≤ wd.heap.size := hbd.size
      obtain ⟨v', wA, hap, ownA, grA, obA⟩ := append_tok wd w.heap.size 38 38 77 _ Try.underlying38 plain_info rfl _ _ htd wr.heap.size 1 tk nb.c0 nb.c1 (by omega) hzd
      obtain ⟨sa, sn, sc, rfl⟩ : ∃ a n c, v' = .slice a n c := by
        obtain ⟨a, c, h⟩ := ownA.slice
        exact ⟨_, _, _, h⟩
      have FA := Lib.hid (fr_grown grA)
      have NB := Lib.hid (show ¬ (Value.slice ba i bc).ownBlock = some b' from fun e => by have := NB0 b' e; omega)
      have R := Lib.hid (show Tw wA w.heap.size 77 (.slice sa sn sc) (l.take (i + 1)) ∧ Below w.heap.size w wA from by
        refine ⟨?_, hbd.trans (FA.out.below hzd fun j e => NB0 j e)⟩
        rw [List.take_add_one, List.getElem?_eq_getElem hiL, ← htk]
        exact ownA)
      have HAP := Lib.hid hap
      have ci : (i : Int) < (n : Int) := by omega
      rw [hwd] at HAP FA
      clear hap ownA grA obA nb htd hbd hzd NB0 htw hb htk bb hbw hsz hwd hlen fwd zwd
      go_upto_region 5 with fail
      refine wp_region_held_drew (S := fun W => W.cell? ⟨b', o' + i * 2, none⟩ = some (.int .i64 tk.k) ∧ W.cell? ⟨b', o' + i * 2 + 1, none⟩ = some (.string tk.t) ∧ b' < W.heap.size) (by kernel_rfl) ⟨d0, d1, lb'⟩ (fun hHeld => ?_)
      refine held_take 0 11 (v := .slice ba i bc) rfl rfl (by kernel_rfl) (by kernel_rfl) (by kernel_rfl) (fun _ _ _ h => h) (by rfl) ?hfc1 hHeld ?refc1
      case hfc1 => (intro W hSw; clear hSw; go_simp; try with_reducible rfl)
      try simp only [Act.put, List.setIfInBounds_toArray, List.set_cons_zero, List.set_cons_succ]
      refine held_take 1 12 (v := .slice (some ⟨b', o', none⟩) n c) rfl rfl (by kernel_rfl) (by kernel_rfl) (by kernel_rfl) (fun _ _ _ h => h) (by rfl) ?hfc2 hHeld ?refc2
      case hfc2 => (intro W hSw; clear hSw; go_simp; try with_reducible rfl)
      try simp only [Act.put, List.setIfInBounds_toArray, List.set_cons_zero, List.set_cons_succ]
      refine held_take 2 13 (v := .int .i64 i) rfl rfl (by kernel_rfl) (by kernel_rfl) (by kernel_rfl) (fun _ _ _ h => h) (by rfl) ?hfc3 hHeld ?refc3
      case hfc3 => (intro W hSw; clear hSw; go_simp; try with_reducible rfl)
      try simp only [Act.put, List.setIfInBounds_toArray, List.set_cons_zero, List.set_cons_succ]
      refine held_take 3 14 (v := .pointer (some ⟨b', o' + i * 2, none⟩)) rfl rfl (by kernel_rfl) (by kernel_rfl) (by kernel_rfl) (fun _ _ _ h => h) (by rfl) ?hfc4 hHeld ?refc4
      case hfc4 => (intro W hSw; clear hSw; go_simp; try with_reducible rfl)
      try simp only [Act.put, List.setIfInBounds_toArray, List.set_cons_zero, List.set_cons_succ]
      refine held_take 4 15 (v := .pointer (some ⟨b', o' + i * 2, none⟩)) rfl rfl (by kernel_rfl) (by kernel_rfl) (by kernel_rfl) (fun _ _ _ h => h) (by rfl) ?hfc5 hHeld ?refc5
      case hfc5 => (intro W hSw; clear hSw; go_simp; try with_reducible rfl)
      try simp only [Act.put, List.setIfInBounds_toArray, List.set_cons_zero, List.set_cons_succ]
      refine held_take 5 16 (v := .int .i64 tk.k) rfl rfl (by kernel_rfl) (by kernel_rfl) (by kernel_rfl) (fun _ _ _ h => h) (by rfl) ?hfc6 hHeld ?refc6
      case hfc6 => (intro W hSw; have hS0 := hSw.1; have hS1 := hSw.2.1; have hSl := hSw.2.2; clear hSw; go_simp; try with_reducible rfl)
      try simp only [Act.put, List.setIfInBounds_toArray, List.set_cons_zero, List.set_cons_succ]
      refine held_take 6 17 (v := .slice (some ⟨b', o', none⟩) n c) rfl rfl (by kernel_rfl) (by kernel_rfl) (by kernel_rfl) (fun _ _ _ h => h) (by rfl) ?hfc7 hHeld ?refc7
      case hfc7 => (intro W hSw; clear hSw; go_simp; try with_reducible rfl)
      try simp only [Act.put, List.setIfInBounds_toArray, List.set_cons_zero, List.set_cons_succ]
      refine held_take 7 18 (v := .int .i64 i) rfl rfl (by kernel_rfl) (by kernel_rfl) (by kernel_rfl) (fun _ _ _ h => h) (by rfl) ?hfc8 hHeld ?refc8
      case hfc8 => (intro W hSw; clear hSw; go_simp; try with_reducible rfl)
      try simp only [Act.put, List.setIfInBounds_toArray, List.set_cons_zero, List.set_cons_succ]
      refine held_take 8 19 (v := .pointer (some ⟨b', o' + i * 2, none⟩)) rfl rfl (by kernel_rfl) (by kernel_rfl) (by kernel_rfl) (fun _ _ _ h => h) (by rfl) ?hfc9 hHeld ?refc9
      case hfc9 => (intro W hSw; clear hSw; go_simp; try with_reducible rfl)
      try simp only [Act.put, List.setIfInBounds_toArray, List.set_cons_zero, List.set_cons_succ]
      refine held_take 9 20 (v := .pointer (some ⟨b', o' + i * 2 + 1, none⟩)) rfl rfl (by kernel_rfl) (by kernel_rfl) (by kernel_rfl) (fun _ _ _ h => h) (by rfl) ?hfc10 hHeld ?refc10
      case hfc10 => (intro W hSw; clear hSw; go_simp; try with_reducible rfl)
      try simp only [Act.put, List.setIfInBounds_toArray, List.set_cons_zero, List.set_cons_succ]
      refine held_take 10 21 (v := .string tk.t) rfl rfl (by kernel_rfl) (by kernel_rfl) (by kernel_rfl) (fun _ _ _ h => h) (by rfl) ?hfc11 hHeld ?refc11
      case hfc11 => (intro W hSw; have hS0 := hSw.1; have hS1 := hSw.2.1; have hSl := hSw.2.2; clear hSw; go_simp; try with_reducible rfl)
      try simp only [Act.put, List.setIfInBounds_toArray, List.set_cons_zero, List.set_cons_succ]
      refine held_take 11 22 (v := .agg #[.int .i64 tk.k, .string tk.t]) rfl rfl (by kernel_rfl) (by kernel_rfl) (by kernel_rfl) (fun _ _ _ h => h) (by rfl) ?hfc12 hHeld ?refc12
      case hfc12 => (intro W hSw; clear hSw; go_simp; try with_reducible rfl)
      try simp only [Act.put, List.setIfInBounds_toArray, List.set_cons_zero, List.set_cons_succ]
      refine wpAnyH_ready (rs := [12]) (by kernel_rfl) (by simp) ?_
      refine AllReadyH.cons rfl (fun K hK => ?_) AllReadyH.nil
      go_simp
      refine hK.out _ _ ⟨cells_below (bel1 wr (.cells #[.int .i64 tk.k, .string tk.t] 77)) _ _ _ hHeld.1, cells_below (bel1 wr (.cells #[.int .i64 tk.k, .string tk.t] 77)) _ _ _ hHeld.2.1, Nat.lt_of_lt_of_le hHeld.2.2 (bel1 wr (.cells #[.int .i64 tk.k, .string tk.t] 77)).size⟩ (fun hHeld => ?_)
      clear hK K
      try simp only [Act.put, List.setIfInBounds_toArray, List.set_cons_zero, List.set_cons_succ]
      refine wpAnyH_ready (rs := [13]) (by kernel_rfl) (by simp) ?_
      refine AllReadyH.cons rfl (fun K hK => ?_) AllReadyH.nil
      refine ready_append rfl _ _ 38 rfl _ _ rfl rfl _ wA HAP.out ?_
      refine hK.out _ _ ⟨cells_fr FA.out hHeld.1 (fun e => NB.out e), cells_fr FA.out hHeld.2.1 (fun e => NB.out e), Nat.lt_of_lt_of_le hHeld.2.2 FA.out.size⟩ (fun hHeld => ?_)
      clear hK K
      try simp only [Act.put, List.setIfInBounds_toArray]
      refine held_take 14 3 (v := .slice sa sn sc) rfl rfl (by kernel_rfl) (by kernel_rfl) (by kernel_rfl) (fun _ _ _ h => h) (by rfl) ?hlast12 hHeld ?rlast12
      case hlast12 => (intro W hSw; clear hSw; go_simp; try with_reducible rfl)
      try simp only [Act.put]
      refine wpAnyH_done (by kernel_rfl) ?_ _
      clear hHeld
      go_wp2
      go_roundw
      case rel => exact ⟨i + 1, by go_num, by omega, R.out.1, R.out.2⟩
      case measure => (simp [intOf]) <;> omega
    · obtain rfl : i = n := by omega
      have htd := htw.tsl
      rw [HN.out, List.take_length] at htd
      have R := Lib.hid (And.intro htd hb)
      clear htw hb htd
      go_wp2
      go_ret
      exact ⟨_, rfl, R.out.1, R.out.2⟩

set_option maxRecDepth 100000 in
theorem lawOf_info : (Try.prog.info? 48).map (fun i => (i.zero, i.size, i.bytes)) = some (some (.agg #[.int .i64 0, .string ⟨#[]⟩]), 2, 24) := by kernel_rfl

set_option maxRecDepth 100000 in
set_option maxHeartbeats 1000000 in
theorem lawOf_any (l : List Tok) (v : Value) (w : World) (hl : TSl w v l) (hn : l.length ≤ 10000) :
    Calls Try.prog 18 #[v] w fun e w' => ∃ u, e = .returned u ∧ TSl w' u l ∧ Below w.heap.size w w' := by
  obtain ⟨a, c, rfl, hc, hr⟩ := hl
  have HR := Lib.hid hr
  obtain ⟨n, hnn⟩ : ∃ n, n = l.length := ⟨_, rfl⟩
  have HN := Lib.hid hnn
  rw [← hnn] at hn hc ⊢
  clear hr hnn
  go_enter Try.func18, Try.ntmps18
  go_wp2
  go_loopw [4, 3] (fun v x wr => ∃ i : Nat, v = .int .i64 i ∧ i ≤ n ∧ Tw wr w.heap.size 48 x (l.take i) ∧ Below w.heap.size w wr) (fun i _ _ => n - (intOf i).toNat)
  case atStart => exact ⟨0, rfl, Nat.zero_le _, Tw.nil _ _ _, Below.refl _ _⟩
  case round =>
    obtain ⟨i, rfl, hi, htw, hb⟩ := hrel
    by_cases hlt : i < n
    · have hiL : i < l.length := by have := HN.out; omega
      obtain ⟨b', o', rfl, d0, d1⟩ := (HR.out.bel hb) i hiL
      have lb' := lt_of_cell d0
      have bb := lt_of_cell ((HR.out i hiL).choose_spec.choose_spec.2.1)
      have hbw : b' < w.heap.size := by
        obtain ⟨b2, o2, e2, d2, _⟩ := HR.out i hiL
        injection e2 with e2
        injection e2 with e2
        rw [e2]
        exact lt_of_cell d2
      have hlen : (l.take i).length = i := by rw [List.length_take]; omega
      obtain ⟨ba, bc, hlv⟩ := htw.slice
      rw [hlen] at hlv
      subst hlv
      have NB0 : ∀ j, (Value.slice ba i bc).ownBlock = some j → w.heap.size ≤ j := fun j e => (htw.block j e).1
      obtain ⟨tk, htk⟩ : ∃ tk, tk = l[i] := ⟨_, rfl⟩
      rw [← htk] at d0 d1
      have hsz := hb.size
      have fwd : Fr (fun _ => False) wr ((wr.alloc (.cells #[.int .i64 tk.k, .string tk.t] 48)).drew) := ((Fr.refl _ wr).alloc _).drew
      obtain ⟨wd, hwd⟩ : ∃ wd, wd = (wr.alloc (.cells #[.int .i64 tk.k, .string tk.t] 48)).drew := ⟨_, rfl⟩
      have zwd : wd.heap.size = wr.heap.size + 1 := by rw [hwd]; simp [World.drew]
      have nb : B2 wd wr.heap.size 48 (.int .i64 tk.k) (.string tk.t) := by rw [hwd]; exact B2.new wr _ _ _
      rw [← hwd] at fwd
      have htd : Tw wd w.heap.size 48 (.slice ba i bc) (l.take i) := htw.fr fwd (fun _ _ e => e)
      have hbd : Below w.heap.size w wd := hb.trans (fwd.below hb.size (fun _ e => e.elim))
      have hzd : w.heap.size ≤ wd.heap.size := hbd.size
      obtain ⟨v', wA, hap, ownA, grA, obA⟩ := append_tok wd w.heap.size 27 27 48 _ Try.underlying27 lawOf_info rfl _ _ htd wr.heap.size 1 tk nb.c0 nb.c1 (by omega) hzd
      obtain ⟨sa, sn, sc, rfl⟩ : ∃ a n c, v' = .slice a n c := by
        obtain ⟨a, c, h⟩ := ownA.slice
        exact ⟨_, _, _, h⟩
      have FA := Lib.hid (fr_grown grA)
      have NB := Lib.hid (show ¬ (Value.slice ba i bc).ownBlock = some b' from fun e => by have := NB0 b' e; omega)
      have R := Lib.hid (show Tw wA w.heap.size 48 (.slice sa sn sc) (l.take (i + 1)) ∧ Below w.heap.size w wA from by
        refine ⟨?_, hbd.trans (FA.out.below hzd fun j e => NB0 j e)⟩
        rw [List.take_add_one, List.getElem?_eq_getElem hiL, ← htk]
        exact ownA)
      have HAP := Lib.hid hap
      have ci : (i : Int) < (n : Int) := by omega
      rw [hwd] at HAP FA
      clear hap ownA grA obA nb htd hbd hzd NB0 htw hb htk bb hbw hsz hwd hlen fwd zwd
      go_upto_region 5 with fail
      refine wp_region_held_drew (S := fun W => W.cell? ⟨b', o' + i * 2, none⟩ = some (.int .i64 tk.k) ∧ W.cell? ⟨b', o' + i * 2 + 1, none⟩ = some (.string tk.t) ∧ b' < W.heap.size) (by kernel_rfl) ⟨d0, d1, lb'⟩ (fun hHeld => ?_)
      refine held_take 0 11 (v := .slice ba i bc) rfl rfl (by kernel_rfl) (by kernel_rfl) (by kernel_rfl) (fun _ _ _ h => h) (by rfl) ?hfc13 hHeld ?refc13
      case hfc13 => (intro W hSw; clear hSw; go_simp; try with_reducible rfl)
      try simp only [Act.put, List.setIfInBounds_toArray, List.set_cons_zero, List.set_cons_succ]
      refine held_take 1 12 (v := .slice (some ⟨b', o', none⟩) n c) rfl rfl (by kernel_rfl) (by kernel_rfl) (by kernel_rfl) (fun _ _ _ h => h) (by rfl) ?hfc14 hHeld ?refc14
      case hfc14 => (intro W hSw; clear hSw; go_simp; try with_reducible rfl)
      try simp only [Act.put, List.setIfInBounds_toArray, List.set_cons_zero, List.set_cons_succ]
      refine held_take 2 13 (v := .int .i64 i) rfl rfl (by kernel_rfl) (by kernel_rfl) (by kernel_rfl) (fun _ _ _ h => h) (by rfl) ?hfc15 hHeld ?refc15
      case hfc15 => (intro W hSw; clear hSw; go_simp; try with_reducible rfl)
      try simp only [Act.put, List.setIfInBounds_toArray, List.set_cons_zero, List.set_cons_succ]
      refine held_take 3 14 (v := .pointer (some ⟨b', o' + i * 2, none⟩)) rfl rfl (by kernel_rfl) (by kernel_rfl) (by kernel_rfl) (fun _ _ _ h => h) (by rfl) ?hfc16 hHeld ?refc16
      case hfc16 => (intro W hSw; clear hSw; go_simp; try with_reducible rfl)
      try simp only [Act.put, List.setIfInBounds_toArray, List.set_cons_zero, List.set_cons_succ]
      refine held_take 4 15 (v := .pointer (some ⟨b', o' + i * 2, none⟩)) rfl rfl (by kernel_rfl) (by kernel_rfl) (by kernel_rfl) (fun _ _ _ h => h) (by rfl) ?hfc17 hHeld ?refc17
      case hfc17 => (intro W hSw; clear hSw; go_simp; try with_reducible rfl)
      try simp only [Act.put, List.setIfInBounds_toArray, List.set_cons_zero, List.set_cons_succ]
      refine held_take 5 16 (v := .int .i64 tk.k) rfl rfl (by kernel_rfl) (by kernel_rfl) (by kernel_rfl) (fun _ _ _ h => h) (by rfl) ?hfc18 hHeld ?refc18
      case hfc18 => (intro W hSw; have hS0 := hSw.1; have hS1 := hSw.2.1; have hSl := hSw.2.2; clear hSw; go_simp; try with_reducible rfl)
      try simp only [Act.put, List.setIfInBounds_toArray, List.set_cons_zero, List.set_cons_succ]
      refine held_take 6 17 (v := .slice (some ⟨b', o', none⟩) n c) rfl rfl (by kernel_rfl) (by kernel_rfl) (by kernel_rfl) (fun _ _ _ h => h) (by rfl) ?hfc19 hHeld ?refc19
      case hfc19 => (intro W hSw; clear hSw; go_simp; try with_reducible rfl)
      try simp only [Act.put, List.setIfInBounds_toArray, List.set_cons_zero, List.set_cons_succ]
      refine held_take 7 18 (v := .int .i64 i) rfl rfl (by kernel_rfl) (by kernel_rfl) (by kernel_rfl) (fun _ _ _ h => h) (by rfl) ?hfc20 hHeld ?refc20
      case hfc20 => (intro W hSw; clear hSw; go_simp; try with_reducible rfl)
      try simp only [Act.put, List.setIfInBounds_toArray, List.set_cons_zero, List.set_cons_succ]
      refine held_take 8 19 (v := .pointer (some ⟨b', o' + i * 2, none⟩)) rfl rfl (by kernel_rfl) (by kernel_rfl) (by kernel_rfl) (fun _ _ _ h => h) (by rfl) ?hfc21 hHeld ?refc21
      case hfc21 => (intro W hSw; clear hSw; go_simp; try with_reducible rfl)
      try simp only [Act.put, List.setIfInBounds_toArray, List.set_cons_zero, List.set_cons_succ]
      refine held_take 9 20 (v := .pointer (some ⟨b', o' + i * 2 + 1, none⟩)) rfl rfl (by kernel_rfl) (by kernel_rfl) (by kernel_rfl) (fun _ _ _ h => h) (by rfl) ?hfc22 hHeld ?refc22
      case hfc22 => (intro W hSw; clear hSw; go_simp; try with_reducible rfl)
      try simp only [Act.put, List.setIfInBounds_toArray, List.set_cons_zero, List.set_cons_succ]
      refine held_take 10 21 (v := .string tk.t) rfl rfl (by kernel_rfl) (by kernel_rfl) (by kernel_rfl) (fun _ _ _ h => h) (by rfl) ?hfc23 hHeld ?refc23
      case hfc23 => (intro W hSw; have hS0 := hSw.1; have hS1 := hSw.2.1; have hSl := hSw.2.2; clear hSw; go_simp; try with_reducible rfl)
      try simp only [Act.put, List.setIfInBounds_toArray, List.set_cons_zero, List.set_cons_succ]
      refine held_take 11 22 (v := .agg #[.int .i64 tk.k, .string tk.t]) rfl rfl (by kernel_rfl) (by kernel_rfl) (by kernel_rfl) (fun _ _ _ h => h) (by rfl) ?hfc24 hHeld ?refc24
      case hfc24 => (intro W hSw; clear hSw; go_simp; try with_reducible rfl)
      try simp only [Act.put, List.setIfInBounds_toArray, List.set_cons_zero, List.set_cons_succ]
      refine wpAnyH_ready (rs := [12]) (by kernel_rfl) (by simp) ?_
      refine AllReadyH.cons rfl (fun K hK => ?_) AllReadyH.nil
      go_simp
      refine hK.out _ _ ⟨cells_below (bel1 wr (.cells #[.int .i64 tk.k, .string tk.t] 48)) _ _ _ hHeld.1, cells_below (bel1 wr (.cells #[.int .i64 tk.k, .string tk.t] 48)) _ _ _ hHeld.2.1, Nat.lt_of_lt_of_le hHeld.2.2 (bel1 wr (.cells #[.int .i64 tk.k, .string tk.t] 48)).size⟩ (fun hHeld => ?_)
      clear hK K
      try simp only [Act.put, List.setIfInBounds_toArray, List.set_cons_zero, List.set_cons_succ]
      refine wpAnyH_ready (rs := [13]) (by kernel_rfl) (by simp) ?_
      refine AllReadyH.cons rfl (fun K hK => ?_) AllReadyH.nil
      refine ready_append rfl _ _ 27 rfl _ _ rfl rfl _ wA HAP.out ?_
      refine hK.out _ _ ⟨cells_fr FA.out hHeld.1 (fun e => NB.out e), cells_fr FA.out hHeld.2.1 (fun e => NB.out e), Nat.lt_of_lt_of_le hHeld.2.2 FA.out.size⟩ (fun hHeld => ?_)
      clear hK K
      try simp only [Act.put, List.setIfInBounds_toArray]
      refine held_take 14 3 (v := .slice sa sn sc) rfl rfl (by kernel_rfl) (by kernel_rfl) (by kernel_rfl) (fun _ _ _ h => h) (by rfl) ?hlast24 hHeld ?rlast24
      case hlast24 => (intro W hSw; clear hSw; go_simp; try with_reducible rfl)
      try simp only [Act.put]
      refine wpAnyH_done (by kernel_rfl) ?_ _
      clear hHeld
      go_wp2
      go_roundw
      case rel => exact ⟨i + 1, by go_num, by omega, R.out.1, R.out.2⟩
      case measure => (simp [intOf]) <;> omega
    · obtain rfl : i = n := by omega
      have htd := htw.tsl
      rw [HN.out, List.take_length] at htd
      have R := Lib.hid (And.intro htd hb)
      clear htw hb htd
      go_wp2
      go_ret
      exact ⟨_, rfl, R.out.1, R.out.2⟩
end Go.Proofs.Ytegakecncpfnnaa
