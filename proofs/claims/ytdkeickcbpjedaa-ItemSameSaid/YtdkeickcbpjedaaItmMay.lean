/-
  For every item, depth and number of items ItemMay answers true over this seat's translation. Conditions: an item as it lies in memory.
-/
import Derived.Test.YtdkeickcbpjedaaItmK
import Derived.Test.YtdkeickcbpjedaaItmL
import Derived.Test.YtdkeickcbpjedaaHeld
import Derived.Deep.Cut
namespace Go.Proofs.Ytdkeickcbpjedaa
open Go.RowKit

/-- What the law keeps: the item in its variable, and all that was there. -/
def Cx (t : T) (v : Value) (g : Nat) (w W : World) : Prop := I3 W g (.string t.s) (.bool t.l) v ∧ In W t v ∧ Below w.heap.size w W
theorem Cx.bel {t : T} {v : Value} {g : Nat} {w W W' : World} (h : Cx t v g w W) (b : Below W.heap.size W W') : Cx t v g w W' := ⟨h.1.bel b, h.2.1.bel b, below_then h.2.2 b⟩
theorem Cx.drew {t : T} {v : Value} {g : Nat} {w W : World} (h : Cx t v g w W) : Cx t v g w W.drew := ⟨h.1, h.2.1.bel ((Below.refl W.heap.size W).drew), h.2.2.drew⟩
theorem Cx.new {t : T} {v : Value} {w : World} (h : In w t v) : Cx t v w.heap.size w (w.alloc (.cells #[.string t.s, .bool t.l, v] 24)) := ⟨I3.new w _ _ _, h.bel (bel1 _ _), bel1 _ _⟩

theorem not_great {t : T} (h : great t = false) : T.cnt t < 1200 ∧ T.siz t ≤ 6000 := by
  simp only [great, Bool.or_eq_false_iff, decide_eq_false_iff_not] at h
  omega

set_option maxHeartbeats 4000000 in
theorem itemMay_any (t : T) (v : Value) (dd nn : Int) (w : World) (hI : In w t v) :
    Calls Try.prog 3 #[.agg #[.string t.s, .bool t.l, v], .int .i64 dd, .int .i64 nn] w fun e w' => e = .returned (.bool true) ∧ Below w.heap.size w w' := by
  obtain ⟨p, p', rfl⟩ := hI.slice
  have C0 := Lib.hid (Cx.new hI)
  have GR := Lib.hid (great_any t (.slice p t.ts.length p'))
  have NG := Lib.hid (@not_great t)
  obtain ⟨gr, hg⟩ : ∃ gr, gr = great t := ⟨_, rfl⟩
  rw [← hg] at GR NG
  clear hg hI
  go_enter Try.func3, Try.ntmps3
  go_wp2_with fail
  refine (alive_any _).mono ?_
  rintro e w1 ⟨rfl, b1⟩
  have C1 := Lib.hid (C0.out.bel b1)
  clear b1 C0
  have c0 := C1.out.1.c0
  have c1 := C1.out.1.c1
  have c2 := C1.out.1.c2
  have lg := C1.out.1.lt
  go_wp2_with fail
  refine (GR.out _ C1.out.2.1).mono ?_
  rintro e w2 ⟨rfl, b2⟩
  have C2 := Lib.hid (C1.out.bel b2)
  clear b2 C1 c0 c1 c2 lg
  cases gr
  case true =>
    go_wp2
    go_ret
    exact ⟨rfl, C2.out.2.2⟩
  have hng := NG.out rfl
  have hcn : T.cnt t ≤ 1000000 := by omega
  have hsz : T.siz t ≤ 100000 := by omega
  clear GR NG
  have HN := Lib.hid hng
  clear hng
  have c0 := C2.out.1.c0
  have c1 := C2.out.1.c1
  have c2 := C2.out.1.c2
  have lg := C2.out.1.lt
  go_upto_region 5 with fail
  obtain ⟨g, hgg⟩ : ∃ g, g = w.heap.size := ⟨_, rfl⟩
  have hHeld := C2.out.drew
  rw [← hgg] at hHeld c0 c1 c2 lg ⊢
  have BE := Lib.hid ((Below.refl w2.heap.size w2).drew)
  have HGG := Lib.hid hgg
  clear hgg c0 c1 c2 lg
  refine wp_region_held_drew (S := Cx t (.slice p t.ts.length p') g w) (by kernel_rfl) hHeld (fun hHeld => ?_)
  refine held_take 0 14 (v := ?va0) rfl rfl (by kernel_rfl) (by kernel_rfl) (by kernel_rfl) (fun _ _ _ h => h) (by rfl) ?hya0 hHeld ?resta0
  case hya0 => (intro w hSw; have l0 := hSw.1.c0; have l1 := hSw.1.c1; have l2 := hSw.1.c2; have l3 := hSw.1.lt; clear hSw; go_simp; try with_reducible rfl)
  try simp only [Act.put, List.setIfInBounds_toArray, List.set_cons_zero, List.set_cons_succ]
  refine held_take 2 16 (v := ?va2) rfl rfl (by kernel_rfl) (by kernel_rfl) (by kernel_rfl) (fun _ _ _ h => h) (by rfl) ?hya2 hHeld ?resta2
  case hya2 => (intro w hSw; have l0 := hSw.1.c0; have l1 := hSw.1.c1; have l2 := hSw.1.c2; have l3 := hSw.1.lt; clear hSw; go_simp; try with_reducible rfl)
  try simp only [Act.put, List.setIfInBounds_toArray, List.set_cons_zero, List.set_cons_succ]
  refine wpAnyH_ready (rs := [1]) (by kernel_rfl) (by simp) ?_
  refine AllReadyH.cons rfl (fun K hK => ?_) AllReadyH.nil
  go_simp
  refine (refCount_any t (.slice p t.ts.length p') _ hHeld.2.1 hcn).mono ?_
  rintro e z0 ⟨rfl, bb⟩
  have nn := hHeld.bel bb
  have R0 := Lib.hid (below_then BE.out bb)
  clear bb hHeld
  refine hK.out _ _ nn (fun hHeld => ?_)
  clear hK K nn
  try simp only [Act.put, List.setIfInBounds_toArray, List.set_cons_zero, List.set_cons_succ]
  refine wpAnyH_ready (rs := [3]) (by kernel_rfl) (by simp) ?_
  refine AllReadyH.cons rfl (fun K hK => ?_) AllReadyH.nil
  go_simp
  refine (refDeep_any t (.slice p t.ts.length p') _ hHeld.2.1 hcn).mono ?_
  rintro e z1 ⟨rfl, bb⟩
  have nn := hHeld.bel bb
  have R1 := Lib.hid (below_then R0.out bb)
  clear bb hHeld
  refine hK.out _ _ nn (fun hHeld => ?_)
  clear hK K nn
  try simp only [Act.put, List.setIfInBounds_toArray, List.set_cons_zero, List.set_cons_succ]
  refine held_take 4 7 (v := ?va4) rfl rfl (by kernel_rfl) (by kernel_rfl) (by kernel_rfl) (fun _ _ _ h => h) (by rfl) ?hya4 hHeld ?resta4
  case hya4 => (intro w hSw; clear hSw; go_simp; try with_reducible rfl)
  try simp only [Act.put, List.setIfInBounds_toArray, List.set_cons_zero, List.set_cons_succ]
  refine held_take 5 8 (v := ?va5) rfl rfl (by kernel_rfl) (by kernel_rfl) (by kernel_rfl) (fun _ _ _ h => h) (by rfl) ?hya5 hHeld ?resta5
  case hya5 => (intro w hSw; clear hSw; go_simp; try with_reducible rfl)
  try simp only [Act.put, List.setIfInBounds_toArray, List.set_cons_zero, List.set_cons_succ]
  -- last: R1; left: []
  refine wpAnyH_done (by kernel_rfl) ?_ _
  try simp only [Exit.then]
  have C3 := Lib.hid hHeld
  clear hHeld
  have MA := Lib.hid (fun W => may_any t (.slice p t.ts.length p') W)
  have RM := Lib.hid (fun W h => refMay_any t (.slice p t.ts.length p') W h hcn)
  have CO := Lib.hid (fun W => count_any t (.slice p t.ts.length p') W)
  have DE := Lib.hid (fun W => deep_any t (.slice p t.ts.length p') W)
  have CA := Lib.hid (fun W => caps_any t (.slice p t.ts.length p') dd nn W)
  have RC := Lib.hid (fun W h => refCaps_any t (.slice p t.ts.length p') dd nn W h hcn)
  have n1 : (T.may t != T.may t) = false := by simp
  have n4 : (caps t dd nn != caps t dd nn) = false := by simp
  by_cases hin : T.dep t ≤ 16 ∧ T.cnt t ≤ 1024
  · have eC : cntd t = T.cnt t := if_pos hin
    have eD : depd t = T.dep t := if_pos hin
    rw [eC] at CO
    rw [eD] at DE
    obtain ⟨hd, hc⟩ := hin
    obtain ⟨N, hN⟩ : ∃ N, N = T.cnt t := ⟨_, rfl⟩
    obtain ⟨D, hD⟩ : ∃ D, D = T.dep t := ⟨_, rfl⟩
    rw [← hN] at CO hc ⊢
    rw [← hD] at DE hd ⊢
    clear hN hD eC eD hcn
    have n2 : ((N : Int) != (N : Int)) = false := by simp
    have n3 : ((D : Int) != (D : Int)) = false := by simp
    go_upto_region 8 with fail
    have hHeld := C3.out.drew
    have BF := Lib.hid ((Below.refl z1.heap.size z1).drew)
    refine wp_region_held_drew (S := Cx t (.slice p t.ts.length p') g w) (by kernel_rfl) hHeld (fun hHeld => ?_)
    refine held_take 0 24 (v := ?vb0) rfl rfl (by kernel_rfl) (by kernel_rfl) (by kernel_rfl) (fun _ _ _ h => h) (by rfl) ?hyb0 hHeld ?restb0
    case hyb0 => (intro w hSw; have l0 := hSw.1.c0; have l1 := hSw.1.c1; have l2 := hSw.1.c2; have l3 := hSw.1.lt; clear hSw; go_simp; try with_reducible rfl)
    try simp only [Act.put, List.setIfInBounds_toArray, List.set_cons_zero, List.set_cons_succ]
    refine held_take 2 26 (v := ?vb2) rfl rfl (by kernel_rfl) (by kernel_rfl) (by kernel_rfl) (fun _ _ _ h => h) (by rfl) ?hyb2 hHeld ?restb2
    case hyb2 => (intro w hSw; have l0 := hSw.1.c0; have l1 := hSw.1.c1; have l2 := hSw.1.c2; have l3 := hSw.1.lt; clear hSw; go_simp; try with_reducible rfl)
    try simp only [Act.put, List.setIfInBounds_toArray, List.set_cons_zero, List.set_cons_succ]
    refine wpAnyH_ready (rs := [1]) (by kernel_rfl) (by simp) ?_
    refine AllReadyH.cons rfl (fun K hK => ?_) AllReadyH.nil
    go_simp
    refine (MA.out _ hHeld.2.1).mono ?_
    rintro e z0 ⟨rfl, bb⟩
    have nn := hHeld.bel bb
    have R0 := Lib.hid (below_then BF.out bb)
    clear bb hHeld
    refine hK.out _ _ nn (fun hHeld => ?_)
    clear hK K nn
    try simp only [Act.put, List.setIfInBounds_toArray, List.set_cons_zero, List.set_cons_succ]
    refine wpAnyH_ready (rs := [3]) (by kernel_rfl) (by simp) ?_
    refine AllReadyH.cons rfl (fun K hK => ?_) AllReadyH.nil
    go_simp
    refine (RM.out _ hHeld.2.1).mono ?_
    rintro e z1 ⟨rfl, bb⟩
    have nn := hHeld.bel bb
    have R1 := Lib.hid (below_then R0.out bb)
    clear bb hHeld
    refine hK.out _ _ nn (fun hHeld => ?_)
    clear hK K nn
    try simp only [Act.put, List.setIfInBounds_toArray, List.set_cons_zero, List.set_cons_succ]
    refine held_take 4 28 (v := .bool false) rfl rfl (by kernel_rfl) (by kernel_rfl) (by kernel_rfl) (fun _ _ _ h => h) (by rfl) ?hyb4 hHeld ?restb4
    case hyb4 => (intro w hSw; clear hSw; go_simp; try with_reducible rfl)
    try simp only [Act.put, List.setIfInBounds_toArray, List.set_cons_zero, List.set_cons_succ]
    refine held_take 5 29 (v := .bool false) rfl rfl (by kernel_rfl) (by kernel_rfl) (by kernel_rfl) (fun _ _ _ h => h) (by rfl) ?hyb5 hHeld ?restb5
    case hyb5 => (intro w hSw; clear hSw; go_simp; try with_reducible rfl)
    try simp only [Act.put, List.setIfInBounds_toArray, List.set_cons_zero, List.set_cons_succ]
    refine held_take 6 30 (v := ?vb6) rfl rfl (by kernel_rfl) (by kernel_rfl) (by kernel_rfl) (fun _ _ _ h => h) (by rfl) ?hyb6 hHeld ?restb6
    case hyb6 => (intro w hSw; have l0 := hSw.1.c0; have l1 := hSw.1.c1; have l2 := hSw.1.c2; have l3 := hSw.1.lt; clear hSw; go_simp; try with_reducible rfl)
    try simp only [Act.put, List.setIfInBounds_toArray, List.set_cons_zero, List.set_cons_succ]
    refine held_take 8 32 (v := ?vb8) rfl rfl (by kernel_rfl) (by kernel_rfl) (by kernel_rfl) (fun _ _ _ h => h) (by rfl) ?hyb8 hHeld ?restb8
    case hyb8 => (intro w hSw; clear hSw; go_simp; try with_reducible rfl)
    try simp only [Act.put, List.setIfInBounds_toArray, List.set_cons_zero, List.set_cons_succ]
    refine wpAnyH_ready (rs := [7]) (by kernel_rfl) (by simp) ?_
    refine AllReadyH.cons rfl (fun K hK => ?_) AllReadyH.nil
    go_simp
    refine (CO.out _ hHeld.2.1).mono ?_
    rintro e z2 ⟨rfl, bb⟩
    have nn := hHeld.bel bb
    have R2 := Lib.hid (below_then R1.out bb)
    clear bb hHeld
    refine hK.out _ _ nn (fun hHeld => ?_)
    clear hK K nn
    try simp only [Act.put, List.setIfInBounds_toArray, List.set_cons_zero, List.set_cons_succ]
    refine held_take 9 33 (v := .bool false) rfl rfl (by kernel_rfl) (by kernel_rfl) (by kernel_rfl) (fun _ _ _ h => h) (by rfl) ?hyb9 hHeld ?restb9
    case hyb9 => (intro w hSw; clear hSw; go_simp; try with_reducible rfl)
    try simp only [Act.put, List.setIfInBounds_toArray, List.set_cons_zero, List.set_cons_succ]
    refine held_take 10 34 (v := .bool false) rfl rfl (by kernel_rfl) (by kernel_rfl) (by kernel_rfl) (fun _ _ _ h => h) (by rfl) ?hyb10 hHeld ?restb10
    case hyb10 => (intro w hSw; clear hSw; go_simp; try with_reducible rfl)
    try simp only [Act.put, List.setIfInBounds_toArray, List.set_cons_zero, List.set_cons_succ]
    refine held_take 11 35 (v := .bool false) rfl rfl (by kernel_rfl) (by kernel_rfl) (by kernel_rfl) (fun _ _ _ h => h) (by rfl) ?hyb11 hHeld ?restb11
    case hyb11 => (intro w hSw; clear hSw; go_simp; try with_reducible rfl)
    try simp only [Act.put, List.setIfInBounds_toArray, List.set_cons_zero, List.set_cons_succ]
    refine held_take 12 36 (v := ?vb12) rfl rfl (by kernel_rfl) (by kernel_rfl) (by kernel_rfl) (fun _ _ _ h => h) (by rfl) ?hyb12 hHeld ?restb12
    case hyb12 => (intro w hSw; have l0 := hSw.1.c0; have l1 := hSw.1.c1; have l2 := hSw.1.c2; have l3 := hSw.1.lt; clear hSw; go_simp; try with_reducible rfl)
    try simp only [Act.put, List.setIfInBounds_toArray, List.set_cons_zero, List.set_cons_succ]
    refine held_take 14 38 (v := ?vb14) rfl rfl (by kernel_rfl) (by kernel_rfl) (by kernel_rfl) (fun _ _ _ h => h) (by rfl) ?hyb14 hHeld ?restb14
    case hyb14 => (intro w hSw; clear hSw; go_simp; try with_reducible rfl)
    try simp only [Act.put, List.setIfInBounds_toArray, List.set_cons_zero, List.set_cons_succ]
    refine wpAnyH_ready (rs := [13]) (by kernel_rfl) (by simp) ?_
    refine AllReadyH.cons rfl (fun K hK => ?_) AllReadyH.nil
    go_simp
    refine (DE.out _ hHeld.2.1).mono ?_
    rintro e z3 ⟨rfl, bb⟩
    have nn := hHeld.bel bb
    have R3 := Lib.hid (below_then R2.out bb)
    clear bb hHeld
    refine hK.out _ _ nn (fun hHeld => ?_)
    clear hK K nn
    try simp only [Act.put, List.setIfInBounds_toArray, List.set_cons_zero, List.set_cons_succ]
    refine held_take 15 39 (v := .bool false) rfl rfl (by kernel_rfl) (by kernel_rfl) (by kernel_rfl) (fun _ _ _ h => h) (by rfl) ?hyb15 hHeld ?restb15
    case hyb15 => (intro w hSw; clear hSw; go_simp; try with_reducible rfl)
    try simp only [Act.put, List.setIfInBounds_toArray, List.set_cons_zero, List.set_cons_succ]
    refine held_take 16 40 (v := .bool false) rfl rfl (by kernel_rfl) (by kernel_rfl) (by kernel_rfl) (fun _ _ _ h => h) (by rfl) ?hyb16 hHeld ?restb16
    case hyb16 => (intro w hSw; clear hSw; go_simp; try with_reducible rfl)
    try simp only [Act.put, List.setIfInBounds_toArray, List.set_cons_zero, List.set_cons_succ]
    refine held_take 17 41 (v := .bool false) rfl rfl (by kernel_rfl) (by kernel_rfl) (by kernel_rfl) (fun _ _ _ h => h) (by rfl) ?hyb17 hHeld ?restb17
    case hyb17 => (intro w hSw; clear hSw; go_simp; try with_reducible rfl)
    try simp only [Act.put, List.setIfInBounds_toArray, List.set_cons_zero, List.set_cons_succ]
    refine held_take 18 42 (v := ?vb18) rfl rfl (by kernel_rfl) (by kernel_rfl) (by kernel_rfl) (fun _ _ _ h => h) (by rfl) ?hyb18 hHeld ?restb18
    case hyb18 => (intro w hSw; have l0 := hSw.1.c0; have l1 := hSw.1.c1; have l2 := hSw.1.c2; have l3 := hSw.1.lt; clear hSw; go_simp; try with_reducible rfl)
    try simp only [Act.put, List.setIfInBounds_toArray, List.set_cons_zero, List.set_cons_succ]
    refine held_take 19 43 (v := ?vb19) rfl rfl (by kernel_rfl) (by kernel_rfl) (by kernel_rfl) (fun _ _ _ h => h) (by rfl) ?hyb19 hHeld ?restb19
    case hyb19 => (intro w hSw; clear hSw; go_simp; try with_reducible rfl)
    try simp only [Act.put, List.setIfInBounds_toArray, List.set_cons_zero, List.set_cons_succ]
    refine held_take 20 44 (v := ?vb20) rfl rfl (by kernel_rfl) (by kernel_rfl) (by kernel_rfl) (fun _ _ _ h => h) (by rfl) ?hyb20 hHeld ?restb20
    case hyb20 => (intro w hSw; clear hSw; go_simp; try with_reducible rfl)
    try simp only [Act.put, List.setIfInBounds_toArray, List.set_cons_zero, List.set_cons_succ]
    refine held_take 22 46 (v := ?vb22) rfl rfl (by kernel_rfl) (by kernel_rfl) (by kernel_rfl) (fun _ _ _ h => h) (by rfl) ?hyb22 hHeld ?restb22
    case hyb22 => (intro w hSw; have l0 := hSw.1.c0; have l1 := hSw.1.c1; have l2 := hSw.1.c2; have l3 := hSw.1.lt; clear hSw; go_simp; try with_reducible rfl)
    try simp only [Act.put, List.setIfInBounds_toArray, List.set_cons_zero, List.set_cons_succ]
    refine held_take 23 47 (v := ?vb23) rfl rfl (by kernel_rfl) (by kernel_rfl) (by kernel_rfl) (fun _ _ _ h => h) (by rfl) ?hyb23 hHeld ?restb23
    case hyb23 => (intro w hSw; clear hSw; go_simp; try with_reducible rfl)
    try simp only [Act.put, List.setIfInBounds_toArray, List.set_cons_zero, List.set_cons_succ]
    refine held_take 24 48 (v := ?vb24) rfl rfl (by kernel_rfl) (by kernel_rfl) (by kernel_rfl) (fun _ _ _ h => h) (by rfl) ?hyb24 hHeld ?restb24
    case hyb24 => (intro w hSw; clear hSw; go_simp; try with_reducible rfl)
    try simp only [Act.put, List.setIfInBounds_toArray, List.set_cons_zero, List.set_cons_succ]
    refine wpAnyH_ready (rs := [21]) (by kernel_rfl) (by simp) ?_
    refine AllReadyH.cons rfl (fun K hK => ?_) AllReadyH.nil
    go_simp
    refine (CA.out _ hHeld.2.1).mono ?_
    rintro e z4 ⟨rfl, bb⟩
    have nn := hHeld.bel bb
    have R4 := Lib.hid (below_then R3.out bb)
    clear bb hHeld
    refine hK.out _ _ nn (fun hHeld => ?_)
    clear hK K nn
    try simp only [Act.put, List.setIfInBounds_toArray, List.set_cons_zero, List.set_cons_succ]
    refine wpAnyH_ready (rs := [25]) (by kernel_rfl) (by simp) ?_
    refine AllReadyH.cons rfl (fun K hK => ?_) AllReadyH.nil
    go_simp
    refine (RC.out _ hHeld.2.1).mono ?_
    rintro e z5 ⟨rfl, bb⟩
    have nn := hHeld.bel bb
    have R5 := Lib.hid (below_then R4.out bb)
    clear bb hHeld
    refine hK.out _ _ nn (fun hHeld => ?_)
    clear hK K nn
    try simp only [Act.put, List.setIfInBounds_toArray, List.set_cons_zero, List.set_cons_succ]
    refine held_take 26 50 (v := .bool false) rfl rfl (by kernel_rfl) (by kernel_rfl) (by kernel_rfl) (fun _ _ _ h => h) (by rfl) ?hyb26 hHeld ?restb26
    case hyb26 => (intro w hSw; clear hSw; go_simp; try with_reducible rfl)
    try simp only [Act.put, List.setIfInBounds_toArray, List.set_cons_zero, List.set_cons_succ]
    refine held_take 27 51 (v := .bool false) rfl rfl (by kernel_rfl) (by kernel_rfl) (by kernel_rfl) (fun _ _ _ h => h) (by rfl) ?hyb27 hHeld ?restb27
    case hyb27 => (intro w hSw; clear hSw; go_simp; try with_reducible rfl)
    try simp only [Act.put, List.setIfInBounds_toArray, List.set_cons_zero, List.set_cons_succ]
    -- last: R5; left: []
    refine wpAnyH_done (by kernel_rfl) ?_ _
    try simp only [Exit.then]
    have C4 := Lib.hid hHeld
    clear hHeld C3 CO DE CA RC n2 n3 n4
    have c0 := C4.out.1.c0
    have c1 := C4.out.1.c1
    have c2 := C4.out.1.c2
    have lg := C4.out.1.lt
    have CP := Lib.hid (fun W (h : In W t (.slice p t.ts.length p')) => copy_any t (.slice p t.ts.length p') W h hsz)
    by_cases hm : T.may t = true
    · rw [hm] at RM
      have SA := Lib.hid (fun u W h1 h2 => same_any t u t (.slice p t.ts.length p') W h1 h2)
      have RS := Lib.hid (fun u W h1 h2 => refSame_any t u t (.slice p t.ts.length p') W h1 h2)
      rw [hm, same_self] at SA
      rw [same_self] at RS
      go_wp2_with fail
      refine (CP.out _ C4.out.2.1).mono ?_
      rintro e y1 ⟨bb, hif⟩
      rw [if_pos hm] at hif
      obtain ⟨u, rfl, hu⟩ := hif
      obtain ⟨r, r', rfl⟩ := hu.slice
      have C5 := Lib.hid (C4.out.bel bb)
      have U5 := Lib.hid (InN.in _ _ hu)
      have gc := I3.new y1 (.string t.s) (.bool t.l) (.slice r t.ts.length r')
      have C6 := Lib.hid (C5.out.bel (bel1 y1 (.cells #[.string t.s, .bool t.l, .slice r t.ts.length r'] 24)))
      have U6 := Lib.hid (U5.out.bel (bel1 y1 (.cells #[.string t.s, .bool t.l, .slice r t.ts.length r'] 24)))
      have GC := Lib.hid gc
      clear bb hu gc c0 c1 c2 lg MA
      have lg0 := C5.out.1.lt
      have e0 := C5.out.1.c0
      have e1 := C5.out.1.c1
      have e2 := C5.out.1.c2
      go_wp2_with fail
      refine (RM.out _ C6.out.2.1).mono ?_
      rintro e y2 ⟨rfl, bb⟩
      have C7 := Lib.hid (C6.out.bel bb)
      have U7 := Lib.hid (U6.out.bel bb)
      have I7 := Lib.hid (GC.out.bel bb)
      clear bb C6 U6 GC lg0 e0 e1 e2
      have e0 := C7.out.1.c0
      have e1 := C7.out.1.c1
      have e2 := C7.out.1.c2
      have le := C7.out.1.lt
      have d0 := I7.out.c0
      have d1 := I7.out.c1
      have d2 := I7.out.c2
      have ld := I7.out.lt
      go_wp2_with fail
      refine (RS.out _ _ U7.out C7.out.2.1).mono ?_
      rintro e y3 ⟨rfl, bb⟩
      have C8 := Lib.hid (C7.out.bel bb)
      have U8 := Lib.hid (U7.out.bel bb)
      have I8 := Lib.hid (I7.out.bel bb)
      clear bb C7 U7 I7 e0 e1 e2 le d0 d1 d2 ld
      have e0 := C8.out.1.c0
      have e1 := C8.out.1.c1
      have e2 := C8.out.1.c2
      have le := C8.out.1.lt
      have d0 := I8.out.c0
      have d1 := I8.out.c1
      have d2 := I8.out.c2
      have ld := I8.out.lt
      go_wp2_with fail
      refine (SA.out _ _ U8.out C8.out.2.1).mono ?_
      rintro e y4 ⟨rfl, bb⟩
      have C9 := Lib.hid (C8.out.bel bb)
      clear bb
      go_wp2
      go_ret
      exact ⟨rfl, C9.out.2.2⟩
    · have hm' : T.may t = false := by simpa using hm
      rw [hm'] at RM
      have SA := Lib.hid (fun W h1 h2 => same_any t (.slice p t.ts.length p') t (.slice p t.ts.length p') W h1 h2)
      have RS := Lib.hid (fun W => refSame_any tE (.slice none 0 0) tE (.slice none 0 0) W ⟨by decide, by simp [maxLen], none, 0, rfl, trivial⟩ ⟨by decide, by simp [maxLen], none, 0, rfl, trivial⟩)
      rw [hm', Bool.false_and] at SA
      rw [same_self] at RS
      go_wp2_with fail
      refine (CP.out _ C4.out.2.1).mono ?_
      rintro e y1 ⟨bb, hif⟩
      rw [if_neg hm] at hif
      subst hif
      have C5 := Lib.hid (C4.out.bel bb)
      have gc := I3.new y1 (.string ⟨#[]⟩) (.bool false) (.slice none 0 0)
      have C6 := Lib.hid (C5.out.bel (bel1 y1 (.cells #[.string ⟨#[]⟩, .bool false, .slice none 0 0] 24)))
      have GC := Lib.hid gc
      clear bb gc c0 c1 c2 lg MA hm hm'
      have lg0 := C5.out.1.lt
      have e0 := C5.out.1.c0
      have e1 := C5.out.1.c1
      have e2 := C5.out.1.c2
      go_wp2_with fail
      refine (RM.out _ C6.out.2.1).mono ?_
      rintro e y2 ⟨rfl, bb⟩
      have C7 := Lib.hid (C6.out.bel bb)
      have I7 := Lib.hid (GC.out.bel bb)
      clear bb C6 GC lg0 e0 e1 e2
      have d0 := I7.out.c0
      have d1 := I7.out.c1
      have d2 := I7.out.c2
      have ld := I7.out.lt
      go_wp2_with fail
      refine (RS.out _).mono ?_
      rintro e y3 ⟨rfl, bb⟩
      have C8 := Lib.hid (C7.out.bel bb)
      clear bb C7 I7 d0 d1 d2 ld
      have e0 := C8.out.1.c0
      have e1 := C8.out.1.c1
      have e2 := C8.out.1.c2
      have le := C8.out.1.lt
      go_wp2_with fail
      refine (SA.out _ C8.out.2.1 C8.out.2.1).mono ?_
      rintro e y4 ⟨rfl, bb⟩
      have C9 := Lib.hid (C8.out.bel bb)
      clear bb
      go_wp2
      go_ret
      exact ⟨rfl, C9.out.2.2⟩
  · have eC : cntd t = 0 := if_neg hin
    have eD : depd t = 0 := if_neg hin
    rw [eC, Int.natCast_zero] at CO
    rw [eD, Int.natCast_zero] at DE
    obtain ⟨N, hN⟩ : ∃ N, N = T.cnt t := ⟨_, rfl⟩
    obtain ⟨D, hD⟩ : ∃ D, D = T.dep t := ⟨_, rfl⟩
    rw [← hN, ← hD] at hin
    rw [← hN, ← hD]
    have hcn2 := Lib.hid hcn
    clear hN hD eC eD hcn
    by_cases hc : N ≤ 1024
    · have hd : 16 < D := by omega
      clear hin
      have n2 : ((0 : Int) != (0 : Int)) = false := by simp
      have n3 : ((0 : Int) != (0 : Int)) = false := by simp
      go_upto_region 8 with fail
      have hHeld := C3.out.drew
      have BF := Lib.hid ((Below.refl z1.heap.size z1).drew)
      refine wp_region_held_drew (S := Cx t (.slice p t.ts.length p') g w) (by kernel_rfl) hHeld (fun hHeld => ?_)
      refine held_take 0 24 (v := ?vc0) rfl rfl (by kernel_rfl) (by kernel_rfl) (by kernel_rfl) (fun _ _ _ h => h) (by rfl) ?hyc0 hHeld ?restc0
      case hyc0 => (intro w hSw; have l0 := hSw.1.c0; have l1 := hSw.1.c1; have l2 := hSw.1.c2; have l3 := hSw.1.lt; clear hSw; go_simp; try with_reducible rfl)
      try simp only [Act.put, List.setIfInBounds_toArray, List.set_cons_zero, List.set_cons_succ]
      refine held_take 2 26 (v := ?vc2) rfl rfl (by kernel_rfl) (by kernel_rfl) (by kernel_rfl) (fun _ _ _ h => h) (by rfl) ?hyc2 hHeld ?restc2
      case hyc2 => (intro w hSw; have l0 := hSw.1.c0; have l1 := hSw.1.c1; have l2 := hSw.1.c2; have l3 := hSw.1.lt; clear hSw; go_simp; try with_reducible rfl)
      try simp only [Act.put, List.setIfInBounds_toArray, List.set_cons_zero, List.set_cons_succ]
      refine wpAnyH_ready (rs := [1]) (by kernel_rfl) (by simp) ?_
      refine AllReadyH.cons rfl (fun K hK => ?_) AllReadyH.nil
      go_simp
      refine (MA.out _ hHeld.2.1).mono ?_
      rintro e z0 ⟨rfl, bb⟩
      have nn := hHeld.bel bb
      have R0 := Lib.hid (below_then BF.out bb)
      clear bb hHeld
      refine hK.out _ _ nn (fun hHeld => ?_)
      clear hK K nn
      try simp only [Act.put, List.setIfInBounds_toArray, List.set_cons_zero, List.set_cons_succ]
      refine wpAnyH_ready (rs := [3]) (by kernel_rfl) (by simp) ?_
      refine AllReadyH.cons rfl (fun K hK => ?_) AllReadyH.nil
      go_simp
      refine (RM.out _ hHeld.2.1).mono ?_
      rintro e z1 ⟨rfl, bb⟩
      have nn := hHeld.bel bb
      have R1 := Lib.hid (below_then R0.out bb)
      clear bb hHeld
      refine hK.out _ _ nn (fun hHeld => ?_)
      clear hK K nn
      try simp only [Act.put, List.setIfInBounds_toArray, List.set_cons_zero, List.set_cons_succ]
      refine held_take 4 28 (v := .bool false) rfl rfl (by kernel_rfl) (by kernel_rfl) (by kernel_rfl) (fun _ _ _ h => h) (by rfl) ?hyc4 hHeld ?restc4
      case hyc4 => (intro w hSw; clear hSw; go_simp; try with_reducible rfl)
      try simp only [Act.put, List.setIfInBounds_toArray, List.set_cons_zero, List.set_cons_succ]
      refine held_take 5 29 (v := .bool false) rfl rfl (by kernel_rfl) (by kernel_rfl) (by kernel_rfl) (fun _ _ _ h => h) (by rfl) ?hyc5 hHeld ?restc5
      case hyc5 => (intro w hSw; clear hSw; go_simp; try with_reducible rfl)
      try simp only [Act.put, List.setIfInBounds_toArray, List.set_cons_zero, List.set_cons_succ]
      refine held_take 6 30 (v := ?vc6) rfl rfl (by kernel_rfl) (by kernel_rfl) (by kernel_rfl) (fun _ _ _ h => h) (by rfl) ?hyc6 hHeld ?restc6
      case hyc6 => (intro w hSw; have l0 := hSw.1.c0; have l1 := hSw.1.c1; have l2 := hSw.1.c2; have l3 := hSw.1.lt; clear hSw; go_simp; try with_reducible rfl)
      try simp only [Act.put, List.setIfInBounds_toArray, List.set_cons_zero, List.set_cons_succ]
      refine held_take 8 32 (v := ?vc8) rfl rfl (by kernel_rfl) (by kernel_rfl) (by kernel_rfl) (fun _ _ _ h => h) (by rfl) ?hyc8 hHeld ?restc8
      case hyc8 => (intro w hSw; clear hSw; go_simp; try with_reducible rfl)
      try simp only [Act.put, List.setIfInBounds_toArray, List.set_cons_zero, List.set_cons_succ]
      refine wpAnyH_ready (rs := [7]) (by kernel_rfl) (by simp) ?_
      refine AllReadyH.cons rfl (fun K hK => ?_) AllReadyH.nil
      go_simp
      refine (CO.out _ hHeld.2.1).mono ?_
      rintro e z2 ⟨rfl, bb⟩
      have nn := hHeld.bel bb
      have R2 := Lib.hid (below_then R1.out bb)
      clear bb hHeld
      refine hK.out _ _ nn (fun hHeld => ?_)
      clear hK K nn
      try simp only [Act.put, List.setIfInBounds_toArray, List.set_cons_zero, List.set_cons_succ]
      refine held_take 9 33 (v := .bool false) rfl rfl (by kernel_rfl) (by kernel_rfl) (by kernel_rfl) (fun _ _ _ h => h) (by rfl) ?hyc9 hHeld ?restc9
      case hyc9 => (intro w hSw; clear hSw; go_simp; try with_reducible rfl)
      try simp only [Act.put, List.setIfInBounds_toArray, List.set_cons_zero, List.set_cons_succ]
      refine held_take 10 34 (v := .bool false) rfl rfl (by kernel_rfl) (by kernel_rfl) (by kernel_rfl) (fun _ _ _ h => h) (by rfl) ?hyc10 hHeld ?restc10
      case hyc10 => (intro w hSw; clear hSw; go_simp; try with_reducible rfl)
      try simp only [Act.put, List.setIfInBounds_toArray, List.set_cons_zero, List.set_cons_succ]
      refine held_take 11 35 (v := .bool false) rfl rfl (by kernel_rfl) (by kernel_rfl) (by kernel_rfl) (fun _ _ _ h => h) (by rfl) ?hyc11 hHeld ?restc11
      case hyc11 => (intro w hSw; clear hSw; go_simp; try with_reducible rfl)
      try simp only [Act.put, List.setIfInBounds_toArray, List.set_cons_zero, List.set_cons_succ]
      refine held_take 12 36 (v := ?vc12) rfl rfl (by kernel_rfl) (by kernel_rfl) (by kernel_rfl) (fun _ _ _ h => h) (by rfl) ?hyc12 hHeld ?restc12
      case hyc12 => (intro w hSw; have l0 := hSw.1.c0; have l1 := hSw.1.c1; have l2 := hSw.1.c2; have l3 := hSw.1.lt; clear hSw; go_simp; try with_reducible rfl)
      try simp only [Act.put, List.setIfInBounds_toArray, List.set_cons_zero, List.set_cons_succ]
      refine held_take 14 38 (v := ?vc14) rfl rfl (by kernel_rfl) (by kernel_rfl) (by kernel_rfl) (fun _ _ _ h => h) (by rfl) ?hyc14 hHeld ?restc14
      case hyc14 => (intro w hSw; clear hSw; go_simp; try with_reducible rfl)
      try simp only [Act.put, List.setIfInBounds_toArray, List.set_cons_zero, List.set_cons_succ]
      refine wpAnyH_ready (rs := [13]) (by kernel_rfl) (by simp) ?_
      refine AllReadyH.cons rfl (fun K hK => ?_) AllReadyH.nil
      go_simp
      refine (DE.out _ hHeld.2.1).mono ?_
      rintro e z3 ⟨rfl, bb⟩
      have nn := hHeld.bel bb
      have R3 := Lib.hid (below_then R2.out bb)
      clear bb hHeld
      refine hK.out _ _ nn (fun hHeld => ?_)
      clear hK K nn
      try simp only [Act.put, List.setIfInBounds_toArray, List.set_cons_zero, List.set_cons_succ]
      refine held_take 15 39 (v := .bool false) rfl rfl (by kernel_rfl) (by kernel_rfl) (by kernel_rfl) (fun _ _ _ h => h) (by rfl) ?hyc15 hHeld ?restc15
      case hyc15 => (intro w hSw; clear hSw; go_simp; try with_reducible rfl)
      try simp only [Act.put, List.setIfInBounds_toArray, List.set_cons_zero, List.set_cons_succ]
      refine held_take 16 40 (v := .bool false) rfl rfl (by kernel_rfl) (by kernel_rfl) (by kernel_rfl) (fun _ _ _ h => h) (by rfl) ?hyc16 hHeld ?restc16
      case hyc16 => (intro w hSw; clear hSw; go_simp; try with_reducible rfl)
      try simp only [Act.put, List.setIfInBounds_toArray, List.set_cons_zero, List.set_cons_succ]
      refine held_take 17 41 (v := .bool false) rfl rfl (by kernel_rfl) (by kernel_rfl) (by kernel_rfl) (fun _ _ _ h => h) (by rfl) ?hyc17 hHeld ?restc17
      case hyc17 => (intro w hSw; clear hSw; go_simp; try with_reducible rfl)
      try simp only [Act.put, List.setIfInBounds_toArray, List.set_cons_zero, List.set_cons_succ]
      refine held_take 18 42 (v := ?vc18) rfl rfl (by kernel_rfl) (by kernel_rfl) (by kernel_rfl) (fun _ _ _ h => h) (by rfl) ?hyc18 hHeld ?restc18
      case hyc18 => (intro w hSw; have l0 := hSw.1.c0; have l1 := hSw.1.c1; have l2 := hSw.1.c2; have l3 := hSw.1.lt; clear hSw; go_simp; try with_reducible rfl)
      try simp only [Act.put, List.setIfInBounds_toArray, List.set_cons_zero, List.set_cons_succ]
      refine held_take 19 43 (v := ?vc19) rfl rfl (by kernel_rfl) (by kernel_rfl) (by kernel_rfl) (fun _ _ _ h => h) (by rfl) ?hyc19 hHeld ?restc19
      case hyc19 => (intro w hSw; clear hSw; go_simp; try with_reducible rfl)
      try simp only [Act.put, List.setIfInBounds_toArray, List.set_cons_zero, List.set_cons_succ]
      refine held_take 20 44 (v := ?vc20) rfl rfl (by kernel_rfl) (by kernel_rfl) (by kernel_rfl) (fun _ _ _ h => h) (by rfl) ?hyc20 hHeld ?restc20
      case hyc20 => (intro w hSw; clear hSw; go_simp; try with_reducible rfl)
      try simp only [Act.put, List.setIfInBounds_toArray, List.set_cons_zero, List.set_cons_succ]
      refine held_take 22 46 (v := ?vc22) rfl rfl (by kernel_rfl) (by kernel_rfl) (by kernel_rfl) (fun _ _ _ h => h) (by rfl) ?hyc22 hHeld ?restc22
      case hyc22 => (intro w hSw; have l0 := hSw.1.c0; have l1 := hSw.1.c1; have l2 := hSw.1.c2; have l3 := hSw.1.lt; clear hSw; go_simp; try with_reducible rfl)
      try simp only [Act.put, List.setIfInBounds_toArray, List.set_cons_zero, List.set_cons_succ]
      refine held_take 23 47 (v := ?vc23) rfl rfl (by kernel_rfl) (by kernel_rfl) (by kernel_rfl) (fun _ _ _ h => h) (by rfl) ?hyc23 hHeld ?restc23
      case hyc23 => (intro w hSw; clear hSw; go_simp; try with_reducible rfl)
      try simp only [Act.put, List.setIfInBounds_toArray, List.set_cons_zero, List.set_cons_succ]
      refine held_take 24 48 (v := ?vc24) rfl rfl (by kernel_rfl) (by kernel_rfl) (by kernel_rfl) (fun _ _ _ h => h) (by rfl) ?hyc24 hHeld ?restc24
      case hyc24 => (intro w hSw; clear hSw; go_simp; try with_reducible rfl)
      try simp only [Act.put, List.setIfInBounds_toArray, List.set_cons_zero, List.set_cons_succ]
      refine wpAnyH_ready (rs := [21]) (by kernel_rfl) (by simp) ?_
      refine AllReadyH.cons rfl (fun K hK => ?_) AllReadyH.nil
      go_simp
      refine (CA.out _ hHeld.2.1).mono ?_
      rintro e z4 ⟨rfl, bb⟩
      have nn := hHeld.bel bb
      have R4 := Lib.hid (below_then R3.out bb)
      clear bb hHeld
      refine hK.out _ _ nn (fun hHeld => ?_)
      clear hK K nn
      try simp only [Act.put, List.setIfInBounds_toArray, List.set_cons_zero, List.set_cons_succ]
      refine wpAnyH_ready (rs := [25]) (by kernel_rfl) (by simp) ?_
      refine AllReadyH.cons rfl (fun K hK => ?_) AllReadyH.nil
      go_simp
      refine (RC.out _ hHeld.2.1).mono ?_
      rintro e z5 ⟨rfl, bb⟩
      have nn := hHeld.bel bb
      have R5 := Lib.hid (below_then R4.out bb)
      clear bb hHeld
      refine hK.out _ _ nn (fun hHeld => ?_)
      clear hK K nn
      try simp only [Act.put, List.setIfInBounds_toArray, List.set_cons_zero, List.set_cons_succ]
      refine held_take 26 50 (v := .bool false) rfl rfl (by kernel_rfl) (by kernel_rfl) (by kernel_rfl) (fun _ _ _ h => h) (by rfl) ?hyc26 hHeld ?restc26
      case hyc26 => (intro w hSw; clear hSw; go_simp; try with_reducible rfl)
      try simp only [Act.put, List.setIfInBounds_toArray, List.set_cons_zero, List.set_cons_succ]
      refine held_take 27 51 (v := .bool false) rfl rfl (by kernel_rfl) (by kernel_rfl) (by kernel_rfl) (fun _ _ _ h => h) (by rfl) ?hyc27 hHeld ?restc27
      case hyc27 => (intro w hSw; clear hSw; go_simp; try with_reducible rfl)
      try simp only [Act.put, List.setIfInBounds_toArray, List.set_cons_zero, List.set_cons_succ]
      -- last: R5; left: []
      refine wpAnyH_done (by kernel_rfl) ?_ _
      try simp only [Exit.then]
      have C4 := Lib.hid hHeld
      clear hHeld C3 CO DE CA RC n2 n3 n4
      have c0 := C4.out.1.c0
      have c1 := C4.out.1.c1
      have c2 := C4.out.1.c2
      have lg := C4.out.1.lt
      have CP := Lib.hid (fun W (h : In W t (.slice p t.ts.length p')) => copy_any t (.slice p t.ts.length p') W h hsz)
      by_cases hm : T.may t = true
      · rw [hm] at RM
        have SA := Lib.hid (fun u W h1 h2 => same_any t u t (.slice p t.ts.length p') W h1 h2)
        have RS := Lib.hid (fun u W h1 h2 => refSame_any t u t (.slice p t.ts.length p') W h1 h2)
        rw [hm, same_self] at SA
        rw [same_self] at RS
        go_wp2_with fail
        refine (CP.out _ C4.out.2.1).mono ?_
        rintro e y1 ⟨bb, hif⟩
        rw [if_pos hm] at hif
        obtain ⟨u, rfl, hu⟩ := hif
        obtain ⟨r, r', rfl⟩ := hu.slice
        have C5 := Lib.hid (C4.out.bel bb)
        have U5 := Lib.hid (InN.in _ _ hu)
        have gc := I3.new y1 (.string t.s) (.bool t.l) (.slice r t.ts.length r')
        have C6 := Lib.hid (C5.out.bel (bel1 y1 (.cells #[.string t.s, .bool t.l, .slice r t.ts.length r'] 24)))
        have U6 := Lib.hid (U5.out.bel (bel1 y1 (.cells #[.string t.s, .bool t.l, .slice r t.ts.length r'] 24)))
        have GC := Lib.hid gc
        clear bb hu gc c0 c1 c2 lg MA
        have lg0 := C5.out.1.lt
        have e0 := C5.out.1.c0
        have e1 := C5.out.1.c1
        have e2 := C5.out.1.c2
        go_wp2_with fail
        refine (RM.out _ C6.out.2.1).mono ?_
        rintro e y2 ⟨rfl, bb⟩
        have C7 := Lib.hid (C6.out.bel bb)
        have U7 := Lib.hid (U6.out.bel bb)
        have I7 := Lib.hid (GC.out.bel bb)
        clear bb C6 U6 GC lg0 e0 e1 e2
        have e0 := C7.out.1.c0
        have e1 := C7.out.1.c1
        have e2 := C7.out.1.c2
        have le := C7.out.1.lt
        have d0 := I7.out.c0
        have d1 := I7.out.c1
        have d2 := I7.out.c2
        have ld := I7.out.lt
        go_wp2_with fail
        refine (RS.out _ _ U7.out C7.out.2.1).mono ?_
        rintro e y3 ⟨rfl, bb⟩
        have C8 := Lib.hid (C7.out.bel bb)
        have U8 := Lib.hid (U7.out.bel bb)
        have I8 := Lib.hid (I7.out.bel bb)
        clear bb C7 U7 I7 e0 e1 e2 le d0 d1 d2 ld
        have e0 := C8.out.1.c0
        have e1 := C8.out.1.c1
        have e2 := C8.out.1.c2
        have le := C8.out.1.lt
        have d0 := I8.out.c0
        have d1 := I8.out.c1
        have d2 := I8.out.c2
        have ld := I8.out.lt
        go_wp2_with fail
        refine (SA.out _ _ U8.out C8.out.2.1).mono ?_
        rintro e y4 ⟨rfl, bb⟩
        have C9 := Lib.hid (C8.out.bel bb)
        clear bb
        go_wp2
        go_ret
        exact ⟨rfl, C9.out.2.2⟩
      · have hm' : T.may t = false := by simpa using hm
        rw [hm'] at RM
        have SA := Lib.hid (fun W h1 h2 => same_any t (.slice p t.ts.length p') t (.slice p t.ts.length p') W h1 h2)
        have RS := Lib.hid (fun W => refSame_any tE (.slice none 0 0) tE (.slice none 0 0) W ⟨by decide, by simp [maxLen], none, 0, rfl, trivial⟩ ⟨by decide, by simp [maxLen], none, 0, rfl, trivial⟩)
        rw [hm', Bool.false_and] at SA
        rw [same_self] at RS
        go_wp2_with fail
        refine (CP.out _ C4.out.2.1).mono ?_
        rintro e y1 ⟨bb, hif⟩
        rw [if_neg hm] at hif
        subst hif
        have C5 := Lib.hid (C4.out.bel bb)
        have gc := I3.new y1 (.string ⟨#[]⟩) (.bool false) (.slice none 0 0)
        have C6 := Lib.hid (C5.out.bel (bel1 y1 (.cells #[.string ⟨#[]⟩, .bool false, .slice none 0 0] 24)))
        have GC := Lib.hid gc
        clear bb gc c0 c1 c2 lg MA hm hm'
        have lg0 := C5.out.1.lt
        have e0 := C5.out.1.c0
        have e1 := C5.out.1.c1
        have e2 := C5.out.1.c2
        go_wp2_with fail
        refine (RM.out _ C6.out.2.1).mono ?_
        rintro e y2 ⟨rfl, bb⟩
        have C7 := Lib.hid (C6.out.bel bb)
        have I7 := Lib.hid (GC.out.bel bb)
        clear bb C6 GC lg0 e0 e1 e2
        have d0 := I7.out.c0
        have d1 := I7.out.c1
        have d2 := I7.out.c2
        have ld := I7.out.lt
        go_wp2_with fail
        refine (RS.out _).mono ?_
        rintro e y3 ⟨rfl, bb⟩
        have C8 := Lib.hid (C7.out.bel bb)
        clear bb C7 I7 d0 d1 d2 ld
        have e0 := C8.out.1.c0
        have e1 := C8.out.1.c1
        have e2 := C8.out.1.c2
        have le := C8.out.1.lt
        go_wp2_with fail
        refine (SA.out _ C8.out.2.1 C8.out.2.1).mono ?_
        rintro e y4 ⟨rfl, bb⟩
        have C9 := Lib.hid (C8.out.bel bb)
        clear bb
        go_wp2
        go_ret
        exact ⟨rfl, C9.out.2.2⟩
    · have hc2 : 1024 < N := by omega
      clear hin hc
      have n2 : ((0 : Int) != (0 : Int)) = false := by simp
      have n3 : ((0 : Int) != (0 : Int)) = false := by simp
      go_upto_region 8 with fail
      have hHeld := C3.out.drew
      have BF := Lib.hid ((Below.refl z1.heap.size z1).drew)
      refine wp_region_held_drew (S := Cx t (.slice p t.ts.length p') g w) (by kernel_rfl) hHeld (fun hHeld => ?_)
      refine held_take 0 24 (v := ?vd0) rfl rfl (by kernel_rfl) (by kernel_rfl) (by kernel_rfl) (fun _ _ _ h => h) (by rfl) ?hyd0 hHeld ?restd0
      case hyd0 => (intro w hSw; have l0 := hSw.1.c0; have l1 := hSw.1.c1; have l2 := hSw.1.c2; have l3 := hSw.1.lt; clear hSw; go_simp; try with_reducible rfl)
      try simp only [Act.put, List.setIfInBounds_toArray, List.set_cons_zero, List.set_cons_succ]
      refine held_take 2 26 (v := ?vd2) rfl rfl (by kernel_rfl) (by kernel_rfl) (by kernel_rfl) (fun _ _ _ h => h) (by rfl) ?hyd2 hHeld ?restd2
      case hyd2 => (intro w hSw; have l0 := hSw.1.c0; have l1 := hSw.1.c1; have l2 := hSw.1.c2; have l3 := hSw.1.lt; clear hSw; go_simp; try with_reducible rfl)
      try simp only [Act.put, List.setIfInBounds_toArray, List.set_cons_zero, List.set_cons_succ]
      refine wpAnyH_ready (rs := [1]) (by kernel_rfl) (by simp) ?_
      refine AllReadyH.cons rfl (fun K hK => ?_) AllReadyH.nil
      go_simp
      refine (MA.out _ hHeld.2.1).mono ?_
      rintro e z0 ⟨rfl, bb⟩
      have nn := hHeld.bel bb
      have R0 := Lib.hid (below_then BF.out bb)
      clear bb hHeld
      refine hK.out _ _ nn (fun hHeld => ?_)
      clear hK K nn
      try simp only [Act.put, List.setIfInBounds_toArray, List.set_cons_zero, List.set_cons_succ]
      refine wpAnyH_ready (rs := [3]) (by kernel_rfl) (by simp) ?_
      refine AllReadyH.cons rfl (fun K hK => ?_) AllReadyH.nil
      go_simp
      refine (RM.out _ hHeld.2.1).mono ?_
      rintro e z1 ⟨rfl, bb⟩
      have nn := hHeld.bel bb
      have R1 := Lib.hid (below_then R0.out bb)
      clear bb hHeld
      refine hK.out _ _ nn (fun hHeld => ?_)
      clear hK K nn
      try simp only [Act.put, List.setIfInBounds_toArray, List.set_cons_zero, List.set_cons_succ]
      refine held_take 4 28 (v := .bool false) rfl rfl (by kernel_rfl) (by kernel_rfl) (by kernel_rfl) (fun _ _ _ h => h) (by rfl) ?hyd4 hHeld ?restd4
      case hyd4 => (intro w hSw; clear hSw; go_simp; try with_reducible rfl)
      try simp only [Act.put, List.setIfInBounds_toArray, List.set_cons_zero, List.set_cons_succ]
      refine held_take 5 29 (v := .bool false) rfl rfl (by kernel_rfl) (by kernel_rfl) (by kernel_rfl) (fun _ _ _ h => h) (by rfl) ?hyd5 hHeld ?restd5
      case hyd5 => (intro w hSw; clear hSw; go_simp; try with_reducible rfl)
      try simp only [Act.put, List.setIfInBounds_toArray, List.set_cons_zero, List.set_cons_succ]
      refine held_take 6 30 (v := ?vd6) rfl rfl (by kernel_rfl) (by kernel_rfl) (by kernel_rfl) (fun _ _ _ h => h) (by rfl) ?hyd6 hHeld ?restd6
      case hyd6 => (intro w hSw; have l0 := hSw.1.c0; have l1 := hSw.1.c1; have l2 := hSw.1.c2; have l3 := hSw.1.lt; clear hSw; go_simp; try with_reducible rfl)
      try simp only [Act.put, List.setIfInBounds_toArray, List.set_cons_zero, List.set_cons_succ]
      refine held_take 8 32 (v := ?vd8) rfl rfl (by kernel_rfl) (by kernel_rfl) (by kernel_rfl) (fun _ _ _ h => h) (by rfl) ?hyd8 hHeld ?restd8
      case hyd8 => (intro w hSw; clear hSw; go_simp; try with_reducible rfl)
      try simp only [Act.put, List.setIfInBounds_toArray, List.set_cons_zero, List.set_cons_succ]
      refine wpAnyH_ready (rs := [7]) (by kernel_rfl) (by simp) ?_
      refine AllReadyH.cons rfl (fun K hK => ?_) AllReadyH.nil
      go_simp
      refine (CO.out _ hHeld.2.1).mono ?_
      rintro e z2 ⟨rfl, bb⟩
      have nn := hHeld.bel bb
      have R2 := Lib.hid (below_then R1.out bb)
      clear bb hHeld
      refine hK.out _ _ nn (fun hHeld => ?_)
      clear hK K nn
      try simp only [Act.put, List.setIfInBounds_toArray, List.set_cons_zero, List.set_cons_succ]
      refine held_take 9 33 (v := .bool false) rfl rfl (by kernel_rfl) (by kernel_rfl) (by kernel_rfl) (fun _ _ _ h => h) (by rfl) ?hyd9 hHeld ?restd9
      case hyd9 => (intro w hSw; clear hSw; go_simp; try with_reducible rfl)
      try simp only [Act.put, List.setIfInBounds_toArray, List.set_cons_zero, List.set_cons_succ]
      refine held_take 10 34 (v := .bool false) rfl rfl (by kernel_rfl) (by kernel_rfl) (by kernel_rfl) (fun _ _ _ h => h) (by rfl) ?hyd10 hHeld ?restd10
      case hyd10 => (intro w hSw; clear hSw; go_simp; try with_reducible rfl)
      try simp only [Act.put, List.setIfInBounds_toArray, List.set_cons_zero, List.set_cons_succ]
      refine held_take 11 35 (v := .bool false) rfl rfl (by kernel_rfl) (by kernel_rfl) (by kernel_rfl) (fun _ _ _ h => h) (by rfl) ?hyd11 hHeld ?restd11
      case hyd11 => (intro w hSw; clear hSw; go_simp; try with_reducible rfl)
      try simp only [Act.put, List.setIfInBounds_toArray, List.set_cons_zero, List.set_cons_succ]
      refine held_take 12 36 (v := ?vd12) rfl rfl (by kernel_rfl) (by kernel_rfl) (by kernel_rfl) (fun _ _ _ h => h) (by rfl) ?hyd12 hHeld ?restd12
      case hyd12 => (intro w hSw; have l0 := hSw.1.c0; have l1 := hSw.1.c1; have l2 := hSw.1.c2; have l3 := hSw.1.lt; clear hSw; go_simp; try with_reducible rfl)
      try simp only [Act.put, List.setIfInBounds_toArray, List.set_cons_zero, List.set_cons_succ]
      refine held_take 14 38 (v := ?vd14) rfl rfl (by kernel_rfl) (by kernel_rfl) (by kernel_rfl) (fun _ _ _ h => h) (by rfl) ?hyd14 hHeld ?restd14
      case hyd14 => (intro w hSw; clear hSw; go_simp; try with_reducible rfl)
      try simp only [Act.put, List.setIfInBounds_toArray, List.set_cons_zero, List.set_cons_succ]
      refine wpAnyH_ready (rs := [13]) (by kernel_rfl) (by simp) ?_
      refine AllReadyH.cons rfl (fun K hK => ?_) AllReadyH.nil
      go_simp
      refine (DE.out _ hHeld.2.1).mono ?_
      rintro e z3 ⟨rfl, bb⟩
      have nn := hHeld.bel bb
      have R3 := Lib.hid (below_then R2.out bb)
      clear bb hHeld
      refine hK.out _ _ nn (fun hHeld => ?_)
      clear hK K nn
      try simp only [Act.put, List.setIfInBounds_toArray, List.set_cons_zero, List.set_cons_succ]
      refine held_take 15 39 (v := .bool false) rfl rfl (by kernel_rfl) (by kernel_rfl) (by kernel_rfl) (fun _ _ _ h => h) (by rfl) ?hyd15 hHeld ?restd15
      case hyd15 => (intro w hSw; clear hSw; go_simp; try with_reducible rfl)
      try simp only [Act.put, List.setIfInBounds_toArray, List.set_cons_zero, List.set_cons_succ]
      refine held_take 16 40 (v := .bool false) rfl rfl (by kernel_rfl) (by kernel_rfl) (by kernel_rfl) (fun _ _ _ h => h) (by rfl) ?hyd16 hHeld ?restd16
      case hyd16 => (intro w hSw; clear hSw; go_simp; try with_reducible rfl)
      try simp only [Act.put, List.setIfInBounds_toArray, List.set_cons_zero, List.set_cons_succ]
      refine held_take 17 41 (v := .bool false) rfl rfl (by kernel_rfl) (by kernel_rfl) (by kernel_rfl) (fun _ _ _ h => h) (by rfl) ?hyd17 hHeld ?restd17
      case hyd17 => (intro w hSw; clear hSw; go_simp; try with_reducible rfl)
      try simp only [Act.put, List.setIfInBounds_toArray, List.set_cons_zero, List.set_cons_succ]
      refine held_take 18 42 (v := ?vd18) rfl rfl (by kernel_rfl) (by kernel_rfl) (by kernel_rfl) (fun _ _ _ h => h) (by rfl) ?hyd18 hHeld ?restd18
      case hyd18 => (intro w hSw; have l0 := hSw.1.c0; have l1 := hSw.1.c1; have l2 := hSw.1.c2; have l3 := hSw.1.lt; clear hSw; go_simp; try with_reducible rfl)
      try simp only [Act.put, List.setIfInBounds_toArray, List.set_cons_zero, List.set_cons_succ]
      refine held_take 19 43 (v := ?vd19) rfl rfl (by kernel_rfl) (by kernel_rfl) (by kernel_rfl) (fun _ _ _ h => h) (by rfl) ?hyd19 hHeld ?restd19
      case hyd19 => (intro w hSw; clear hSw; go_simp; try with_reducible rfl)
      try simp only [Act.put, List.setIfInBounds_toArray, List.set_cons_zero, List.set_cons_succ]
      refine held_take 20 44 (v := ?vd20) rfl rfl (by kernel_rfl) (by kernel_rfl) (by kernel_rfl) (fun _ _ _ h => h) (by rfl) ?hyd20 hHeld ?restd20
      case hyd20 => (intro w hSw; clear hSw; go_simp; try with_reducible rfl)
      try simp only [Act.put, List.setIfInBounds_toArray, List.set_cons_zero, List.set_cons_succ]
      refine held_take 22 46 (v := ?vd22) rfl rfl (by kernel_rfl) (by kernel_rfl) (by kernel_rfl) (fun _ _ _ h => h) (by rfl) ?hyd22 hHeld ?restd22
      case hyd22 => (intro w hSw; have l0 := hSw.1.c0; have l1 := hSw.1.c1; have l2 := hSw.1.c2; have l3 := hSw.1.lt; clear hSw; go_simp; try with_reducible rfl)
      try simp only [Act.put, List.setIfInBounds_toArray, List.set_cons_zero, List.set_cons_succ]
      refine held_take 23 47 (v := ?vd23) rfl rfl (by kernel_rfl) (by kernel_rfl) (by kernel_rfl) (fun _ _ _ h => h) (by rfl) ?hyd23 hHeld ?restd23
      case hyd23 => (intro w hSw; clear hSw; go_simp; try with_reducible rfl)
      try simp only [Act.put, List.setIfInBounds_toArray, List.set_cons_zero, List.set_cons_succ]
      refine held_take 24 48 (v := ?vd24) rfl rfl (by kernel_rfl) (by kernel_rfl) (by kernel_rfl) (fun _ _ _ h => h) (by rfl) ?hyd24 hHeld ?restd24
      case hyd24 => (intro w hSw; clear hSw; go_simp; try with_reducible rfl)
      try simp only [Act.put, List.setIfInBounds_toArray, List.set_cons_zero, List.set_cons_succ]
      refine wpAnyH_ready (rs := [21]) (by kernel_rfl) (by simp) ?_
      refine AllReadyH.cons rfl (fun K hK => ?_) AllReadyH.nil
      go_simp
      refine (CA.out _ hHeld.2.1).mono ?_
      rintro e z4 ⟨rfl, bb⟩
      have nn := hHeld.bel bb
      have R4 := Lib.hid (below_then R3.out bb)
      clear bb hHeld
      refine hK.out _ _ nn (fun hHeld => ?_)
      clear hK K nn
      try simp only [Act.put, List.setIfInBounds_toArray, List.set_cons_zero, List.set_cons_succ]
      refine wpAnyH_ready (rs := [25]) (by kernel_rfl) (by simp) ?_
      refine AllReadyH.cons rfl (fun K hK => ?_) AllReadyH.nil
      go_simp
      refine (RC.out _ hHeld.2.1).mono ?_
      rintro e z5 ⟨rfl, bb⟩
      have nn := hHeld.bel bb
      have R5 := Lib.hid (below_then R4.out bb)
      clear bb hHeld
      refine hK.out _ _ nn (fun hHeld => ?_)
      clear hK K nn
      try simp only [Act.put, List.setIfInBounds_toArray, List.set_cons_zero, List.set_cons_succ]
      refine held_take 26 50 (v := .bool false) rfl rfl (by kernel_rfl) (by kernel_rfl) (by kernel_rfl) (fun _ _ _ h => h) (by rfl) ?hyd26 hHeld ?restd26
      case hyd26 => (intro w hSw; clear hSw; go_simp; try with_reducible rfl)
      try simp only [Act.put, List.setIfInBounds_toArray, List.set_cons_zero, List.set_cons_succ]
      refine held_take 27 51 (v := .bool false) rfl rfl (by kernel_rfl) (by kernel_rfl) (by kernel_rfl) (fun _ _ _ h => h) (by rfl) ?hyd27 hHeld ?restd27
      case hyd27 => (intro w hSw; clear hSw; go_simp; try with_reducible rfl)
      try simp only [Act.put, List.setIfInBounds_toArray, List.set_cons_zero, List.set_cons_succ]
      -- last: R5; left: []
      refine wpAnyH_done (by kernel_rfl) ?_ _
      try simp only [Exit.then]
      have C4 := Lib.hid hHeld
      clear hHeld C3 CO DE CA RC n2 n3 n4
      have c0 := C4.out.1.c0
      have c1 := C4.out.1.c1
      have c2 := C4.out.1.c2
      have lg := C4.out.1.lt
      have CP := Lib.hid (fun W (h : In W t (.slice p t.ts.length p')) => copy_any t (.slice p t.ts.length p') W h hsz)
      by_cases hm : T.may t = true
      · rw [hm] at RM
        have SA := Lib.hid (fun u W h1 h2 => same_any t u t (.slice p t.ts.length p') W h1 h2)
        have RS := Lib.hid (fun u W h1 h2 => refSame_any t u t (.slice p t.ts.length p') W h1 h2)
        rw [hm, same_self] at SA
        rw [same_self] at RS
        go_wp2_with fail
        refine (CP.out _ C4.out.2.1).mono ?_
        rintro e y1 ⟨bb, hif⟩
        rw [if_pos hm] at hif
        obtain ⟨u, rfl, hu⟩ := hif
        obtain ⟨r, r', rfl⟩ := hu.slice
        have C5 := Lib.hid (C4.out.bel bb)
        have U5 := Lib.hid (InN.in _ _ hu)
        have gc := I3.new y1 (.string t.s) (.bool t.l) (.slice r t.ts.length r')
        have C6 := Lib.hid (C5.out.bel (bel1 y1 (.cells #[.string t.s, .bool t.l, .slice r t.ts.length r'] 24)))
        have U6 := Lib.hid (U5.out.bel (bel1 y1 (.cells #[.string t.s, .bool t.l, .slice r t.ts.length r'] 24)))
        have GC := Lib.hid gc
        clear bb hu gc c0 c1 c2 lg MA
        have lg0 := C5.out.1.lt
        have e0 := C5.out.1.c0
        have e1 := C5.out.1.c1
        have e2 := C5.out.1.c2
        go_wp2_with fail
        refine (RM.out _ C6.out.2.1).mono ?_
        rintro e y2 ⟨rfl, bb⟩
        have C7 := Lib.hid (C6.out.bel bb)
        have U7 := Lib.hid (U6.out.bel bb)
        have I7 := Lib.hid (GC.out.bel bb)
        clear bb C6 U6 GC lg0 e0 e1 e2
        have e0 := C7.out.1.c0
        have e1 := C7.out.1.c1
        have e2 := C7.out.1.c2
        have le := C7.out.1.lt
        have d0 := I7.out.c0
        have d1 := I7.out.c1
        have d2 := I7.out.c2
        have ld := I7.out.lt
        go_wp2_with fail
        refine (RS.out _ _ U7.out C7.out.2.1).mono ?_
        rintro e y3 ⟨rfl, bb⟩
        have C8 := Lib.hid (C7.out.bel bb)
        have U8 := Lib.hid (U7.out.bel bb)
        have I8 := Lib.hid (I7.out.bel bb)
        clear bb C7 U7 I7 e0 e1 e2 le d0 d1 d2 ld
        have e0 := C8.out.1.c0
        have e1 := C8.out.1.c1
        have e2 := C8.out.1.c2
        have le := C8.out.1.lt
        have d0 := I8.out.c0
        have d1 := I8.out.c1
        have d2 := I8.out.c2
        have ld := I8.out.lt
        go_wp2_with fail
        refine (SA.out _ _ U8.out C8.out.2.1).mono ?_
        rintro e y4 ⟨rfl, bb⟩
        have C9 := Lib.hid (C8.out.bel bb)
        clear bb
        go_wp2
        go_ret
        exact ⟨rfl, C9.out.2.2⟩
      · have hm' : T.may t = false := by simpa using hm
        rw [hm'] at RM
        have SA := Lib.hid (fun W h1 h2 => same_any t (.slice p t.ts.length p') t (.slice p t.ts.length p') W h1 h2)
        have RS := Lib.hid (fun W => refSame_any tE (.slice none 0 0) tE (.slice none 0 0) W ⟨by decide, by simp [maxLen], none, 0, rfl, trivial⟩ ⟨by decide, by simp [maxLen], none, 0, rfl, trivial⟩)
        rw [hm', Bool.false_and] at SA
        rw [same_self] at RS
        go_wp2_with fail
        refine (CP.out _ C4.out.2.1).mono ?_
        rintro e y1 ⟨bb, hif⟩
        rw [if_neg hm] at hif
        subst hif
        have C5 := Lib.hid (C4.out.bel bb)
        have gc := I3.new y1 (.string ⟨#[]⟩) (.bool false) (.slice none 0 0)
        have C6 := Lib.hid (C5.out.bel (bel1 y1 (.cells #[.string ⟨#[]⟩, .bool false, .slice none 0 0] 24)))
        have GC := Lib.hid gc
        clear bb gc c0 c1 c2 lg MA hm hm'
        have lg0 := C5.out.1.lt
        have e0 := C5.out.1.c0
        have e1 := C5.out.1.c1
        have e2 := C5.out.1.c2
        go_wp2_with fail
        refine (RM.out _ C6.out.2.1).mono ?_
        rintro e y2 ⟨rfl, bb⟩
        have C7 := Lib.hid (C6.out.bel bb)
        have I7 := Lib.hid (GC.out.bel bb)
        clear bb C6 GC lg0 e0 e1 e2
        have d0 := I7.out.c0
        have d1 := I7.out.c1
        have d2 := I7.out.c2
        have ld := I7.out.lt
        go_wp2_with fail
        refine (RS.out _).mono ?_
        rintro e y3 ⟨rfl, bb⟩
        have C8 := Lib.hid (C7.out.bel bb)
        clear bb C7 I7 d0 d1 d2 ld
        have e0 := C8.out.1.c0
        have e1 := C8.out.1.c1
        have e2 := C8.out.1.c2
        have le := C8.out.1.lt
        go_wp2_with fail
        refine (SA.out _ C8.out.2.1 C8.out.2.1).mono ?_
        rintro e y4 ⟨rfl, bb⟩
        have C9 := Lib.hid (C8.out.bel bb)
        clear bb
        go_wp2
        go_ret
        exact ⟨rfl, C9.out.2.2⟩
end Go.Proofs.Ytdkeickcbpjedaa
