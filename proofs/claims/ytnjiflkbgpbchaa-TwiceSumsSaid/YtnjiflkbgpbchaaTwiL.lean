/-
  For every texts TwiceSums answers true, for every text and bytes TwiceTurned does. Conditions: a text has at most maxLen bytes.
-/
import Derived.Test.YtnjiflkbgpbchaaTwiA
import Derived.Test.YtnjiflkbgpbchaaRow
namespace Go.Proofs.Ytnjiflkbgpbchaa
open Go.RowKit Go.Sort

theorem dig_none : digL ByteArray.empty = [227, 176, 196, 66, 152, 252, 28, 20, 154, 251, 244, 200, 153, 111, 185, 36, 39, 174, 65, 228, 100, 155, 147, 76, 164, 149, 153, 27, 120, 82, 184, 85] := by decide +kernel
theorem chk_none : bs (chk ByteArray.empty) = ⟨#[93, 246, 224, 226]⟩ := by
  have : chk ByteArray.empty = [93, 246, 224, 226] := by
    rw [chk, dig2, dig_none]
    decide +kernel
  rw [this]
  rfl

theorem alive_any (w : World) : Calls Try.prog 5 #[] w fun e w' => e = .returned (.bool true) ∧ Below w.heap.size w w' := by
  have HC := Lib.hid (check_any ByteArray.empty)
  rw [chk_none] at HC
  go_enter Try.func5, Try.ntmps5
  go_wp2_with fail
  refine (HC.out _ (by decide)).mono ?_
  rintro e w1 ⟨rfl, b1⟩
  have B1 := Lib.hid b1
  clear b1
  go_wp2
  go_ret
  exact ⟨rfl, B1.out⟩

theorem twiceSums_big (s o : ByteArray) (w : World) (hs : 500 < s.size ∨ 500 < o.size) (hm : s.size ≤ maxLen) (ho : o.size ≤ maxLen) :
    Calls Try.prog 3 #[.string s, .string o] w fun e w' => e = .returned (.bool true) ∧ Below w.heap.size w w' := by
  unfold maxLen at hm ho
  by_cases h1 : 500 < s.size
  · have t1 : decide ((500 : Int) < (s.size : Int)) = true := by simp; omega
    clear hs
    go_enter Try.func3, Try.ntmps3
    go_wp2_with fail
    refine (alive_any _).mono ?_
    rintro e w1 ⟨rfl, b1⟩
    have B1 := Lib.hid b1
    clear b1
    go_wp2
    go_ret
    exact ⟨rfl, B1.out⟩
  · have t1 : decide ((500 : Int) < (s.size : Int)) = false := by simp; omega
    have t2 : decide ((500 : Int) < (o.size : Int)) = true := by simp; omega
    clear hs
    go_enter Try.func3, Try.ntmps3
    go_wp2_with fail
    refine (alive_any _).mono ?_
    rintro e w1 ⟨rfl, b1⟩
    have B1 := Lib.hid b1
    clear b1
    go_wp2
    go_ret
    exact ⟨rfl, B1.out⟩

theorem same_bytes (a b : ByteArray) : (a.toList == b.toList) = decide (a = b) := by
  rw [Bool.eq_iff_iff, beq_iff_eq, decide_eq_true_eq, ByteArray.toList_eq, ByteArray.toList_eq]
  exact ⟨fun h => by rw [← bs_of a, h, bs_of], fun h => by rw [h]⟩

set_option maxRecDepth 100000 in
set_option maxHeartbeats 2000000 in
theorem twiceSums_small (s o : ByteArray) (w : World) (h1 : s.size ≤ 500) (h2 : o.size ≤ 500) :
    Calls Try.prog 3 #[.string s, .string o] w fun e w' => e = .returned (.bool true) ∧ Below w.heap.size w w' := by
  have t1 : decide ((500 : Int) < (s.size : Int)) = false := by simp; omega
  have t2 : decide ((500 : Int) < (o.size : Int)) = false := by simp; omega
  obtain ⟨hz, hsk⟩ := zero_of_info key_info
  have HSK := Lib.hid hsk
  obtain ⟨X, hX⟩ : ∃ X, X = (KEY.map fun (n : Nat) => Value.int .u32 (n : Int)).toArray := ⟨_, rfl⟩
  have hk : wordsOf .u32 (K64 ++ F8) = .agg X := by rw [hX]; rfl
  have hX2 : Value.agg X = wordsOf .u32 KEY := by rw [hX]; rfl
  have hd : (bs (digL s)).size ≤ 1048576 := by rw [bs_size, dig_length]; omega
  have h3 := fun w => sum2_any s w (by omega)
  have h4 := fun w => refCheck_any s X w hX (by omega)
  have h5 := fun w => refDigest_any s X w hX (by omega)
  have h6 := fun w => refDigest_any (bs (digL s)) X w hX hd
  have h7 := fun w => check_any s w (by omega)
  have h8 := fun w => fits_any s (bs (chk s)) w (by omega)
  have h9 := fun w => fits_any s o w (by omega)
  rw [show digL (bs (digL s)) = dig2 s from rfl] at h6
  rw [← same_bytes] at h9
  rw [decide_eq_true rfl] at h8
  obtain ⟨D, hD⟩ : ∃ D, D = bs (dig2 s) := ⟨_, rfl⟩
  obtain ⟨E, hE⟩ : ∃ E, E = bs (digL s) := ⟨_, rfl⟩
  obtain ⟨C, hC⟩ : ∃ C, C = bs (chk s) := ⟨_, rfl⟩
  rw [← hD] at h3 h6
  rw [← hE] at h5 h6
  rw [← hC] at h4 h7 h8 h9
  have H3 := Lib.hid h3
  have H4 := Lib.hid h4
  have H5 := Lib.hid h5
  have H6 := Lib.hid h6
  have H7 := Lib.hid h7
  have H8 := Lib.hid h8
  have H9 := Lib.hid h9
  have HK := Lib.hid hk
  have HX := Lib.hid hX
  have HX2 := Lib.hid hX2
  clear hX hk hX2 hsk hd h3 h4 h5 h6 h7 h8 h9 hD hE hC
  go_enter Try.func3, Try.ntmps3
  go_wp2_with fail
  refine (alive_any _).mono ?_
  rintro e w1 ⟨rfl, b1⟩
  have B1 := Lib.hid b1
  clear b1
  go_wp2_with fail
  refine (makeKey_any _).mono ?_
  rw [HK.out]
  rintro e w2 ⟨rfl, b2⟩
  have B2 := below_then B1.out b2
  obtain ⟨kb, hkb⟩ : ∃ kb, kb = w2.heap.size := ⟨_, rfl⟩
  have Z := Nums.zeros .u32 27 w2 72
  obtain ⟨W3, hW3⟩ : ∃ W3, W3 = (w2.alloc (.cells (Array.replicate 72 (.int .u32 0)) 27)).setRow w2.heap.size (KEY.map fun (n : Nat) => Value.int .u32 (n : Int)).toArray := ⟨_, rfl⟩
  have hW4 := hW3
  rw [World.setRow_alloc_new] at hW4
  have R3 := Lib.hid (show Nums .u32 27 W3 kb KEY ∧ Below w.heap.size w W3 from by
    rw [hW4, hkb]
    exact ⟨Nums.new .u32 _ w2 KEY, B2.alloc B2.size _⟩)
  have HZ3 := Lib.hid (And.intro Z (And.intro hW3 hkb))
  clear b2 B2 Z hW3 hW4 hkb
  go_wp2_with (first
    | (refine wpList_store_nums (by with_reducible rfl) 27 (.tmp 5) (.tmp 18) (by with_reducible rfl) (by rfl) (.agg X) (by rfl) (m := KEY) HX2.out HZ3.out.1 rfl HSK.out W3 HZ3.out.2.1 ?_)
    | fail)
  rw [← HZ3.out.2.2]
  clear HZ3
  refine (H3.out _).mono ?_
  rintro e w4 ⟨rfl, b4⟩
  have R4 := Lib.hid (And.intro (R3.out.1.bel b4) (below_then R3.out.2 b4))
  clear b4
  go_wp2_with (first
    | (refine wpList_load_nums (by with_reducible rfl) 27 (.tmp 5) (by with_reducible rfl) (by rfl) R4.out.1 Try.underlying27 rfl HSK.out (.agg X) HX2.out ?_)
    | fail)
  refine (H4.out _).mono ?_
  rintro e w5 ⟨rfl, b5⟩
  have R5 := Lib.hid (And.intro (R4.out.1.bel b5) (below_then R4.out.2 b5))
  clear b5
  go_wp2_with fail
  have RD := Lib.hid (show Nums .u32 27 w5.drew kb KEY ∧ Below w.heap.size w w5.drew from ⟨R5.out.1.drew, R5.out.2.drew⟩)
  have RB := Lib.hid RD.out.2
  refine wp_region_held_drew (S := fun W => Nums .u32 27 W kb KEY) (by kernel_rfl) RD.out.1 (fun hHeld => ?_)
  refine held_take 0 24 (v := ?v0) rfl rfl (by kernel_rfl) (by kernel_rfl) (by kernel_rfl) (fun _ _ _ h => h) (by rfl) ?hy0 hHeld ?rest0
  case hy0 => (intro w hSw; clear hSw; go_simp; try with_reducible rfl)
  try simp only [Act.put, List.setIfInBounds_toArray, List.set_cons_zero, List.set_cons_succ]
  refine held_take 1 25 (v := .agg X) rfl rfl (by kernel_rfl) (by kernel_rfl) (by kernel_rfl) (fun _ _ _ h => h) (by rfl) (fun W hW => exec_load_nums 27 (.tmp 5) rfl rfl hW Try.underlying27 rfl HSK.out _ HX2.out) hHeld ?_
  try simp only [Act.put, List.setIfInBounds_toArray, List.set_cons_zero, List.set_cons_succ]
  refine held_take 2 26 (v := .agg X) rfl rfl (by kernel_rfl) (by kernel_rfl) (by kernel_rfl) (fun _ _ _ h => h) (by rfl) (fun W hW => exec_load_nums 27 (.tmp 5) rfl rfl hW Try.underlying27 rfl HSK.out _ HX2.out) hHeld ?_
  try simp only [Act.put, List.setIfInBounds_toArray, List.set_cons_zero, List.set_cons_succ]
  refine held_take 3 27 (v := ?v3) rfl rfl (by kernel_rfl) (by kernel_rfl) (by kernel_rfl) (fun _ _ _ h => h) (by rfl) ?hy3 hHeld ?rest3
  case hy3 => (intro w hSw; clear hSw; go_simp; try with_reducible rfl)
  try simp only [Act.put, List.setIfInBounds_toArray, List.set_cons_zero, List.set_cons_succ]
  refine wpAnyH_ready (rs := [4]) (by kernel_rfl) (by simp) ?_
  refine AllReadyH.cons rfl (fun K hK => ?_) AllReadyH.nil
  go_simp
  refine (H5.out _).mono ?_
  rintro e u6 ⟨rfl, b6⟩
  have n6 := Nums.bel hHeld b6
  have R6 := Lib.hid (below_then RB.out b6)
  clear b6 hHeld
  refine hK.out _ _ n6 (fun hHeld => ?_)
  clear hK K n6
  try simp only [Act.put, List.setIfInBounds_toArray, List.set_cons_zero, List.set_cons_succ]
  refine wpAnyH_ready (rs := [5]) (by kernel_rfl) (by simp) ?_
  refine AllReadyH.cons rfl (fun K hK => ?_) AllReadyH.nil
  go_simp
  refine (H6.out _).mono ?_
  rintro e u7 ⟨rfl, b7⟩
  have n7 := Nums.bel hHeld b7
  have R7 := Lib.hid (below_then R6.out b7)
  clear b7 hHeld
  refine hK.out _ _ n7 (fun hHeld => ?_)
  clear hK K n7
  try simp only [Act.put, List.setIfInBounds_toArray, List.set_cons_zero, List.set_cons_succ]
  refine held_take 6 30 (v := .bool true) rfl rfl (by kernel_rfl) (by kernel_rfl) (by kernel_rfl) (fun _ _ _ h => h) (by rfl) ?hy6 hHeld ?rest6
  case hy6 => (intro w hSw; clear hSw; go_simp; try with_reducible rfl)
  try simp only [Act.put, List.setIfInBounds_toArray, List.set_cons_zero, List.set_cons_succ]
  refine held_take 7 31 (v := .bool true) rfl rfl (by kernel_rfl) (by kernel_rfl) (by kernel_rfl) (fun _ _ _ h => h) (by rfl) ?hy7 hHeld ?rest7
  case hy7 => (intro w hSw; clear hSw; go_simp; try with_reducible rfl)
  try simp only [Act.put, List.setIfInBounds_toArray, List.set_cons_zero, List.set_cons_succ]
  refine held_take 8 32 (v := ?v8) rfl rfl (by kernel_rfl) (by kernel_rfl) (by kernel_rfl) (fun _ _ _ h => h) (by rfl) ?hy8 hHeld ?rest8
  case hy8 => (intro w hSw; clear hSw; go_simp; try with_reducible rfl)
  try simp only [Act.put, List.setIfInBounds_toArray, List.set_cons_zero, List.set_cons_succ]
  refine held_take 10 34 (v := ?v10) rfl rfl (by kernel_rfl) (by kernel_rfl) (by kernel_rfl) (fun _ _ _ h => h) (by rfl) ?hy10 hHeld ?rest10
  case hy10 => (intro w hSw; clear hSw; go_simp; try with_reducible rfl)
  try simp only [Act.put, List.setIfInBounds_toArray, List.set_cons_zero, List.set_cons_succ]
  refine wpAnyH_ready (rs := [9]) (by kernel_rfl) (by simp) ?_
  refine AllReadyH.cons rfl (fun K hK => ?_) AllReadyH.nil
  go_simp
  refine (H7.out _).mono ?_
  rintro e u8 ⟨rfl, b8⟩
  have n8 := Nums.bel hHeld b8
  have R8 := Lib.hid (below_then R7.out b8)
  clear b8 hHeld
  refine hK.out _ _ n8 (fun hHeld => ?_)
  clear hK K n8
  try simp only [Act.put, List.setIfInBounds_toArray, List.set_cons_zero, List.set_cons_succ]
  refine held_take 11 35 (v := .bool true) rfl rfl (by kernel_rfl) (by kernel_rfl) (by kernel_rfl) (fun _ _ _ h => h) (by rfl) ?hy11 hHeld ?rest11
  case hy11 => (intro w hSw; clear hSw; go_simp; try with_reducible rfl)
  try simp only [Act.put, List.setIfInBounds_toArray, List.set_cons_zero, List.set_cons_succ]
  refine held_take 12 36 (v := .bool true) rfl rfl (by kernel_rfl) (by kernel_rfl) (by kernel_rfl) (fun _ _ _ h => h) (by rfl) ?hy12 hHeld ?rest12
  case hy12 => (intro w hSw; clear hSw; go_simp; try with_reducible rfl)
  try simp only [Act.put, List.setIfInBounds_toArray, List.set_cons_zero, List.set_cons_succ]
  refine held_take 13 37 (v := .bool true) rfl rfl (by kernel_rfl) (by kernel_rfl) (by kernel_rfl) (fun _ _ _ h => h) (by rfl) ?hy13 hHeld ?rest13
  case hy13 => (intro w hSw; clear hSw; go_simp; try with_reducible rfl)
  try simp only [Act.put, List.setIfInBounds_toArray, List.set_cons_zero, List.set_cons_succ]
  refine held_take 14 38 (v := ?v14) rfl rfl (by kernel_rfl) (by kernel_rfl) (by kernel_rfl) (fun _ _ _ h => h) (by rfl) ?hy14 hHeld ?rest14
  case hy14 => (intro w hSw; clear hSw; go_simp; try with_reducible rfl)
  try simp only [Act.put, List.setIfInBounds_toArray, List.set_cons_zero, List.set_cons_succ]
  refine held_take 15 39 (v := ?v15) rfl rfl (by kernel_rfl) (by kernel_rfl) (by kernel_rfl) (fun _ _ _ h => h) (by rfl) ?hy15 hHeld ?rest15
  case hy15 => (intro w hSw; clear hSw; go_simp; try with_reducible rfl)
  try simp only [Act.put, List.setIfInBounds_toArray, List.set_cons_zero, List.set_cons_succ]
  refine wpAnyH_ready (rs := [16]) (by kernel_rfl) (by simp) ?_
  refine AllReadyH.cons rfl (fun K hK => ?_) AllReadyH.nil
  go_simp
  refine (H8.out _).mono ?_
  rintro e u9 ⟨rfl, b9⟩
  have n9 := Nums.bel hHeld b9
  have R9 := Lib.hid (below_then R8.out b9)
  clear b9 hHeld
  refine hK.out _ _ n9 (fun hHeld => ?_)
  clear hK K n9
  try simp only [Act.put, List.setIfInBounds_toArray, List.set_cons_zero, List.set_cons_succ]
  refine held_take 17 41 (v := .bool true) rfl rfl (by kernel_rfl) (by kernel_rfl) (by kernel_rfl) (fun _ _ _ h => h) (by rfl) ?hy17 hHeld ?rest17
  case hy17 => (intro w hSw; clear hSw; go_simp; try with_reducible rfl)
  try simp only [Act.put, List.setIfInBounds_toArray, List.set_cons_zero, List.set_cons_succ]
  refine held_take 18 42 (v := .bool true) rfl rfl (by kernel_rfl) (by kernel_rfl) (by kernel_rfl) (fun _ _ _ h => h) (by rfl) ?hy18 hHeld ?rest18
  case hy18 => (intro w hSw; clear hSw; go_simp; try with_reducible rfl)
  try simp only [Act.put, List.setIfInBounds_toArray, List.set_cons_zero, List.set_cons_succ]
  refine held_take 19 43 (v := ?v19) rfl rfl (by kernel_rfl) (by kernel_rfl) (by kernel_rfl) (fun _ _ _ h => h) (by rfl) ?hy19 hHeld ?rest19
  case hy19 => (intro w hSw; clear hSw; go_simp; try with_reducible rfl)
  try simp only [Act.put, List.setIfInBounds_toArray, List.set_cons_zero, List.set_cons_succ]
  refine held_take 20 44 (v := ?v20) rfl rfl (by kernel_rfl) (by kernel_rfl) (by kernel_rfl) (fun _ _ _ h => h) (by rfl) ?hy20 hHeld ?rest20
  case hy20 => (intro w hSw; clear hSw; go_simp; try with_reducible rfl)
  try simp only [Act.put, List.setIfInBounds_toArray, List.set_cons_zero, List.set_cons_succ]
  refine held_take 22 46 (v := ?v22) rfl rfl (by kernel_rfl) (by kernel_rfl) (by kernel_rfl) (fun _ _ _ h => h) (by rfl) ?hy22 hHeld ?rest22
  case hy22 => (intro w hSw; clear hSw; go_simp; try with_reducible rfl)
  try simp only [Act.put, List.setIfInBounds_toArray, List.set_cons_zero, List.set_cons_succ]
  refine held_take 23 47 (v := ?v23) rfl rfl (by kernel_rfl) (by kernel_rfl) (by kernel_rfl) (fun _ _ _ h => h) (by rfl) ?hy23 hHeld ?rest23
  case hy23 => (intro w hSw; clear hSw; go_simp; try with_reducible rfl)
  try simp only [Act.put, List.setIfInBounds_toArray, List.set_cons_zero, List.set_cons_succ]
  refine held_take 24 48 (v := .bool (o.toList == C.toList)) rfl rfl (by kernel_rfl) (by kernel_rfl) (by kernel_rfl) (fun _ _ _ h => h) (by rfl) ?hy24 hHeld ?rest24
  case hy24 => (intro w hSw; clear hSw; go_simp; try with_reducible rfl)
  try simp only [Act.put, List.setIfInBounds_toArray, List.set_cons_zero, List.set_cons_succ]
  refine wpAnyH_ready (rs := [21]) (by kernel_rfl) (by simp) ?_
  refine AllReadyH.cons rfl (fun K hK => ?_) AllReadyH.nil
  go_simp
  refine (H9.out _).mono ?_
  rintro e u10 ⟨rfl, b10⟩
  have n10 := Nums.bel hHeld b10
  have R10 := Lib.hid (below_then R9.out b10)
  clear b10 hHeld
  refine hK.out _ _ n10 (fun hHeld => ?_)
  clear hK K n10
  try simp only [Act.put, List.setIfInBounds_toArray, List.set_cons_zero, List.set_cons_succ]
  refine held_take 25 49 (v := .bool true) rfl rfl (by kernel_rfl) (by kernel_rfl) (by kernel_rfl) (fun _ _ _ h => h) (by rfl) ?hy25 hHeld ?rest25
  case hy25 => (intro w hSw; clear hSw; go_simp; try with_reducible rfl)
  try simp only [Act.put, List.setIfInBounds_toArray, List.set_cons_zero, List.set_cons_succ]
  refine held_take 26 50 (v := .bool true) rfl rfl (by kernel_rfl) (by kernel_rfl) (by kernel_rfl) (fun _ _ _ h => h) (by rfl) ?hy26 hHeld ?rest26
  case hy26 => (intro w hSw; clear hSw; go_simp; try with_reducible rfl)
  try simp only [Act.put, List.setIfInBounds_toArray, List.set_cons_zero, List.set_cons_succ]
  refine held_take 27 4 (v := .bool true) rfl rfl (by kernel_rfl) (by kernel_rfl) (by kernel_rfl) (fun _ _ _ h => h) (by rfl) ?hy27 hHeld ?rest27
  case hy27 => (intro w hSw; clear hSw; go_simp; try with_reducible rfl)
  try simp only [Act.put, List.setIfInBounds_toArray, List.set_cons_zero, List.set_cons_succ]
  refine wpAnyH_done (by kernel_rfl) ?_ _
  clear hHeld
  go_wp2
  go_ret
  exact ⟨rfl, R10.out⟩
end Go.Proofs.Ytnjiflkbgpbchaa
