/-
  For any eight words and any text ShaMixes answers true. Conditions: words below 2^32; a text has at most maxLen bytes; what Tab says of memory.
-/
import Derived.Test.YtekldmiamhneoaaShaL
import Derived.Test.YtekldmiamhneoaaNumEq
import Derived.Test.YtekldmiamhneoaaHeld
namespace Go.Proofs.Ytekldmiamhneoaa
open Go.RowKit Go.Sort

theorem u32_row : ∃ i, Try.prog.info? 25 = some i := by
  obtain ⟨i, hi, _⟩ := info_parts u32_info
  exact ⟨i, hi⟩
theorem u32_cells : Try.prog.cellsOf 25 = 1 := by kernel_rfl
theorem same8 (w : World) (l : List Nat) (h : l.length = 8) : (Op.equalIn 10000 27 (wordsOf .u32 l) (wordsOf .u32 l)).run Try.prog w = .ok true w := by
  obtain ⟨i, hi⟩ := u32_row
  exact run_equalIn_same w 9998 Try.underlying27 Try.underlying25 hi u32_cells h
theorem eight_zeros : Value.agg #[.int .u32 0, .int .u32 0, .int .u32 0, .int .u32 0, .int .u32 0, .int .u32 0, .int .u32 0, .int .u32 0] = wordsOf .u32 (List.replicate 8 0) := rfl

set_option maxRecDepth 100000 in
theorem shaMixes_big (s : ByteArray) (Y : Array Value) (w : World) (h : Tab w) (hs : 200 < s.size) (hm : s.size ≤ maxLen) :
    Calls Try.prog 5 #[.agg Y, .string s] w fun e w' => e = .returned (.bool true) ∧ Below w.heap.size w w' := by
  unfold maxLen at hm
  have H := Lib.hid h
  have t1 : decide ((200 : Int) < (s.size : Int)) = true := by simp; omega
  clear h
  go_enter Try.func5, Try.ntmps5
  go_wp2_with fail
  refine (alive_any _ (H.out.bel ((Below.refl _ w).alloc (Nat.le_refl _) _))).mono ?_
  rintro e w1 ⟨rfl, b1⟩
  have B1 := Lib.hid (below_then ((Below.refl _ w).alloc (Nat.le_refl _) _) b1)
  clear b1
  go_wp2
  go_ret
  exact ⟨rfl, B1.out⟩

set_option maxRecDepth 100000 in
set_option maxHeartbeats 2000000 in
theorem shaMixes_small (v : List Nat) (s : ByteArray) (Y : Array Value) (w : World) (h : Tab w) (hY : Y = (v.map fun (n : Nat) => Value.int .u32 (n : Int)).toArray) (lv : v.length = 8) (dv : W32 v) (hs : s.size ≤ 200)
    (mx : List Nat) (er : Nat) (lm : mx.length = 8) (hmx : ∀ W, Tab W → Calls Try.prog 13 #[.agg Y, .string s] W fun e w' => e = .returned (.tuple #[wordsOf .u32 mx, .int .i64 er]) ∧ Below W.heap.size W w')
    (hcase : (s.size = 64 ∧ er = 0 ∧ mx = mixed KEY s.data.toList v) ∨ (s.size ≠ 64 ∧ er = 1 ∧ mx = List.replicate 8 0)) :
    Calls Try.prog 5 #[.agg Y, .string s] w fun e w' => e = .returned (.bool true) ∧ Below w.heap.size w w' := by
  have H := Lib.hid h
  have t1 : decide ((200 : Int) < (s.size : Int)) = false := by simp; omega
  obtain ⟨hz8, hs8⟩ := zero_of_info eight_info
  obtain ⟨hz, hsk⟩ := zero_of_info key_info
  have HS8 := Lib.hid hs8
  have HSK := Lib.hid hsk
  obtain ⟨X, hX⟩ : ∃ X, X = (KEY.map fun (n : Nat) => Value.int .u32 (n : Int)).toArray := ⟨_, rfl⟩
  have hk : wordsOf .u32 (K64 ++ F8) = .agg X := by rw [hX]; rfl
  have HK := Lib.hid hk
  have HX := Lib.hid hX
  have HY := Lib.hid hY
  have hY2 : Value.agg Y = wordsOf .u32 v := by rw [hY]; rfl
  have HY2 := Lib.hid hY2
  obtain ⟨VM, hVM⟩ : ∃ VM, .agg VM = wordsOf .u32 mx := ⟨_, rfl⟩
  rw [← hVM] at hmx
  have HVM := Lib.hid hVM
  have HM := Lib.hid hmx
  have HC := Lib.hid hcase
  have N0 : Nums .u32 27 (w.alloc (.cells Y 27)) w.heap.size v := by rw [hY]; exact Nums.new .u32 _ w v
  have B0 := (Below.refl _ w).alloc (Nat.le_refl _) (.cells Y 27)
  obtain ⟨g, hg⟩ : ∃ g, g = w.heap.size := ⟨_, rfl⟩
  rw [← hg] at N0
  have HG := Lib.hid hg
  have R0 := Lib.hid (And.intro N0 B0)
  clear h hs8 hsk hk hX hY hY2 hmx hcase hVM N0 B0
  go_enter Try.func5, Try.ntmps5
  go_wp2_with fail
  rw [← hg]
  clear hg
  refine (alive_any _ (H.out.bel R0.out.2)).mono ?_
  rintro e w1 ⟨rfl, b1⟩
  have R1 := Lib.hid (And.intro (R0.out.1.bel b1) (below_then R0.out.2 b1))
  clear b1
  go_wp2_with fail
  refine (makeKey_any _).mono ?_
  rw [HK.out]
  rintro e w2 ⟨rfl, b2⟩
  have N2 := R1.out.1.bel b2
  have B2 := below_then R1.out.2 b2
  obtain ⟨kb, hkb⟩ : ∃ kb, kb = w2.heap.size := ⟨_, rfl⟩
  have hgk : g < kb := by rw [hkb]; exact N2.lt
  have Z := Nums.zeros .u32 29 w2 72
  obtain ⟨W3, hW3⟩ : ∃ W3, W3 = (w2.alloc (.cells (Array.replicate 72 (.int .u32 0)) 29)).setRow w2.heap.size (KEY.map fun (n : Nat) => Value.int .u32 (n : Int)).toArray := ⟨_, rfl⟩
  have hW4 := hW3
  rw [World.setRow_alloc_new] at hW4
  have hX2 : Value.agg X = wordsOf .u32 KEY := by rw [HX.out]; rfl
  have R3 := Lib.hid (show Nums .u32 27 W3 g v ∧ Nums .u32 29 W3 kb KEY ∧ Below w.heap.size w W3 ∧ kb < W3.heap.size from by
    rw [hW4, hkb]
    exact ⟨N2.alloc _, Nums.new .u32 _ w2 KEY, B2.alloc B2.size _, by simp⟩)
  have HZ3 := Lib.hid (And.intro Z (And.intro hW3 (And.intro hX2 hkb)))
  clear b2 N2 B2 Z hW3 hW4 hX2 hkb
  go_wp2_with (first
    | (refine wpList_store_nums (by with_reducible rfl) 29 (.tmp 5) (.tmp 13) (by with_reducible rfl) (by rfl) (.agg X) (by rfl) (m := KEY) HZ3.out.2.2.1 HZ3.out.1 rfl HSK.out W3 HZ3.out.2.1 ?_)
    | (refine wpList_load_nums (by with_reducible rfl) 27 (.tmp 2) (by with_reducible rfl) (by rfl) R3.out.1 Try.underlying27 rfl (by rw [lv]; exact HS8.out) (.agg Y) HY2.out ?_)
    | fail)
  rw [← HZ3.out.2.2.2]
  refine (HM.out _ (H.out.bel R3.out.2.2.1)).mono ?_
  rintro e w4 ⟨rfl, b4⟩
  have Z6 : Nums .u32 27 (w4.alloc (.cells #[.int .u32 0, .int .u32 0, .int .u32 0, .int .u32 0, .int .u32 0, .int .u32 0, .int .u32 0, .int .u32 0] 27)) w4.heap.size (List.replicate 8 0) := Nums.new .u32 _ w4 (List.replicate 8 0)
  obtain ⟨W6, hW6⟩ : ∃ W6, W6 = (w4.alloc (.cells #[.int .u32 0, .int .u32 0, .int .u32 0, .int .u32 0, .int .u32 0, .int .u32 0, .int .u32 0, .int .u32 0] 27)).setRow w4.heap.size (mx.map fun (n : Nat) => Value.int .u32 (n : Int)).toArray := ⟨_, rfl⟩
  have hW7 := hW6
  rw [World.setRow_alloc_new] at hW7
  obtain ⟨mb, hmb⟩ : ∃ mb, mb = w4.heap.size := ⟨_, rfl⟩
  have R6 := Lib.hid (show Nums .u32 27 W6 g v ∧ Nums .u32 29 W6 kb KEY ∧ Nums .u32 27 W6 mb mx ∧ Below w.heap.size w W6 from by
    rw [hW7, hmb]
    exact ⟨(R3.out.1.bel b4).alloc _, (R3.out.2.1.bel b4).alloc _, Nums.new .u32 _ w4 mx, (below_then R3.out.2.2.1 b4).alloc (below_then R3.out.2.2.1 b4).size _⟩)
  have HZ6 := Lib.hid (And.intro Z6 (And.intro hW6 hmb))
  clear b4 Z6 hW6 hW7 hmb
  go_wp2_with (first
    | (refine wpList_store_nums (by with_reducible rfl) 27 (.tmp 6) (.tmp 18) (by with_reducible rfl) (by rfl) (.agg VM) (by rfl) HVM.out HZ6.out.1 (by rw [lm]; rfl) (by rw [lm]; exact HS8.out) W6 HZ6.out.2.1 ?_)
    | fail)
  rw [← HZ6.out.2.2]
  clear HZ6 HZ3
  obtain ⟨F, hF⟩ : ∃ F, .agg F = wordsOf .u32 F8 := ⟨_, rfl⟩
  have HFE := Lib.hid hF
  have HQ1 := Lib.hid (fun W => show (Op.equalIn 10000 27 (.agg F) (.agg F)).run Try.prog W = .ok true W from by rw [hF]; exact same8 W F8 first_length)
  have HQ2 := Lib.hid (fun W => show (Op.equalIn 10000 27 (.agg VM) (.agg VM)).run Try.prog W = .ok true W from by rw [HVM.out]; exact same8 W mx lm)
  clear hF
  refine wp_region_held_drew (S := fun w' => Nums .u32 29 w' kb KEY) (by kernel_rfl) R6.out.2.1.drew (fun hHeld => ?_)
  refine held_take 1 21 (v := .pointer (some ⟨kb, 64, none⟩)) rfl rfl (by kernel_rfl) (by kernel_rfl) (by kernel_rfl) (fun _ _ _ h => h) (by rfl) ?hy1 hHeld ?rest1
  case hy1 => (intro w hSw; clear hSw; go_simp; try with_reducible rfl)
  refine held_take 2 22 (v := .agg F) rfl rfl (by kernel_rfl) (by kernel_rfl) (by kernel_rfl) (fun _ _ _ h => h) (by rfl) ?hy2 hHeld ?rest2
  case hy2 => exact fun w hSw => exec_load_part 27 (.tmp 21) rfl 64 8 (by rfl) hSw Try.underlying27 rfl (by rw [key_length]; omega) HS8.out (.agg F) (by rw [key_first]; exact HFE.out)
  refine wpAnyH_ready (rs := [0]) (by kernel_rfl) (by simp) ?_
  refine AllReadyH.cons rfl (fun K hK => ?_) AllReadyH.nil
  go_simp
  refine (first_any _ (H.out.bel R6.out.2.2.2).drew).mono ?_
  rw [← HFE.out]
  rintro x wl ⟨rfl, bl⟩
  have R7 := Lib.hid (show Nums .u32 27 wl g v ∧ Nums .u32 29 wl kb KEY ∧ Nums .u32 27 wl mb mx ∧ Below w.heap.size w wl from
    ⟨R6.out.1.drew.bel bl, R6.out.2.1.drew.bel bl, R6.out.2.2.1.drew.bel bl, below_then R6.out.2.2.2 ⟨bl.os, bl.tape, bl.output, bl.size, bl.block⟩⟩)
  clear hHeld
  refine hK.out _ _ R7.out.2.1 (fun hHeld => ?_)
  clear hK K bl
  try simp only [Act.put, List.setIfInBounds_toArray, List.set_cons_zero, List.set_cons_succ]
  refine held_take 3 23 (v := .bool false) rfl rfl (by kernel_rfl) (by kernel_rfl) (by kernel_rfl) (fun _ _ _ h => h) (by rfl) ?hy3 hHeld ?rest3
  case hy3 => (intro w hSw; clear hSw; have hq := HQ1.out w; go_simp; try with_reducible rfl)
  try simp only [Act.put, List.setIfInBounds_toArray, List.set_cons_zero, List.set_cons_succ]
  refine wpAnyH_done (by kernel_rfl) ?_ _
  rcases HC.out with ⟨h64, rfl, rfl⟩ | ⟨h64, rfl, rfl⟩
  · have t2 : ((s.size : Int) != 64) = false := by simp; omega
    have HMX := Lib.hid (fun W => refMix_any KEY v s X Y W HX.out HY.out key_length lv key_w32 dv h64)
    clear h64
    go_wp2_with fail
    clear hHeld
    refine wp_region_held_drew (S := fun w' => Nums .u32 27 w' g v ∧ Nums .u32 29 w' kb KEY ∧ Nums .u32 27 w' mb (mixed KEY s.data.toList v)) (by kernel_rfl) ⟨R7.out.1.drew, R7.out.2.1.drew, R7.out.2.2.1.drew⟩ (fun hHeld => ?_)
    refine held_take 0 34 (v := .int .i64 0) rfl rfl (by kernel_rfl) (by kernel_rfl) (by kernel_rfl) (fun _ _ _ h => h) (by rfl) ?hz0 hHeld ?hr0
    case hz0 => (intro w hSw; clear hSw; go_simp; try with_reducible rfl)
    refine held_take 1 35 (v := .bool true) rfl rfl (by kernel_rfl) (by kernel_rfl) (by kernel_rfl) (fun _ _ _ h => h) (by rfl) ?hz1 hHeld ?hr1
    case hz1 => (intro w hSw; clear hSw; go_simp; try with_reducible rfl)
    refine held_take 2 36 (v := .bool true) rfl rfl (by kernel_rfl) (by kernel_rfl) (by kernel_rfl) (fun _ _ _ h => h) (by rfl) ?hz2 hHeld ?hr2
    case hz2 => (intro w hSw; clear hSw; go_simp; try with_reducible rfl)
    try simp only [Act.put, List.setIfInBounds_toArray, List.set_cons_zero, List.set_cons_succ]
    refine held_take 3 37 (v := .agg VM) rfl rfl (by kernel_rfl) (by kernel_rfl) (by kernel_rfl) (fun _ _ _ h => h) (by rfl) ?hz3 hHeld ?hr3
    case hz3 => exact fun w hSw => exec_load_nums 27 (.tmp 6) rfl (by rfl) hSw.2.2 Try.underlying27 rfl (by rw [lm]; exact HS8.out) (.agg VM) HVM.out
    refine held_take 4 38 (v := .agg X) rfl rfl (by kernel_rfl) (by kernel_rfl) (by kernel_rfl) (fun _ _ _ h => h) (by rfl) ?hz4 hHeld ?hr4
    case hz4 => exact fun w hSw => exec_load_nums 29 (.tmp 5) rfl (by rfl) hSw.2.1 Try.underlying29 rfl HSK.out (.agg X) (by rw [HX.out]; rfl)
    refine held_take 5 39 (v := .agg Y) rfl rfl (by kernel_rfl) (by kernel_rfl) (by kernel_rfl) (fun _ _ _ h => h) (by rfl) ?hz5 hHeld ?hr5
    case hz5 => exact fun w hSw => exec_load_nums 27 (.tmp 2) rfl (by rfl) hSw.1 Try.underlying27 rfl (by rw [lv]; exact HS8.out) (.agg Y) HY2.out
    refine held_take 6 40 (v := .string s) rfl rfl (by kernel_rfl) (by kernel_rfl) (by kernel_rfl) (fun _ _ _ h => h) (by rfl) ?hz6 hHeld ?hr6
    case hz6 => (intro w hSw; clear hSw; go_simp; try with_reducible rfl)
    try simp only [Act.put, List.setIfInBounds_toArray, List.set_cons_zero, List.set_cons_succ]
    refine wpAnyH_ready (rs := [7]) (by kernel_rfl) (by simp) ?_
    refine AllReadyH.cons rfl (fun K hK => ?_) AllReadyH.nil
    go_simp
    refine (HMX.out _).mono ?_
    rw [← HVM.out]
    rintro x wm ⟨rfl, bm⟩
    have hS2 := And.intro (R7.out.1.drew.bel bm) (And.intro (R7.out.2.1.drew.bel bm) (R7.out.2.2.1.drew.bel bm))
    have RF := Lib.hid (below_then R7.out.2.2.2 ⟨bm.os, bm.tape, bm.output, bm.size, bm.block⟩)
    clear hHeld
    refine hK.out _ _ hS2 (fun hHeld => ?_)
    clear hK K bm hS2
    try simp only [Act.put, List.setIfInBounds_toArray, List.set_cons_zero, List.set_cons_succ]
    refine held_take 8 42 (v := .bool true) rfl rfl (by kernel_rfl) (by kernel_rfl) (by kernel_rfl) (fun _ _ _ h => h) (by rfl) ?hz8 hHeld ?hr8
    case hz8 => (intro w hSw; clear hSw; have hq := HQ2.out w; go_simp; try with_reducible rfl)
    refine held_take 9 43 (v := .bool true) rfl rfl (by kernel_rfl) (by kernel_rfl) (by kernel_rfl) (fun _ _ _ h => h) (by rfl) ?hz9 hHeld ?hr9
    case hz9 => (intro w hSw; clear hSw; go_simp; try with_reducible rfl)
    refine held_take 10 4 (v := .bool true) rfl rfl (by kernel_rfl) (by kernel_rfl) (by kernel_rfl) (fun _ _ _ h => h) (by rfl) ?hz10 hHeld ?hr10
    case hz10 => (intro w hSw; clear hSw; go_simp; try with_reducible rfl)
    try simp only [Act.put, List.setIfInBounds_toArray, List.set_cons_zero, List.set_cons_succ]
    refine wpAnyH_done (by kernel_rfl) ?_ _
    go_wp2
    go_ret
    exact ⟨rfl, RF.out⟩
  · have t2 : ((s.size : Int) != 64) = true := by simp; omega
    clear h64
    have c0 : wl.cell? ⟨mb, 0, none⟩ = some (.int .u32 0) := R7.out.2.2.1.cellD 0 (by decide)
    have c1 : wl.cell? ⟨mb, 1, none⟩ = some (.int .u32 0) := R7.out.2.2.1.cellD 1 (by decide)
    have c2 : wl.cell? ⟨mb, 2, none⟩ = some (.int .u32 0) := R7.out.2.2.1.cellD 2 (by decide)
    have c3 : wl.cell? ⟨mb, 3, none⟩ = some (.int .u32 0) := R7.out.2.2.1.cellD 3 (by decide)
    have c4 : wl.cell? ⟨mb, 4, none⟩ = some (.int .u32 0) := R7.out.2.2.1.cellD 4 (by decide)
    have c5 : wl.cell? ⟨mb, 5, none⟩ = some (.int .u32 0) := R7.out.2.2.1.cellD 5 (by decide)
    have c6 : wl.cell? ⟨mb, 6, none⟩ = some (.int .u32 0) := R7.out.2.2.1.cellD 6 (by decide)
    have c7 : wl.cell? ⟨mb, 7, none⟩ = some (.int .u32 0) := R7.out.2.2.1.cellD 7 (by decide)
    have hq : ∀ W, (Op.equalIn 10000 27 (.agg #[.int .u32 0, .int .u32 0, .int .u32 0, .int .u32 0, .int .u32 0, .int .u32 0, .int .u32 0, .int .u32 0]) (.agg (Array.replicate 8 (.int .u32 0)))).run Try.prog W = .ok true W := fun W => same8 W (List.replicate 8 0) rfl
    go_wp2
    go_ret
    exact ⟨rfl, R7.out.2.2.2⟩

theorem shaMixes_any (v : List Nat) (s : ByteArray) (Y : Array Value) (w : World) (h : Tab w) (hY : Y = (v.map fun (n : Nat) => Value.int .u32 (n : Int)).toArray) (lv : v.length = 8) (dv : W32 v) (hm : s.size ≤ maxLen) :
    Calls Try.prog 5 #[.agg Y, .string s] w fun e w' => e = .returned (.bool true) ∧ Below w.heap.size w w' := by
  by_cases hs : 200 < s.size
  · exact shaMixes_big s Y w h hs hm
  · by_cases h64 : s.size = 64
    · exact shaMixes_small v s Y w h hY lv dv (by omega) (mixed KEY s.data.toList v) 0 (mixed_length _ _ _ lv) (fun W hW => mix_ok v s Y W hW hY lv dv h64) (.inl ⟨h64, rfl, rfl⟩)
    · exact shaMixes_small v s Y w h hY lv dv (by omega) (List.replicate 8 0) 1 rfl (fun W hW => mix_arg v s Y W hW hY lv h64 (by omega)) (.inr ⟨h64, rfl, rfl⟩)
end Go.Proofs.Ytekldmiamhneoaa
