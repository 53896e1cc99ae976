/-
  For every text ShaChain answers true. Conditions: a text has at most maxLen bytes; what Tab says of memory.
-/
import Derived.Test.YtekldmiamhneoaaShaL
import Derived.Test.YtekldmiamhneoaaHeld
namespace Go.Proofs.Ytekldmiamhneoaa
open Go.RowKit Go.Sort

theorem shaChain_big (s : ByteArray) (w : World) (h : Tab w) (hs : 700 < s.size) (hm : s.size ≤ maxLen) :
    Calls Try.prog 6 #[.string s] w fun e w' => e = .returned (.bool true) ∧ Below w.heap.size w w' := by
  unfold maxLen at hm
  have H := Lib.hid h
  have t1 : decide ((700 : Int) < (s.size : Int)) = true := by simp; omega
  clear h
  go_enter Try.func6, Try.ntmps6
  go_wp2_with fail
  refine (alive_any _ H.out).mono ?_
  rintro e w1 ⟨rfl, b1⟩
  have B1 := Lib.hid b1
  clear b1
  go_wp2
  go_ret
  exact ⟨rfl, B1.out⟩

set_option maxRecDepth 100000 in
set_option maxHeartbeats 2000000 in
theorem shaChain_small (s : ByteArray) (w : World) (h : Tab w) (hs : s.size ≤ 700) :
    Calls Try.prog 6 #[.string s] w fun e w' => e = .returned (.bool true) ∧ Below w.heap.size w w' := by
  have H := Lib.hid h
  have t1 : decide ((700 : Int) < (s.size : Int)) = false := by simp; omega
  obtain ⟨hz8, hs8⟩ := zero_of_info eight_info
  have HS8 := Lib.hid hs8
  have hpl : (bs (padL s.size)).size ≤ 80 := by rw [bs_size, padL_length]; have := nou_lt s.size; omega
  have hT : s ++ bs (padL s.size) = bs (padded s) := by rw [padded, ← bs_append, bs_of]
  obtain ⟨P, hP⟩ : ∃ P, P = bs (padL s.size) := ⟨_, rfl⟩
  obtain ⟨T, hTT⟩ : ∃ T, T = bs (padded s) := ⟨_, rfl⟩
  rw [← hP] at hpl hT
  rw [← hTT] at hT
  have hTz : T.size = 64 * nblk s.size := by rw [hTT, bs_size, padded_length]
  have hnb : nblk s.size ≤ 20 := by have := nblk_mul s.size; have := nou_lt s.size; omega
  have t2 : ((T.size : Int) % 64 != 0) = false := by
    have : (T.size : Int) % 64 = 0 := by omega
    simpa using this
  obtain ⟨F, hF⟩ : ∃ F, .agg F = wordsOf .u32 F8 := ⟨_, rfl⟩
  have HF := Lib.hid hF
  have HP := Lib.hid hP
  have HT := Lib.hid (And.intro hTT hTz)
  clear h hs8 hP hTT hTz hF
  go_enter Try.func6, Try.ntmps6
  go_wp2_with fail
  refine (alive_any _ H.out).mono ?_
  rintro e w1 ⟨rfl, b1⟩
  have B1 := Lib.hid b1
  clear b1
  go_wp2_with fail
  refine (pad_ok s.size _ (H.out.bel B1.out) (by omega)).mono ?_
  rw [← HP.out]
  rintro e w2 ⟨rfl, b2⟩
  have B2 := Lib.hid (below_then B1.out b2)
  clear b2
  go_wp2_with fail
  refine (first_any _ (H.out.bel B2.out)).mono ?_
  rw [← HF.out]
  rintro e w3 ⟨rfl, b3⟩
  have B3 := below_then B2.out b3
  obtain ⟨p, hp⟩ : ∃ p, p = w3.heap.size := ⟨_, rfl⟩
  have hgp : w.heap.size ≤ p := by rw [hp]; exact B3.size
  have Z := Nums.new .u32 27 w3 (List.replicate 8 0)
  obtain ⟨W4, hW4⟩ : ∃ W4, W4 = (w3.alloc (.cells #[.int .u32 0, .int .u32 0, .int .u32 0, .int .u32 0, .int .u32 0, .int .u32 0, .int .u32 0, .int .u32 0] 27)).setRow w3.heap.size (F8.map fun (n : Nat) => Value.int .u32 (n : Int)).toArray := ⟨_, rfl⟩
  have hW5 := hW4
  rw [World.setRow_alloc_new] at hW5
  have R4 := Lib.hid (show Nums .u32 27 W4 p F8 ∧ Fr (fun j => w.heap.size ≤ j) w W4 from by
    rw [hW5, hp]
    exact ⟨Nums.new .u32 _ w3 F8, (Fr.ofBelow B3).alloc _⟩)
  have HZ := Lib.hid (And.intro Z (And.intro hW4 hp))
  clear b3 B3 Z hW4 hW5 hp
  go_wp2_with (first
    | (refine wpList_store_nums (by with_reducible rfl) 27 (.tmp 6) (.tmp 34) (by with_reducible rfl) (by rfl) (.agg F) (by rfl) (m := F8) HF.out HZ.out.1 rfl HS8.out W4 HZ.out.2.1 ?_)
    | fail)
  rw [← HZ.out.2.2]
  clear HZ
  go_loopw [7] (fun v7 wr => ∃ k : Nat, v7 = .int .i64 (64 * k : Nat) ∧ k ≤ nblk s.size ∧ Nums .u32 27 wr p (chain KEY F8 (padded s) k) ∧ Fr (fun j => w.heap.size ≤ j) w wr) (fun i _ => T.size - (intOf i).toNat)
  case atStart => exact ⟨0, rfl, Nat.zero_le _, R4.out⟩
  case round =>
    clear R4
    obtain ⟨k, rfl, hk, hN, hFr⟩ := hrel
    by_cases hlt : k < nblk s.size
    · have hbl := bs_extract (padded s) (64 * k) (64 * k + 64)
      rw [← HT.out.1, show 64 * k + 64 - 64 * k = 64 by omega] at hbl
      obtain ⟨bk, hbk⟩ : ∃ bk, bk = bs (((padded s).drop (64 * k)).take 64) := ⟨_, rfl⟩
      rw [← hbk] at hbl
      have hbd : bk.data.toList = ((padded s).drop (64 * k)).take 64 := by rw [hbk, bs_list]
      have hbz : bk.size = 64 := by rw [hbk, bs_size, List.length_take, List.length_drop, padded_length]; omega
      have hc : mixed KEY bk.data.toList (chain KEY F8 (padded s) k) = chain KEY F8 (padded s) (k + 1) := by rw [hbd]; rfl
      have lv := chain_length KEY F8 (padded s) first_length k
      have dv := chain_w32 KEY F8 (padded s) first_w32 k
      have lv2 := chain_length KEY F8 (padded s) first_length (k + 1)
      obtain ⟨vk, hvk⟩ : ∃ vk, vk = chain KEY F8 (padded s) k := ⟨_, rfl⟩
      obtain ⟨vn, hvn⟩ : ∃ vn, vn = chain KEY F8 (padded s) (k + 1) := ⟨_, rfl⟩
      rw [← hvk] at hN lv dv hc
      rw [← hvn] at hc lv2
      obtain ⟨Y, hY⟩ : ∃ Y, Y = (vk.map fun (n : Nat) => Value.int .u32 (n : Int)).toArray := ⟨_, rfl⟩
      obtain ⟨VN, hVN⟩ : ∃ VN, .agg VN = wordsOf .u32 vn := ⟨_, rfl⟩
      have hY2 : Value.agg Y = wordsOf .u32 vk := by rw [hY]; rfl
      have HM := Lib.hid (fun W hW => mix_ok vk bk Y W hW hY lv dv hbz)
      rw [hc, ← hVN] at HM
      obtain ⟨i, hi⟩ : ∃ i, i = 64 * k := ⟨_, rfl⟩
      rw [← hi] at hbl
      rw [← hi]
      have hiT : i + 64 ≤ T.size := by rw [hi, HT.out.2]; omega
      have t3 : decide (i < T.size) = true := by simp; omega
      have w1 : IntKind.i64.wrap ((i : Int) + 64) = (i : Int) + 64 := IntWalk.i64_in _ (by have := HT.out.2; omega)
      have p0 : (0 : Int) ≤ (i : Int) + 64 := by omega
      have p1 : (i : Int) ≤ (i : Int) + 64 := by omega
      have p2 : (i : Int) + 64 ≤ (T.size : Int) := by omega
      have p3 : ((i : Int) + 64).toNat = i + 64 := by omega
      have R := Lib.hid (And.intro hN (And.intro hFr (And.intro lv (And.intro lv2 (And.intro hY2 (And.intro hVN (And.intro hvn hi)))))))
      clear hN hFr lv lv2 dv hY2 hVN hY hc hbz hbd hbk hvk hvn hi
      go_wp2_with fail
      refine wp_region_held_drew (S := fun w' => Nums .u32 27 w' p vk) (by kernel_rfl) R.out.1.drew (fun hHeld => ?_)
      refine held_take 0 42 (v := .agg Y) rfl rfl (by kernel_rfl) (by kernel_rfl) (by kernel_rfl) (fun _ _ _ h => h) (by rfl) ?hz0 hHeld ?hr0
      case hz0 => exact fun w hSw => exec_load_nums 27 (.tmp 6) rfl (by rfl) hSw Try.underlying27 rfl (by rw [R.out.2.2.1]; exact HS8.out) (.agg Y) R.out.2.2.2.2.1
      refine held_take 1 43 (v := .string T) rfl rfl (by kernel_rfl) (by kernel_rfl) (by kernel_rfl) (fun _ _ _ h => h) (by rfl) ?hz1 hHeld ?hr1
      case hz1 => (intro w hSw; clear hSw; go_simp; try with_reducible rfl)
      refine held_take 2 44 (v := .int .i64 i) rfl rfl (by kernel_rfl) (by kernel_rfl) (by kernel_rfl) (fun _ _ _ h => h) (by rfl) ?hz2 hHeld ?hr2
      case hz2 => (intro w hSw; clear hSw; go_simp; try with_reducible rfl)
      refine held_take 3 45 (v := .int .i64 i) rfl rfl (by kernel_rfl) (by kernel_rfl) (by kernel_rfl) (fun _ _ _ h => h) (by rfl) ?hz3 hHeld ?hr3
      case hz3 => (intro w hSw; clear hSw; go_simp; try with_reducible rfl)
      try simp only [Act.put, List.setIfInBounds_toArray, List.set_cons_zero, List.set_cons_succ]
      refine held_take 4 46 (v := .int .i64 ((i : Int) + 64)) rfl rfl (by kernel_rfl) (by kernel_rfl) (by kernel_rfl) (fun _ _ _ h => h) (by rfl) ?hz4 hHeld ?hr4
      case hz4 => (intro w hSw; clear hSw; go_simp; try with_reducible rfl)
      try simp only [Act.put, List.setIfInBounds_toArray, List.set_cons_zero, List.set_cons_succ]
      refine held_take 5 47 (v := .string bk) rfl rfl (by kernel_rfl) (by kernel_rfl) (by kernel_rfl) (fun _ _ _ h => h) (by rfl) ?hz5 hHeld ?hr5
      case hz5 => (intro w hSw; clear hSw; go_simp; try with_reducible rfl)
      try simp only [Act.put, List.setIfInBounds_toArray, List.set_cons_zero, List.set_cons_succ]
      refine wpAnyH_ready (rs := [6, 10]) (by kernel_rfl) (by simp) ?_
      refine AllReadyH.cons rfl (fun K hK => ?_) (AllReadyH.cons rfl (fun K hK => ?_) AllReadyH.nil)
      · go_simp
        refine (HM.out _ ((H.out.below R.out.2.1).drew)).mono ?_
        rintro x wl ⟨rfl, bl⟩
        have NA := R.out.1.drew.bel bl
        have FA := R.out.2.1.drew.trans (Fr.ofBelow bl)
        clear hHeld
        refine hK.out _ _ NA (fun hHeld => ?_)
        clear hK K
        try simp only [Act.put, List.setIfInBounds_toArray, List.set_cons_zero, List.set_cons_succ]
        refine held_take 7 41 (v := .tuple #[.agg VN, .int .i64 0]) rfl rfl (by kernel_rfl) (by kernel_rfl) (by kernel_rfl) (fun _ _ _ h => h) (by rfl) ?hy7a hHeld ?hs7a
        case hy7a => (intro w hSw; clear hSw; go_simp; try with_reducible rfl)
        try simp only [Act.put, List.setIfInBounds_toArray, List.set_cons_zero, List.set_cons_succ]
        refine held_take 8 49 (v := .agg VN) rfl rfl (by kernel_rfl) (by kernel_rfl) (by kernel_rfl) (fun _ _ _ h => h) (by rfl) ?hy8a hHeld ?hs8a
        case hy8a => (intro w hSw; clear hSw; go_simp; try with_reducible rfl)
        try simp only [Act.put, List.setIfInBounds_toArray, List.set_cons_zero, List.set_cons_succ]
        refine held_take 9 50 (v := .int .i64 0) rfl rfl (by kernel_rfl) (by kernel_rfl) (by kernel_rfl) (fun _ _ _ h => h) (by rfl) ?hy9a hHeld ?hs9a
        case hy9a => (intro w hSw; clear hSw; go_simp; try with_reducible rfl)
        try simp only [Act.put, List.setIfInBounds_toArray, List.set_cons_zero, List.set_cons_succ]
        refine wpAnyH_ready (rs := [10]) (by kernel_rfl) (by simp) ?_
        refine AllReadyH.cons rfl (fun K hK => ?_) AllReadyH.nil
        go_simp
        have hq0 : w.heap.size ≤ wl.heap.size := FA.size
        have hpq : ¬ wl.heap.size = p := by have := NA.lt; omega
        have ZQ := Nums.zeros .u32 27 wl 8
        have NQ := NA.alloc (.cells (Array.replicate 8 (.int .u32 0)) 27)
        have FQ := FA.alloc (.cells (Array.replicate 8 (.int .u32 0)) 27)
        obtain ⟨q, hq⟩ : ∃ q, q = wl.heap.size := ⟨_, rfl⟩
        rw [← hq] at hq0 hpq ZQ
        rw [← hq]
        obtain ⟨WQ, hWQ⟩ : ∃ WQ, WQ = wl.alloc (.cells (Array.replicate 8 (.int .u32 0)) 27) := ⟨_, rfl⟩
        rw [← hWQ] at ZQ NQ FQ
        rw [← hWQ]
        clear hHeld
        refine hK.out _ _ NQ (fun hHeld => ?_)
        have RQ := Lib.hid (And.intro ZQ (And.intro NQ (And.intro (And.intro FQ hq0) hpq)))
        clear hK K ZQ NQ FQ hq0 hpq hq hWQ NA FA bl
        try simp only [Act.put, List.setIfInBounds_toArray, List.set_cons_zero, List.set_cons_succ]
        obtain ⟨W8, hW8⟩ : ∃ W8, W8 = WQ.setRow q (vn.map fun (n : Nat) => Value.int .u32 (n : Int)).toArray := ⟨_, rfl⟩
        have M1 := RQ.out.1.setRow vn
        have M2 : Nums .u32 27 W8 p vk := by
          rw [hW8]
          refine RQ.out.2.1.keep ?_
          simp only [World.setRow, Array.getElem?_modify]
          rw [if_neg RQ.out.2.2.2]
        have F8' := fr_setRow (g := q) RQ.out.2.2.1.1 (.inl RQ.out.2.2.1.2) (vn.map fun (n : Nat) => Value.int .u32 (n : Int)).toArray
        rw [← hW8] at M1 F8'
        have HW8 := Lib.hid hW8
        clear hW8
        refine wpAnyH_ready (rs := [11]) (by kernel_rfl) (by simp) ?_
        refine AllReadyH.cons rfl (fun K hK => ?_) AllReadyH.nil
        rw [if_pos (by rfl)]
        refine wp_store_nums 27 (.tmp 8) (.tmp 49) rfl (by rfl) (.agg VN) (by rfl) R.out.2.2.2.2.2.1 RQ.out.1 (by rw [R.out.2.2.2.1]; rfl) (by rw [R.out.2.2.2.1]; exact HS8.out) W8 HW8.out ?_
        clear hHeld
        refine hK.out _ _ M2 (fun hHeld => ?_)
        clear hK K
        try simp only [Act.put, List.setIfInBounds_toArray]
        refine held_take 12 9 (v := .int .i64 0) rfl rfl (by kernel_rfl) (by kernel_rfl) (by kernel_rfl) (fun _ _ _ h => h) (by rfl) ?hy12a hHeld ?hs12a
        case hy12a => (intro w hSw; clear hSw; go_simp; try with_reducible rfl)
        try simp only [Act.put]
        refine wpAnyH_done (by kernel_rfl) ?_ _
        obtain ⟨W9, hW9⟩ : ∃ W9, W9 = W8.setRow p (vn.map fun (n : Nat) => Value.int .u32 (n : Int)).toArray := ⟨_, rfl⟩
        have M3 := M2.setRow vn
        have F9 := fr_setRow (g := p) F8' (.inl hgp) (vn.map fun (n : Nat) => Value.int .u32 (n : Int)).toArray
        rw [← hW9] at M3 F9
        have R9 := Lib.hid (And.intro M1 (And.intro M2 (And.intro M3 (And.intro F9 hW9))))
        clear M1 M2 M3 F8' F9 hW9 hHeld
        go_wp2_with (first
          | (refine wpList_load_nums (by with_reducible rfl) 27 (.tmp 8) (by with_reducible rfl) (by rfl) R9.out.1 Try.underlying27 rfl (by rw [R.out.2.2.2.1]; exact HS8.out) (.agg VN) R.out.2.2.2.2.2.1 ?_)
          | (refine wpList_store_nums (by with_reducible rfl) 27 (.tmp 6) (.tmp 53) (by with_reducible rfl) (by rfl) (.agg VN) (by rfl) R.out.2.2.2.2.2.1 R9.out.2.1 (by rw [R.out.2.2.1, R.out.2.2.2.1]) (by rw [R.out.2.2.2.1]; exact HS8.out) W9 R9.out.2.2.2.2 ?_)
          | fail)
        go_roundw
        case rel => exact ⟨k + 1, by rw [show 64 * (k + 1) = i + 64 by rw [R.out.2.2.2.2.2.2.2]; omega]; go_num, by omega, by rw [← R.out.2.2.2.2.2.2.1]; exact R9.out.2.2.1, R9.out.2.2.2.1⟩
        case measure => (simp [intOf]) <;> omega
      · go_simp
        have hq0 : w.heap.size ≤ wr.heap.size := R.out.2.1.size
        have hpq : ¬ wr.heap.size = p := by have := R.out.1.lt; omega
        have ZQ := (Nums.zeros .u32 27 wr 8).drew
        have NQ := (R.out.1.alloc (.cells (Array.replicate 8 (.int .u32 0)) 27)).drew
        have FQ := (R.out.2.1.alloc (.cells (Array.replicate 8 (.int .u32 0)) 27)).drew
        obtain ⟨q, hq⟩ : ∃ q, q = wr.heap.size := ⟨_, rfl⟩
        rw [← hq] at hq0 hpq ZQ
        rw [← hq]
        obtain ⟨WA, hWA⟩ : ∃ WA, WA = (wr.alloc (.cells (Array.replicate 8 (.int .u32 0)) 27)).drew := ⟨_, rfl⟩
        rw [← hWA] at ZQ NQ FQ
        rw [← hWA]
        clear hHeld
        refine hK.out _ _ NQ (fun hHeld => ?_)
        clear hK K hq hWA
        try simp only [Act.put, List.setIfInBounds_toArray, List.set_cons_zero, List.set_cons_succ]
        refine wpAnyH_ready (rs := [6]) (by kernel_rfl) (by simp) ?_
        refine AllReadyH.cons rfl (fun K hK => ?_) AllReadyH.nil
        go_simp
        refine (HM.out _ (H.out.below FQ)).mono ?_
        rintro x WQ ⟨rfl, bl⟩
        have RQ := Lib.hid (And.intro (ZQ.bel bl) (And.intro (NQ.bel bl) (And.intro (And.intro (FQ.trans (Fr.ofBelow bl)) hq0) hpq)))
        clear hHeld
        refine hK.out _ _ RQ.out.2.1 (fun hHeld => ?_)
        clear hK K ZQ NQ FQ hq0 hpq bl
        try simp only [Act.put, List.setIfInBounds_toArray, List.set_cons_zero, List.set_cons_succ]
        refine held_take 7 41 (v := .tuple #[.agg VN, .int .i64 0]) rfl rfl (by kernel_rfl) (by kernel_rfl) (by kernel_rfl) (fun _ _ _ h => h) (by rfl) ?hy7b hHeld ?hs7b
        case hy7b => (intro w hSw; clear hSw; go_simp; try with_reducible rfl)
        try simp only [Act.put, List.setIfInBounds_toArray, List.set_cons_zero, List.set_cons_succ]
        refine held_take 8 49 (v := .agg VN) rfl rfl (by kernel_rfl) (by kernel_rfl) (by kernel_rfl) (fun _ _ _ h => h) (by rfl) ?hy8b hHeld ?hs8b
        case hy8b => (intro w hSw; clear hSw; go_simp; try with_reducible rfl)
        try simp only [Act.put, List.setIfInBounds_toArray, List.set_cons_zero, List.set_cons_succ]
        refine held_take 9 50 (v := .int .i64 0) rfl rfl (by kernel_rfl) (by kernel_rfl) (by kernel_rfl) (fun _ _ _ h => h) (by rfl) ?hy9b hHeld ?hs9b
        case hy9b => (intro w hSw; clear hSw; go_simp; try with_reducible rfl)
        try simp only [Act.put, List.setIfInBounds_toArray, List.set_cons_zero, List.set_cons_succ]
        obtain ⟨W8, hW8⟩ : ∃ W8, W8 = WQ.setRow q (vn.map fun (n : Nat) => Value.int .u32 (n : Int)).toArray := ⟨_, rfl⟩
        have M1 := RQ.out.1.setRow vn
        have M2 : Nums .u32 27 W8 p vk := by
          rw [hW8]
          refine RQ.out.2.1.keep ?_
          simp only [World.setRow, Array.getElem?_modify]
          rw [if_neg RQ.out.2.2.2]
        have F8' := fr_setRow (g := q) RQ.out.2.2.1.1 (.inl RQ.out.2.2.1.2) (vn.map fun (n : Nat) => Value.int .u32 (n : Int)).toArray
        rw [← hW8] at M1 F8'
        have HW8 := Lib.hid hW8
        clear hW8
        refine wpAnyH_ready (rs := [11]) (by kernel_rfl) (by simp) ?_
        refine AllReadyH.cons rfl (fun K hK => ?_) AllReadyH.nil
        rw [if_pos (by rfl)]
        refine wp_store_nums 27 (.tmp 8) (.tmp 49) rfl (by rfl) (.agg VN) (by rfl) R.out.2.2.2.2.2.1 RQ.out.1 (by rw [R.out.2.2.2.1]; rfl) (by rw [R.out.2.2.2.1]; exact HS8.out) W8 HW8.out ?_
        clear hHeld
        refine hK.out _ _ M2 (fun hHeld => ?_)
        clear hK K
        try simp only [Act.put, List.setIfInBounds_toArray]
        refine held_take 12 9 (v := .int .i64 0) rfl rfl (by kernel_rfl) (by kernel_rfl) (by kernel_rfl) (fun _ _ _ h => h) (by rfl) ?hy12b hHeld ?hs12b
        case hy12b => (intro w hSw; clear hSw; go_simp; try with_reducible rfl)
        try simp only [Act.put]
        refine wpAnyH_done (by kernel_rfl) ?_ _
        obtain ⟨W9, hW9⟩ : ∃ W9, W9 = W8.setRow p (vn.map fun (n : Nat) => Value.int .u32 (n : Int)).toArray := ⟨_, rfl⟩
        have M3 := M2.setRow vn
        have F9 := fr_setRow (g := p) F8' (.inl hgp) (vn.map fun (n : Nat) => Value.int .u32 (n : Int)).toArray
        rw [← hW9] at M3 F9
        have R9 := Lib.hid (And.intro M1 (And.intro M2 (And.intro M3 (And.intro F9 hW9))))
        clear M1 M2 M3 F8' F9 hW9 hHeld
        go_wp2_with (first
          | (refine wpList_load_nums (by with_reducible rfl) 27 (.tmp 8) (by with_reducible rfl) (by rfl) R9.out.1 Try.underlying27 rfl (by rw [R.out.2.2.2.1]; exact HS8.out) (.agg VN) R.out.2.2.2.2.2.1 ?_)
          | (refine wpList_store_nums (by with_reducible rfl) 27 (.tmp 6) (.tmp 53) (by with_reducible rfl) (by rfl) (.agg VN) (by rfl) R.out.2.2.2.2.2.1 R9.out.2.1 (by rw [R.out.2.2.1, R.out.2.2.2.1]) (by rw [R.out.2.2.2.1]; exact HS8.out) W9 R9.out.2.2.2.2 ?_)
          | fail)
        go_roundw
        case rel => exact ⟨k + 1, by rw [show 64 * (k + 1) = i + 64 by rw [R.out.2.2.2.2.2.2.2]; omega]; go_num, by omega, by rw [← R.out.2.2.2.2.2.2.1]; exact R9.out.2.2.1, R9.out.2.2.2.1⟩
        case measure => (simp [intOf]) <;> omega
    · obtain rfl : k = nblk s.size := by omega
      rw [← HT.out.2]
      have lv := chain_length KEY F8 (padded s) first_length (nblk s.size)
      have dv := chain_w32 KEY F8 (padded s) first_w32 (nblk s.size)
      have hdg : digL s = byts (chain KEY F8 (padded s) (nblk s.size)) 8 := rfl
      obtain ⟨vn, hvn⟩ : ∃ vn, vn = chain KEY F8 (padded s) (nblk s.size) := ⟨_, rfl⟩
      rw [← hvn] at hN lv dv hdg
      obtain ⟨D, hD⟩ : ∃ D, D = bs (digL s) := ⟨_, rfl⟩
      have hDz : D.size = 32 := by rw [hD, bs_size, digL_length]
      have t5 : ((D.size : Int) != 32) = false := by rw [hDz]; rfl
      have HS := Lib.hid (fun W hW => sum_any s W hW (by omega))
      have R := Lib.hid (And.intro hN (And.intro hFr (And.intro lv (And.intro dv (And.intro hdg (And.intro hD hDz))))))
      have t3 : decide (T.size < T.size) = false := by simp
      clear hN hFr lv dv hdg hvn hD hDz hk hlt hnb
      go_wp2_with fail
      refine (HS.out _ (H.out.below R.out.2.1)).mono ?_
      rw [← R.out.2.2.2.2.2.1]
      rintro e wd ⟨rfl, bd⟩
      have RD := Lib.hid (And.intro (R.out.1.bel bd) (R.out.2.1.trans (Fr.ofBelow bd)))
      clear bd
      have hDz := R.out.2.2.2.2.2.2
      go_wp2_with fail
      go_loopw [11] (fun v11 wr => ∃ i : Nat, v11 = .int .i64 i ∧ i ≤ 8 ∧ Nums .u32 27 wr p vn ∧ Fr (fun j => w.heap.size ≤ j) w wr) (fun i _ => 8 - (intOf i).toNat)
      case atStart => exact ⟨0, rfl, by omega, RD.out⟩
      case round =>
        obtain ⟨i, rfl, hi, hN, hFr⟩ := hrel
        by_cases hlt : i < 8
        · have c0 := hN.cellD i (by rw [R.out.2.2.1]; exact hlt)
          have bx := R.out.2.2.2.1.getD i
          have hsum := byt_sum (vn.getD i 0) bx
          have g0 : 4 * i < D.size := by rw [hDz]; omega
          have g1 : 4 * i + 1 < D.size := by rw [hDz]; omega
          have g2 : 4 * i + 2 < D.size := by rw [hDz]; omega
          have g3 : 4 * i + 3 < D.size := by rw [hDz]; omega
          have hget : ∀ j, j < 4 → (digL s).getD (4 * i + j) 0 = (byt (vn.getD i 0)).getD j 0 := fun j hj => by rw [R.out.2.2.2.2.1]; exact byts_get vn i j hj 8 (by rw [R.out.2.2.1]; exact Nat.le_refl _) hlt
          obtain ⟨x0, e0⟩ : ∃ x, D[4 * i].toNat = x := ⟨_, rfl⟩
          have d0 : ((byt (vn.getD i 0)).getD 0 0).toNat = x0 := by
            rw [← hget 0 (by omega), ← e0]
            congr 1
            have : D.data.toList = digL s := by rw [R.out.2.2.2.2.2.1, bs_list]
            rw [← this]
            simp [List.getD, g0]
            rfl
          have b0 : x0 < 256 := by rw [← e0]; exact D[4 * i].toNat_lt
          obtain ⟨x1, e1⟩ : ∃ x, D[4 * i + 1].toNat = x := ⟨_, rfl⟩
          have d1 : ((byt (vn.getD i 0)).getD 1 0).toNat = x1 := by
            rw [← hget 1 (by omega), ← e1]
            congr 1
            have : D.data.toList = digL s := by rw [R.out.2.2.2.2.2.1, bs_list]
            rw [← this]
            simp [List.getD, g1]
            rfl
          have b1 : x1 < 256 := by rw [← e1]; exact D[4 * i + 1].toNat_lt
          obtain ⟨x2, e2⟩ : ∃ x, D[4 * i + 2].toNat = x := ⟨_, rfl⟩
          have d2 : ((byt (vn.getD i 0)).getD 2 0).toNat = x2 := by
            rw [← hget 2 (by omega), ← e2]
            congr 1
            have : D.data.toList = digL s := by rw [R.out.2.2.2.2.2.1, bs_list]
            rw [← this]
            simp [List.getD, g2]
            rfl
          have b2 : x2 < 256 := by rw [← e2]; exact D[4 * i + 2].toNat_lt
          obtain ⟨x3, e3⟩ : ∃ x, D[4 * i + 3].toNat = x := ⟨_, rfl⟩
          have d3 : ((byt (vn.getD i 0)).getD 3 0).toNat = x3 := by
            rw [← hget 3 (by omega), ← e3]
            congr 1
            have : D.data.toList = digL s := by rw [R.out.2.2.2.2.2.1, bs_list]
            rw [← this]
            simp [List.getD, g3]
            rfl
          have b3 : x3 < 256 := by rw [← e3]; exact D[4 * i + 3].toNat_lt
          rw [d0, d1, d2, d3] at hsum
          obtain ⟨x, hx⟩ : ∃ x, x = vn.getD i 0 := ⟨_, rfl⟩
          rw [← hx] at c0 bx hsum
          have hsumI : (x0 : Int) * 16777216 + (x1 : Int) * 65536 + (x2 : Int) * 256 + (x3 : Int) = (x : Int) := by omega
          have w0 : IntKind.i64.wrap (4 * (i : Int)) = 4 * (i : Int) := IntWalk.i64_in _ (by omega)
          have n0 : (4 * (i : Int)).toNat = 4 * i := by omega
          have p0 : (0 : Int) ≤ 4 * (i : Int) := by omega
          have i0 : 4 * (i : Int) < (D.size : Int) := by omega
          have w1 : IntKind.i64.wrap (4 * (i : Int) + 1) = 4 * (i : Int) + 1 := IntWalk.i64_in _ (by omega)
          have n1 : (4 * (i : Int) + 1).toNat = 4 * i + 1 := by omega
          have p1 : (0 : Int) ≤ 4 * (i : Int) + 1 := by omega
          have i1 : 4 * (i : Int) + 1 < (D.size : Int) := by omega
          have w2 : IntKind.i64.wrap (4 * (i : Int) + 2) = 4 * (i : Int) + 2 := IntWalk.i64_in _ (by omega)
          have n2 : (4 * (i : Int) + 2).toNat = 4 * i + 2 := by omega
          have p2 : (0 : Int) ≤ 4 * (i : Int) + 2 := by omega
          have i2 : 4 * (i : Int) + 2 < (D.size : Int) := by omega
          have w3 : IntKind.i64.wrap (4 * (i : Int) + 3) = 4 * (i : Int) + 3 := IntWalk.i64_in _ (by omega)
          have n3 : (4 * (i : Int) + 3).toNat = 4 * i + 3 := by omega
          have p3 : (0 : Int) ≤ 4 * (i : Int) + 3 := by omega
          have i3 : 4 * (i : Int) + 3 < (D.size : Int) := by omega
          have RR := Lib.hid (And.intro hN hFr)
          clear hN hFr hsum hget d0 d1 d2 d3 hx
          go_wp2_with fail
          go_quiet (fail)
          go_wp2
          go_roundw
          case rel => exact ⟨i + 1, by go_num, by omega, RR.out.1.drewN _, RR.out.2.drewN _⟩
          case measure => (simp [intOf]) <;> omega
        · obtain rfl : i = 8 := by omega
          have HB := Lib.hid (hFr.below (Nat.le_refl _) fun _ h => h)
          clear hN hFr
          go_wp2
          go_ret
          exact ⟨rfl, HB.out⟩

theorem shaChain_any (s : ByteArray) (w : World) (h : Tab w) (hm : s.size ≤ maxLen) :
    Calls Try.prog 6 #[.string s] w fun e w' => e = .returned (.bool true) ∧ Below w.heap.size w w' := by
  by_cases hs : 700 < s.size
  · exact shaChain_big s w h hs hm
  · exact shaChain_small s w h (by omega)
end Go.Proofs.Ytekldmiamhneoaa
