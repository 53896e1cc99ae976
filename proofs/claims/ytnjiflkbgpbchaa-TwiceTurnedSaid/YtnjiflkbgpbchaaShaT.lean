/-
  The contract of sha's mixed (layer 5): all the blocks of a text, mixed one behind the other. Conditions: eight words below 2^32; a text of whole blocks, of at most 2^20 bytes.
-/
import Derived.Test.YtnjiflkbgpbchaaShaO
import Derived.Test.YtnjiflkbgpbchaaHeld
namespace Go.Proofs.Ytnjiflkbgpbchaa
open Go.RowKit Go.Sort

set_option maxRecDepth 100000 in
set_option maxHeartbeats 2000000 in
theorem mixed_in (v : List Nat) (s : ByteArray) (Y : Array Value) (k : Nat) (w : World) (hY : Y = (v.map fun (n : Nat) => Value.int .u32 (n : Int)).toArray) (lv : v.length = 8) (dv : W32 v) (hk : s.size = 64 * k) (hm : s.size ≤ 1050000) :
    Calls Try.prog 18 #[.agg Y, .string s] w fun e w' => e = .returned (wordsOf .u32 (chain KEY v s.data.toList k)) ∧ Below w.heap.size w w' := by
  obtain ⟨hz8, hs8⟩ := zero_of_info eight_info
  have HS8 := Lib.hid hs8
  have HH := Lib.hid (And.intro hY (And.intro lv (And.intro dv (And.intro hk hm))))
  have e0 : s = bs (s.data.toList.drop (64 * 0)) := by simp [bs_of]
  obtain ⟨l, hl⟩ : ∃ l, l = s.data.toList := ⟨_, rfl⟩
  have hll : l.length = 64 * k := by rw [hl, ← hk]; simp
  rw [← hl] at e0
  rw [← hl]
  have HE := Lib.hid (And.intro e0 hll)
  clear hY lv dv hk hm hs8 e0 hll hl
  go_enter Try.func18, Try.ntmps18
  go_wp2_with fail
  obtain ⟨g, hg⟩ : ∃ g, g = w.heap.size := ⟨_, rfl⟩
  have z1 : (w.alloc (.cells Y 25)).heap.size = w.heap.size + 1 := by simp
  have N0 : Nums .u32 25 (w.alloc (.cells Y 25)) w.heap.size v := by rw [HH.out.1]; exact Nums.new .u32 _ w v
  have M0 := N0.alloc (.cells (Array.replicate 8 (.int .u32 0)) 25)
  have M1 := Nums.zeros .u32 25 (w.alloc (.cells Y 25)) 8
  rw [z1] at M1
  have F0 : Fr (fun j => w.heap.size ≤ j) w ((w.alloc (.cells Y 25)).alloc (.cells (Array.replicate 8 (.int .u32 0)) 25)) := ((Fr.refl _ w).alloc _).alloc _
  obtain ⟨W0, hW0⟩ : ∃ W0, W0 = (w.alloc (.cells Y 25)).alloc (.cells (Array.replicate 8 (.int .u32 0)) 25) := ⟨_, rfl⟩
  rw [← hW0] at M0 M1 F0
  rw [← hW0, ← hg]
  rw [← hg] at M0 M1 F0
  have HG := Lib.hid hg
  have R0 := Lib.hid (And.intro M0 (And.intro M1 F0))
  clear N0 z1 hW0 hg M0 M1 F0
  go_loopw [1] (fun v1 wr => ∃ j : Nat, v1 = .string (bs (l.drop (64 * j))) ∧ j ≤ k ∧ Nums .u32 25 wr g (chain KEY v l j) ∧ Nums .u32 25 wr (g + 1) (List.replicate 8 0) ∧ Fr (fun j => g ≤ j) w wr) (fun v _ => match v with | .string u => u.size | _ => 0)
  case atStart => exact ⟨0, by rw [← HE.out.1], Nat.zero_le _, R0.out.1, R0.out.2.1, R0.out.2.2⟩
  case round =>
    clear R0
    obtain ⟨j, rfl, hj, hN, hZ, hF⟩ := hrel
    have hll := HE.out.2
    have hsz : (bs (l.drop (64 * j))).size = 64 * k - 64 * j := by rw [bs_size, List.length_drop, hll]
    have hx1 := bs_extract (l.drop (64 * j)) 0 64
    have hx2 := bs_tail (l.drop (64 * j)) 64
    rw [List.drop_zero, Nat.sub_zero] at hx1
    rw [List.drop_drop, show 64 * j + 64 = 64 * (j + 1) by omega] at hx2
    obtain ⟨U, hU⟩ : ∃ U, U = bs (l.drop (64 * j)) := ⟨_, rfl⟩
    rw [← hU] at hsz hx1 hx2
    rw [← hU]
    by_cases hlt : j < k
    · have t1 : decide ((64 : Int) ≤ (U.size : Int)) = true := by simp; omega
      have i1 : (64 : Int) ≤ (U.size : Int) := by omega
      obtain ⟨bk, hbk⟩ : ∃ bk, bk = bs ((l.drop (64 * j)).take 64) := ⟨_, rfl⟩
      rw [← hbk] at hx1
      have hbl : bk.data.toList = (l.drop (64 * j)).take 64 := by rw [hbk, bs_list]
      have hbz : bk.size = 64 := by rw [hbk, bs_size, List.length_take, List.length_drop, hll]; omega
      have hc : mixed KEY bk.data.toList (chain KEY v l j) = chain KEY v l (j + 1) := by rw [hbl]; rfl
      have lv := chain_length KEY v l HH.out.2.1 j
      have dv := chain_w32 KEY v l HH.out.2.2.1 j
      have lv2 := chain_length KEY v l HH.out.2.1 (j + 1)
      obtain ⟨vk, hvk⟩ : ∃ vk, vk = chain KEY v l j := ⟨_, rfl⟩
      obtain ⟨vn, hvn⟩ : ∃ vn, vn = chain KEY v l (j + 1) := ⟨_, rfl⟩
      rw [← hvk] at hN lv dv hc
      rw [← hvn] at hc lv2
      obtain ⟨X, hX⟩ : ∃ X, X = (vk.map fun (n : Nat) => Value.int .u32 (n : Int)).toArray := ⟨_, rfl⟩
      have hV : Value.agg X = wordsOf .u32 vk := by rw [hX]; rfl
      have HM := Lib.hid (fun W => mix_any vk bk X W hX lv dv hbz)
      rw [hc] at HM
      obtain ⟨VN, hVN⟩ : ∃ VN, VN = wordsOf .u32 vn := ⟨_, rfl⟩
      rw [← hVN] at HM
      have R := Lib.hid (And.intro hN (And.intro hZ (And.intro hF (And.intro lv (And.intro lv2 (And.intro hV (And.intro hVN (And.intro hvn (And.intro hsz hx2)))))))))
      clear hN hZ hF lv dv lv2 hV hVN hvn hc hX hbz hbl hbk hvk hU hsz
      go_wp2_with fail
      refine wp_region_held_drew (S := fun _ => True) (by kernel_rfl) trivial (fun hHeld => ?_)
      refine held_take 1 12 (v := ?v1) rfl rfl (by kernel_rfl) (by kernel_rfl) (by kernel_rfl) (fun _ _ _ h => h) (by rfl) ?hy1 (by assumption) ?rest1
      case hy1 => (intro w hSw; (try dsimp only at hSw); go_simp; try with_reducible rfl)
      try simp only [Act.put, List.setIfInBounds_toArray, List.set_cons_zero, List.set_cons_succ]
      refine held_take 2 13 (v := ?v2) rfl rfl (by kernel_rfl) (by kernel_rfl) (by kernel_rfl) (fun _ _ _ h => h) (by rfl) ?hy2 (by assumption) ?rest2
      case hy2 => (intro w hSw; (try dsimp only at hSw); go_simp; try with_reducible rfl)
      try simp only [Act.put, List.setIfInBounds_toArray, List.set_cons_zero, List.set_cons_succ]
      refine wpAnyH_ready (rs := [0]) (by kernel_rfl) (by simp) ?_
      refine AllReadyH.cons rfl (fun K hK => ?_) AllReadyH.nil
      rw [if_pos (by rfl)]
      refine wp_load_nums 25 (.tmp 2) rfl (by rfl) R.out.1.drew Try.underlying25 rfl (by rw [R.out.2.2.2.1]; exact HS8.out) (.agg X) R.out.2.2.2.2.2.1 ?_
      refine hK.out _ _ trivial (fun _ => ?_)
      clear hK K
      simp only [Act.put, List.setIfInBounds_toArray]
      refine wpAnyH_ready (rs := [3]) (by kernel_rfl) (by simp) ?_
      refine AllReadyH.cons rfl (fun K hK => ?_) AllReadyH.nil
      go_simp
      refine (HM.out _).mono ?_
      rintro x w5 ⟨rfl, b5⟩
      have M1 := R.out.1.drew.bel b5
      have M2 := R.out.2.1.drew.bel b5
      have F5 := R.out.2.2.1.drew.trans (Fr.ofBelow b5)
      refine hK.out _ _ trivial (fun _ => ?_)
      clear hK K b5
      try simp only [Act.put, List.setIfInBounds_toArray, List.set_cons_zero, List.set_cons_succ]
      refine held_take 4 10 (v := ?v4) rfl rfl (by kernel_rfl) (by kernel_rfl) (by kernel_rfl) (fun _ _ _ h => h) (by rfl) ?hy4 trivial ?rest4
      case hy4 => (intro w hSw; (try dsimp only at hSw); go_simp; try with_reducible rfl)
      try simp only [Act.put, List.setIfInBounds_toArray, List.set_cons_zero, List.set_cons_succ]
      refine held_take 5 15 (v := ?v5) rfl rfl (by kernel_rfl) (by kernel_rfl) (by kernel_rfl) (fun _ _ _ h => h) (by rfl) ?hy5 trivial ?rest5
      case hy5 => (intro w hSw; (try dsimp only at hSw); go_simp; try with_reducible rfl)
      try simp only [Act.put, List.setIfInBounds_toArray, List.set_cons_zero, List.set_cons_succ]
      refine held_take 6 16 (v := ?v6) rfl rfl (by kernel_rfl) (by kernel_rfl) (by kernel_rfl) (fun _ _ _ h => h) (by rfl) ?hy6 trivial ?rest6
      case hy6 => (intro w hSw; (try dsimp only at hSw); go_simp; try with_reducible rfl)
      try simp only [Act.put, List.setIfInBounds_toArray, List.set_cons_zero, List.set_cons_succ]
      obtain ⟨W6, hW6⟩ : ∃ W6, W6 = w5.setRow g (vn.map fun (n : Nat) => Value.int .u32 (n : Int)).toArray := ⟨_, rfl⟩
      have M3 := M1.setRow vn
      have M4 : Nums .u32 25 W6 (g + 1) (List.replicate 8 0) := by
        rw [hW6]
        refine M2.keep ?_
        simp only [World.setRow, Array.getElem?_modify]
        rw [if_neg (by omega)]
      have F6 := fr_setRow (g := g) F5 (.inl (Nat.le_refl g)) (vn.map fun (n : Nat) => Value.int .u32 (n : Int)).toArray
      rw [← hW6] at M3 F6
      refine wpAnyH_ready (rs := [7]) (by kernel_rfl) (by simp) ?_
      refine AllReadyH.cons rfl (fun K hK => ?_) AllReadyH.nil
      rw [if_pos (by rfl)]
      refine wp_store_nums 25 (.tmp 2) (.tmp 15) rfl (by rfl) VN (by rfl) R.out.2.2.2.2.2.2.1 M1 (by rw [R.out.2.2.2.1, R.out.2.2.2.2.1]) (by rw [R.out.2.2.2.2.1]; exact HS8.out) W6 hW6 ?_
      refine hK.out _ _ trivial (fun _ => ?_)
      have R6 := Lib.hid (And.intro M3 (And.intro M4 F6))
      clear hK K M1 M2 F5 hW6 M3 M4 F6
      refine wpAnyH_done (by kernel_rfl) ?_ _
      simp only [Act.put, List.setIfInBounds_toArray]
      go_wp2
      go_roundw
      case rel => exact ⟨j + 1, by rw [← R.out.2.2.2.2.2.2.2.2.2], by omega, by rw [← R.out.2.2.2.2.2.2.2.1]; exact R6.out.1, R6.out.2.1, R6.out.2.2⟩
      case measure =>
        have h1 := R.out.2.2.2.2.2.2.2.2.1
        simp only [bs_size, List.length_drop, HE.out.2, h1]
        omega
    · obtain rfl : j = k := by omega
      have h0 : U.size = 0 := by omega
      have t1 : decide ((64 : Int) ≤ (U.size : Int)) = false := by rw [h0]; rfl
      have lv := chain_length KEY v l HH.out.2.1 j
      obtain ⟨vn, hvn⟩ : ∃ vn, vn = chain KEY v l j := ⟨_, rfl⟩
      rw [← hvn] at hN lv
      obtain ⟨V, hVV⟩ : ∃ V, V = wordsOf .u32 vn := ⟨_, rfl⟩
      obtain ⟨W9, hW9⟩ : ∃ W9, W9 = wr.setRow (g + 1) (vn.map fun (n : Nat) => Value.int .u32 (n : Int)).toArray := ⟨_, rfl⟩
      have hA2 := hZ.setRow vn
      have hF2 := fr_setRow (g := g + 1) hF (.inl (Nat.le_succ g)) (vn.map fun (n : Nat) => Value.int .u32 (n : Int)).toArray
      rw [← hW9] at hA2 hF2
      have hld := load_nums (P := Try.prog) hA2 25 Try.underlying25 rfl (by rw [lv]; exact HS8.out) V hVV
      have H := Lib.hid (And.intro hN (And.intro hZ (And.intro hF2 (And.intro hVV (And.intro hW9 (And.intro lv (And.intro hld hvn)))))))
      clear hN hZ hF hA2 hF2 hld hVV hW9 lv hlt hj hvn hx1 hx2 hU hsz h0
      go_wp2_with (first
        | (refine wpList_load_nums (by with_reducible rfl) 25 (.tmp 2) (by with_reducible rfl) (by rfl) H.out.1 Try.underlying25 rfl (by rw [H.out.2.2.2.2.2.1]; exact HS8.out) V H.out.2.2.2.1 ?_)
        | (refine wpList_store_nums (by with_reducible rfl) 25 (.tmp 4) (.tmp 17) (by with_reducible rfl) (by rfl) V (by rfl) H.out.2.2.2.1 H.out.2.1 (by rw [H.out.2.2.2.2.2.1, List.length_replicate]) (by rw [H.out.2.2.2.2.2.1]; exact HS8.out) W9 H.out.2.2.2.2.1 ?_))
      refine bodyPost_ret (v := V) (results_of_cell rfl (by rfl) H.out.2.2.2.2.2.2.1) rfl ⟨by rw [H.out.2.2.2.1, H.out.2.2.2.2.2.2.2], H.out.2.2.1.below (Nat.le_refl _) (fun _ h => by rw [← HG.out]; exact h)⟩
end Go.Proofs.Ytnjiflkbgpbchaa
