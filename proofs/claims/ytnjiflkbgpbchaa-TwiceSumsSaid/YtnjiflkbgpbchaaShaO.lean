/-
  The contracts of sha's Pad and First, and of Mix at a block of another size (layer 5). Conditions: a count of bytes of at most 2^40, or beyond; a text of at most 2^20 bytes.
-/
import Derived.Test.YtnjiflkbgpbchaaShaE
namespace Go.Proofs.Ytnjiflkbgpbchaa
open Go.RowKit Go.Sort

theorem make_pad (z : Nat) (hz : z ≤ 64) (w : World) : (Instr.makeSlice 32 (.int .i64 (1 + (z : Int))) (.int .i64 (1 + (z : Int) + 8))).run Try.prog w =
    .ok (.slice (some ⟨w.heap.size, 0, none⟩) (1 + z) (9 + z)) (w.alloc (.cells (Array.replicate (9 + z) (.int .u8 0)) 5)) := by
  obtain ⟨i, hi, hz0, hs, hb⟩ := info_parts byte_info
  have := run_make (P := Try.prog) w 32 5 i _ Try.underlying32 hi hz0 .i64 .i64 (1 + (z : Int)) (1 + (z : Int) + 8) (by omega) (by omega) (by rw [hb]; omega) (by omega)
  rw [this]
  have e1 : (1 + (z : Int)).toNat = 1 + z := by omega
  have e2 : (1 + (z : Int) + 8).toNat = 9 + z := by omega
  simp only [e1, e2, hs, Nat.mul_one]
  congr 3
  apply Array.ext_getElem?
  intro j
  by_cases hj : j < 9 + z <;> simp [madeCells, hj, Value.cells, Nat.mod_one]

/-- The row that Pad makes, its head laid. -/
theorem own_pad (z : Nat) (hz : z ≤ 64) (w : World) :
    Own8 (w.alloc (.cells ((Array.replicate (9 + z) (.int .u8 0)).setIfInBounds 0 (.int .u8 128)) 5)) w.heap.size (.slice (some ⟨w.heap.size, 0, none⟩) (1 + z) (9 + z)) (128 :: List.replicate z 0) := by
  have hl : (128 :: List.replicate z (0 : UInt8)).length = 1 + z := by simp; omega
  refine ⟨by simp, .inr ⟨w.heap.size, 9 + z, (Array.replicate (9 + z) (.int .u8 0)).setIfInBounds 0 (.int .u8 128), by rw [hl], Nat.le_refl _, heap_alloc_new w _, by rw [hl]; omega, by unfold maxLen; omega, by simp, ?_⟩⟩
  · rw [hl]
    apply List.ext_getElem?
    intro i
    rw [List.getElem?_take]
    by_cases hi : i < (1 + z) * 1
    · rw [if_pos hi]
      cases i with
      | zero =>
        have h2 : 0 < 9 + z := by omega
        simp [enc8, h2]
      | succ i =>
        have h1 : i < z := by omega
        have h2 : i + 1 < 9 + z := by omega
        simp [h1, h2, enc8]
    · rw [if_neg hi]
      rw [List.getElem?_eq_none (by simp; omega)]

set_option maxRecDepth 100000 in
theorem pad_in (n : Nat) (w : World) (hn : n ≤ 1099511627776) :
    Calls Try.prog 17 #[.int .i64 n] w fun e w' => e = .returned (.tuple #[.string (bs (padL n)), .int .i64 0]) ∧ Below w.heap.size w w' := by
  have hz := nou_lt n
  obtain ⟨r, hr⟩ : ∃ r, r = n % 64 := ⟨_, rfl⟩
  obtain ⟨c, hc⟩ : ∃ c, c = 119 - r := ⟨_, rfl⟩
  obtain ⟨z, hzz⟩ : ∃ z, z = nou n := ⟨_, rfl⟩
  have hcz : c % 64 = z := by rw [hzz, nou]; omega
  have t1 : decide ((n : Int) < 0) = false := by simp
  have t2 : decide ((1099511627776 : Int) < (n : Int)) = false := by simp; omega
  have k1 : Int.tmod (n : Int) 64 = (r : Int) := by rw [Int.tmod_eq_emod_of_nonneg (by omega)]; omega
  have k1' : (n : Int) % 64 = (r : Int) := by omega
  have k2 : IntKind.i64.wrap (119 - (r : Int)) = (c : Int) := by rw [IntWalk.i64_in _ (by omega)]; omega
  have k2' : 119 - (r : Int) = (c : Int) := by omega
  have k3 : Int.tmod (c : Int) 64 = (z : Int) := by rw [Int.tmod_eq_emod_of_nonneg (by omega)]; omega
  have k3' : (c : Int) % 64 = (z : Int) := by omega
  have hz64 : z ≤ 63 := by omega
  obtain ⟨M, hM⟩ : ∃ M, M = 8 * n := ⟨_, rfl⟩
  have m1 : IntKind.u64.wrap (n : Int) = (n : Int) := by rw [IntKind.wrap_u64]; omega
  have m2 : IntKind.u64.wrap (8 * (n : Int)) = (M : Int) := by rw [IntKind.wrap_u64]; omega
  have hmk := fun W => make_pad z (by omega) W
  have hc0 : (Array.replicate (9 + z) (Value.int .u8 0))[0]? = some (.int .u8 0) := by rw [Array.getElem?_replicate, if_pos (by omega)]
  have HA := Lib.hid (fun v W (hO : Own8 W w.heap.size v (128 :: List.replicate z 0)) (hb : w.heap.size ≤ W.heap.size) => appendBig_any M 8 w.heap.size v _ W (by omega) (by omega) hO (by simp; omega) hb)
  have HP := Lib.hid (show (128 :: List.replicate z 0) ++ (lo M 8).reverse = padL n by rw [padL, hzz, hM])
  clear hr hc hzz hcz hM hz
  go_enter Try.func17, Try.ntmps17
  go_wp2_with fail
  refine (HA.out _ _ (own_pad z (by omega) w) (by simp)).mono ?_
  rintro e w1 ⟨v', rfl, hO, hF⟩
  rw [HP.out] at hO
  obtain ⟨g, c', rfl, _, hr8⟩ := hO.row (by rw [padL_length]; omega)
  have hcv := conv8 hr8 rfl c'
  have HF := Lib.hid (((Fr.refl _ w).alloc _).trans hF)
  clear hO hF hr8 HA hc0 hmk
  go_wp2
  go_ret2
  exact ⟨rfl, HF.out.below (Nat.le_refl _) fun _ h => h⟩

theorem pad_out (n : Int) (w : World) (hn : n < 0 ∨ 1099511627776 < n) :
    Calls Try.prog 17 #[.int .i64 n] w fun e w' => e = .returned (.tuple #[.string ByteArray.empty, .int .i64 1]) ∧ Below w.heap.size w w' := by
  by_cases h0 : n < 0
  · have t1 : decide (n < 0) = true := by simp; omega
    clear hn h0
    go_enter Try.func17, Try.ntmps17
    go_wp2
    go_ret2
    exact ⟨rfl, Below.refl _ _⟩
  · have t1 : decide (n < 0) = false := by simp; omega
    have t2 : decide (1099511627776 < n) = true := by simp; omega
    clear hn h0
    go_enter Try.func17, Try.ntmps17
    go_wp2
    go_ret2
    exact ⟨rfl, Below.refl _ _⟩

set_option maxRecDepth 100000 in
theorem first_in (w : World) : Calls Try.prog 19 #[] w fun e w' => e = .returned (wordsOf .u32 F8) ∧ Below w.heap.size w w' := by
  obtain ⟨hz8, hs8⟩ := zero_of_info eight_info
  have HS8 := Lib.hid hs8
  have Z := Nums.zeros .u32 25 w 8
  obtain ⟨V, hV⟩ : ∃ V, V = wordsOf .u32 F8 := ⟨_, rfl⟩
  obtain ⟨W, hW⟩ : ∃ W, W = (w.alloc (.cells (Array.replicate 8 (.int .u32 0)) 25)).setRow w.heap.size (F8.map fun (n : Nat) => Value.int .u32 (n : Int)).toArray := ⟨_, rfl⟩
  have N := Z.setRow F8
  have hF := fr_setRow (g := w.heap.size) (((Fr.refl (fun j => w.heap.size ≤ j) w).alloc (.cells (Array.replicate 8 (.int .u32 0)) 25))) (.inl (Nat.le_refl _)) (F8.map fun (n : Nat) => Value.int .u32 (n : Int)).toArray
  rw [← hW] at N hF
  have hld := load_nums (P := Try.prog) N 25 Try.underlying25 rfl HS8.out V hV
  have H := Lib.hid (And.intro Z (And.intro hW (And.intro hF (And.intro hld hV))))
  rw [← hV]
  clear hs8 Z hW N hF hld hV
  go_enter Try.func19, Try.ntmps19
  go_wp2_with (refine wpList_store_nums (m := F8) (by with_reducible rfl) 25 (.tmp 0) (.tmp 1) (by with_reducible rfl) (by rfl) _ (by rfl) (by rfl) H.out.1 (by rfl) HS8.out W H.out.2.1 ?_)
  refine bodyPost_ret (v := V) (results_of_cell rfl (by rfl) H.out.2.2.2.1) rfl ⟨rfl, H.out.2.2.1.below (Nat.le_refl _) fun _ h => h⟩

set_option maxRecDepth 100000 in
theorem mix_out (v : List Nat) (s : ByteArray) (Y : Array Value) (w : World) (hY : Y = (v.map fun (n : Nat) => Value.int .u32 (n : Int)).toArray) (lv : v.length = 8) (hs : s.size ≠ 64) :
    Calls Try.prog 24 #[.agg Y, .string s] w fun e w' => e = .returned (.tuple #[wordsOf .u32 (List.replicate 8 0), .int .i64 1]) ∧ Below w.heap.size w w' := by
  obtain ⟨hz8, hs8⟩ := zero_of_info eight_info
  have HS8 := Lib.hid hs8
  have t1 : ((s.size : Int) != 64) = true := by
    have : (s.size : Int) ≠ 64 := by omega
    simpa using this
  have z1 : (w.alloc (.cells Y 25)).heap.size = w.heap.size + 1 := by simp
  have Z := Nums.zeros .u32 25 (w.alloc (.cells Y 25)) 8
  obtain ⟨V, hV⟩ : ∃ V, V = wordsOf .u32 (List.replicate 8 0) := ⟨_, rfl⟩
  obtain ⟨W0, hW0⟩ : ∃ W0, W0 = (w.alloc (.cells Y 25)).alloc (.cells (Array.replicate 8 (.int .u32 0)) 25) := ⟨_, rfl⟩
  have hF0 : Fr (fun j => w.heap.size ≤ j) w W0 := by rw [hW0]; exact ((Fr.refl _ w).alloc _).alloc _
  rw [← hW0, z1] at Z
  obtain ⟨W, hW⟩ : ∃ W, W = W0.setRow (w.heap.size + 1) ((List.replicate 8 0).map fun (n : Nat) => Value.int .u32 (n : Int)).toArray := ⟨_, rfl⟩
  have N := Z.setRow (List.replicate 8 0)
  have hF := fr_setRow (g := w.heap.size + 1) hF0 (.inl (Nat.le_succ _)) ((List.replicate 8 0).map fun (n : Nat) => Value.int .u32 (n : Int)).toArray
  rw [← hW] at N hF
  have hld := load_nums (P := Try.prog) N 25 Try.underlying25 rfl (by rw [List.length_replicate]; exact HS8.out) V hV
  have H := Lib.hid (And.intro Z (And.intro hW (And.intro hF (And.intro hld (And.intro hV hW0)))))
  have HY := Lib.hid (And.intro hY lv)
  rw [← hV]
  clear hs8 Z hW N hF hld hV hW0 hF0 z1 hY lv hs
  go_enter Try.func24, Try.ntmps24
  go_wp2_with (refine wpList_store_nums (m := List.replicate 8 0) (by with_reducible rfl) 25 (.tmp 4) (.tmp 15) (by with_reducible rfl) (by rfl) _ (by rfl) (by rfl) (by rw [← H.out.2.2.2.2.2]; exact H.out.1) (by rfl) (by rw [List.length_replicate]; exact HS8.out) W (by rw [← H.out.2.2.2.2.2]; exact H.out.2.1) ?_)
  refine bodyPost_ret (v := .tuple #[V, .int .i64 1]) ?_ rfl ⟨rfl, H.out.2.2.1.below (Nat.le_refl _) fun _ h => h⟩
  exact results_cell_tmp (p := 4) (q := 5) (ty := 25) rfl (by rfl) H.out.2.2.2.1
end Go.Proofs.Ytnjiflkbgpbchaa
