/-
  For every text and byte SnapRuns answers true over this seat's translation. Conditions: a text has at most maxLen bytes, a byte is below 256.
-/
import Derived.Test.YtacfhjcchoefjaaSnpU
namespace Go.Proofs.Ytacfhjcchoefjaa
open Go.RowKit Go.Sort

theorem three_bytes (W : World) (x y z : Int) (h0 : 0 ≤ x) (h1 : x < 256) (h2 : 0 ≤ y) (h3 : y < 256) (h4 : 0 ≤ z) (h5 : z < 256) :
    (convert 34 9 (.slice (some ⟨W.heap.size, 0, none⟩) 3 3)).run Try.prog (W.alloc (.cells #[.int .u8 x, .int .u8 y, .int .u8 z] 5)) = .ok (.string (bs [UInt8.ofNat x.toNat, UInt8.ofNat y.toNat, UInt8.ofNat z.toNat])) (W.alloc (.cells #[.int .u8 x, .int .u8 y, .int .u8 z] 5)) := by
  refine conv8 (l := [UInt8.ofNat x.toNat, UInt8.ofNat y.toNat, UInt8.ofNat z.toNat]) (row8_of_block (heap_alloc_new W _) (fun i hi => ?_) (fun i _ => by omega)) rfl 3
  have : i = 0 ∨ i = 1 ∨ i = 2 := by simp at hi; omega
  rcases this with rfl | rfl | rfl
  · simp; omega
  · simp; omega
  · simp; omega

set_option maxRecDepth 100000 in
theorem snapRuns_out (s : ByteArray) (n : Nat) (w : World) (hs : s.size = 0 ∨ 60 < s.size) (hm : s.size ≤ maxLen) :
    Calls Try.prog 6 #[.string s, .int .u8 n] w fun e w' => e = .returned (.bool true) ∧ Below w.heap.size w w' := by
  unfold maxLen at hm
  rcases hs with hs | hs
  · go_enter Try.func6, Try.ntmps6
    go_wp2_with fail
    refine (alive_any _).mono ?_
    rintro e w1 ⟨rfl, b1⟩
    have B1 := Lib.hid b1
    clear b1
    go_wp2
    go_ret
    exact ⟨rfl, B1.out⟩
  · have t3 : decide ((60 : Int) < (s.size : Int)) = true := by simp; omega
    have t4 : ((s.size : Int) == 0) = false := by rw [beq_eq_false_iff_ne]; omega
    go_enter Try.func6, Try.ntmps6
    go_wp2_with fail
    refine (alive_any _).mono ?_
    rintro e w1 ⟨rfl, b1⟩
    have B1 := Lib.hid b1
    clear b1
    go_wp2
    go_ret
    exact ⟨rfl, B1.out⟩

set_option maxRecDepth 100000 in
theorem snapRuns_in (s : ByteArray) (n : Nat) (w : World) (hl : n < 256) (h0 : 0 < s.size) (h6 : s.size ≤ 60) :
    Calls Try.prog 6 #[.string s, .int .u8 n] w fun e w' => e = .returned (.bool true) ∧ Below w.heap.size w w' := by
  have t3 : decide ((60 : Int) < (s.size : Int)) = false := by simp; omega
  have t4 : ((s.size : Int) == 0) = false := by rw [beq_eq_false_iff_ne]; omega
  obtain ⟨k, hk⟩ : ∃ k, 1 + n % 64 = k := ⟨_, rfl⟩
  have hk1 : 1 ≤ k := by omega
  have hk6 : k ≤ 64 := by omega
  obtain ⟨q, hq⟩ : ∃ q, s.size + k = q := ⟨_, rfl⟩
  obtain ⟨y, hy⟩ : ∃ y, 4 * (s.size - 1) = y := ⟨_, rfl⟩
  obtain ⟨z, hz⟩ : ∃ z, 4 * (k - 1) + 2 = z := ⟨_, rfl⟩
  have hqb : q < 256 := by omega
  have hyb : y < 256 := by omega
  have hzb : z < 256 := by omega
  have i1 : 1 + (n : Int) % 64 = (k : Int) := by omega
  have i2 : (s.size : Int) + (k : Int) = (q : Int) := by omega
  have i3 : 4 * ((s.size : Int) - 1) = (y : Int) := by omega
  have i4 : 4 * ((k : Int) - 1) + 2 = (z : Int) := by omega
  obtain ⟨A, hA⟩ : ∃ A, A = UInt8.ofNat q := ⟨_, rfl⟩
  obtain ⟨B, hB⟩ : ∃ B, B = UInt8.ofNat y := ⟨_, rfl⟩
  obtain ⟨C, hC⟩ : ∃ C, C = UInt8.ofNat z := ⟨_, rfl⟩
  obtain ⟨D, hD⟩ : ∃ D, D = UInt8.ofNat s.size := ⟨_, rfl⟩
  have cv1 : ∀ W : World, (convert 34 9 (.slice (some ⟨W.heap.size, 0, none⟩) 2 2)).run Try.prog (W.alloc (.cells #[.int .u8 (q : Int), .int .u8 (y : Int)] 5)) = .ok (.string (bs [A, B])) (W.alloc (.cells #[.int .u8 (q : Int), .int .u8 (y : Int)] 5)) := fun W => by
    rw [hA, hB]; exact two_bytes W q y (by omega) (by omega) (by omega) (by omega)
  have cv2 : ∀ (W : World) (o : Obj), (convert 34 9 (.slice (some ⟨W.heap.size + 1, 0, none⟩) 3 3)).run Try.prog ((W.alloc o).alloc (.cells #[.int .u8 (z : Int), .int .u8 (s.size : Int), .int .u8 0] 5)) = .ok (.string (bs [C, D, 0])) ((W.alloc o).alloc (.cells #[.int .u8 (z : Int), .int .u8 (s.size : Int), .int .u8 0] 5)) := fun W o => by
    have := three_bytes (W.alloc o) z s.size 0 (by omega) (by omega) (by omega) (by omega) (by omega) (by omega)
    rw [show (W.alloc o).heap.size = W.heap.size + 1 by simp] at this
    rw [hC, hD]; exact this
  obtain ⟨T, hT⟩ : ∃ T, T = bs [A, B] ++ s ++ bs [C, D, 0] := ⟨_, rfl⟩
  have hsl : s.data.toList.length = s.size := by simp
  have hzX : (bs [A, B]).size ≤ 2 := Nat.le_refl _
  have hzY : (bs [C, D, 0]).size ≤ 3 := Nat.le_refl _
  have hTl : T.data.toList = [A] ++ (B :: (s.data.toList ++ [C, D, 0])) := by
    rw [hT, ← bs_of s, bs_append, bs_append, bs_list, bs_list]
    simp
  have hTz : T.size ≤ 70368744177664 := by
    have := congrArg List.length hTl
    simp at this
    omega
  obtain ⟨U, hU⟩ : ∃ U, U = bs (cpy k s.size s.data.toList) := ⟨_, rfl⟩
  have hUz : U.size = q := by rw [hU, bs_size, cpy_length, hsl, hq]
  have hUi : ∀ (i : Nat) (h : i < U.size), U[i] = s[i % s.size]'(Nat.mod_lt _ h0) := fun i h => by
    have h1 := cpy_round s.data.toList k i (by omega) (by omega)
    rw [hsl] at h1
    have h2 : U[i] = (cpy k s.size s.data.toList)[i]'(by rw [cpy_length]; omega) := by subst hU; rw [bs_get]
    have h3 : s[i % s.size]'(Nat.mod_lt _ h0) = s.data.toList[i % s.size]'(by rw [hsl]; exact Nat.mod_lt _ h0) := by simp; rfl
    rw [h2, h3]
    simpa [List.getD, List.getElem?_eq_getElem (show i < (cpy k s.size s.data.toList).length by rw [cpy_length]; omega), List.getElem?_eq_getElem (show i % s.size < s.data.toList.length by rw [hsl]; exact Nat.mod_lt _ h0)] using h1
  have hup : q < 128 → upk T.data.toList 200 = (cpy k s.size s.data.toList, 0) ∧ szs T.data.toList = (q, 1, 0) := fun h128 => by
    have h1 : [A] = puts q := by rw [puts_one q h128, hA]
    rw [hTl, h1, upk_puts q _ (by omega) 200 (by omega), szs_puts q _ (by omega), ← h1]
    have := els_run s.data.toList k (by omega) (by omega) hk1 hk6
    rw [hsl, hy, hz, ← hB, ← hC, ← hD, hq] at this
    exact ⟨this, rfl⟩
  have HL := Lib.hid (And.intro hT.symm (And.intro hup (And.intro hTz (And.intro hU (And.intro hUz hUi)))))
  clear hA hB hC hD hT hk hq hy hz hsl hTl hup hTz hU hUz hUi
  go_enter Try.func6, Try.ntmps6
  go_wp2_with fail
  refine (alive_any _).mono ?_
  rintro e w1 ⟨rfl, b1⟩
  have B1 := Lib.hid b1
  clear b1
  go_upto_region 7 with fail
  have B2 := Lib.hid ((B1.out.alloc B1.out.size (.cells #[.int .u8 (q : Int), .int .u8 (y : Int)] 5)).alloc (by have := B1.out.size; simp; omega) (.cells #[.int .u8 (z : Int), .int .u8 (s.size : Int), .int .u8 0] 5))
  generalize (w1.alloc (.cells #[.int .u8 (q : Int), .int .u8 (y : Int)] 5)).alloc (.cells #[.int .u8 (z : Int), .int .u8 (s.size : Int), .int .u8 0] 5) = w2 at *
  clear cv1 cv2 i3 i4
  by_cases h128 : 128 ≤ q
  · have t5 : (128 : Int) ≤ (q : Int) := by omega
    go_wp2
    go_ret
    exact ⟨rfl, B2.out⟩
  · have t5 : ¬ (128 : Int) ≤ (q : Int) := by omega
    go_wp2_with fail
    rw [HL.out.1]
    have HQ := Lib.hid (HL.out.2.1 (by omega))
    refine (unpack_nil T 200 HL.out.2.2.1 (fun _ => .inl (by rw [HQ.out.2]; show q ≤ 900000; omega)) _).mono ?_
    rw [HQ.out.1]
    simp only [← HL.out.2.2.2.1]
    rintro e w3 ⟨rfl, b3⟩
    have B3 := Lib.hid (below_then B2.out b3)
    clear b3
    have u1 : U.size ≤ q := Nat.le_of_eq HL.out.2.2.2.2.1
    have u2 : q ≤ U.size := Nat.le_of_eq HL.out.2.2.2.2.1.symm
    have u3 : ((U.size : Int) != (q : Int)) = false := by simp; omega
    go_wp2_with fail
    go_loopw [9] (fun v9 wr => ∃ i : Nat, v9 = .int .i64 i ∧ i ≤ U.size ∧ Below w.heap.size w wr) (fun v _ => U.size - (intOf v).toNat)
    case atStart => exact ⟨0, rfl, Nat.zero_le _, B3.out⟩
    case round =>
      obtain ⟨i, rfl, hi, hB⟩ := hrel
      have HB := Lib.hid hB
      clear hB
      by_cases hlt : i < U.size
      · obtain ⟨j, hj⟩ : ∃ j, i % s.size = j := ⟨_, rfl⟩
        have hjs : j < s.size := by rw [← hj]; exact Nat.mod_lt _ h0
        have hji : (i : Int) % (s.size : Int) = (j : Int) := by rw [← hj]; simp
        have hjt : (i : Int).tmod (s.size : Int) = (j : Int) := by rw [Int.tmod_eq_emod_of_nonneg (by omega)]; exact hji
        have hui : U[i] = s[j] := by subst hj; exact HL.out.2.2.2.2.2 i hlt
        have hsz0 : ¬ s.size = 0 := by omega
        clear hj
        obtain ⟨x, hx⟩ : ∃ x, s[j].toNat = x := ⟨_, rfl⟩
        have hux : U[i].toNat = x := by rw [hui, hx]
        clear hui
        have r1 : (0 : Int) ≤ (i : Int) := by omega
        have r2 : (i : Int) < (U.size : Int) := by omega
        have r3 : (0 : Int) ≤ (j : Int) := by omega
        have r4 : (j : Int) < (s.size : Int) := by omega
        have r5 : ((s.size : Int) == 0) = false := t4
        go_wp2_with fail
        go_region
        go_wp2
        exact ⟨⟨i + 1, by go_num, by omega, HB.out.drew⟩, by (simp [intOf]) <;> omega⟩
      · go_wp2
        go_ret
        exact ⟨rfl, HB.out⟩

theorem snapRuns_any (s : ByteArray) (n : Nat) (w : World) (hl : n < 256) (hm : s.size ≤ maxLen) :
    Calls Try.prog 6 #[.string s, .int .u8 n] w fun e w' => e = .returned (.bool true) ∧ Below w.heap.size w w' := by
  by_cases h1 : s.size = 0 ∨ 60 < s.size
  · exact snapRuns_out s n w h1 hm
  · exact snapRuns_in s n w hl (by omega) (by omega)
end Go.Proofs.Ytacfhjcchoefjaa
