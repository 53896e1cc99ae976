/-
  For every text and every cap SnapUnpacks answers true over this seat's translation; alive, too. Conditions: a text has at most maxLen bytes, a cap is an int.
-/
import Derived.Test.YtacfhjcchoefjaaSnpD
import Derived.Test.YtacfhjcchoefjaaSnpR
namespace Go.Proofs.Ytacfhjcchoefjaa
open Go.RowKit Go.Sort

theorem upk_alive : upk [5, 16, 97, 98, 99, 100, 101] 9 = ([97, 98, 99, 100, 101], 0) := by decide +kernel
theorem szs_alive : szs [5, 16, 97, 98, 99, 100, 101] = (5, 1, 0) := by decide +kernel

theorem alive_any (w : World) : Calls Try.prog 7 #[] w fun e w' => e = .returned (.bool true) ∧ Below w.heap.size w w' := by
  go_enter Try.func7, Try.ntmps7
  go_wp2_with fail
  refine (unpack_nil ⟨#[5, 16, 97, 98, 99, 100, 101]⟩ 9 (by decide) (fun _ => .inl (by rw [szs_alive]; decide)) _).mono ?_
  rw [upk_alive]
  simp only [show bs [97, 98, 99, 100, 101] = ⟨#[97, 98, 99, 100, 101]⟩ from rfl]
  rintro e w1 ⟨rfl, b1⟩
  have B1 := Lib.hid b1
  clear b1
  go_wp2
  go_ret
  exact ⟨rfl, B1.out⟩

theorem snapUnpacks_big (s : ByteArray) (most : Int) (w : World) (hs : 1500 < s.size) (hm : s.size ≤ maxLen) :
    Calls Try.prog 3 #[.string s, .int .i64 most] w fun e w' => e = .returned (.bool true) ∧ Below w.heap.size w w' := by
  unfold maxLen at hm
  have t3 : decide ((1500 : Int) < (s.size : Int)) = true := by simp; omega
  go_enter Try.func3, Try.ntmps3
  go_wp2_with fail
  refine (alive_any _).mono ?_
  rintro e w1 ⟨rfl, b1⟩
  have B1 := Lib.hid b1
  clear b1
  go_wp2
  go_ret
  exact ⟨rfl, B1.out⟩

theorem snapUnpacks_far (s : ByteArray) (most : Int) (w : World) (hs : s.size ≤ 1500) (n k f : Nat) (hz : szs s.data.toList = (n, k, f)) (hm : 20000 < most) (hn : 20000 < n) :
    Calls Try.prog 3 #[.string s, .int .i64 most] w fun e w' => e = .returned (.bool true) ∧ Below w.heap.size w w' := by
  have t3 : decide ((1500 : Int) < (s.size : Int)) = false := by simp; omega
  have t4 : decide ((20000 : Int) < most) = true := by simp; omega
  have t5 : decide ((20000 : Int) < (n : Int)) = true := by simp; omega
  have HZ := Lib.hid hz
  clear hz hm hn
  go_enter Try.func3, Try.ntmps3
  go_wp2_with fail
  refine (alive_any _).mono ?_
  rintro e w1 ⟨rfl, b1⟩
  have B1 := Lib.hid b1
  clear b1
  go_wp2_with fail
  refine (size_any s (by omega) n k f HZ.out _).mono ?_
  rintro e w2 ⟨rfl, b2⟩
  have B2 := Lib.hid (below_then B1.out b2)
  clear b2
  go_wp2_with fail
  refine (refSize_any s _).mono ?_
  rw [HZ.out]
  rintro e w3 ⟨rfl, rfl⟩
  simp only [sized3]
  go_wp2
  go_ret
  exact ⟨rfl, B2.out⟩

theorem upk_size (s : List UInt8) (most : Int) (h : (upk s most).2 = 0) : (upk s most).1.length = (szs s).1 ∧ ((szs s).1 : Int) ≤ most := by
  unfold upk at h ⊢
  by_cases h1 : (szs s).2.2 = 0
  · rw [if_pos h1] at h ⊢
    by_cases h2 : most < ((szs s).1 : Int)
    · rw [if_pos h2] at h; cases h
    · rw [if_neg h2] at h ⊢
      exact ⟨els_size _ _ _ _ (Nat.le_refl _) (Nat.zero_le _) h, by omega⟩
  · rw [if_neg h1] at h; exact absurd h h1

theorem snapUnpacks_near (s : ByteArray) (most : Int) (w : World) (hs : s.size ≤ 1500) (n k f : Nat) (hz : szs s.data.toList = (n, k, f)) (hn : most ≤ 20000 ∨ n ≤ 20000) :
    Calls Try.prog 3 #[.string s, .int .i64 most] w fun e w' => e = .returned (.bool true) ∧ Below w.heap.size w w' := by
  have t3 : decide ((1500 : Int) < (s.size : Int)) = false := by simp; omega
  obtain ⟨O, g, hu⟩ : ∃ O g, upk s.data.toList most = (O, g) := ⟨_, _, rfl⟩
  have hc : (szs s.data.toList).2.2 = 0 → (szs s.data.toList).1 ≤ 900000 ∨ most < ((szs s.data.toList).1 : Int) := fun _ => by rw [hz]; show n ≤ 900000 ∨ most < (n : Int); omega
  have HZ := Lib.hid (And.intro hz hc)
  obtain ⟨U, hU⟩ : ∃ U, U = bs O := ⟨_, rfl⟩
  have hUz : g = 0 → U.size = n ∧ (n : Int) ≤ most := fun h0 => by
    have := upk_size s.data.toList most (by rw [hu]; exact h0)
    rw [hu, hz] at this
    rw [hU, bs_size]
    exact this
  have HU := Lib.hid (And.intro hu hU)
  clear hc hz hu hU
  by_cases h2 : 20000 < most
  · have t4 : decide ((20000 : Int) < most) = true := by simp; omega
    have t5 : decide ((20000 : Int) < (n : Int)) = false := by simp; omega
    by_cases hg : g = 0
    · obtain ⟨hz1, hz2⟩ := hUz hg
      have q1 : ((g : Int) != 0) = false := by simp; omega
      have q2 : ((U.size : Int) == (n : Int)) = true := by simp; omega
      have q3 : decide ((n : Int) ≤ most) = true := by simp; omega
      clear h2 hn hg hz1 hz2 hUz
      go_enter Try.func3, Try.ntmps3
      go_wp2_with fail
      refine (alive_any _).mono ?_
      rintro e w1 ⟨rfl, b1⟩
      have B1 := Lib.hid b1
      clear b1
      go_wp2_with fail
      refine (size_any s (by omega) n k f HZ.out.1 _).mono ?_
      rintro e w2 ⟨rfl, b2⟩
      have B2 := Lib.hid (below_then B1.out b2)
      clear b2
      go_wp2_with fail
      refine (refSize_any s _).mono ?_
      rw [HZ.out.1]
      rintro e w3 ⟨rfl, rfl⟩
      simp only [sized3]
      go_wp2_with fail
      refine (unpack_nil s most (by omega) HZ.out.2 _).mono ?_
      rw [HU.out.1]
      rintro e w3 ⟨rfl, b3⟩
      have B3 := Lib.hid (below_then B2.out b3)
      clear b3
      simp only [← HU.out.2]
      go_wp2_with fail
      refine (refUnpack_any s most HZ.out.2 _).mono ?_
      rw [HU.out.1]
      rintro e w4 ⟨rfl, b4⟩
      have B4 := Lib.hid (below_then B3.out b4)
      clear b4
      simp only [← HU.out.2]
      go_wp2
      go_ret
      exact ⟨rfl, B4.out⟩
    · have q1 : ((g : Int) != 0) = true := by simp; omega
      clear h2 hn hg hUz
      go_enter Try.func3, Try.ntmps3
      go_wp2_with fail
      refine (alive_any _).mono ?_
      rintro e w1 ⟨rfl, b1⟩
      have B1 := Lib.hid b1
      clear b1
      go_wp2_with fail
      refine (size_any s (by omega) n k f HZ.out.1 _).mono ?_
      rintro e w2 ⟨rfl, b2⟩
      have B2 := Lib.hid (below_then B1.out b2)
      clear b2
      go_wp2_with fail
      refine (refSize_any s _).mono ?_
      rw [HZ.out.1]
      rintro e w3 ⟨rfl, rfl⟩
      simp only [sized3]
      go_wp2_with fail
      refine (unpack_nil s most (by omega) HZ.out.2 _).mono ?_
      rw [HU.out.1]
      rintro e w3 ⟨rfl, b3⟩
      have B3 := Lib.hid (below_then B2.out b3)
      clear b3
      simp only [← HU.out.2]
      go_wp2_with fail
      refine (refUnpack_any s most HZ.out.2 _).mono ?_
      rw [HU.out.1]
      rintro e w4 ⟨rfl, b4⟩
      have B4 := Lib.hid (below_then B3.out b4)
      clear b4
      simp only [← HU.out.2]
      go_wp2
      go_ret
      exact ⟨rfl, B4.out⟩
  · have t4 : decide ((20000 : Int) < most) = false := by simp; omega
    by_cases hg : g = 0
    · obtain ⟨hz1, hz2⟩ := hUz hg
      have q1 : ((g : Int) != 0) = false := by simp; omega
      have q2 : ((U.size : Int) == (n : Int)) = true := by simp; omega
      have q3 : decide ((n : Int) ≤ most) = true := by simp; omega
      clear h2 hn hg hz1 hz2 hUz
      go_enter Try.func3, Try.ntmps3
      go_wp2_with fail
      refine (alive_any _).mono ?_
      rintro e w1 ⟨rfl, b1⟩
      have B1 := Lib.hid b1
      clear b1
      go_wp2_with fail
      refine (size_any s (by omega) n k f HZ.out.1 _).mono ?_
      rintro e w2 ⟨rfl, b2⟩
      have B2 := Lib.hid (below_then B1.out b2)
      clear b2
      go_wp2_with fail
      refine (refSize_any s _).mono ?_
      rw [HZ.out.1]
      rintro e w3 ⟨rfl, rfl⟩
      simp only [sized3]
      go_wp2_with fail
      refine (unpack_nil s most (by omega) HZ.out.2 _).mono ?_
      rw [HU.out.1]
      rintro e w3 ⟨rfl, b3⟩
      have B3 := Lib.hid (below_then B2.out b3)
      clear b3
      simp only [← HU.out.2]
      go_wp2_with fail
      refine (refUnpack_any s most HZ.out.2 _).mono ?_
      rw [HU.out.1]
      rintro e w4 ⟨rfl, b4⟩
      have B4 := Lib.hid (below_then B3.out b4)
      clear b4
      simp only [← HU.out.2]
      go_wp2
      go_ret
      exact ⟨rfl, B4.out⟩
    · have q1 : ((g : Int) != 0) = true := by simp; omega
      clear h2 hn hg hUz
      go_enter Try.func3, Try.ntmps3
      go_wp2_with fail
      refine (alive_any _).mono ?_
      rintro e w1 ⟨rfl, b1⟩
      have B1 := Lib.hid b1
      clear b1
      go_wp2_with fail
      refine (size_any s (by omega) n k f HZ.out.1 _).mono ?_
      rintro e w2 ⟨rfl, b2⟩
      have B2 := Lib.hid (below_then B1.out b2)
      clear b2
      go_wp2_with fail
      refine (refSize_any s _).mono ?_
      rw [HZ.out.1]
      rintro e w3 ⟨rfl, rfl⟩
      simp only [sized3]
      go_wp2_with fail
      refine (unpack_nil s most (by omega) HZ.out.2 _).mono ?_
      rw [HU.out.1]
      rintro e w3 ⟨rfl, b3⟩
      have B3 := Lib.hid (below_then B2.out b3)
      clear b3
      simp only [← HU.out.2]
      go_wp2_with fail
      refine (refUnpack_any s most HZ.out.2 _).mono ?_
      rw [HU.out.1]
      rintro e w4 ⟨rfl, b4⟩
      have B4 := Lib.hid (below_then B3.out b4)
      clear b4
      simp only [← HU.out.2]
      go_wp2
      go_ret
      exact ⟨rfl, B4.out⟩

theorem snapUnpacks_any (s : ByteArray) (most : Int) (w : World) (hm : s.size ≤ maxLen) :
    Calls Try.prog 3 #[.string s, .int .i64 most] w fun e w' => e = .returned (.bool true) ∧ Below w.heap.size w w' := by
  by_cases h1 : 1500 < s.size
  · exact snapUnpacks_big s most w h1 hm
  · obtain ⟨n, k, f, hz⟩ : ∃ n k f, szs s.data.toList = (n, k, f) := ⟨_, _, _, rfl⟩
    by_cases h2 : 20000 < most ∧ 20000 < n
    · exact snapUnpacks_far s most w (by omega) n k f hz h2.1 h2.2
    · exact snapUnpacks_near s most w (by omega) n k f hz (by omega)
end Go.Proofs.Ytacfhjcchoefjaa
