/-
  For every text, cap and room SnapMeters answers true over this seat's translation. Conditions: a text has at most maxLen bytes, the numbers are ints.
-/
import Derived.Test.YtacfhjcchoefjaaSnpL
namespace Go.Proofs.Ytacfhjcchoefjaa
open Go.RowKit Go.Sort

theorem tk_new (O n : Int) (h0 : 0 ≤ n) (hO : O ≤ 9223372036854775807) (h : n ≤ O) : tk O 0 0 0 n = (0, n, n, n) := by
  rw [tk, if_neg (by omega), mv, if_neg (by omega), if_neg (by omega)]
  split
  · simp
  · have : n = 0 := by omega
    subst this
    simp
theorem tk_over (O n : Int) (h0 : 0 ≤ n) (hO : O ≤ 9223372036854775807) (h : O < n) : tk O 0 0 0 n = (5, 0, 0, 0) := by
  rw [tk, if_neg (by omega), mv, if_neg (by omega), if_pos (by omega)]

theorem snapMeters_big (s : ByteArray) (most room : Int) (w : World) (hs : 1500 < s.size) (hm : s.size ≤ maxLen) :
    Calls Try.prog 4 #[.string s, .int .i64 most, .int .i64 room] w fun e w' => e = .returned (.bool true) ∧ Below w.heap.size w w' := by
  unfold maxLen at hm
  have t3 : decide ((1500 : Int) < (s.size : Int)) = true := by simp; omega
  go_enter Try.func4, Try.ntmps4
  go_wp2_with fail
  refine (alive_any _).mono ?_
  rintro e w1 ⟨rfl, b1⟩
  have B1 := Lib.hid b1
  clear b1
  go_wp2
  go_ret
  exact ⟨rfl, B1.out⟩

theorem snapMeters_far (s : ByteArray) (most room : Int) (w : World) (hs : s.size ≤ 1500) (n k f : Nat) (hz : szs s.data.toList = (n, k, f)) (hm : 20000 < most) (hn : 20000 < n) :
    Calls Try.prog 4 #[.string s, .int .i64 most, .int .i64 room] w fun e w' => e = .returned (.bool true) ∧ Below w.heap.size w w' := by
  have t3 : decide ((1500 : Int) < (s.size : Int)) = false := by simp; omega
  have t4 : decide ((20000 : Int) < most) = true := by simp; omega
  have t5 : decide ((20000 : Int) < (n : Int)) = true := by simp; omega
  have HZ := Lib.hid hz
  clear hz hm hn
  go_enter Try.func4, Try.ntmps4
  go_wp2_with fail
  refine (alive_any _).mono ?_
  rintro e w1 ⟨rfl, b1⟩
  have B1 := Lib.hid b1
  clear b1
  go_wp2_with fail
  refine (refSize_any s _).mono ?_
  rw [HZ.out]
  rintro e w3 ⟨rfl, rfl⟩
  simp only [sized3]
  go_wp2
  go_ret
  exact ⟨rfl, B1.out⟩

theorem snapMeters_err (s : ByteArray) (most room O : Int) (w : World) (hs : s.size ≤ 1500) (n k f : Nat) (hz : szs s.data.toList = (n, k, f)) (hn : most ≤ 20000 ∨ n ≤ 20000) (hO : max room 0 = O) (hr : room ≤ 9223372036854775807) (hf : f ≠ 0) :
    Calls Try.prog 4 #[.string s, .int .i64 most, .int .i64 room] w fun e w' => e = .returned (.bool true) ∧ Below w.heap.size w w' := by
  have t3 : decide ((1500 : Int) < (s.size : Int)) = false := by simp; omega
  have hc : (szs s.data.toList).2.2 = 0 → (szs s.data.toList).1 ≤ 900000 ∨ most < ((szs s.data.toList).1 : Int) := fun _ => by rw [hz]; show n ≤ 900000 ∨ most < (n : Int); omega
  have HZ := Lib.hid (And.intro hz hc)
  have HO : Hid (max room 0 = O ∧ 0 ≤ O ∧ O ≤ 9223372036854775807) := Lib.hid ⟨hO, by omega, by omega⟩
  have hu : umt s.data.toList most O 0 0 0 = (([], (f : Int)), 0, 0, 0) := by unfold umt; rw [hz]; simp [hf]
  have HU := Lib.hid hu
  have q1 : ((f : Int) != 0) = true := by simp; omega
  have q2 : ((f : Int) == 0) = false := by simp; omega
  clear hz hc hO hr hf hu
  by_cases h2 : 20000 < most
  · have t4 : decide ((20000 : Int) < most) = true := by simp; omega
    have t5 : decide ((20000 : Int) < (n : Int)) = false := by simp; omega
    clear h2 hn
    go_enter Try.func4, Try.ntmps4
    go_wp2_with fail
    refine (alive_any _).mono ?_
    rintro e w1 ⟨rfl, b1⟩
    have B1 := Lib.hid b1
    clear b1
    go_wp2_with fail
    refine (refSize_any s _).mono ?_
    rw [HZ.out.1]
    rintro e w3 ⟨rfl, rfl⟩
    simp only [sized3]
    go_wp2_with fail
    refine (new_any _ _).mono ?_
    rintro e w2 ⟨rfl, rfl⟩
    rw [HO.out.1]
    have M0 := Mt.new w1 O
    have F0 : Fr (fun j => w1.heap.size ≤ j) w1 (w1.alloc (.cells #[.int .i64 O, .int .i64 0, .int .i64 0, .int .i64 0] 46)) := (Fr.refl _ w1).alloc _
    obtain ⟨b, hb⟩ : ∃ b, w1.heap.size = b := ⟨_, rfl⟩
    rw [hb] at M0 ⊢
    have B2 := Lib.hid (show Below w.heap.size w (w1.alloc (.cells #[.int .i64 O, .int .i64 0, .int .i64 0, .int .i64 0] 46)) from B1.out.alloc B1.out.size _)
    have hbw : w.heap.size ≤ b := by rw [← hb]; exact B1.out.size
    generalize w1.alloc (.cells #[.int .i64 O, .int .i64 0, .int .i64 0, .int .i64 0] 46) = W at *
    have M := Lib.hid M0
    clear M0 F0 hb
    go_wp2_with fail
    refine (unpack_meter b O 0 0 0 s most (by omega) HZ.out.2 W M.out (by omega) HO.out.2.1 HO.out.2.2 (by omega) (by omega)).mono ?_
    rw [HU.out]
    simp only [show bs [] = ⟨#[]⟩ from rfl]
    rintro e w3 ⟨rfl, m3, f3⟩
    have M3 := Lib.hid m3
    have B3 := Lib.hid (B2.out.trans (f3.below B2.out.size (fun j hj => by omega)))
    clear m3 f3
    go_wp2_with fail
    refine (used_any b O 0 0 0 _ M3.out).mono ?_
    rintro e w4 ⟨rfl, b4⟩
    have M4 := Lib.hid (M3.out.keep (b4.block b M3.out.lt))
    have B4 := Lib.hid (B3.out.trans (b4.mono B3.out.size))
    clear b4
    go_wp2_with fail
    refine (taken_any b O 0 0 0 _ M4.out).mono ?_
    rintro e w5 ⟨rfl, b5⟩
    have B5 := Lib.hid (B4.out.trans (b5.mono B4.out.size))
    clear b5
    go_wp2
    go_ret
    exact ⟨rfl, B5.out⟩
  · have t4 : decide ((20000 : Int) < most) = false := by simp; omega
    clear h2 hn
    go_enter Try.func4, Try.ntmps4
    go_wp2_with fail
    refine (alive_any _).mono ?_
    rintro e w1 ⟨rfl, b1⟩
    have B1 := Lib.hid b1
    clear b1
    go_wp2_with fail
    refine (refSize_any s _).mono ?_
    rw [HZ.out.1]
    rintro e w3 ⟨rfl, rfl⟩
    simp only [sized3]
    go_wp2_with fail
    refine (new_any _ _).mono ?_
    rintro e w2 ⟨rfl, rfl⟩
    rw [HO.out.1]
    have M0 := Mt.new w1 O
    have F0 : Fr (fun j => w1.heap.size ≤ j) w1 (w1.alloc (.cells #[.int .i64 O, .int .i64 0, .int .i64 0, .int .i64 0] 46)) := (Fr.refl _ w1).alloc _
    obtain ⟨b, hb⟩ : ∃ b, w1.heap.size = b := ⟨_, rfl⟩
    rw [hb] at M0 ⊢
    have B2 := Lib.hid (show Below w.heap.size w (w1.alloc (.cells #[.int .i64 O, .int .i64 0, .int .i64 0, .int .i64 0] 46)) from B1.out.alloc B1.out.size _)
    have hbw : w.heap.size ≤ b := by rw [← hb]; exact B1.out.size
    generalize w1.alloc (.cells #[.int .i64 O, .int .i64 0, .int .i64 0, .int .i64 0] 46) = W at *
    have M := Lib.hid M0
    clear M0 F0 hb
    go_wp2_with fail
    refine (unpack_meter b O 0 0 0 s most (by omega) HZ.out.2 W M.out (by omega) HO.out.2.1 HO.out.2.2 (by omega) (by omega)).mono ?_
    rw [HU.out]
    simp only [show bs [] = ⟨#[]⟩ from rfl]
    rintro e w3 ⟨rfl, m3, f3⟩
    have M3 := Lib.hid m3
    have B3 := Lib.hid (B2.out.trans (f3.below B2.out.size (fun j hj => by omega)))
    clear m3 f3
    go_wp2_with fail
    refine (used_any b O 0 0 0 _ M3.out).mono ?_
    rintro e w4 ⟨rfl, b4⟩
    have M4 := Lib.hid (M3.out.keep (b4.block b M3.out.lt))
    have B4 := Lib.hid (B3.out.trans (b4.mono B3.out.size))
    clear b4
    go_wp2_with fail
    refine (taken_any b O 0 0 0 _ M4.out).mono ?_
    rintro e w5 ⟨rfl, b5⟩
    have B5 := Lib.hid (B4.out.trans (b5.mono B4.out.size))
    clear b5
    go_wp2
    go_ret
    exact ⟨rfl, B5.out⟩

theorem snapMeters_over (s : ByteArray) (most room O : Int) (w : World) (hs : s.size ≤ 1500) (n k f : Nat) (hz : szs s.data.toList = (n, k, f)) (hn : most ≤ 20000 ∨ n ≤ 20000) (hO : max room 0 = O) (hr : room ≤ 9223372036854775807) (hf : f = 0) (ho : most < (n : Int)) :
    Calls Try.prog 4 #[.string s, .int .i64 most, .int .i64 room] w fun e w' => e = .returned (.bool true) ∧ Below w.heap.size w w' := by
  have t3 : decide ((1500 : Int) < (s.size : Int)) = false := by simp; omega
  have hc : (szs s.data.toList).2.2 = 0 → (szs s.data.toList).1 ≤ 900000 ∨ most < ((szs s.data.toList).1 : Int) := fun _ => by rw [hz]; show n ≤ 900000 ∨ most < (n : Int); omega
  have HZ := Lib.hid (And.intro hz hc)
  have HO : Hid (max room 0 = O ∧ 0 ≤ O ∧ O ≤ 9223372036854775807) := Lib.hid ⟨hO, by omega, by omega⟩
  subst hf
  have hu : umt s.data.toList most O 0 0 0 = (([], 5), 0, 0, 0) := by unfold umt; rw [hz]; simp [ho]
  have HU := Lib.hid hu
  have q1 : decide (most < (n : Int)) = true := by simp; omega
  clear hz hc hO hr hu ho
  by_cases h2 : 20000 < most
  · have t4 : decide ((20000 : Int) < most) = true := by simp; omega
    have t5 : decide ((20000 : Int) < (n : Int)) = false := by simp; omega
    clear h2 hn
    go_enter Try.func4, Try.ntmps4
    go_wp2_with fail
    refine (alive_any _).mono ?_
    rintro e w1 ⟨rfl, b1⟩
    have B1 := Lib.hid b1
    clear b1
    go_wp2_with fail
    refine (refSize_any s _).mono ?_
    rw [HZ.out.1]
    rintro e w3 ⟨rfl, rfl⟩
    simp only [sized3]
    go_wp2_with fail
    refine (new_any _ _).mono ?_
    rintro e w2 ⟨rfl, rfl⟩
    rw [HO.out.1]
    have M0 := Mt.new w1 O
    have F0 : Fr (fun j => w1.heap.size ≤ j) w1 (w1.alloc (.cells #[.int .i64 O, .int .i64 0, .int .i64 0, .int .i64 0] 46)) := (Fr.refl _ w1).alloc _
    obtain ⟨b, hb⟩ : ∃ b, w1.heap.size = b := ⟨_, rfl⟩
    rw [hb] at M0 ⊢
    have B2 := Lib.hid (show Below w.heap.size w (w1.alloc (.cells #[.int .i64 O, .int .i64 0, .int .i64 0, .int .i64 0] 46)) from B1.out.alloc B1.out.size _)
    have hbw : w.heap.size ≤ b := by rw [← hb]; exact B1.out.size
    generalize w1.alloc (.cells #[.int .i64 O, .int .i64 0, .int .i64 0, .int .i64 0] 46) = W at *
    have M := Lib.hid M0
    clear M0 F0 hb
    go_wp2_with fail
    refine (unpack_meter b O 0 0 0 s most (by omega) HZ.out.2 W M.out (by omega) HO.out.2.1 HO.out.2.2 (by omega) (by omega)).mono ?_
    rw [HU.out]
    simp only [show bs [] = ⟨#[]⟩ from rfl]
    rintro e w3 ⟨rfl, m3, f3⟩
    have M3 := Lib.hid m3
    have B3 := Lib.hid (B2.out.trans (f3.below B2.out.size (fun j hj => by omega)))
    clear m3 f3
    go_wp2_with fail
    refine (used_any b O 0 0 0 _ M3.out).mono ?_
    rintro e w4 ⟨rfl, b4⟩
    have M4 := Lib.hid (M3.out.keep (b4.block b M3.out.lt))
    have B4 := Lib.hid (B3.out.trans (b4.mono B3.out.size))
    clear b4
    go_wp2_with fail
    refine (taken_any b O 0 0 0 _ M4.out).mono ?_
    rintro e w5 ⟨rfl, b5⟩
    have B5 := Lib.hid (B4.out.trans (b5.mono B4.out.size))
    clear b5
    go_wp2
    go_ret
    exact ⟨rfl, B5.out⟩
  · have t4 : decide ((20000 : Int) < most) = false := by simp; omega
    clear h2 hn
    go_enter Try.func4, Try.ntmps4
    go_wp2_with fail
    refine (alive_any _).mono ?_
    rintro e w1 ⟨rfl, b1⟩
    have B1 := Lib.hid b1
    clear b1
    go_wp2_with fail
    refine (refSize_any s _).mono ?_
    rw [HZ.out.1]
    rintro e w3 ⟨rfl, rfl⟩
    simp only [sized3]
    go_wp2_with fail
    refine (new_any _ _).mono ?_
    rintro e w2 ⟨rfl, rfl⟩
    rw [HO.out.1]
    have M0 := Mt.new w1 O
    have F0 : Fr (fun j => w1.heap.size ≤ j) w1 (w1.alloc (.cells #[.int .i64 O, .int .i64 0, .int .i64 0, .int .i64 0] 46)) := (Fr.refl _ w1).alloc _
    obtain ⟨b, hb⟩ : ∃ b, w1.heap.size = b := ⟨_, rfl⟩
    rw [hb] at M0 ⊢
    have B2 := Lib.hid (show Below w.heap.size w (w1.alloc (.cells #[.int .i64 O, .int .i64 0, .int .i64 0, .int .i64 0] 46)) from B1.out.alloc B1.out.size _)
    have hbw : w.heap.size ≤ b := by rw [← hb]; exact B1.out.size
    generalize w1.alloc (.cells #[.int .i64 O, .int .i64 0, .int .i64 0, .int .i64 0] 46) = W at *
    have M := Lib.hid M0
    clear M0 F0 hb
    go_wp2_with fail
    refine (unpack_meter b O 0 0 0 s most (by omega) HZ.out.2 W M.out (by omega) HO.out.2.1 HO.out.2.2 (by omega) (by omega)).mono ?_
    rw [HU.out]
    simp only [show bs [] = ⟨#[]⟩ from rfl]
    rintro e w3 ⟨rfl, m3, f3⟩
    have M3 := Lib.hid m3
    have B3 := Lib.hid (B2.out.trans (f3.below B2.out.size (fun j hj => by omega)))
    clear m3 f3
    go_wp2_with fail
    refine (used_any b O 0 0 0 _ M3.out).mono ?_
    rintro e w4 ⟨rfl, b4⟩
    have M4 := Lib.hid (M3.out.keep (b4.block b M3.out.lt))
    have B4 := Lib.hid (B3.out.trans (b4.mono B3.out.size))
    clear b4
    go_wp2_with fail
    refine (taken_any b O 0 0 0 _ M4.out).mono ?_
    rintro e w5 ⟨rfl, b5⟩
    have B5 := Lib.hid (B4.out.trans (b5.mono B4.out.size))
    clear b5
    go_wp2
    go_ret
    exact ⟨rfl, B5.out⟩

theorem snapMeters_full (s : ByteArray) (most room O : Int) (w : World) (hs : s.size ≤ 1500) (n k f : Nat) (hz : szs s.data.toList = (n, k, f)) (hn : most ≤ 20000 ∨ n ≤ 20000) (hO : max room 0 = O) (hr : room ≤ 9223372036854775807) (hf : f = 0) (ho : (n : Int) ≤ most) (hl : O < (n : Int)) :
    Calls Try.prog 4 #[.string s, .int .i64 most, .int .i64 room] w fun e w' => e = .returned (.bool true) ∧ Below w.heap.size w w' := by
  have t3 : decide ((1500 : Int) < (s.size : Int)) = false := by simp; omega
  have hc : (szs s.data.toList).2.2 = 0 → (szs s.data.toList).1 ≤ 900000 ∨ most < ((szs s.data.toList).1 : Int) := fun _ => by rw [hz]; show n ≤ 900000 ∨ most < (n : Int); omega
  have HZ := Lib.hid (And.intro hz hc)
  have HO : Hid (max room 0 = O ∧ 0 ≤ O ∧ O ≤ 9223372036854775807) := Lib.hid ⟨hO, by omega, by omega⟩
  subst hf
  have htk : tk O 0 0 0 ((n : Nat) : Int) = (5, 0, 0, 0) := tk_over O n (by omega) (by omega) hl
  have hu : umt s.data.toList most O 0 0 0 = (([], 5), 0, 0, 0) := by
    unfold umt; rw [hz]
    have ho2 : ¬ most < (n : Int) := by omega
    simp [ho2, htk]
  have HU := Lib.hid hu
  have q1 : decide (most < (n : Int)) = false := by simp; omega
  have q2 : (if room < 0 then 0 else room) = O := by split <;> omega
  have q4 : decide (O < (n : Int)) = true := by simp; omega
  have q5 : max room 0 = O := hO
  clear hz hc hO hr hu ho hl htk
  by_cases h2 : 20000 < most
  · have t4 : decide ((20000 : Int) < most) = true := by simp; omega
    have t5 : decide ((20000 : Int) < (n : Int)) = false := by simp; omega
    clear h2 hn
    go_enter Try.func4, Try.ntmps4
    go_wp2_with fail
    refine (alive_any _).mono ?_
    rintro e w1 ⟨rfl, b1⟩
    have B1 := Lib.hid b1
    clear b1
    go_wp2_with fail
    refine (refSize_any s _).mono ?_
    rw [HZ.out.1]
    rintro e w3 ⟨rfl, rfl⟩
    simp only [sized3]
    go_wp2_with fail
    refine (new_any _ _).mono ?_
    rintro e w2 ⟨rfl, rfl⟩
    rw [HO.out.1]
    have M0 := Mt.new w1 O
    have F0 : Fr (fun j => w1.heap.size ≤ j) w1 (w1.alloc (.cells #[.int .i64 O, .int .i64 0, .int .i64 0, .int .i64 0] 46)) := (Fr.refl _ w1).alloc _
    obtain ⟨b, hb⟩ : ∃ b, w1.heap.size = b := ⟨_, rfl⟩
    rw [hb] at M0 ⊢
    have B2 := Lib.hid (show Below w.heap.size w (w1.alloc (.cells #[.int .i64 O, .int .i64 0, .int .i64 0, .int .i64 0] 46)) from B1.out.alloc B1.out.size _)
    have hbw : w.heap.size ≤ b := by rw [← hb]; exact B1.out.size
    generalize w1.alloc (.cells #[.int .i64 O, .int .i64 0, .int .i64 0, .int .i64 0] 46) = W at *
    have M := Lib.hid M0
    clear M0 F0 hb
    go_wp2_with fail
    refine (unpack_meter b O 0 0 0 s most (by omega) HZ.out.2 W M.out (by omega) HO.out.2.1 HO.out.2.2 (by omega) (by omega)).mono ?_
    rw [HU.out]
    simp only [show bs [] = ⟨#[]⟩ from rfl]
    rintro e w3 ⟨rfl, m3, f3⟩
    have M3 := Lib.hid m3
    have B3 := Lib.hid (B2.out.trans (f3.below B2.out.size (fun j hj => by omega)))
    clear m3 f3
    go_wp2_with fail
    refine (used_any b O 0 0 0 _ M3.out).mono ?_
    rintro e w4 ⟨rfl, b4⟩
    have M4 := Lib.hid (M3.out.keep (b4.block b M3.out.lt))
    have B4 := Lib.hid (B3.out.trans (b4.mono B3.out.size))
    clear b4
    go_wp2
    go_ret
    exact ⟨rfl, B4.out⟩
  · have t4 : decide ((20000 : Int) < most) = false := by simp; omega
    clear h2 hn
    go_enter Try.func4, Try.ntmps4
    go_wp2_with fail
    refine (alive_any _).mono ?_
    rintro e w1 ⟨rfl, b1⟩
    have B1 := Lib.hid b1
    clear b1
    go_wp2_with fail
    refine (refSize_any s _).mono ?_
    rw [HZ.out.1]
    rintro e w3 ⟨rfl, rfl⟩
    simp only [sized3]
    go_wp2_with fail
    refine (new_any _ _).mono ?_
    rintro e w2 ⟨rfl, rfl⟩
    rw [HO.out.1]
    have M0 := Mt.new w1 O
    have F0 : Fr (fun j => w1.heap.size ≤ j) w1 (w1.alloc (.cells #[.int .i64 O, .int .i64 0, .int .i64 0, .int .i64 0] 46)) := (Fr.refl _ w1).alloc _
    obtain ⟨b, hb⟩ : ∃ b, w1.heap.size = b := ⟨_, rfl⟩
    rw [hb] at M0 ⊢
    have B2 := Lib.hid (show Below w.heap.size w (w1.alloc (.cells #[.int .i64 O, .int .i64 0, .int .i64 0, .int .i64 0] 46)) from B1.out.alloc B1.out.size _)
    have hbw : w.heap.size ≤ b := by rw [← hb]; exact B1.out.size
    generalize w1.alloc (.cells #[.int .i64 O, .int .i64 0, .int .i64 0, .int .i64 0] 46) = W at *
    have M := Lib.hid M0
    clear M0 F0 hb
    go_wp2_with fail
    refine (unpack_meter b O 0 0 0 s most (by omega) HZ.out.2 W M.out (by omega) HO.out.2.1 HO.out.2.2 (by omega) (by omega)).mono ?_
    rw [HU.out]
    simp only [show bs [] = ⟨#[]⟩ from rfl]
    rintro e w3 ⟨rfl, m3, f3⟩
    have M3 := Lib.hid m3
    have B3 := Lib.hid (B2.out.trans (f3.below B2.out.size (fun j hj => by omega)))
    clear m3 f3
    go_wp2_with fail
    refine (used_any b O 0 0 0 _ M3.out).mono ?_
    rintro e w4 ⟨rfl, b4⟩
    have M4 := Lib.hid (M3.out.keep (b4.block b M3.out.lt))
    have B4 := Lib.hid (B3.out.trans (b4.mono B3.out.size))
    clear b4
    go_wp2
    go_ret
    exact ⟨rfl, B4.out⟩

theorem snapMeters_fits (s : ByteArray) (most room O : Int) (w : World) (hs : s.size ≤ 1500) (n k f : Nat) (hz : szs s.data.toList = (n, k, f)) (hn : most ≤ 20000 ∨ n ≤ 20000) (hO : max room 0 = O) (hr : room ≤ 9223372036854775807) (hf : f = 0) (ho : (n : Int) ≤ most) (hl : (n : Int) ≤ O) :
    Calls Try.prog 4 #[.string s, .int .i64 most, .int .i64 room] w fun e w' => e = .returned (.bool true) ∧ Below w.heap.size w w' := by
  have t3 : decide ((1500 : Int) < (s.size : Int)) = false := by simp; omega
  have hc : (szs s.data.toList).2.2 = 0 → (szs s.data.toList).1 ≤ 900000 ∨ most < ((szs s.data.toList).1 : Int) := fun _ => by rw [hz]; show n ≤ 900000 ∨ most < (n : Int); omega
  have HZ := Lib.hid (And.intro hz hc)
  have HO : Hid (max room 0 = O ∧ 0 ≤ O ∧ O ≤ 9223372036854775807) := Lib.hid ⟨hO, by omega, by omega⟩
  subst hf
  have htk : tk O 0 0 0 ((n : Nat) : Int) = (0, (n : Int), (n : Int), (n : Int)) := tk_new O n (by omega) (by omega) hl
  obtain ⟨OO, g, hup⟩ : ∃ OO g, upk s.data.toList most = (OO, g) := ⟨_, _, rfl⟩
  have hu : umt s.data.toList most O 0 0 0 = ((OO, (g : Int)), (n : Int), (n : Int), (n : Int)) := by
    unfold umt; rw [hz, hup]
    have ho2 : ¬ most < (n : Int) := by omega
    simp [ho2, htk]
  obtain ⟨U, hU⟩ : ∃ U, U = bs OO := ⟨_, rfl⟩
  have HU := Lib.hid hu
  have HE := Lib.hid (And.intro hup hU)
  have q1 : decide (most < (n : Int)) = false := by simp; omega
  have q2 : (if room < 0 then 0 else room) = O := by split <;> omega
  have q4 : decide (O < (n : Int)) = false := by simp; omega
  have q5 : max room 0 = O := hO
  clear hz hc hO hr hu ho hl htk hup hU
  by_cases h2 : 20000 < most
  · have t4 : decide ((20000 : Int) < most) = true := by simp; omega
    have t5 : decide ((20000 : Int) < (n : Int)) = false := by simp; omega
    clear h2 hn
    go_enter Try.func4, Try.ntmps4
    go_wp2_with fail
    refine (alive_any _).mono ?_
    rintro e w1 ⟨rfl, b1⟩
    have B1 := Lib.hid b1
    clear b1
    go_wp2_with fail
    refine (refSize_any s _).mono ?_
    rw [HZ.out.1]
    rintro e w3 ⟨rfl, rfl⟩
    simp only [sized3]
    go_wp2_with fail
    refine (new_any _ _).mono ?_
    rintro e w2 ⟨rfl, rfl⟩
    rw [HO.out.1]
    have M0 := Mt.new w1 O
    have F0 : Fr (fun j => w1.heap.size ≤ j) w1 (w1.alloc (.cells #[.int .i64 O, .int .i64 0, .int .i64 0, .int .i64 0] 46)) := (Fr.refl _ w1).alloc _
    obtain ⟨b, hb⟩ : ∃ b, w1.heap.size = b := ⟨_, rfl⟩
    rw [hb] at M0 ⊢
    have B2 := Lib.hid (show Below w.heap.size w (w1.alloc (.cells #[.int .i64 O, .int .i64 0, .int .i64 0, .int .i64 0] 46)) from B1.out.alloc B1.out.size _)
    have hbw : w.heap.size ≤ b := by rw [← hb]; exact B1.out.size
    generalize w1.alloc (.cells #[.int .i64 O, .int .i64 0, .int .i64 0, .int .i64 0] 46) = W at *
    have M := Lib.hid M0
    clear M0 F0 hb
    go_wp2_with fail
    refine (unpack_meter b O 0 0 0 s most (by omega) HZ.out.2 W M.out (by omega) HO.out.2.1 HO.out.2.2 (by omega) (by omega)).mono ?_
    rw [HU.out]
    rintro e w3 ⟨rfl, m3, f3⟩
    have M3 := Lib.hid m3
    have B3 := Lib.hid (B2.out.trans (f3.below B2.out.size (fun j hj => by omega)))
    clear m3 f3
    simp only [← HE.out.2]
    go_wp2_with fail
    refine (refUnpack_any s most HZ.out.2 _).mono ?_
    rw [HE.out.1]
    rintro e w6 ⟨rfl, b6⟩
    have M6 := Lib.hid (M3.out.keep (b6.block b M3.out.lt))
    have B6 := Lib.hid (below_then B3.out b6)
    clear b6
    simp only [← HE.out.2]
    go_wp2_with fail
    refine (used_any b O n n n _ M6.out).mono ?_
    rintro e w4 ⟨rfl, b4⟩
    have M4 := Lib.hid (M6.out.keep (b4.block b M6.out.lt))
    have B4 := Lib.hid (B6.out.trans (b4.mono B6.out.size))
    clear b4
    go_wp2_with fail
    refine (taken_any b O n n n _ M4.out).mono ?_
    rintro e w5 ⟨rfl, b5⟩
    have B5 := Lib.hid (B4.out.trans (b5.mono B4.out.size))
    clear b5
    go_wp2
    go_ret
    exact ⟨rfl, B5.out⟩
  · have t4 : decide ((20000 : Int) < most) = false := by simp; omega
    clear h2 hn
    go_enter Try.func4, Try.ntmps4
    go_wp2_with fail
    refine (alive_any _).mono ?_
    rintro e w1 ⟨rfl, b1⟩
    have B1 := Lib.hid b1
    clear b1
    go_wp2_with fail
    refine (refSize_any s _).mono ?_
    rw [HZ.out.1]
    rintro e w3 ⟨rfl, rfl⟩
    simp only [sized3]
    go_wp2_with fail
    refine (new_any _ _).mono ?_
    rintro e w2 ⟨rfl, rfl⟩
    rw [HO.out.1]
    have M0 := Mt.new w1 O
    have F0 : Fr (fun j => w1.heap.size ≤ j) w1 (w1.alloc (.cells #[.int .i64 O, .int .i64 0, .int .i64 0, .int .i64 0] 46)) := (Fr.refl _ w1).alloc _
    obtain ⟨b, hb⟩ : ∃ b, w1.heap.size = b := ⟨_, rfl⟩
    rw [hb] at M0 ⊢
    have B2 := Lib.hid (show Below w.heap.size w (w1.alloc (.cells #[.int .i64 O, .int .i64 0, .int .i64 0, .int .i64 0] 46)) from B1.out.alloc B1.out.size _)
    have hbw : w.heap.size ≤ b := by rw [← hb]; exact B1.out.size
    generalize w1.alloc (.cells #[.int .i64 O, .int .i64 0, .int .i64 0, .int .i64 0] 46) = W at *
    have M := Lib.hid M0
    clear M0 F0 hb
    go_wp2_with fail
    refine (unpack_meter b O 0 0 0 s most (by omega) HZ.out.2 W M.out (by omega) HO.out.2.1 HO.out.2.2 (by omega) (by omega)).mono ?_
    rw [HU.out]
    rintro e w3 ⟨rfl, m3, f3⟩
    have M3 := Lib.hid m3
    have B3 := Lib.hid (B2.out.trans (f3.below B2.out.size (fun j hj => by omega)))
    clear m3 f3
    simp only [← HE.out.2]
    go_wp2_with fail
    refine (refUnpack_any s most HZ.out.2 _).mono ?_
    rw [HE.out.1]
    rintro e w6 ⟨rfl, b6⟩
    have M6 := Lib.hid (M3.out.keep (b6.block b M3.out.lt))
    have B6 := Lib.hid (below_then B3.out b6)
    clear b6
    simp only [← HE.out.2]
    go_wp2_with fail
    refine (used_any b O n n n _ M6.out).mono ?_
    rintro e w4 ⟨rfl, b4⟩
    have M4 := Lib.hid (M6.out.keep (b4.block b M6.out.lt))
    have B4 := Lib.hid (B6.out.trans (b4.mono B6.out.size))
    clear b4
    go_wp2_with fail
    refine (taken_any b O n n n _ M4.out).mono ?_
    rintro e w5 ⟨rfl, b5⟩
    have B5 := Lib.hid (B4.out.trans (b5.mono B4.out.size))
    clear b5
    go_wp2
    go_ret
    exact ⟨rfl, B5.out⟩

theorem snapMeters_any (s : ByteArray) (most room : Int) (w : World) (hm : s.size ≤ maxLen) (hr : room ≤ 9223372036854775807) :
    Calls Try.prog 4 #[.string s, .int .i64 most, .int .i64 room] w fun e w' => e = .returned (.bool true) ∧ Below w.heap.size w w' := by
  by_cases h1 : 1500 < s.size
  · exact snapMeters_big s most room w h1 hm
  · obtain ⟨n, k, f, hz⟩ : ∃ n k f, szs s.data.toList = (n, k, f) := ⟨_, _, _, rfl⟩
    by_cases h2 : 20000 < most ∧ 20000 < n
    · exact snapMeters_far s most room w (by omega) n k f hz h2.1 h2.2
    · by_cases hf : f = 0
      · by_cases ho : most < (n : Int)
        · exact snapMeters_over s most room _ w (by omega) n k f hz (by omega) rfl hr hf ho
        · by_cases hl : max room 0 < (n : Int)
          · exact snapMeters_full s most room _ w (by omega) n k f hz (by omega) rfl hr hf (by omega) hl
          · exact snapMeters_fits s most room _ w (by omega) n k f hz (by omega) rfl hr hf (by omega) (by omega)
      · exact snapMeters_err s most room _ w (by omega) n k f hz (by omega) rfl hr hf
end Go.Proofs.Ytacfhjcchoefjaa
