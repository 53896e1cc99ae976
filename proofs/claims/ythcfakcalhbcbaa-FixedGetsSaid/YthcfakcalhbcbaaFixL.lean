/-
  For every number and size FixedPuts answers true, for every text FixedGets does, for every two numbers FixedOrder does. Conditions: each number is a uint64.
-/
import Derived.Test.YthcfakcalhbcbaaFixR
namespace Go.Proofs.Ythcfakcalhbcbaa
open Go.RowKit Go.Sort

theorem below_then {w w1 w2 : World} (h1 : Below w.heap.size w w1) (h2 : Below w1.heap.size w1 w2) : Below w.heap.size w w2 := h1.trans (h2.mono h1.size)

theorem lo_258 : bs (lo 258 3) = ⟨#[2, 1, 0]⟩ := rfl
theorem hi_258 : bs (lo 258 3).reverse = ⟨#[0, 1, 2]⟩ := rfl
theorem least_258 : bs (least 258) = ⟨#[1, 2]⟩ := by
  have : least 258 = [1, 2] := by rw [least_pos (by omega), show 258 / 256 = 1 from rfl, least_pos (by omega), show 1 / 256 = 0 from rfl, least_zero]; rfl
  rw [this]; rfl
theorem digs_258 : digs 258 ≤ 3 := digs_le.2 (by decide)

theorem alive_any (w : World) : Calls Try.prog 6 #[] w fun e w' => e = .returned (.bool true) ∧ Below w.heap.size w w' := by
  have h258 := digs_258
  go_enter Try.func6, Try.ntmps6
  go_wp2_with fail
  refine (little_ok 258 3 _ (by omega) (by omega) (by omega) h258).mono ?_
  rw [lo_258]
  rintro e w1 ⟨rfl, b1⟩
  have B1 := Lib.hid b1
  clear b1
  go_wp2_with fail
  refine (big_ok 258 3 _ (by omega) (by omega) (by omega) h258).mono ?_
  rw [hi_258]
  rintro e w2 ⟨rfl, b2⟩
  have B2 := Lib.hid (below_then B1.out b2)
  clear b2
  go_wp2_with fail
  refine (getLeast_form _ (⟨#[0, 1]⟩ : ByteArray) (by decide) (by decide) (by decide)).mono ?_
  rintro e w3 ⟨rfl, b3⟩
  have B3 := Lib.hid (below_then B2.out b3)
  clear b3
  go_wp2_with fail
  refine (least_any 258 _ (by omega)).mono ?_
  rw [least_258]
  rintro e w4 ⟨rfl, b4⟩
  have B4 := Lib.hid (below_then B3.out b4)
  clear b4
  go_wp2
  go_ret
  exact ⟨rfl, B4.out⟩

theorem be_cons (b : UInt8) (l : List UInt8) : be (b :: l) = be l + 256 ^ l.length * b.toNat := by
  simp [be, num_append, num]
theorem less_be : ∀ (x y : List UInt8), x.length = y.length → Op.bytesLess x y = decide (be x < be y)
  | [], [], _ => by simp [Op.bytesLess]
  | a :: x, b :: y, h => by
    have hl : x.length = y.length := by simpa using h
    have ih := less_be x y hl
    have hx := be_lt x
    have hy := be_lt y
    rw [be_cons, be_cons, Op.bytesLess, ih, hl]
    rw [hl] at hx
    generalize 256 ^ y.length = p at *
    by_cases h1 : a < b
    · have h1' : a.toNat < b.toNat := UInt8.lt_iff_toNat_lt.1 h1
      have : p * a.toNat + p ≤ p * b.toNat := by rw [← Nat.mul_succ]; exact Nat.mul_le_mul_left p h1'
      simp [h1]; omega
    · by_cases h2 : a = b
      · subst h2; simp
      · have h3 : b.toNat < a.toNat := by
          have h4 : ¬ a.toNat < b.toNat := fun h => h1 (UInt8.lt_iff_toNat_lt.2 h)
          have h5 : a.toNat ≠ b.toNat := fun h => h2 (UInt8.toNat_inj.1 h)
          omega
        have : p * b.toNat + p ≤ p * a.toNat := by rw [← Nat.mul_succ]; exact Nat.mul_le_mul_left p h3
        rw [decide_eq_false h1, beq_eq_false_iff_ne.2 h2, Bool.false_and, Bool.false_or]
        exact (decide_eq_false (by omega)).symm
  | [], _ :: _, h => by simp at h
  | _ :: _, [], h => by simp at h

theorem less_big (a b : Nat) (ha : a < 18446744073709551616) (hb : b < 18446744073709551616) :
    Op.bytesLess (bs (lo a 8).reverse).toList (bs (lo b 8).reverse).toList = decide (a < b) := by
  have h1 : (bs (lo a 8).reverse).toList = (lo a 8).reverse := by rw [ByteArray.toList_eq]; simp [bs]
  have h2 : (bs (lo b 8).reverse).toList = (lo b 8).reverse := by rw [ByteArray.toList_eq]; simp [bs]
  rw [h1, h2, less_be _ _ (by simp [lo_length]), be_lo, be_lo, Nat.mod_eq_of_lt (by simpa using ha), Nat.mod_eq_of_lt (by simpa using hb)]
theorem same_big (a b : Nat) (ha : a < 18446744073709551616) (hb : b < 18446744073709551616) :
    ((bs (lo a 8).reverse).toList == (bs (lo b 8).reverse).toList) = ((a : Int) == (b : Int)) := by
  have h1 : (bs (lo a 8).reverse).toList = (lo a 8).reverse := by rw [ByteArray.toList_eq]; simp [bs]
  have h2 : (bs (lo b 8).reverse).toList = (lo b 8).reverse := by rw [ByteArray.toList_eq]; simp [bs]
  rw [h1, h2, Bool.eq_iff_iff, beq_iff_eq, beq_iff_eq]
  constructor
  · intro h
    have := lo_inj (by simpa using ha) (by simpa using hb) (List.reverse_inj.1 h)
    rw [this]
  · intro h
    have : a = b := by omega
    rw [this]

theorem order_any (a b : Nat) (ha : a < 18446744073709551616) (hb : b < 18446744073709551616) (w : World) :
    Calls Try.prog 5 #[.int .u64 a, .int .u64 b] w fun e w' => e = .returned (.bool true) ∧ Below w.heap.size w w' := by
  have hl := less_big a b ha hb
  have hs := same_big a b ha hb
  go_enter Try.func5, Try.ntmps5
  go_wp2_with fail
  refine (alive_any _).mono ?_
  rintro e w0 ⟨rfl, b0⟩
  have B0 := Lib.hid b0
  clear b0
  go_wp2_with fail
  refine (big_ok a 8 _ ha (by omega) (by omega) (digs_le8 ha)).mono ?_
  rintro e w1 ⟨rfl, b1⟩
  have B1 := Lib.hid (below_then B0.out b1)
  clear b1
  go_wp2_with fail
  refine (big_ok b 8 _ hb (by omega) (by omega) (digs_le8 hb)).mono ?_
  rintro e w2 ⟨rfl, b2⟩
  have B2 := Lib.hid (below_then B1.out b2)
  clear b2
  go_wp2
  all_goals
    go_ret
    refine ⟨?_, B2.out⟩
    first | rfl | (simp only [hs]; rfl)

theorem bs_list (l : List UInt8) : (bs l).data.toList = l := by simp [bs]

theorem head_ne (l : List UInt8) (hl : ∀ b m, l = b :: m → b ≠ 0) (h : 0 < l.length) : l[0] ≠ 0 := by
  cases l with
  | nil => simp at h
  | cons b m => exact hl b m rfl

/-- GetLeast of a number's least bytes. -/
theorem getLeast_least (n : Nat) (hn : n < 18446744073709551616) (w : World) :
    Calls Try.prog 10 #[.string (bs (least n))] w fun e w' => e = .returned (.tuple #[.int .u64 n, .int .i64 0]) ∧ Below w.heap.size w w' := by
  have h8 := digs_le8 hn
  by_cases h0 : n = 0
  · subst h0
    rw [least_zero]
    exact (getLeast_none w).mono fun e w' ⟨he, hw⟩ => ⟨he, hw ▸ Below.refl _ _⟩
  · have hp := digs_pos h0
    have hsz : (bs (least n)).size = digs n := bs_size _
    have h := getLeast_ok w (bs (least n)) (by omega) (by omega) (by
      rw [bs_get]
      exact head_ne _ (fun b m => least_head n b m) _)
    rw [bs_list, be_least] at h
    exact h

theorem puts_arg (n : Nat) (s : Int) (hn : n < 18446744073709551616) (hs : s < 1 ∨ 8 < s) (w : World) :
    Calls Try.prog 3 #[.int .u64 n, .int .i64 s] w fun e w' => e = .returned (.bool true) ∧ Below w.heap.size w w' := by
  have HS := Lib.hid hs
  clear hs
  go_enter Try.func3, Try.ntmps3
  go_wp2_with fail
  refine (alive_any _).mono ?_
  rintro e w0 ⟨rfl, b0⟩
  have B0 := Lib.hid b0
  clear b0
  go_wp2_with fail
  refine (little_arg n _ s HS.out).mono ?_
  rintro e w' ⟨rfl, rfl⟩
  go_wp2_with fail
  refine (big_arg n _ s HS.out).mono ?_
  rintro e w' ⟨rfl, rfl⟩
  go_wp2_with fail
  refine (least_any n _ hn).mono ?_
  rintro e w3 ⟨rfl, b3⟩
  have B3 := Lib.hid (below_then B0.out b3)
  clear b3
  go_wp2_with fail
  refine (getLeast_least n hn _).mono ?_
  rintro e w4 ⟨rfl, b4⟩
  have B4 := Lib.hid (below_then B3.out b4)
  clear b4
  go_wp2_with fail
  refine (refLeast_any n _ hn).mono ?_
  rintro e w5 ⟨rfl, b5⟩
  have B5 := Lib.hid (below_then B4.out b5)
  clear b5
  have hs := HS.out
  rcases hs with hs | hs
  · have h1 : decide (s < 1) = true := decide_eq_true hs
    go_wp2
    go_ret
    exact ⟨rfl, B5.out⟩
  · have h1 : ¬ s < 1 := by omega
    go_wp2
    go_ret
    exact ⟨rfl, B5.out⟩

theorem puts_over (n k : Nat) (hn : n < 18446744073709551616) (h1 : 1 ≤ k) (h8 : k ≤ 8) (hk : k < digs n) (w : World) :
    Calls Try.prog 3 #[.int .u64 n, .int .i64 k] w fun e w' => e = .returned (.bool true) ∧ Below w.heap.size w w' := by
  go_enter Try.func3, Try.ntmps3
  go_wp2_with fail
  refine (alive_any _).mono ?_
  rintro e w0 ⟨rfl, b0⟩
  have B0 := Lib.hid b0
  clear b0
  go_wp2_with fail
  refine (little_over n k _ hn h1 h8 hk).mono ?_
  rintro e w' ⟨rfl, rfl⟩
  go_wp2_with fail
  refine (big_over n k _ hn h1 h8 hk).mono ?_
  rintro e w' ⟨rfl, rfl⟩
  go_wp2_with fail
  refine (least_any n _ hn).mono ?_
  rintro e w3 ⟨rfl, b3⟩
  have B3 := Lib.hid (below_then B0.out b3)
  clear b3
  go_wp2_with fail
  refine (getLeast_least n hn _).mono ?_
  rintro e w4 ⟨rfl, b4⟩
  have B4 := Lib.hid (below_then B3.out b4)
  clear b4
  go_wp2_with fail
  refine (refLeast_any n _ hn).mono ?_
  rintro e w5 ⟨rfl, b5⟩
  have B5 := Lib.hid (below_then B4.out b5)
  clear b5
  go_wp2_with fail
  refine (refBig_over n k _ hn hk).mono ?_
  rintro e w6 ⟨rfl, b6⟩
  have B6 := Lib.hid (below_then B5.out b6)
  clear b6
  go_wp2
  go_ret
  exact ⟨rfl, B6.out⟩

theorem puts_ok (n k : Nat) (hn : n < 18446744073709551616) (h1 : 1 ≤ k) (h8 : k ≤ 8) (hk : digs n ≤ k) (w : World) :
    Calls Try.prog 3 #[.int .u64 n, .int .i64 k] w fun e w' => e = .returned (.bool true) ∧ Below w.heap.size w w' := by
  have hmod : n % 256 ^ k = n := Nat.mod_eq_of_lt (digs_le.1 hk)
  have hz1 : (bs (lo n k)).size = k := by rw [bs_size, lo_length]
  have hz2 : (bs (lo n k).reverse).size = k := by rw [bs_size, List.length_reverse, lo_length]
  have c1 := fun w => getLittle_ok w (bs (lo n k)) (by omega) (by omega)
  have c2 := fun w => getBig_ok w (bs (lo n k).reverse) (by omega) (by omega)
  have c3 := fun w => refTurned_any (bs (lo n k).reverse) (by omega) w
  rw [bs_list, num_lo, hmod] at c1
  rw [bs_list, be_lo, hmod] at c2
  rw [bs_list, List.reverse_reverse] at c3
  have C1 := Lib.hid c1
  have C2 := Lib.hid c2
  have C3 := Lib.hid c3
  clear c1 c2 c3 hmod hz1 hz2
  go_enter Try.func3, Try.ntmps3
  go_wp2_with fail
  refine (alive_any _).mono ?_
  rintro e w0 ⟨rfl, b0⟩
  have B0 := Lib.hid b0
  clear b0
  go_wp2_with fail
  refine (little_ok n k _ hn h1 h8 hk).mono ?_
  rintro e w1 ⟨rfl, b1⟩
  have B1 := Lib.hid (below_then B0.out b1)
  clear b1
  go_wp2_with fail
  refine (big_ok n k _ hn h1 h8 hk).mono ?_
  rintro e w2 ⟨rfl, b2⟩
  have B2 := Lib.hid (below_then B1.out b2)
  clear b2
  go_wp2_with fail
  refine (least_any n _ hn).mono ?_
  rintro e w3 ⟨rfl, b3⟩
  have B3 := Lib.hid (below_then B2.out b3)
  clear b3
  go_wp2_with fail
  refine (getLeast_least n hn _).mono ?_
  rintro e w4 ⟨rfl, b4⟩
  have B4 := Lib.hid (below_then B3.out b4)
  clear b4
  go_wp2_with fail
  refine (refLeast_any n _ hn).mono ?_
  rintro e w5 ⟨rfl, b5⟩
  have B5 := Lib.hid (below_then B4.out b5)
  clear b5
  go_wp2_with fail
  refine (refBig_ok n k _ hn h8 hk).mono ?_
  rintro e w6 ⟨rfl, b6⟩
  have B6 := Lib.hid (below_then B5.out b6)
  clear b6
  go_wp2_with fail
  refine (C1.out _).mono ?_
  rintro e w7 ⟨rfl, b7⟩
  have B7 := Lib.hid (below_then B6.out b7)
  clear b7
  go_wp2_with fail
  refine (C2.out _).mono ?_
  rintro e w8 ⟨rfl, b8⟩
  have B8 := Lib.hid (below_then B7.out b8)
  clear b8
  go_wp2_with fail
  refine (C3.out _).mono ?_
  rintro e w' ⟨rfl, rfl⟩
  go_wp2
  go_ret
  exact ⟨rfl, B8.out⟩

theorem puts_any (n : Nat) (s : Int) (hn : n < 18446744073709551616) (w : World) :
    Calls Try.prog 3 #[.int .u64 n, .int .i64 s] w fun e w' => e = .returned (.bool true) ∧ Below w.heap.size w w' := by
  by_cases hs : s < 1 ∨ 8 < s
  · exact puts_arg n s hn hs w
  · obtain ⟨k, rfl⟩ : ∃ k : Nat, s = k := ⟨s.toNat, by omega⟩
    by_cases hk : digs n ≤ k
    · exact puts_ok n k hn (by omega) (by omega) hk w
    · exact puts_over n k hn (by omega) (by omega) (by omega) w

theorem gets_long (s : ByteArray) (hs : 100 < s.size) (w : World) :
    Calls Try.prog 4 #[.string s] w fun e w' => e = .returned (.bool true) ∧ Below w.heap.size w w' := by
  go_enter Try.func4, Try.ntmps4
  go_wp2_with fail
  refine (alive_any _).mono ?_
  rintro e w0 ⟨rfl, b0⟩
  have B0 := Lib.hid b0
  clear b0
  go_wp2
  go_ret
  exact ⟨rfl, B0.out⟩

theorem gets_over (s : ByteArray) (h8 : 8 < s.size) (hs : s.size ≤ 100) (w : World) :
    Calls Try.prog 4 #[.string s] w fun e w' => e = .returned (.bool true) ∧ Below w.heap.size w w' := by
  go_enter Try.func4, Try.ntmps4
  go_wp2_with fail
  refine (alive_any _).mono ?_
  rintro e w0 ⟨rfl, b0⟩
  have B0 := Lib.hid b0
  clear b0
  go_wp2_with fail
  refine (getLittle_over _ s h8).mono ?_
  rintro e w' ⟨rfl, rfl⟩
  go_wp2_with fail
  refine (getBig_over _ s h8).mono ?_
  rintro e w' ⟨rfl, rfl⟩
  go_wp2_with fail
  refine (getLeast_over _ s h8).mono ?_
  rintro e w' ⟨rfl, rfl⟩
  go_wp2
  go_ret
  exact ⟨rfl, B0.out⟩

theorem gets_none (w : World) :
    Calls Try.prog 4 #[.string ByteArray.empty] w fun e w' => e = .returned (.bool true) ∧ Below w.heap.size w w' := by
  go_enter Try.func4, Try.ntmps4
  go_wp2_with fail
  refine (alive_any _).mono ?_
  rintro e w0 ⟨rfl, b0⟩
  have B0 := Lib.hid b0
  clear b0
  go_wp2_with fail
  refine (getLittle_none _).mono ?_
  rintro e w' ⟨rfl, rfl⟩
  go_wp2_with fail
  refine (getBig_none _).mono ?_
  rintro e w' ⟨rfl, rfl⟩
  go_wp2_with fail
  refine (getLeast_none _).mono ?_
  rintro e w' ⟨rfl, rfl⟩
  go_wp2
  go_ret
  exact ⟨rfl, B0.out⟩

theorem gets_form (s : ByteArray) (h0 : 0 < s.size) (h8 : s.size ≤ 8) (hb : s[0] = 0) (w : World) :
    Calls Try.prog 4 #[.string s] w fun e w' => e = .returned (.bool true) ∧ Below w.heap.size w w' := by
  have hne := str_ne_of (s := s) (by omega)
  have hz : (s[0].toNat : Int) = 0 := by rw [hb]; rfl
  have hrev : (bs s.data.toList.reverse).size ≤ 8 := by rw [bs_size]; simp; omega
  have c1 := refNumber_any (bs s.data.toList.reverse) hrev
  rw [bs_list, be_reverse] at c1
  have C1 := Lib.hid c1
  have HB0 := Lib.hid hb
  clear c1 hrev hb
  go_enter Try.func4, Try.ntmps4
  go_wp2_with fail
  refine (alive_any _).mono ?_
  rintro e w0 ⟨rfl, b0⟩
  have B0 := Lib.hid b0
  clear b0
  go_wp2_with fail
  refine (getLittle_ok _ s (by omega) h8).mono ?_
  rintro e w1 ⟨rfl, b1⟩
  have B1 := Lib.hid (below_then B0.out b1)
  clear b1
  go_wp2_with fail
  refine (getBig_ok _ s (by omega) h8).mono ?_
  rintro e w2 ⟨rfl, b2⟩
  have B2 := Lib.hid (below_then B1.out b2)
  clear b2
  go_wp2_with fail
  refine (getLeast_form _ s h0 h8 HB0.out).mono ?_
  rintro e w3 ⟨rfl, b3⟩
  have B3 := Lib.hid (below_then B2.out b3)
  clear b3
  go_wp2_with fail
  refine (refNumber_any s h8 _).mono ?_
  rintro e w' ⟨rfl, rfl⟩
  go_wp2_with fail
  refine (refTurned_any s h8 _).mono ?_
  rintro e w' ⟨rfl, rfl⟩
  go_wp2_with fail
  refine (C1.out _).mono ?_
  rintro e w' ⟨rfl, rfl⟩
  go_wp2
  go_ret
  exact ⟨rfl, B3.out⟩

theorem gets_ok (s : ByteArray) (h0 : 0 < s.size) (h8 : s.size ≤ 8) (hb : s[0] ≠ 0) (w : World) :
    Calls Try.prog 4 #[.string s] w fun e w' => e = .returned (.bool true) ∧ Below w.heap.size w w' := by
  have hne := str_ne_of (s := s) (by omega)
  have hz : ((s[0].toNat : Int) == 0) = false := by
    have : s[0].toNat ≠ 0 := fun e => hb (UInt8.toNat_inj.1 e)
    have h2 : (s[0].toNat : Int) ≠ 0 := by omega
    simpa using h2
  have hrev : (bs s.data.toList.reverse).size ≤ 8 := by rw [bs_size]; simp; omega
  have c1 := refNumber_any (bs s.data.toList.reverse) hrev
  rw [bs_list, be_reverse] at c1
  have c2 := least_any (be s.data.toList)
  rw [least_be s.data.toList (fun b m hl => by
    intro e
    apply hb
    have hd : s.data.toList[0]'(by simpa using h0) = b := by simp [hl]
    rw [← e, ← hd]
    rfl), bs_of] at c2
  have hlt : be s.data.toList < 18446744073709551616 := be_lt8 (by simpa using h8)
  have C1 := Lib.hid c1
  have C2 := Lib.hid c2
  have HB0 := Lib.hid hb
  clear c1 c2 hrev hb
  go_enter Try.func4, Try.ntmps4
  go_wp2_with fail
  refine (alive_any _).mono ?_
  rintro e w0 ⟨rfl, b0⟩
  have B0 := Lib.hid b0
  clear b0
  go_wp2_with fail
  refine (getLittle_ok _ s (by omega) h8).mono ?_
  rintro e w1 ⟨rfl, b1⟩
  have B1 := Lib.hid (below_then B0.out b1)
  clear b1
  go_wp2_with fail
  refine (getBig_ok _ s (by omega) h8).mono ?_
  rintro e w2 ⟨rfl, b2⟩
  have B2 := Lib.hid (below_then B1.out b2)
  clear b2
  go_wp2_with fail
  refine (getLeast_ok _ s h0 h8 HB0.out).mono ?_
  rintro e w3 ⟨rfl, b3⟩
  have B3 := Lib.hid (below_then B2.out b3)
  clear b3
  go_wp2_with fail
  refine (refNumber_any s h8 _).mono ?_
  rintro e w' ⟨rfl, rfl⟩
  go_wp2_with fail
  refine (refTurned_any s h8 _).mono ?_
  rintro e w' ⟨rfl, rfl⟩
  go_wp2_with fail
  refine (C1.out _).mono ?_
  rintro e w' ⟨rfl, rfl⟩
  go_wp2_with fail
  refine (C2.out _ hlt).mono ?_
  rintro e w4 ⟨rfl, b4⟩
  have B4 := Lib.hid (below_then B3.out b4)
  clear b4
  go_wp2
  go_ret
  exact ⟨rfl, B4.out⟩

theorem gets_any (s : ByteArray) (w : World) :
    Calls Try.prog 4 #[.string s] w fun e w' => e = .returned (.bool true) ∧ Below w.heap.size w w' := by
  by_cases h100 : 100 < s.size
  · exact gets_long s h100 w
  by_cases h8 : 8 < s.size
  · exact gets_over s h8 (by omega) w
  by_cases h0 : s.size = 0
  · have : s = ByteArray.empty := by
      apply ByteArray.ext
      exact Array.eq_empty_of_size_eq_zero h0
    rw [this]
    exact gets_none w
  by_cases hb : s[0]'(by omega) = 0
  · exact gets_form s (by omega) (by omega) hb w
  · exact gets_ok s (by omega) (by omega) hb w
end Go.Proofs.Ythcfakcalhbcbaa
