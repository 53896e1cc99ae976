/-
  The contracts of package leb's Next and of the document's own Next over this seat's translation: both answer what the plain function nx tells. No condition.
-/
import Derived.Test.YtacfhjcchoefjaaLebK
namespace Go.Proofs.Ytacfhjcchoefjaa
open Go.RowKit Go.Sort

theorem beq0 (b : Nat) (h : b ≠ 0) : ((b : Int) == 0) = false := by simp; omega

theorem wrong_any (i b : Nat) (hb : b < 256) (w : World) :
    Calls Try.prog 34 #[.int .i64 i, .int .u8 b] w fun e w' => e = .returned (.bool (bad i (UInt8.ofNat b))) ∧ w = w' := by
  have hbad : bad i (UInt8.ofNat b) = ((i == 9 && decide (1 < b)) || (decide (0 < i) && b == 0)) := by rw [bad, toNat_of hb]
  have HB := Lib.hid hbad
  clear hbad
  by_cases h9 : i = 9
  · subst h9
    by_cases h1 : 1 < b
    · go_enter Try.func34, Try.ntmps34
      go_wp2
      go_ret
      exact ⟨by rw [HB.out]; simp [h1], rfl⟩
    · by_cases h0 : b = 0
      · subst h0
        go_enter Try.func34, Try.ntmps34
        go_wp2
        go_ret
        exact ⟨by rw [HB.out]; rfl, rfl⟩
      · go_enter Try.func34, Try.ntmps34
        go_wp2
        go_ret
        exact ⟨by rw [HB.out]; rw [beq0 b h0]; simp [h1, h0], rfl⟩
  · have t9 : ((i : Int) == 9) = false := by simp; omega
    by_cases hi : 0 < i
    · by_cases h0 : b = 0
      · subst h0
        go_enter Try.func34, Try.ntmps34
        go_wp2
        go_ret
        exact ⟨by rw [HB.out]; simp [hi], rfl⟩
      · have t0 : ((b : Int) == 0) = false := by simp; omega
        go_enter Try.func34, Try.ntmps34
        go_wp2
        go_ret
        exact ⟨by rw [HB.out]; simp [h9, h0], rfl⟩
    · have h00 : i = 0 := by omega
      subst h00
      go_enter Try.func34, Try.ntmps34
      go_wp2
      go_ret
      exact ⟨by rw [HB.out]; rfl, rfl⟩

theorem or_digit (a x j : Nat) (ha : a < 128 ^ j) : a ||| x * 2 ^ (7 * j) = a + x * 128 ^ j := by
  have h2 : (2 : Nat) ^ (7 * j) = 128 ^ j := by rw [show (128 : Nat) = 2 ^ 7 from rfl, ← Nat.pow_mul]
  rw [Nat.or_comm, Nat.mul_comm x, ← h2, ← Nat.two_pow_add_eq_or_of_lt (by rw [h2]; exact ha), Nat.add_comm, Nat.mul_comm]

theorem pow_le9 {j : Nat} (h : j ≤ 9) : (128 : Nat) ^ j ≤ 9223372036854775808 := Nat.pow_le_pow_right (n := 128) (i := j) (j := 9) (by decide) h
/-- What is gathered in a place that isn't bad stays below 2^64. -/
theorem digit_lt (a b j : Nat) (hj : j ≤ 9) (ha : a < 128 ^ j) (hb : j = 9 → b ≤ 1) : a + b % 128 * 128 ^ j < 18446744073709551616 := by
  by_cases h9 : j = 9
  · subst h9
    have := hb rfl
    have h : (128 : Nat) ^ 9 = 9223372036854775808 := by decide
    rw [h] at ha ⊢
    omega
  · have h1 : b % 128 * 128 ^ j ≤ 127 * 128 ^ j := Nat.mul_le_mul_right _ (by omega)
    have h2 : (128 : Nat) ^ (j + 1) ≤ 9223372036854775808 := pow_le9 (by omega)
    rw [Nat.pow_succ] at h2
    omega
theorem digit_next (a b j : Nat) (ha : a < 128 ^ j) : a + b % 128 * 128 ^ j < 128 ^ (j + 1) := by
  have h1 : b % 128 * 128 ^ j ≤ 127 * 128 ^ j := Nat.mul_le_mul_right _ (by omega)
  rw [Nat.pow_succ]
  omega

theorem or_walk7 (a b j : Nat) (hj : j ≤ 9) (ha : a < 128 ^ j) (hb : b < 256) (h9 : j = 9 → b ≤ 1) :
    bits BinOp.or IntKind.u64 (a : Int) (IntKind.u64.wrap (IntKind.u64.wrap (bits BinOp.andNot IntKind.u8 (b : Int) 128) * 2 ^ (7 * j))) = ((a + b % 128 * 128 ^ j : Nat) : Int) := by
  have hlt := digit_lt a b j hj ha h9
  have h1 : IntKind.u64.wrap ((b % 128 : Nat) : Int) = ((b % 128 : Nat) : Int) := by rw [IntKind.wrap_u64]; omega
  have h3 : ((b % 128 : Nat) : Int) * 2 ^ (7 * j) = ((b % 128 * 128 ^ j : Nat) : Int) := by
    rw [show (128 : Nat) ^ j = 2 ^ (7 * j) by rw [show (128 : Nat) = 2 ^ 7 from rfl, ← Nat.pow_mul]]
    simp
  have h4 : IntKind.u64.wrap ((b % 128 * 128 ^ j : Nat) : Int) = ((b % 128 * 128 ^ j : Nat) : Int) := by rw [IntKind.wrap_u64]; omega
  rw [u8_clear b hb, h1, h3, h4, bits_or_u64_nat _ _ (by omega) (by omega)]
  congr 1
  have := or_digit a (b % 128) j ha
  rwa [show (2 : Nat) ^ (7 * j) = 128 ^ j by rw [show (128 : Nat) = 2 ^ 7 from rfl, ← Nat.pow_mul]] at this

/-- Three results of nx as values. -/
def told3 (r : Nat × Nat × Nat) : Value := .tuple #[.int .u64 r.1, .int .i64 r.2.1, .int .i64 r.2.2]

theorem bad_false {j : Nat} {b : UInt8} (h : ¬ bad j b = true) : j = 9 → b.toNat ≤ 1 := by
  intro h9
  simp [bad, h9] at h
  omega

theorem drop_cons (l : List UInt8) (j : Nat) (h : j < l.length) : l.drop j = l[j] :: l.drop (j + 1) := List.drop_eq_getElem_cons h

set_option maxRecDepth 100000 in
theorem next_told (s : ByteArray) (w : World) :
    Calls Try.prog 24 #[.string s] w fun e w' => e = .returned (told3 (nx s.data.toList 0 0)) ∧ w = w' := by
  go_enter Try.func24, Try.ntmps24
  go_wp2
  go_loop [2, 9] (fun v2 v9 => ∃ j a : Nat, j ≤ s.size ∧ j ≤ 9 ∧ v9 = .int .i64 j ∧ v2 = .int .u64 a ∧ a < 128 ^ j ∧ nx s.data.toList 0 0 = nx (s.data.toList.drop j) j a) (fun _ i => s.size - (intOf i).toNat)
  case atStart => exact ⟨0, 0, Nat.zero_le _, Nat.zero_le _, rfl, rfl, by simp, rfl⟩
  case round =>
    obtain ⟨j, a, hj, hj9, rfl, rfl, ha, he⟩ := hrel
    have HE := Lib.hid he
    clear he
    by_cases hlt : j < s.size
    · have hlen : j < s.data.toList.length := by simpa using hlt
      have hb : s[j].toNat < 256 := s[j].toNat_lt
      have hcell : s[j] = s.data.toList[j] := by simp; rfl
      have HD := Lib.hid (drop_cons s.data.toList j hlen)
      have HC := Lib.hid hcell
      clear hcell
      have HA := Lib.hid ha
      clear ha
      have t1 : (0 : Int) ≤ (j : Int) := by omega
      have t2 : (j : Int) < (s.size : Int) := by omega
      by_cases hbad : bad j s[j] = true
      · have HB := Lib.hid hbad
        clear hbad
        go_wp2_with fail
        refine (wrong_any j s[j].toNat hb _).mono ?_
        rw [UInt8.ofNat_toNat, HB.out]
        rintro e w' ⟨rfl, rfl⟩
        go_wp2
        go_ret3
        refine ⟨?_, rfl⟩
        rw [HE.out, HD.out, nx, ← HC.out, HB.out]
        rfl
      · have hbf : bad j s[j] = false := by simpa using hbad
        have H9 := Lib.hid (bad_false hbad)
        have HB := Lib.hid hbf
        clear hbad hbf
        have hlt64 := digit_lt a s[j].toNat j hj9 HA.out H9.out
        by_cases h128 : s[j].toNat < 128
        · go_wp2_with fail
          refine (wrong_any j s[j].toNat hb _).mono ?_
          rw [UInt8.ofNat_toNat, HB.out]
          rintro e w' ⟨rfl, rfl⟩
          go_wp2
          go_ret3
          refine ⟨?_, rfl⟩
          rw [HE.out, HD.out, nx, ← HC.out, HB.out, or_walk7 a s[j].toNat j hj9 HA.out hb H9.out]
          simp only [Bool.false_eq_true, if_false, if_pos h128]
          rfl
        · go_wp2_with fail
          refine (wrong_any j s[j].toNat hb _).mono ?_
          rw [UInt8.ofNat_toNat, HB.out]
          rintro e w' ⟨rfl, rfl⟩
          go_wp2
          go_round
          case rel =>
            refine ⟨j + 1, a + s[j].toNat % 128 * 128 ^ j, by omega, ?_, by go_num, congrArg _ (or_walk7 a s[j].toNat j hj9 HA.out hb H9.out), digit_next _ _ _ HA.out, ?_⟩
            · have := H9.out
              omega
            · rw [HE.out, HD.out, nx, ← HC.out, HB.out]
              simp only [Bool.false_eq_true, if_false, if_neg h128]
          case measure => simp [intOf]; omega
    · have : j = s.size := by omega
      subst this
      go_wp2
      go_ret3
      refine ⟨?_, rfl⟩
      rw [HE.out, List.drop_of_length_le (by simp)]
      rfl
end Go.Proofs.Ytacfhjcchoefjaa
