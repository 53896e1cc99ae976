/-
  Numbers by digits of base 256: plain mathematics of lists of bytes, no program. No condition.
-/
import Derived.Lib.BitFns
namespace Go.Proofs.Ytacfhjcchoefjaa

/-- The k lowest digits of n, the lowest first. -/
def lo : Nat → Nat → List UInt8
  | _, 0 => []
  | n, k + 1 => UInt8.ofNat n :: lo (n / 256) k

/-- The number of digits, the lowest first. -/
def num : List UInt8 → Nat
  | [] => 0
  | b :: l => b.toNat + 256 * num l

/-- A number's least digits, the highest first. -/
def least (n : Nat) : List UInt8 := if _h : n = 0 then [] else least (n / 256) ++ [UInt8.ofNat n]
termination_by n
decreasing_by omega

/-- How many digits. -/
def digs (n : Nat) : Nat := (least n).length

theorem u8_toNat_ofNat (n : Nat) : (UInt8.ofNat n).toNat = n % 256 := by simp

theorem lo_length : ∀ (k n : Nat), (lo n k).length = k
  | 0, _ => rfl
  | k + 1, n => by simp [lo, lo_length k]

theorem lo_snoc : ∀ (k n : Nat), lo n (k + 1) = lo n k ++ [UInt8.ofNat (n / 256 ^ k)]
  | 0, n => by simp [lo]
  | k + 1, n => by
    rw [lo, lo_snoc k (n / 256), lo]
    simp [Nat.div_div_eq_div_mul, Nat.pow_succ, Nat.mul_comm]

theorem lo_get : ∀ (k n i : Nat) (h : i < (lo n k).length), (lo n k)[i] = UInt8.ofNat (n / 256 ^ i)
  | 0, _, _, h => by simp [lo] at h
  | k + 1, n, 0, _ => by simp [lo]
  | k + 1, n, i + 1, h => by
    have := lo_get k (n / 256) i (by simpa [lo] using h)
    simp only [lo, List.getElem_cons_succ, this, Nat.div_div_eq_div_mul, Nat.pow_succ, Nat.mul_comm]

theorem num_lt : ∀ l : List UInt8, num l < 256 ^ l.length
  | [] => by simp [num]
  | b :: l => by
    have := num_lt l
    have hb : b.toNat < 256 := b.toNat_lt
    simp only [num, List.length_cons, Nat.pow_succ]
    omega

theorem num_append : ∀ l m : List UInt8, num (l ++ m) = num l + 256 ^ l.length * num m
  | [], m => by simp [num]
  | b :: l, m => by
    simp only [List.cons_append, num, num_append l m, List.length_cons, Nat.pow_succ, Nat.mul_add]
    rw [Nat.mul_comm (256 ^ l.length) 256, Nat.mul_assoc]
    omega

theorem num_lo : ∀ (k n : Nat), num (lo n k) = n % 256 ^ k
  | 0, n => by simp [lo, num, Nat.mod_one]
  | k + 1, n => by
    simp only [lo, num, u8_toNat_ofNat, num_lo k, Nat.pow_succ]
    rw [Nat.mul_comm (256 ^ k) 256, Nat.mod_mul]

theorem lo_num : ∀ l : List UInt8, lo (num l) l.length = l
  | [] => rfl
  | b :: l => by
    have hb : b.toNat < 256 := b.toNat_lt
    have h1 : (b.toNat + 256 * num l) / 256 = num l := by omega
    have h2 : UInt8.ofNat (b.toNat + 256 * num l) = b := by
      apply UInt8.toNat_inj.1
      rw [u8_toNat_ofNat]
      omega
    simp only [List.length_cons, num, lo, h1, h2, lo_num l]

theorem least_zero : least 0 = [] := by unfold least; simp
theorem least_pos {n : Nat} (h : n ≠ 0) : least n = least (n / 256) ++ [UInt8.ofNat n] := by
  conv => lhs; unfold least
  simp [h]

theorem digs_zero : digs 0 = 0 := by unfold digs; rw [least_zero]; rfl
theorem digs_pos {n : Nat} (h : n ≠ 0) : digs n = digs (n / 256) + 1 := by unfold digs; rw [least_pos h]; simp

theorem least_lo (n : Nat) : least n = (lo n (digs n)).reverse := by
  induction n using Nat.strongRecOn with
  | _ n ih =>
    by_cases h : n = 0
    · subst h; rw [least_zero, digs_zero]; rfl
    · rw [least_pos h, digs_pos h, lo, List.reverse_cons, ← ih (n / 256) (by omega)]

theorem lt_digs (n : Nat) : n < 256 ^ digs n := by
  induction n using Nat.strongRecOn with
  | _ n ih =>
    by_cases h : n = 0
    · subst h; rw [digs_zero]; decide
    · rw [digs_pos h, Nat.pow_succ]
      have := ih (n / 256) (by omega)
      omega

theorem digs_le_of (n : Nat) : ∀ k, n < 256 ^ k → digs n ≤ k := by
  induction n using Nat.strongRecOn with
  | _ n ih =>
    intro k hk
    by_cases h : n = 0
    · subst h; rw [digs_zero]; omega
    · obtain ⟨j, rfl⟩ : ∃ j, k = j + 1 := ⟨k - 1, by
        have : k ≠ 0 := by rintro rfl; simp at hk; exact h hk
        omega⟩
      rw [digs_pos h]
      have := ih (n / 256) (by omega) j (by rw [Nat.pow_succ] at hk; omega)
      omega

theorem digs_le {n k : Nat} : digs n ≤ k ↔ n < 256 ^ k :=
  ⟨fun h => Nat.lt_of_lt_of_le (lt_digs n) (Nat.pow_le_pow_right (by decide) h), digs_le_of n k⟩

theorem digs_le8 {n : Nat} (h : n < 18446744073709551616) : digs n ≤ 8 := digs_le.2 (by simpa using h)

/-- The library's count of bits tells the count of digits. -/
theorem digs_bits (n : Nat) (h : n < 18446744073709551616) : (Lib.bitLen n + 7) / 8 = digs n := by
  induction n using Nat.strongRecOn with
  | _ n ih =>
    by_cases h0 : n = 0
    · subst h0; rw [digs_zero]; decide
    · rw [digs_pos h0, ← ih (n / 256) (by omega) (by omega)]
      by_cases h1 : 256 ≤ n
      · rw [Lib.bitLen_shift8 n h1 h]; omega
      · have hq : n / 256 = 0 := by omega
        rw [hq]
        have h8 := Lib.bitLen_le8 ⟨n, by omega⟩
        have hp : 1 ≤ Lib.bitLen n := by
          rw [Lib.bitLen_half n h0 (by omega)]; omega
        have hz : Lib.bitLen 0 = 0 := by decide
        rw [hz]
        simp only at h8
        omega

/-- A number that has at most k digits, in k digits, the highest first: noughts, and its least ones. -/
theorem lo_pad (n : Nat) : ∀ k, digs n ≤ k → (lo n k).reverse = List.replicate (k - digs n) 0 ++ least n := by
  induction n using Nat.strongRecOn with
  | _ n ih =>
    intro k hk
    by_cases h : n = 0
    · subst h
      rw [digs_zero, least_zero]
      clear ih hk
      have hl : ∀ k, lo 0 k = List.replicate k 0 := by
        intro k
        induction k with
        | zero => rfl
        | succ k ih => rw [lo, List.replicate_succ]; simp [ih]
      rw [hl]; simp
    · rw [digs_pos h] at hk
      obtain ⟨j, rfl⟩ : ∃ j, k = j + 1 := ⟨k - 1, by omega⟩
      rw [lo, List.reverse_cons, ih (n / 256) (by omega) j (by omega), digs_pos h, least_pos h, List.append_assoc]
      congr 2
      omega

/-- The first of a number's least digits is no nought. -/
theorem least_head (n : Nat) (b : UInt8) (l : List UInt8) (h : least n = b :: l) : b ≠ 0 := by
  induction n using Nat.strongRecOn generalizing l with
  | _ n ih =>
    by_cases h0 : n = 0
    · subst h0; rw [least_zero] at h; cases h
    · rw [least_pos h0] at h
      by_cases h1 : n / 256 = 0
      · rw [h1, least_zero] at h
        simp at h
        rintro rfl
        have := congrArg UInt8.toNat h.1
        simp at this
        omega
      · cases hl : least (n / 256) with
        | nil =>
          have := digs_pos h1
          unfold digs at this
          rw [hl] at this
          simp at this
        | cons c m =>
          rw [hl] at h
          simp at h
          exact ih (n / 256) (by omega) m (by rw [hl, h.1])

/-- The number of bytes, the highest first. -/
def be (l : List UInt8) : Nat := num l.reverse

theorem be_lt (l : List UInt8) : be l < 256 ^ l.length := by
  have := num_lt l.reverse
  simpa [be] using this
theorem be_lt8 {l : List UInt8} (h : l.length ≤ 8) : be l < 18446744073709551616 :=
  Nat.lt_of_lt_of_le (be_lt l) (Nat.pow_le_pow_right (n := 256) (by decide) h)
theorem num_lt8 {l : List UInt8} (h : l.length ≤ 8) : num l < 18446744073709551616 :=
  Nat.lt_of_lt_of_le (num_lt l) (Nat.pow_le_pow_right (n := 256) (by decide) h)
theorem be_nil : be [] = 0 := rfl
theorem be_snoc (l : List UInt8) (b : UInt8) : be (l ++ [b]) = 256 * be l + b.toNat := by
  simp [be, num]; omega
theorem be_reverse (l : List UInt8) : be l.reverse = num l := by simp [be]
theorem be_lo (n k : Nat) : be (lo n k).reverse = n % 256 ^ k := by rw [be_reverse, num_lo]
theorem be_least (n : Nat) : be (least n) = n := by
  rw [least_lo, be_lo]
  exact Nat.mod_eq_of_lt (lt_digs n)

/-- Bytes without a nought ahead are their number's least ones. -/
theorem least_be (l : List UInt8) (h : ∀ b m, l = b :: m → b ≠ 0) : least (be l) = l := by
  have hl : (lo (be l) l.length).reverse = l := by
    have h1 := lo_num l.reverse
    rw [List.length_reverse] at h1
    rw [be, h1, List.reverse_reverse]
  have hd : digs (be l) ≤ l.length := digs_le.2 (be_lt l)
  have hp := lo_pad (be l) l.length hd
  rw [hl] at hp
  by_cases he : l.length - digs (be l) = 0
  · rw [he] at hp
    simpa using hp.symm
  · obtain ⟨j, hj⟩ : ∃ j, l.length - digs (be l) = j + 1 := ⟨l.length - digs (be l) - 1, by omega⟩
    rw [hj, List.replicate_succ] at hp
    exact absurd rfl (h 0 _ hp)

theorem lo_inj {a b k : Nat} (ha : a < 256 ^ k) (hb : b < 256 ^ k) (h : lo a k = lo b k) : a = b := by
  have := congrArg num h
  rwa [num_lo, num_lo, Nat.mod_eq_of_lt ha, Nat.mod_eq_of_lt hb] at this
end Go.Proofs.Ytacfhjcchoefjaa
