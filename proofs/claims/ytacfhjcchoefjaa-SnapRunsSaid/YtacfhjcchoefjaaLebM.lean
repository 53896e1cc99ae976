/-
  Numbers by digits of base 128: plain mathematics of lists of bytes, no program. No condition.
-/
import Derived.Lib.BitFns
namespace Go.Proofs.Ytacfhjcchoefjaa

/-- A number's bytes: its digits, the lowest first, each but the last one marked. -/
def puts (n : Nat) : List UInt8 := if _h : n < 128 then [UInt8.ofNat n] else UInt8.ofNat (n % 128 + 128) :: puts (n / 128)
termination_by n
decreasing_by omega

/-- A byte that is no number's in place i. -/
def bad (i : Nat) (b : UInt8) : Bool := (i == 9 && decide (1 < b.toNat)) || (decide (0 < i) && b.toNat == 0)

/-- What bytes tell from place i on, when a was read so far: the number, its size, the error. -/
def nx : List UInt8 → Nat → Nat → Nat × Nat × Nat
  | [], _, _ => (0, 0, 2)
  | b :: l, i, a =>
    if bad i b then (0, 0, 3)
    else if b.toNat < 128 then (a + b.toNat % 128 * 128 ^ i, i + 1, 0)
    else nx l (i + 1) (a + b.toNat % 128 * 128 ^ i)

theorem puts_small {n : Nat} (h : n < 128) : puts n = [UInt8.ofNat n] := by unfold puts; simp [h]
theorem puts_more {n : Nat} (h : 128 ≤ n) : puts n = UInt8.ofNat (n % 128 + 128) :: puts (n / 128) := by
  conv => lhs; unfold puts
  simp [Nat.not_lt.2 h]
theorem puts_pos (n : Nat) : 0 < (puts n).length := by
  by_cases h : n < 128
  · rw [puts_small h]; simp
  · rw [puts_more (by omega)]; simp

theorem puts_le (n : Nat) : ∀ k, n < 128 ^ k → 0 < k → (puts n).length ≤ k := by
  induction n using Nat.strongRecOn with
  | _ n ih =>
    intro k hk h0
    by_cases h : n < 128
    · rw [puts_small h]; simp; omega
    · obtain ⟨j, rfl⟩ : ∃ j, k = j + 1 := ⟨k - 1, by omega⟩
      rw [puts_more (by omega), List.length_cons]
      have hj : 0 < j := by
        rcases Nat.eq_zero_or_pos j with rfl | hj
        · simp at hk; omega
        · exact hj
      have := ih (n / 128) (by omega) j (by rw [Nat.pow_succ] at hk; omega) hj
      omega
theorem puts_le10 {n : Nat} (h : n < 18446744073709551616) : (puts n).length ≤ 10 := puts_le n 10 (Nat.lt_of_lt_of_le h (by decide)) (by decide)

theorem bitLen_7 (n : Nat) (h : 128 ≤ n) (hn : n < 18446744073709551616) : Lib.bitLen n = Lib.bitLen (n / 128) + 7 := by
  have e : n / 128 = n / 2 / 2 / 2 / 2 / 2 / 2 / 2 := by omega
  rw [e, Lib.bitLen_half n (by omega) (by omega), Lib.bitLen_half (n / 2) (by omega) (by omega), Lib.bitLen_half (n / 2 / 2) (by omega) (by omega), Lib.bitLen_half (n / 2 / 2 / 2) (by omega) (by omega),
    Lib.bitLen_half (n / 2 / 2 / 2 / 2) (by omega) (by omega), Lib.bitLen_half (n / 2 / 2 / 2 / 2 / 2) (by omega) (by omega), Lib.bitLen_half (n / 2 / 2 / 2 / 2 / 2 / 2) (by omega) (by omega)]
  omega

/-- The library's count of bits tells how many bytes. -/
theorem puts_bits (n : Nat) (h : n < 18446744073709551616) : max 1 ((Lib.bitLen n + 6) / 7) = (puts n).length := by
  induction n using Nat.strongRecOn with
  | _ n ih =>
    by_cases h1 : 128 ≤ n
    · rw [puts_more h1, List.length_cons, ← ih (n / 128) (by omega) (by omega), bitLen_7 n h1 h]
      have : 1 ≤ Lib.bitLen (n / 128) := by rw [Lib.bitLen_half (n / 128) (by omega) (by omega)]; omega
      omega
    · rw [puts_small (by omega), List.length_singleton]
      have := Lib.bitLen_le n 7 (by omega) (by omega)
      omega

/-- The first j of a number's marked digits. -/
def marked (n : Nat) : Nat → List UInt8
  | 0 => []
  | j + 1 => marked n j ++ [UInt8.ofNat (n / 128 ^ j % 128 + 128)]
theorem marked_length (n : Nat) : ∀ j, (marked n j).length = j
  | 0 => rfl
  | j + 1 => by simp [marked, marked_length n j]
theorem marked_cons (n : Nat) : ∀ j, marked n (j + 1) = UInt8.ofNat (n % 128 + 128) :: marked (n / 128) j
  | 0 => by simp [marked]
  | j + 1 => by
    rw [marked, marked_cons n j, marked]
    simp only [List.cons_append, Nat.div_div_eq_div_mul, Nat.pow_succ, Nat.mul_comm]
theorem puts_marked (n : Nat) : puts n = marked n ((puts n).length - 1) ++ [UInt8.ofNat (n / 128 ^ ((puts n).length - 1))] := by
  induction n using Nat.strongRecOn with
  | _ n ih =>
    by_cases h : n < 128
    · rw [puts_small h]; simp [marked]
    · have h1 := ih (n / 128) (by omega)
      have h0 := puts_pos (n / 128)
      obtain ⟨k, hk⟩ : ∃ k, (puts (n / 128)).length = k + 1 := ⟨(puts (n / 128)).length - 1, by omega⟩
      rw [hk, Nat.add_sub_cancel] at h1
      have hl : (puts n).length - 1 = k + 1 := by rw [puts_more (by omega), List.length_cons, hk]; omega
      rw [hl, marked_cons, puts_more (by omega), h1, Nat.div_div_eq_div_mul, Nat.pow_succ, Nat.mul_comm 128]
      rfl
/-- The last digit is below 128. -/
theorem last_small (n : Nat) : n / 128 ^ ((puts n).length - 1) < 128 := by
  induction n using Nat.strongRecOn with
  | _ n ih =>
    by_cases h : n < 128
    · rw [puts_small h]; simpa using h
    · have h0 := puts_pos (n / 128)
      have h1 := ih (n / 128) (by omega)
      have hl : (puts n).length - 1 = (puts (n / 128)).length - 1 + 1 := by rw [puts_more (by omega), List.length_cons]; omega
      rw [hl, Nat.pow_succ, Nat.mul_comm, ← Nat.div_div_eq_div_mul]
      exact h1

theorem toNat_of {n : Nat} (h : n < 256) : (UInt8.ofNat n).toNat = n := by simp [Nat.mod_eq_of_lt h]

/-- What is put is told again, with whatever behind. -/
theorem nx_puts (n : Nat) : ∀ (i a : Nat) (r : List UInt8), n * 128 ^ i < 18446744073709551616 → (0 < i → 0 < n) → i ≤ 9 → nx (puts n ++ r) i a = (a + n * 128 ^ i, i + (puts n).length, 0) := by
  induction n using Nat.strongRecOn with
  | _ n ih =>
    intro i a r hn h0 hi
    by_cases h : n < 128
    · have hb : bad i (UInt8.ofNat n) = false := by
        simp only [bad, toNat_of (show n < 256 by omega), Bool.or_eq_false_iff, Bool.and_eq_false_iff, beq_eq_false_iff_ne, decide_eq_false_iff_not]
        constructor
        · by_cases h9 : i = 9
          · subst h9; right
            have : (128 : Nat) ^ 9 = 9223372036854775808 := by decide
            omega
          · exact .inl h9
        · by_cases hi0 : 0 < i
          · right; have := h0 hi0; omega
          · exact .inl hi0
      rw [puts_small h, List.singleton_append, nx, hb, toNat_of (show n < 256 by omega)]
      simp [h, Nat.mod_eq_of_lt h]
    · have hi9 : i < 9 := by
        rcases Nat.lt_or_ge i 9 with h9 | h9
        · exact h9
        · have : i = 9 := by omega
          subst this
          have : (128 : Nat) ^ 9 = 9223372036854775808 := by decide
          omega
      have hb : bad i (UInt8.ofNat (n % 128 + 128)) = false := by
        simp only [bad, toNat_of (show n % 128 + 128 < 256 by omega), Bool.or_eq_false_iff, Bool.and_eq_false_iff, beq_eq_false_iff_ne, decide_eq_false_iff_not]
        exact ⟨.inl (by omega), .inr (by omega)⟩
      have hm : (n % 128 + 128) % 128 = n % 128 := by omega
      have hp : n / 128 * 128 ^ (i + 1) ≤ n * 128 ^ i := by
        rw [Nat.pow_succ, Nat.mul_comm (128 ^ i), ← Nat.mul_assoc]
        exact Nat.mul_le_mul_right _ (by omega)
      have hs : n % 128 * 128 ^ i + n / 128 * 128 ^ (i + 1) = n * 128 ^ i := by
        rw [Nat.pow_succ, Nat.mul_comm (128 ^ i), ← Nat.mul_assoc, ← Nat.add_mul]
        congr 1; omega
      rw [puts_more (by omega), List.cons_append, nx, hb, toNat_of (show n % 128 + 128 < 256 by omega), hm]
      have hlt : ¬ n % 128 + 128 < 128 := by omega
      simp only [hlt, Bool.false_eq_true, if_false]
      rw [ih (n / 128) (by omega) (i + 1) _ r (by omega) (by intro _; omega) (by omega), Nat.add_assoc, hs, List.length_cons]
      congr 2; omega

/-- What is told is put as it was. -/
theorem nx_told (l : List UInt8) : ∀ (i a v k : Nat), nx l i a = (v, k, 0) → ∃ m, v = a + m * 128 ^ i ∧ k = i + (puts m).length ∧ (0 < i → 0 < m) ∧ l.take (k - i) = puts m := by
  induction l with
  | nil => intro i a v k h; simp [nx] at h
  | cons b l ih =>
    intro i a v k h
    rw [nx] at h
    have hb := b.toNat_lt
    split at h
    · simp at h
    · rename_i hbad
      have hz : 0 < i → b.toNat ≠ 0 := by
        intro hi h0
        simp [bad, hi, h0] at hbad
      split at h
      · rename_i hlt
        simp only [Prod.mk.injEq] at h
        obtain ⟨rfl, rfl, _⟩ := h
        refine ⟨b.toNat, by rw [Nat.mod_eq_of_lt hlt], by rw [puts_small hlt]; rfl, fun hi => by have := hz hi; omega, ?_⟩
        rw [puts_small hlt, Nat.add_sub_cancel_left]
        simp
      · rename_i hge
        obtain ⟨m, hv, hk, h0, ht⟩ := ih (i + 1) _ v k h
        have hm := h0 (by omega)
        have hq : (b.toNat % 128 + m * 128) / 128 = m := by omega
        have hr : (b.toNat % 128 + m * 128) % 128 + 128 = b.toNat := by
          have : b.toNat < 256 := hb
          omega
        refine ⟨b.toNat % 128 + m * 128, ?_, ?_, fun _ => by omega, ?_⟩
        · rw [hv, Nat.pow_succ, Nat.mul_comm (128 ^ i) 128, ← Nat.mul_assoc, Nat.add_mul, Nat.add_assoc]
        · rw [puts_more (by omega), hq, hk, List.length_cons]; omega
        · rw [puts_more (by omega), hq, hr]
          have : k - i = (k - (i + 1)) + 1 := by omega
          rw [this, List.take_succ_cons, ht]
          simp

theorem nx_size (l : List UInt8) (i a v k : Nat) (h : nx l i a = (v, k, 0)) : k ≤ i + l.length := by
  obtain ⟨m, _, hk, _, ht⟩ := nx_told l i a v k h
  have := congrArg List.length ht
  rw [List.length_take] at this
  omega

/-- What is told is below 2^64. -/
theorem nx_lt (l : List UInt8) : ∀ (i a v k : Nat), i ≤ 9 → a < 128 ^ i → nx l i a = (v, k, 0) → v < 18446744073709551616 := by
  induction l with
  | nil => intro i a v k _ _ h; simp [nx] at h
  | cons b l ih =>
    intro i a v k hi ha h
    rw [nx] at h
    split at h
    · simp at h
    · rename_i hbad
      have hs : a + b.toNat % 128 * 128 ^ i < 128 ^ (i + 1) := by
        have h1 : b.toNat % 128 * 128 ^ i ≤ 127 * 128 ^ i := Nat.mul_le_mul_right _ (by omega)
        rw [Nat.pow_succ]; omega
      by_cases h9 : i = 9
      · subst h9
        have hb1 : b.toNat ≤ 1 := by
          simp [bad] at hbad; omega
        have hlt : b.toNat < 128 := by omega
        rw [if_pos hlt] at h
        simp only [Prod.mk.injEq] at h
        obtain ⟨rfl, rfl, _⟩ := h
        have : (128 : Nat) ^ 9 = 9223372036854775808 := by decide
        rw [this] at ha ⊢
        omega
      · have hp : (128 : Nat) ^ (i + 1) ≤ 128 ^ 9 := Nat.pow_le_pow_right (by decide) (by omega)
        have h9' : (128 : Nat) ^ 9 = 9223372036854775808 := by decide
        split at h
        · simp only [Prod.mk.injEq] at h
          obtain ⟨rfl, rfl, _⟩ := h
          omega
        · exact ih (i + 1) _ v k (by omega) hs h

/-- A beginning is short, or tells what all tell. -/
theorem nx_take (l : List UInt8) : ∀ (i a c : Nat), nx (l.take c) i a = (0, 0, 2) ∨ nx (l.take c) i a = nx l i a := by
  induction l with
  | nil => intro i a c; right; simp
  | cons b l ih =>
    intro i a c
    cases c with
    | zero => left; simp [nx]
    | succ c =>
      rw [List.take_succ_cons, nx, nx]
      split
      · right; rfl
      · split
        · right; rfl
        · exact ih _ _ c

/-- Ten bytes tell what all tell. -/
theorem nx_ten (l : List UInt8) : ∀ (i a : Nat), i ≤ 9 → nx (l.take (10 - i)) i a = nx l i a := by
  induction l with
  | nil => intro i a _; simp
  | cons b l ih =>
    intro i a hi
    obtain ⟨j, hj⟩ : ∃ j, 10 - i = j + 1 := ⟨9 - i, by omega⟩
    have hb := b.toNat_lt
    rw [hj, List.take_succ_cons, nx, nx]
    by_cases h9 : i = 9
    · subst h9
      by_cases hbad : bad 9 b = true
      · simp [hbad]
      · have hb1 : b.toNat ≤ 1 := by simp [bad] at hbad; omega
        have hlt : b.toNat < 128 := by omega
        simp [hbad, hlt]
    · have h2 : j = 10 - (i + 1) := by omega
      rw [h2, ih (i + 1) _ (by omega)]

theorem nx_err (l : List UInt8) : ∀ (i a : Nat), (nx l i a).2.2 = 0 ∨ nx l i a = (0, 0, 2) ∨ nx l i a = (0, 0, 3) := by
  induction l with
  | nil => intro i a; right; left; rfl
  | cons b l ih =>
    intro i a
    rw [nx]
    split
    · exact .inr (.inr rfl)
    · split
      · exact .inl rfl
      · exact ih _ _
end Go.Proofs.Ytacfhjcchoefjaa
