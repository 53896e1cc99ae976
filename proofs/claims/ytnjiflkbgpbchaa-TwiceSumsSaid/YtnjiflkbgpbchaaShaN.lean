/-
  Numbers by digits of base 65536: plain mathematics of lists, no program. No condition.
-/
import Derived.Lib.Hide
namespace Go.Proofs.Ytnjiflkbgpbchaa

/-- The number of digits of base 65536, the lowest first. -/
def dv : List Nat → Nat
  | [] => 0
  | d :: l => d + 65536 * dv l

theorem dv_lt : ∀ l : List Nat, (∀ d ∈ l, d < 65536) → dv l < 65536 ^ l.length
  | [], _ => by simp [dv]
  | d :: l, h => by
    have h1 := dv_lt l (fun x hx => h x (List.mem_cons_of_mem _ hx))
    have h2 := h d List.mem_cons_self
    rw [dv, List.length_cons, Nat.pow_succ]
    omega

theorem dv_set : ∀ (l : List Nat) (m v : Nat) (hm : m < l.length), dv (l.set m v) + l[m] * 65536 ^ m = dv l + v * 65536 ^ m
  | [], _, _, hm => by simp at hm
  | d :: l, 0, v, _ => by simp [dv]; omega
  | d :: l, m + 1, v, hm => by
    have := dv_set l m v (by simpa using hm)
    simp only [List.set_cons_succ, dv, List.getElem_cons_succ, Nat.pow_succ]
    have e1 : l[m]'(by simpa using hm) * (65536 ^ m * 65536) = 65536 * (l[m]'(by simpa using hm) * 65536 ^ m) := by rw [← Nat.mul_assoc, Nat.mul_comm]
    have e2 : v * (65536 ^ m * 65536) = 65536 * (v * 65536 ^ m) := by rw [← Nat.mul_assoc, Nat.mul_comm]
    rw [e1, e2]
    omega

theorem dv_append : ∀ l m : List Nat, dv (l ++ m) = dv l + 65536 ^ l.length * dv m
  | [], m => by simp [dv]
  | d :: l, m => by
    rw [List.cons_append, dv, dv, dv_append l m, List.length_cons, Nat.pow_succ, Nat.mul_add]
    have : 65536 ^ l.length * 65536 * dv m = 65536 * (65536 ^ l.length * dv m) := by rw [Nat.mul_comm (65536 ^ l.length) 65536, Nat.mul_assoc]
    omega

theorem dv_take (l : List Nat) (i : Nat) (h : i < l.length) : dv (l.take (i + 1)) = dv (l.take i) + l[i] * 65536 ^ i := by
  rw [List.take_succ_eq_append_getElem h, dv_append, List.length_take, Nat.min_eq_left (by omega)]
  simp only [dv, Nat.mul_zero, Nat.add_zero]
  rw [Nat.mul_comm]

theorem dv_take_le (l : List Nat) (i : Nat) : dv (l.take i) ≤ dv l := by
  conv => rhs; rw [← List.take_append_drop i l, dv_append]
  exact Nat.le_add_right _ _

theorem dv_zero : ∀ n, dv (List.replicate n 0) = 0
  | 0 => rfl
  | n + 1 => by rw [List.replicate_succ, dv, dv_zero n]

theorem dv_drop (l : List Nat) (k : Nat) (h : ∀ d ∈ l, d < 65536) (hk : k ≤ l.length) : dv l / 65536 ^ k = dv (l.drop k) := by
  have hl : dv l = dv (l.take k) + 65536 ^ k * dv (l.drop k) := by
    conv => lhs; rw [← List.take_append_drop k l, dv_append, List.length_take, Nat.min_eq_left hk]
  have ht := dv_lt (l.take k) (fun d hd => h d (List.mem_of_mem_take hd))
  rw [List.length_take, Nat.min_eq_left hk] at ht
  rw [hl, Nat.add_mul_div_left _ _ (Nat.two_pow_pos (16 * k) |> fun h => by rw [Nat.pow_mul] at h; exact h), Nat.div_eq_of_lt ht, Nat.zero_add]

/-- One digit's new value, and what is carried. -/
theorem dv_carry (o : List Nat) (m q : Nat) (hm : m < o.length) :
    dv (o.set m ((o[m] + q) % 65536)) + (o[m] + q) / 65536 * 65536 ^ (m + 1) = dv o + q * 65536 ^ m := by
  have h := dv_set o m ((o[m] + q) % 65536) hm
  have e : (o[m] + q) * 65536 ^ m = (o[m] + q) % 65536 * 65536 ^ m + (o[m] + q) / 65536 * 65536 ^ (m + 1) := by
    rw [Nat.pow_succ, Nat.mul_comm (65536 ^ m) 65536, ← Nat.mul_assoc, ← Nat.add_mul]
    congr 1
    omega
  rw [Nat.add_mul] at e
  omega

theorem digits_set (o : List Nat) (m v : Nat) (h : ∀ d ∈ o, d < 65536) (hv : v < 65536) : ∀ d ∈ o.set m v, d < 65536 := by
  intro d hd
  rcases List.mem_or_eq_of_mem_set hd with h1 | h1
  · exact h d h1
  · rw [h1]; exact hv

/-- What is carried stays within the row. -/
theorem carry_within {o : List Nat} {m n q t : Nat} (h : dv o + q * 65536 ^ m = t) (hq : 1 ≤ q) (ht : t < 65536 ^ n) : m < n := by
  have h1 : 65536 ^ m ≤ q * 65536 ^ m := Nat.le_mul_of_pos_left _ hq
  have h2 : 65536 ^ m < 65536 ^ n := by omega
  exact (Nat.pow_lt_pow_iff_right (by decide)).1 h2

/-- The partial product is below the whole row's bound. -/
theorem part_lt (A B : List Nat) (i k : Nat) (hA : ∀ d ∈ A, d < 65536) (hB : ∀ d ∈ B, d < 65536) (hi : i < A.length) :
    dv (A.take i) * dv B + A[i] * 65536 ^ i * dv (B.take k) < 65536 ^ (A.length + B.length) := by
  have h1 : dv (B.take k) ≤ dv B := dv_take_le B k
  have h2 : dv (A.take i) * dv B + A[i] * 65536 ^ i * dv (B.take k) ≤ dv A * dv B := by
    have h3 := dv_take_le A (i + 1)
    rw [dv_take A i hi] at h3
    calc dv (A.take i) * dv B + A[i] * 65536 ^ i * dv (B.take k) ≤ dv (A.take i) * dv B + A[i] * 65536 ^ i * dv B := Nat.add_le_add_left (Nat.mul_le_mul_left _ h1) _
      _ = (dv (A.take i) + A[i] * 65536 ^ i) * dv B := by rw [Nat.add_mul]
      _ ≤ dv A * dv B := Nat.mul_le_mul_right _ h3
  have h4 := dv_lt A hA
  have h5 := dv_lt B hB
  rw [Nat.pow_add]
  exact Nat.lt_of_le_of_lt h2 (Nat.mul_lt_mul'' h4 h5)

theorem getD_of (l : List Nat) (i : Nat) (h : i < l.length) : l.getD i 0 = l[i] := by simp [List.getD, h]
theorem getD_lt (l : List Nat) (i b : Nat) (h : ∀ d ∈ l, d < b) (hi : i < l.length) : l.getD i 0 < b := by
  rw [getD_of l i hi]
  exact h _ (List.getElem_mem hi)
theorem dv_takeD (l : List Nat) (i : Nat) (h : i < l.length) : dv (l.take (i + 1)) = dv (l.take i) + l.getD i 0 * 65536 ^ i := by
  rw [getD_of l i h]; exact dv_take l i h
theorem dv_carryD (o : List Nat) (m q : Nat) (hm : m < o.length) :
    dv (o.set m ((o.getD m 0 + q) % 65536)) + (o.getD m 0 + q) / 65536 * 65536 ^ (m + 1) = dv o + q * 65536 ^ m := by
  rw [getD_of o m hm]; exact dv_carry o m q hm
theorem part_ltD (A B : List Nat) (i k : Nat) (hA : ∀ d ∈ A, d < 65536) (hB : ∀ d ∈ B, d < 65536) (hi : i < A.length) :
    dv (A.take i) * dv B + A.getD i 0 * 65536 ^ i * dv (B.take k) < 65536 ^ (A.length + B.length) := by
  rw [getD_of A i hi]; exact part_lt A B i k hA hB hi
/-- The next target, out of this one. -/
theorem part_step (A B : List Nat) (i k : Nat) (hk : k < B.length) :
    dv (A.take i) * dv B + A.getD i 0 * 65536 ^ i * dv (B.take (k + 1)) = dv (A.take i) * dv B + A.getD i 0 * 65536 ^ i * dv (B.take k) + A.getD i 0 * B.getD k 0 * 65536 ^ (i + k) := by
  rw [dv_takeD B k hk, Nat.mul_add, ← Nat.add_assoc, Nat.pow_add]
  congr 1
  simp only [Nat.mul_assoc, Nat.mul_left_comm]
theorem part_done (A B : List Nat) (i : Nat) (hi : i < A.length) :
    dv (A.take i) * dv B + A.getD i 0 * 65536 ^ i * dv (B.take B.length) = dv (A.take (i + 1)) * dv B := by
  rw [List.take_length, dv_takeD A i hi, Nat.add_mul]
end Go.Proofs.Ytnjiflkbgpbchaa
