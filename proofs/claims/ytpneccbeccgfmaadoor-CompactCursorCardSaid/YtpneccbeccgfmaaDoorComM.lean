/-
  Numbers by a first byte that says how many little bytes there are: plain mathematics of lists of bytes, no program. No condition.
-/
import Derived.Test.YtpneccbeccgfmaaDoorFixM
namespace Go.Proofs.YtpneccbeccgfmaaDoor

/-- How many little bytes stand behind the first byte x. -/
def hind (x : Nat) : Nat := if x ≤ 252 then 0 else if x = 253 then 2 else if x = 254 then 4 else 8
/-- The first byte of n's bytes. -/
def head (n : Nat) : Nat := if n ≤ 252 then n else if n ≤ 65535 then 253 else if n ≤ 4294967295 then 254 else 255
/-- A number's bytes. -/
def cputs (n : Nat) : List UInt8 := UInt8.ofNat (head n) :: lo n (hind (head n))
/-- The number that the first byte x says, with l behind it. -/
def cnum (x : Nat) (l : List UInt8) : Nat := if x ≤ 252 then x else num (l.take (hind x))
/-- What bytes begin with: a number, how many bytes it has, an error. -/
def cnx : List UInt8 → Nat × Nat × Nat
  | [] => (0, 0, 2)
  | b :: t => if t.length < hind b.toNat then (0, 0, 2) else if head (cnum b.toNat t) = b.toNat then (cnum b.toNat t, 1 + hind b.toNat, 0) else (0, 0, 3)

theorem hind_le (x : Nat) : hind x ≤ 8 := by unfold hind; (repeat' split) <;> omega
theorem head_lt (n : Nat) : head n < 256 := by unfold head; (repeat' split) <;> omega
theorem head_small {n : Nat} (h : n ≤ 252) : head n = n := by unfold head; rw [if_pos h]
theorem hind_small {n : Nat} (h : n ≤ 252) : hind n = 0 := by unfold hind; rw [if_pos h]
theorem head_big {n : Nat} (h : 252 < n) : 252 < head n := by unfold head; (repeat' split) <;> omega
theorem hind_big {x : Nat} (h : 252 < x) : 2 ≤ hind x := by unfold hind; (repeat' split) <;> omega

theorem lt_hind {n : Nat} (h : 252 < n) (hn : n < 18446744073709551616) : n < 256 ^ hind (head n) := by
  unfold head
  rw [if_neg (by omega)]
  by_cases h1 : n ≤ 65535
  · rw [if_pos h1, show hind 253 = 2 from rfl]; omega
  · rw [if_neg h1]
    by_cases h2 : n ≤ 4294967295
    · rw [if_pos h2, show hind 254 = 4 from rfl]; omega
    · rw [if_neg h2, show hind 255 = 8 from rfl]; omega
theorem digs_hind {n : Nat} (h : 252 < n) (hn : n < 18446744073709551616) : digs n ≤ hind (head n) := digs_le.2 (lt_hind h hn)

theorem cputs_length (n : Nat) : (cputs n).length = 1 + hind (head n) := by simp [cputs, lo_length]; omega
theorem cputs_le9 (n : Nat) : (cputs n).length ≤ 9 := by rw [cputs_length]; have := hind_le (head n); omega
theorem cputs_small {n : Nat} (h : n ≤ 252) : cputs n = [UInt8.ofNat n] := by
  unfold cputs
  rw [head_small h, hind_small h]; rfl
theorem head_byte (n : Nat) : (UInt8.ofNat (head n)).toNat = head n := by
  rw [u8_toNat_ofNat]; exact Nat.mod_eq_of_lt (head_lt n)

theorem cnum_lt (x : Nat) (l : List UInt8) : cnum x l < 18446744073709551616 := by
  unfold cnum
  split
  · omega
  · exact num_lt8 (by have := hind_le x; simp; omega)

theorem cnx_puts (n : Nat) (t : List UInt8) (hn : n < 18446744073709551616) : cnx (cputs n ++ t) = (n, (cputs n).length, 0) := by
  rw [cputs_length, cputs, List.cons_append, cnx, head_byte]
  have hl : ¬ (lo n (hind (head n)) ++ t).length < hind (head n) := by simp [lo_length]
  rw [if_neg hl]
  have hc : cnum (head n) (lo n (hind (head n)) ++ t) = n := by
    unfold cnum
    by_cases h : n ≤ 252
    · rw [head_small h, if_pos h]
    · rw [if_neg (by have := head_big (n := n) (by omega); omega), List.take_append_of_le_length (by rw [lo_length]; exact Nat.le_refl _), List.take_of_length_le (by rw [lo_length]; exact Nat.le_refl _), num_lo]
      exact Nat.mod_eq_of_lt (lt_hind (by omega) hn)
  rw [hc, if_pos rfl]

theorem cnx_told (l : List UInt8) (n k : Nat) (h : cnx l = (n, k, 0)) : l.take k = cputs n ∧ k ≤ l.length ∧ 0 < k ∧ k ≤ 9 ∧ n < 18446744073709551616 := by
  cases l with
  | nil => simp [cnx] at h
  | cons b t =>
    rw [cnx] at h
    by_cases h1 : t.length < hind b.toNat
    · rw [if_pos h1] at h; simp at h
    · rw [if_neg h1] at h
      by_cases h2 : head (cnum b.toNat t) = b.toNat
      · rw [if_pos h2] at h
        simp only [Prod.mk.injEq, and_true] at h
        obtain ⟨rfl, rfl⟩ := h
        have h9 := hind_le b.toNat
        refine ⟨?_, by simp; omega, by omega, by omega, cnum_lt _ _⟩
        rw [Nat.add_comm, List.take_succ_cons, cputs, h2]
        congr 1
        · simp
        · unfold cnum
          by_cases h3 : b.toNat ≤ 252
          · rw [hind_small h3]; rfl
          · rw [if_neg h3]
            have hlen : (t.take (hind b.toNat)).length = hind b.toNat := by simp; omega
            have := lo_num (t.take (hind b.toNat))
            rw [hlen] at this
            exact this.symm
      · rw [if_neg h2] at h; simp at h

theorem cnx_err (l : List UInt8) : (cnx l).2.2 = 0 ∨ cnx l = (0, 0, 2) ∨ cnx l = (0, 0, 3) := by
  cases l with
  | nil => exact .inr (.inl rfl)
  | cons b t =>
    rw [cnx]
    split
    · exact .inr (.inl rfl)
    · split
      · exact .inl rfl
      · exact .inr (.inr rfl)

theorem cnum_take (x : Nat) (t : List UInt8) (j : Nat) (h : hind x ≤ j) : cnum x (t.take j) = cnum x t := by
  unfold cnum
  rw [List.take_take, Nat.min_eq_left h]

theorem cnx_take (l : List UInt8) (k : Nat) : cnx (l.take k) = (0, 0, 2) ∨ cnx (l.take k) = cnx l := by
  cases l with
  | nil => exact .inr (by simp)
  | cons b t =>
    cases k with
    | zero => exact .inl rfl
    | succ k =>
      rw [List.take_succ_cons, cnx, cnx]
      by_cases h : (t.take k).length < hind b.toNat
      · exact .inl (if_pos h)
      · have hl : (t.take k).length = min k t.length := by simp
        rw [hl] at h
        refine .inr ?_
        have hk : hind b.toNat ≤ k := by omega
        have ht : ¬ t.length < hind b.toNat := by omega
        rw [hl, if_neg h, cnum_take _ _ _ hk, if_neg ht]

theorem cnx_nine (l : List UInt8) : cnx (l.take 9) = cnx l := by
  cases l with
  | nil => simp
  | cons b t =>
    rw [List.take_succ_cons, cnx, cnx]
    have h8 := hind_le b.toNat
    have hl : (t.take 8).length = min 8 t.length := by simp
    rw [hl, cnum_take _ _ _ h8]
    by_cases h : t.length < hind b.toNat
    · rw [if_pos h, if_pos (by omega)]
    · rw [if_neg h, if_neg (by omega)]

/-- A number's bytes are those ahead just if its first byte is. -/
theorem cputs_eq (b : UInt8) (t : List UInt8) (h : hind b.toNat ≤ t.length) : cputs (cnum b.toNat t) = b :: t.take (hind b.toNat) ↔ head (cnum b.toNat t) = b.toNat := by
  constructor
  · intro he
    have := congrArg (fun l : List UInt8 => l.head?.map UInt8.toNat) he
    simp only [cputs, List.head?_cons, Option.map_some, Option.some.injEq] at this
    rwa [head_byte] at this
  · intro he
    have : cnx (b :: t) = (cnum b.toNat t, 1 + hind b.toNat, 0) := by
      rw [cnx, if_neg (by omega), if_pos he]
    have := (cnx_told _ _ _ this).1
    rw [Nat.add_comm, List.take_succ_cons] at this
    exact this.symm
end Go.Proofs.YtpneccbeccgfmaaDoor
