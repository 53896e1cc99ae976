/-
  The contracts of package fixed's inner functions sized and read over this seat's translation. Conditions: a row of at most 8 bytes.
-/
import Derived.Test.YtacfhjcchoefjaaFixZ
namespace Go.Proofs.Ytacfhjcchoefjaa
open Go.RowKit Go.Sort

theorem sized_none (w : World) : Calls Try.prog 48 #[.string ByteArray.empty] w fun e w' => e = .returned (.int .i64 1) ∧ w = w' := by
  go_enter Try.func48, Try.ntmps48
  go_wp2
  go_ret
  exact ⟨rfl, rfl⟩

theorem sized_ok (s : ByteArray) (h0 : s.size ≠ 0) (hs : s.size ≤ 8) (w : World) : Calls Try.prog 48 #[.string s] w fun e w' => e = .returned (.int .i64 0) ∧ w = w' := by
  have hne := str_ne_of h0
  go_enter Try.func48, Try.ntmps48
  go_wp2
  go_ret
  exact ⟨rfl, rfl⟩

theorem sized_over (s : ByteArray) (hs : 8 < s.size) (w : World) : Calls Try.prog 48 #[.string s] w fun e w' => e = .returned (.int .i64 5) ∧ w = w' := by
  have hne := str_ne_of (s := s) (by omega)
  go_enter Try.func48, Try.ntmps48
  go_wp2
  go_ret
  exact ⟨rfl, rfl⟩

theorem or_step (l : List UInt8) (j : Nat) (hj : j < l.length) : num (l.take j) ||| l[j].toNat * 2 ^ (8 * j) = num (l.take (j + 1)) := by
  have h2 : (2 : Nat) ^ (8 * j) = 256 ^ j := by rw [show (256 : Nat) = 2 ^ 8 from rfl, ← Nat.pow_mul]
  have hlen : (l.take j).length = j := by simp; omega
  have hlt : num (l.take j) < 2 ^ (8 * j) := by rw [h2]; have := num_lt (l.take j); rwa [hlen] at this
  rw [List.take_succ_eq_append_getElem hj, num_append, hlen, ← h2]
  simp only [num, Nat.mul_zero, Nat.add_zero]
  rw [Nat.or_comm, Nat.mul_comm l[j].toNat, ← Nat.two_pow_add_eq_or_of_lt hlt, Nat.add_comm]

theorem or_walk (l : List UInt8) (j : Nat) (hj : j < l.length) (h8 : l.length ≤ 8) :
    bits BinOp.or IntKind.u64 ((num (l.take j) : Nat) : Int) (IntKind.u64.wrap (IntKind.u64.wrap (l[j].toNat : Int) * 2 ^ (8 * j))) = ((num (l.take (j + 1)) : Nat) : Int) := by
  have hb : l[j].toNat < 256 := l[j].toNat_lt
  have h1 : IntKind.u64.wrap (l[j].toNat : Int) = (l[j].toNat : Int) := by rw [IntKind.wrap_u64]; omega
  have hs := or_step l j hj
  have ht : num (l.take (j + 1)) < 18446744073709551616 := num_lt8 (by simp; omega)
  have h2 : l[j].toNat * 2 ^ (8 * j) < 18446744073709551616 := Nat.lt_of_le_of_lt (by rw [← hs]; exact Nat.right_le_or) ht
  have h3 : (l[j].toNat : Int) * 2 ^ (8 * j) = ((l[j].toNat * 2 ^ (8 * j) : Nat) : Int) := by simp
  have h4 : IntKind.u64.wrap ((l[j].toNat * 2 ^ (8 * j) : Nat) : Int) = ((l[j].toNat * 2 ^ (8 * j) : Nat) : Int) := by rw [IntKind.wrap_u64]; omega
  rw [h1, h3, h4, bits_or_u64_nat _ _ (num_lt8 (by simp; omega)) h2, hs]

set_option maxRecDepth 100000 in
theorem read8_any (g : Nat) (l : List UInt8) (n c : Nat) (hn : l.length = n) (h8 : n ≤ 8) (w : World) (h : Row8 w g l) :
    Calls Try.prog 49 #[.slice (some ⟨g, 0, none⟩) n c] w fun e w' => e = .returned (.int .u64 (num l)) ∧ w = w' := by
  have H := Lib.hid h
  have HN := Lib.hid hn
  clear h hn
  go_enter Try.func49, Try.ntmps49
  go_wp2
  go_loop [2, 6] (fun v2 v6 => ∃ j : Nat, j ≤ n ∧ v6 = .int .i64 j ∧ v2 = .int .u64 (num (l.take j))) (fun _ i => n - (intOf i).toNat)
  case atStart => exact ⟨0, Nat.zero_le _, rfl, rfl⟩
  case round =>
    obtain ⟨j, hj, rfl, rfl⟩ := hrel
    by_cases hlt : j < n
    · have hc := H.out.cell j (by rw [HN.out]; exact hlt)
      go_wp2
      go_round
      case rel => exact ⟨j + 1, by omega, by go_num, congrArg _ (or_walk l j (by rw [HN.out]; exact hlt) (by rw [HN.out]; exact h8))⟩
      case measure => simp [intOf]; omega
    · have : j = n := by omega
      subst this
      go_wp2
      go_ret
      have := HN.out
      exact ⟨by rw [← this, List.take_length]; rfl, rfl⟩
end Go.Proofs.Ytacfhjcchoefjaa
