/-
  The contracts of sha's small functions (layer 5): a word turned round, small and big mixes, a turn, the words of a text. Conditions: words below 2^32, spins of 1 to 31 bits, a word within its text.
-/
import Derived.Test.YtnjiflkbgpbchaaShaH
namespace Go.Proofs.Ytnjiflkbgpbchaa
open Go.RowKit Go.Sort

theorem rotl_bits (x n m : Nat) (hx : x < 4294967296) (hm : m = 32 - n) : bits .or .u32 (IntKind.u32.wrap ((x : Int) * 2 ^ m)) ((x : Int) / 2 ^ n) = ((spn x n : Nat) : Int) := by
  subst hm
  have s2 : (x : Int) / 2 ^ n = ((x / 2 ^ n : Nat) : Int) := by rw [Int.natCast_ediv]; simp
  have s3 : IntKind.u32.wrap ((x : Int) * 2 ^ (32 - n)) = ((x * 2 ^ (32 - n) % 4294967296 : Nat) : Int) := by
    rw [IntKind.wrap_u32]; simp
  rw [s2, s3, spn, Nat.or_comm]
  exact bits_or32 (x * 2 ^ (32 - n) % 4294967296) (x / 2 ^ n) (Nat.mod_lt _ (by decide)) (div_lt32 hx)

theorem rotl_any (x n : Nat) (w : World) (hx : x < 4294967296) (h1 : 1 ≤ n) (h2 : n ≤ 31) :
    Calls Try.prog 33 #[.int .u32 x, .int .i64 (-(n : Int))] w fun e w' => e = .returned (.int .u32 (spn x n)) ∧ w' = w := by
  obtain ⟨m, hm⟩ : ∃ m, m = 32 - n := ⟨_, rfl⟩
  have hm2 : m ≤ 31 := by omega
  have k1 : IntKind.u64.wrap (-(n : Int)) = 18446744073709551616 - (n : Int) := by rw [IntKind.wrap_u64]; omega
  have k2 : bits .and .u64 (18446744073709551616 - (n : Int)) 31 = (m : Int) := by
    have := (bits_nat .u64 64 (by decide) (fun n h0 h1 => by rw [IntKind.wrap_u64]; omega) (18446744073709551616 - n) 31 (by omega) (by omega)).1
    have e1 : ((18446744073709551616 - n : Nat) : Int) = 18446744073709551616 - (n : Int) := by omega
    have e2 : (18446744073709551616 - n) &&& 31 = m := by
      have := Nat.and_two_pow_sub_one_eq_mod (18446744073709551616 - n) 5
      rw [show (31 : Nat) = 2 ^ 5 - 1 from rfl, this]
      omega
    rw [e1, e2] at this
    exact this
  have k3 : IntKind.u64.wrap (32 - (m : Int)) = (n : Int) := by rw [IntKind.wrap_u64]; omega
  have k4 : 32 - (m : Int) = (n : Int) := by omega
  have HS := Lib.hid (rotl_bits x n m hx hm)
  clear hm
  go_enter Try.func33, Try.ntmps33
  go_wp2
  go_ret
  exact ⟨by rw [← HS.out]; rfl, rfl⟩

theorem spun_any (x n : Nat) (w : World) (hx : x < 4294967296) (h1 : 1 ≤ n) (h2 : n ≤ 31) :
    Calls Try.prog 32 #[.int .u32 x, .int .i64 n] w fun e w' => e = .returned (.int .u32 (spn x n)) ∧ w' = w := by
  have k1 : IntKind.i64.wrap (-(n : Int)) = -(n : Int) := IntWalk.i64_in _ (by omega)
  have HC := Lib.hid (rotl_any x n w hx h1 h2)
  clear h1 h2
  go_enter Try.func32, Try.ntmps32
  go_wp2_with fail
  refine HC.out.mono ?_
  rintro e w1 ⟨rfl, rfl⟩
  go_wp2
  go_ret
  exact ⟨rfl, rfl⟩
end Go.Proofs.Ytnjiflkbgpbchaa
