/-
  The contract of the document's own Pad (layer 5) over this seat's translation. Conditions: a count of bytes of at most 2^40.
-/
import Derived.Test.YtnjiflkbgpbchaaRow
import Derived.Test.YtnjiflkbgpbchaaFixM
import Derived.IntWalk
namespace Go.Proofs.Ytnjiflkbgpbchaa
open Go.RowKit Go.Sort

/-- How many noughts stand in the padding behind n bytes. -/
def nou (n : Nat) : Nat := (64 - (n + 9) % 64) % 64
/-- The padding behind n bytes. -/
def padL (n : Nat) : List UInt8 := (128 :: List.replicate (nou n) 0) ++ (lo (8 * n) 8).reverse
theorem nou_lt (n : Nat) : nou n < 64 := Nat.mod_lt _ (by decide)
theorem nou_done (n j : Nat) (hj : j ≤ nou n) : (n + 9 + j) % 64 = 0 ↔ j = nou n := by
  unfold nou at *
  omega
theorem padL_length (n : Nat) : (padL n).length = 9 + nou n := by
  simp [padL, lo_length]
  omega
theorem pad_one : (⟨#[128]⟩ : ByteArray) = bs [128] := rfl
theorem pad_zero : (⟨#[0]⟩ : ByteArray) = bs [0] := rfl

set_option maxRecDepth 100000 in
theorem refPad_any (n : Nat) (w : World) (hn : n ≤ 1099511627776) :
    Calls Try.prog 14 #[.int .i64 n] w fun e w' => e = .returned (.string (bs (padL n))) ∧ Below w.heap.size w w' := by
  have hz := nou_lt n
  go_enter Try.func14, Try.ntmps14
  go_wp2_with fail
  go_loop [3] (fun v3 => ∃ j : Nat, j ≤ nou n ∧ v3 = .string (bs (128 :: List.replicate j 0))) (fun v => match v with | .string s => 100 - s.size | _ => 0)
  case atStart => exact ⟨0, Nat.zero_le _, rfl⟩
  case round =>
    obtain ⟨j, hj, rfl⟩ := hrel
    have hl : (bs (128 :: List.replicate j 0)).size = j + 1 := by rw [bs_size]; simp
    have hd := nou_done n j hj
    have HL := Lib.hid hl
    by_cases hlt : j < nou n
    · have h64 : (n + 9 + j) % 64 ≠ 0 := fun h => by have := hd.1 h; omega
      obtain ⟨S, hS⟩ : ∃ S, S = bs (128 :: List.replicate j 0) := ⟨_, rfl⟩
      rw [← hS] at hl
      rw [← hS]
      have z1 : S.size ≤ 64 := by omega
      have z2 : (S.size : Int) = (j : Int) + 1 := by omega
      have t1 : (((n : Int) + (S.size : Int) + 8) % 64 != 0) = true := by
        have : ((n : Int) + (S.size : Int) + 8) % 64 ≠ 0 := by omega
        simpa using this
      have w1 : IntKind.i64.wrap ((n : Int) + (S.size : Int)) = (n : Int) + (S.size : Int) := IntWalk.i64_in _ (by omega)
      have w2 : IntKind.i64.wrap ((n : Int) + (S.size : Int) + 8) = (n : Int) + (S.size : Int) + 8 := IntWalk.i64_in _ (by omega)
      have HS := Lib.hid hS
      have HZ := Lib.hid hl
      clear hS hl z2 hd h64
      go_wp2
      go_round
      case rel =>
        refine ⟨j + 1, by omega, ?_⟩
        rw [pad_zero, HS.out, bs_append, List.cons_append, List.replicate_succ']
      case measure =>
        simp only [ByteArray.size_append, pad_zero, bs_size, List.length_singleton]
        have := HZ.out
        omega
    · obtain rfl : j = nou n := by omega
      have h64 : (n + 9 + nou n) % 64 = 0 := hd.2 rfl
      obtain ⟨S, hS⟩ : ∃ S, S = bs (128 :: List.replicate (nou n) 0) := ⟨_, rfl⟩
      rw [← hS] at hl
      rw [← hS]
      have z1 : S.size ≤ 64 := by omega
      have t1 : (((n : Int) + (S.size : Int) + 8) % 64 != 0) = false := by
        have : ((n : Int) + (S.size : Int) + 8) % 64 = 0 := by omega
        simpa using this
      have w1 : IntKind.i64.wrap ((n : Int) + (S.size : Int)) = (n : Int) + (S.size : Int) := IntWalk.i64_in _ (by omega)
      have w2 : IntKind.i64.wrap ((n : Int) + (S.size : Int) + 8) = (n : Int) + (S.size : Int) + 8 := IntWalk.i64_in _ (by omega)
      have HS := Lib.hid hS
      obtain ⟨M, hM⟩ : ∃ M, M = 8 * n := ⟨_, rfl⟩
      have w3 : IntKind.u64.wrap ((n : Int) * 8) = (M : Int) := by rw [IntKind.wrap_u64]; omega
      have w4 : IntKind.u64.wrap (n : Int) = (n : Int) := by rw [IntKind.wrap_u64]; omega
      have bM : M < 18446744073709551616 := by omega
      have HM := Lib.hid (And.intro hM bM)
      clear hS hl hd h64 HL hM bM
      go_wp2_with fail
      go_loopw [4, 5, 6] (fun v4 v5 v6 wr => ∃ i : Nat, i ≤ 8 ∧ v6 = .int .i64 i ∧ v4 = .int .u64 (M / 256 ^ i : Nat) ∧ v5 = .string (bs (lo M i).reverse) ∧ Below w.heap.size w wr) (fun _ _ i _ => 8 - (intOf i).toNat)
      case atStart => exact ⟨0, by omega, rfl, by simp, rfl, Below.refl _ _⟩
      case round =>
        obtain ⟨i, hi, rfl, rfl, rfl, hb⟩ := hrel
        have HB := Lib.hid hb
        clear hb
        have hl8 : (bs (lo M i).reverse).size ≤ 8 := by rw [bs_size, List.length_reverse, lo_length]; exact hi
        by_cases hlt8 : i < 8
        · obtain ⟨m, hm⟩ : ∃ m, m = M / 256 ^ i := ⟨_, rfl⟩
          have hsn := lo_snoc i M
          rw [← hm] at hsn
          rw [← hm]
          have bm : m < 18446744073709551616 := by rw [hm]; exact Nat.lt_of_le_of_lt (Nat.div_le_self _ _) HM.out.2
          have hone := one_byte wr ((m : Int) % 256) (by omega) (by omega)
          have hsz : (bs [UInt8.ofNat (m % 256)]).size ≤ 1 := Nat.le_refl 1
          have hnext : m / 256 = M / 256 ^ (i + 1) := by rw [hm, Nat.div_div_eq_div_mul, Nat.pow_succ]
          have HN := Lib.hid (And.intro hsn hnext)
          clear hsn hnext hm
          go_wp2
          go_roundw
          case rel =>
            refine ⟨i + 1, by omega, by go_num, by rw [← HN.out.2]; go_num, ?_, HB.out.alloc HB.out.size _⟩
            rw [bs_append, HN.out.1, List.reverse_append]
            congr 2
            simp only [List.reverse_cons, List.reverse_nil, List.nil_append, List.singleton_append]
            congr 1
            apply UInt8.toNat_inj.1
            rw [u8_toNat_ofNat, u8_toNat_ofNat]
            omega
          case measure => (simp [intOf]) <;> omega
        · obtain rfl : i = 8 := by omega
          go_wp2
          go_ret
          refine ⟨?_, HB.out⟩
          have : S ++ bs (lo M 8).reverse = bs (padL n) := by rw [HS.out, bs_append, padL, HM.out.1]
          rw [← this]
          rfl
end Go.Proofs.Ytnjiflkbgpbchaa
