/-
  The contracts of package leb's Size, Put and Next over this seat's translation. Conditions: a number below 2^64; a text of at most 2^47 bytes.
-/
import Derived.Test.YtpfjpekodpffkaaRow
import Derived.Test.YtpfjpekodpffkaaLebM
import Derived.Laws.Bits64b
import Derived.Deep.LoopGhost
namespace Go.Proofs.Ytpfjpekodpffkaa
open Go.RowKit Go.Sort

set_option maxRecDepth 100000 in
theorem clear128 : ∀ b : Fin 256, bits BinOp.andNot IntKind.u8 ((b : Nat) : Int) 128 = (((b : Nat) % 128 : Nat) : Int) := by decide
set_option maxRecDepth 100000 in
theorem mark128 : ∀ b : Fin 256, bits BinOp.or IntKind.u8 ((b : Nat) : Int) 128 = (((b : Nat) % 128 + 128 : Nat) : Int) := by decide
theorem u8_clear (b : Nat) (h : b < 256) : bits BinOp.andNot IntKind.u8 (b : Int) 128 = ((b % 128 : Nat) : Int) := clear128 ⟨b, h⟩
theorem u8_mark (b : Nat) (h : b < 256) : bits BinOp.or IntKind.u8 (b : Int) 128 = ((b % 128 + 128 : Nat) : Int) := mark128 ⟨b, h⟩

theorem size_any (n : Nat) (w : World) (hn : n < 18446744073709551616) :
    Calls Try.prog 11 #[.int .u64 n] w fun e w' => e = .returned (.int .i64 (puts n).length) ∧ w = w' := by
  have hb := Lib.bitLen_le n 64 (by omega) (by simpa using hn)
  have hd : max 1 ((((Lib.bitLen n : Nat) : Int) + 6) / 7) = ((puts n).length : Int) := by rw [← puts_bits n hn]; omega
  have HD := Lib.hid hd
  clear hd
  go_enter Try.func11, Try.ntmps11
  go_wp2_with fail
  refine (Try.bits_Len64 n _ (by omega) (by omega)).mono ?_
  rintro e w' ⟨rfl, rfl⟩
  go_wp2
  go_ret
  exact ⟨by rw [HD.out]; rfl, rfl⟩

/-- The row behind j rounds of Put. -/
def putting (n k j : Nat) : List UInt8 := marked n j ++ List.replicate (k - j) 0
theorem putting_length (n k j : Nat) (h : j ≤ k) : (putting n k j).length = k := by simp [putting, marked_length]; omega
theorem putting_set (n k j : Nat) (h : j < k) : (putting n k j).toArray.setIfInBounds j (UInt8.ofNat (n / 128 ^ j % 128 + 128)) = (putting n k (j + 1)).toArray := by
  apply Array.toList_inj.1
  simp only [Array.toList_setIfInBounds, putting, marked]
  obtain ⟨m, hm⟩ : ∃ m, k - j = m + 1 := ⟨k - j - 1, by omega⟩
  have hm' : k - (j + 1) = m := by omega
  rw [hm, hm', List.replicate_succ, List.set_append_right _ _ (by rw [marked_length]; omega)]
  simp [marked_length]
theorem putting_last (n m : Nat) (h : (puts n).length = m + 1) : (putting n (m + 1) (m + 1)).toArray.setIfInBounds m (UInt8.ofNat (n / 128 ^ m)) = (puts n).toArray := by
  apply Array.toList_inj.1
  have hp := puts_marked n
  rw [h, Nat.add_sub_cancel] at hp
  rw [hp]
  simp only [Array.toList_setIfInBounds, putting, marked]
  rw [List.set_append_left _ _ (by simp [marked_length]), List.set_append_right _ _ (by rw [marked_length]; omega)]
  simp [marked_length]

theorem putting_end (n j : Nat) (h : 0 < j) (hl : j - 1 < (putting n j j).length := by rw [putting_length _ _ _ (Nat.le_refl _)]; omega) : (putting n j j)[j - 1] = UInt8.ofNat (n / 128 ^ (j - 1) % 128 + 128) := by
  obtain ⟨m, rfl⟩ : ∃ m, j = m + 1 := ⟨j - 1, by omega⟩
  simp [putting, marked, marked_length]

theorem mark_of (n j : Nat) : bits BinOp.or IntKind.u8 ((n : Int) / 2 ^ (7 * j) % 256) 128 = ((UInt8.ofNat (n / 128 ^ j % 128 + 128)).toNat : Int) := by
  have h2 : (2 : Int) ^ (7 * j) = ((128 ^ j : Nat) : Int) := by
    rw [show (128 : Nat) = 2 ^ 7 from rfl, ← Nat.pow_mul]
    simp
  have h3 : (n : Int) / ((128 ^ j : Nat) : Int) % 256 = ((n / 128 ^ j % 256 : Nat) : Int) := by omega
  rw [h2, h3, u8_mark _ (by omega), toNat_of (by omega)]
  omega

set_option maxRecDepth 100000 in
theorem put_any (n : Nat) (w : World) (hn : n < 18446744073709551616) :
    Calls Try.prog 8 #[.int .u64 n] w fun e w' => e = .returned (.string (bs (puts n))) ∧ Below w.heap.size w w' := by
  have h10 := puts_le10 hn
  have h0 := puts_pos n
  obtain ⟨k, hk⟩ : ∃ k, (puts n).length = k := ⟨_, rfl⟩
  have HK := Lib.hid hk
  rw [hk] at h10 h0
  clear hk
  have hmk := make8 k (by omega)
  go_enter Try.func8, Try.ntmps8
  go_wp2_with fail
  refine (size_any n _ hn).mono ?_
  rw [HK.out]
  rintro e w' ⟨rfl, rfl⟩
  go_wp2
  go_loopw [10] (fun v10 wr => ∃ j : Nat, j ≤ k ∧ v10 = .int .i64 j ∧ wr = putRow enc8 (w.alloc (.cells (Array.replicate k (.int .u8 0)) 5)) w.heap.size 0 (putting n k j).toArray) (fun i _ => k - (intOf i).toNat)
  case atStart =>
    refine ⟨0, Nat.zero_le _, rfl, ?_⟩
    exact (putRow_self _ _ _ _ _ (row8_made k w)).symm
  case round =>
    obtain ⟨j, hj, rfl, hwr⟩ := hrel
    have R : Row8 wr w.heap.size (putting n k j) := by rw [hwr]; exact row8_put (row8_made k w) (by rw [putting_length n k j hj]; simp)
    have hl := putting_length n k j hj
    have HW := Lib.hid hwr
    clear hwr
    by_cases hlt : j < k
    · obtain ⟨u, hc⟩ := R.ex j (by omega)
      have hf := R.free j (by omega)
      clear R hl
      go_wp2
      go_roundw
      case rel =>
        refine ⟨j + 1, by omega, by go_num, ?_⟩
        rw [HW.out, mark_of]
        have := putRow_set enc8 (w.alloc (.cells (Array.replicate k (.int .u8 0)) 5)) w.heap.size 0 (putting n k j).toArray j (UInt8.ofNat (n / 128 ^ j % 128 + 128)) (by simpa [putting_length n k j hj] using hlt)
        rw [putting_set n k j hlt, Nat.zero_add] at this
        exact this
      case measure => simp [intOf]; omega
    · have : j = k := by omega
      subst this
      clear hlt
      have hf := R.free (j - 1) (by omega)
      obtain ⟨x, hx⟩ : ∃ x, (putting n j j)[j - 1].toNat = x := ⟨_, rfl⟩
      have hc := R.cell (j - 1) (by omega)
      rw [hx] at hc
      obtain ⟨q, hq⟩ : ∃ q, q = n / 128 ^ (j - 1) := ⟨_, rfl⟩
      have hq1 : q < 128 := by have := last_small n; rw [HK.out, ← hq] at this; exact this
      have hxq : x = q % 128 + 128 := by rw [← hx, putting_end n j h0, ← hq, toNat_of (by omega)]
      have hv : bits BinOp.andNot IntKind.u8 (x : Int) 128 = (q : Int) := by rw [u8_clear x (by omega)]; omega
      have hset : wr.setCell ⟨w.heap.size, j - 1, none⟩ (.int .u8 (q : Int)) = putRow enc8 (w.alloc (.cells (Array.replicate j (.int .u8 0)) 5)) w.heap.size 0 (puts n).toArray := by
        have := putRow_set enc8 (w.alloc (.cells (Array.replicate j (.int .u8 0)) 5)) w.heap.size 0 (putting n j j).toArray (j - 1) (UInt8.ofNat q) (by simpa [putting_length n j j hj] using by omega)
        rw [Nat.zero_add, ← HW.out] at this
        have h2 := putting_last n (j - 1) (by rw [HK.out]; omega)
        rw [Nat.sub_add_cancel h0, ← hq] at h2
        rw [h2] at this
        rw [← this, enc8, toNat_of (by omega)]
      have hrow : Row8 (wr.setCell ⟨w.heap.size, j - 1, none⟩ (.int .u8 (q : Int))) w.heap.size (puts n) := by
        rw [hset]
        exact row8_put (row8_made j w) (by rw [HK.out]; simp)
      have hcv := conv8 hrow HK.out j
      have HS := Lib.hid hset
      clear hset hrow hx hq hxq R hl
      go_wp2
      go_ret
      refine ⟨rfl, ?_⟩
      rw [HS.out]
      exact ((Below.refl _ w).alloc (Nat.le_refl _) _).trans ((fr_putRow _ _ _).below (by simp) (fun j hj => by omega))
end Go.Proofs.Ytpfjpekodpffkaa
