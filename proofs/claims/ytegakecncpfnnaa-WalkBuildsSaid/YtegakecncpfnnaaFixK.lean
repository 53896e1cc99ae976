/-
  The contracts of package fixed's inner functions digits and lay over this seat's translation. Conditions: a number below 2^64, a row of at most 8 bytes.
-/
import Derived.Test.YtegakecncpfnnaaRow
import Derived.Test.YtegakecncpfnnaaShelf
import Derived.Test.YtegakecncpfnnaaFixM
import Derived.Laws.Bits64b
import Derived.Deep.LoopGhost
namespace Go.Proofs.Ytegakecncpfnnaa
open Go.RowKit Go.Sort

set_option maxRecDepth 100000 in
theorem digits_any (n : Nat) (w : World) (hn : n < 18446744073709551616) :
    Calls Try.prog 63 #[.int .u64 n] w fun e w' => e = .returned (.int .i64 (digs n)) ∧ w = w' := by
  have hb := Lib.bitLen_le n 64 (by omega) (by simpa using hn)
  have hd : (((Lib.bitLen n : Nat) : Int) + 7) / 8 = (digs n : Int) := by rw [← digs_bits n hn]; omega
  have HD := Lib.hid hd
  clear hd
  go_enter Try.func63, Try.ntmps63
  go_wp2_with fail
  refine (Try.bits_Len64 n _ (by omega) (by omega)).mono ?_
  rintro e w' ⟨rfl, rfl⟩
  go_wp2
  go_ret
  exact ⟨by rw [HD.out]; rfl, rfl⟩

/-- The row behind j rounds of lay. -/
def layRow (n k j : Nat) : List UInt8 := lo n j ++ List.replicate (k - j) 0
theorem layRow_length (n k j : Nat) (h : j ≤ k) : (layRow n k j).length = k := by simp [layRow, lo_length]; omega
theorem layRow_set (n k j : Nat) (h : j < k) : (layRow n k j).toArray.setIfInBounds j (UInt8.ofNat (n / 256 ^ j)) = (layRow n k (j + 1)).toArray := by
  apply Array.toList_inj.1
  simp only [Array.toList_setIfInBounds, layRow, lo_snoc]
  obtain ⟨m, hm⟩ : ∃ m, k - j = m + 1 := ⟨k - j - 1, by omega⟩
  have hm' : k - (j + 1) = m := by omega
  rw [hm, hm', List.replicate_succ, List.set_append_right _ _ (by rw [lo_length]; omega)]
  simp [lo_length]

theorem byte_of (n j : Nat) : (n : Int) / 2 ^ (8 * j) % 256 = ((UInt8.ofNat (n / 256 ^ j)).toNat : Int) := by
  have h2 : (2 : Int) ^ (8 * j) = ((256 ^ j : Nat) : Int) := by
    rw [show (256 : Nat) = 2 ^ 8 from rfl, ← Nat.pow_mul]
    simp
  rw [h2, u8_toNat_ofNat]
  omega

set_option maxRecDepth 100000 in
theorem lay_any (n k : Nat) (w : World) (hk : k ≤ 8) :
    Calls Try.prog 62 #[.int .u64 n, .int .i64 k] w fun e w' => e = .returned (.slice (some ⟨w.heap.size, 0, none⟩) k k) ∧ Row8 w' w.heap.size (lo n k) ∧ Below w.heap.size w w' ∧ w.heap.size < w'.heap.size := by
  have hmk := make8 k (by omega)
  go_enter Try.func62, Try.ntmps62
  go_wp2
  go_loopw [10] (fun v10 wr => ∃ j : Nat, j ≤ k ∧ v10 = .int .i64 j ∧ wr = putRow enc8 (w.alloc (.cells (Array.replicate k (.int .u8 0)) 5)) w.heap.size 0 (layRow n k j).toArray) (fun i _ => k - (intOf i).toNat)
  case atStart =>
    refine ⟨0, Nat.zero_le _, rfl, ?_⟩
    exact (putRow_self _ _ _ _ _ (row8_made k w)).symm
  case round =>
    obtain ⟨j, hj, rfl, hwr⟩ := hrel
    have R : Row8 wr w.heap.size (layRow n k j) := by rw [hwr]; exact row8_put (row8_made k w) (by rw [layRow_length n k j hj]; simp)
    have hl := layRow_length n k j hj
    have HW := Lib.hid hwr
    clear hwr
    by_cases hlt : j < k
    · obtain ⟨u, hc⟩ := R.ex j (by omega)
      have hf := R.free j (by omega)
      clear R hl
      go_wp2
      go_roundw
      case rel =>
        refine ⟨j + 1, by omega, by go_num, ?_⟩
        rw [HW.out, byte_of]
        have := putRow_set enc8 (w.alloc (.cells (Array.replicate k (.int .u8 0)) 5)) w.heap.size 0 (layRow n k j).toArray j (UInt8.ofNat (n / 256 ^ j)) (by simpa [layRow_length n k j hj] using hlt)
        rw [layRow_set n k j hlt, Nat.zero_add] at this
        exact this
      case measure => simp [intOf]; omega
    · have : j = k := by omega
      subst this
      clear hlt
      go_wp2
      go_ret
      have hrow : layRow n j j = lo n j := by simp [layRow]
      rw [hrow] at R HW
      refine ⟨rfl, R, ?_, ?_⟩
      · rw [HW.out]
        exact ((Below.refl _ w).alloc (Nat.le_refl _) _).trans ((fr_putRow _ _ _).below (by simp) (fun j hj => by omega))
      · rw [HW.out]
        exact Nat.lt_of_lt_of_le (by simp) (fr_putRow _ _ _).size

theorem str_ne_of {s : ByteArray} (h : s.size ≠ 0) : s.toList.isEmpty = false := by
  rw [ByteArray.toList_eq]
  cases hd : s.data.toList with
  | nil => exact absurd (by rw [ByteArray.size, ← Array.length_toList, hd]; rfl) h
  | cons b m => rfl
end Go.Proofs.Ytegakecncpfnnaa
