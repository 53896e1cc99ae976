/-
  The contracts of package fixed's inner functions (digits, lay, sized, read) over this seat's translation. Conditions: a number below 2^64, a row of at most 8 bytes.
-/
import Derived.Test.YtaddlobmmmafaaaRow
import Derived.Test.YtaddlobmmmafaaaShelf
import Derived.Test.YtaddlobmmmafaaaFixM
import Derived.Laws.Bits64b
import Derived.Deep.LoopGhost
namespace Go.Proofs.Ytaddlobmmmafaaa
open Go.RowKit Go.Sort

theorem digits_any (n : Nat) (w : World) (hn : n < 18446744073709551616) :
    Calls Try.prog 40 #[.int .u64 n] w fun e w' => e = .returned (.int .i64 (digs n)) ∧ w = w' := by
  have hb := Lib.bitLen_le n 64 (by omega) (by simpa using hn)
  have hd : (((Lib.bitLen n : Nat) : Int) + 7) / 8 = (digs n : Int) := by rw [← digs_bits n hn]; omega
  have HD := Lib.hid hd
  clear hd
  go_enter Try.func40, Try.ntmps40
  go_wp2_with fail
  refine (Try.bits_Len64 n _ (by omega) (by omega)).mono ?_
  rintro e w' ⟨rfl, rfl⟩
  go_wp2
  go_ret
  exact ⟨by rw [HD.out]; rfl, rfl⟩

/-- The row behind j rounds of lay. -/
def layRow (n k j : Nat) : List UInt8 := lo n j ++ List.replicate (k - j) 0
theorem layRow_length (n k j : Nat) (h : j ≤ k) : (layRow n k j).length = k := by simp [layRow, lo_length]; omega
theorem layRow_set (n k j : Nat) (h : j < k) : (layRow n k j).toArray.setIfInBounds j (UInt8.ofNat (n / 256 ^ j)) = (layRow n k (j + 1)).toArray := by
  apply Array.toList_inj.1
  simp only [Array.toList_setIfInBounds, layRow, lo_snoc]
  obtain ⟨m, hm⟩ : ∃ m, k - j = m + 1 := ⟨k - j - 1, by omega⟩
  have hm' : k - (j + 1) = m := by omega
  rw [hm, hm', List.replicate_succ, List.set_append_right _ _ (by rw [lo_length]; omega)]
  simp [lo_length]

theorem byte_of (n j : Nat) : (n : Int) / 2 ^ (8 * j) % 256 = ((UInt8.ofNat (n / 256 ^ j)).toNat : Int) := by
  have h2 : (2 : Int) ^ (8 * j) = ((256 ^ j : Nat) : Int) := by
    rw [show (256 : Nat) = 2 ^ 8 from rfl, ← Nat.pow_mul]
    simp
  rw [h2, u8_toNat_ofNat]
  omega

set_option maxRecDepth 100000 in
theorem lay_any (n k : Nat) (w : World) (hk : k ≤ 8) :
    Calls Try.prog 39 #[.int .u64 n, .int .i64 k] w fun e w' => e = .returned (.slice (some ⟨w.heap.size, 0, none⟩) k k) ∧ Row8 w' w.heap.size (lo n k) ∧ Below w.heap.size w w' ∧ w.heap.size < w'.heap.size := by
  have hmk := make8 k (by omega)
  go_enter Try.func39, Try.ntmps39
  go_wp2
  go_loopw [10] (fun v10 wr => ∃ j : Nat, j ≤ k ∧ v10 = .int .i64 j ∧ wr = putRow enc8 (w.alloc (.cells (Array.replicate k (.int .u8 0)) 5)) w.heap.size 0 (layRow n k j).toArray) (fun i _ => k - (intOf i).toNat)
  case atStart =>
    refine ⟨0, Nat.zero_le _, rfl, ?_⟩
    exact (putRow_self _ _ _ _ _ (row8_made k w)).symm
  case round =>
    obtain ⟨j, hj, rfl, hwr⟩ := hrel
    have R : Row8 wr w.heap.size (layRow n k j) := by rw [hwr]; exact row8_put (row8_made k w) (by rw [layRow_length n k j hj]; simp)
    have hl := layRow_length n k j hj
    have HW := Lib.hid hwr
    clear hwr
    by_cases hlt : j < k
    · obtain ⟨u, hc⟩ := R.ex j (by omega)
      have hf := R.free j (by omega)
      clear R hl
      go_wp2
      go_roundw
      case rel =>
        refine ⟨j + 1, by omega, by go_num, ?_⟩
        rw [HW.out, byte_of]
        have := putRow_set enc8 (w.alloc (.cells (Array.replicate k (.int .u8 0)) 5)) w.heap.size 0 (layRow n k j).toArray j (UInt8.ofNat (n / 256 ^ j)) (by simpa [layRow_length n k j hj] using hlt)
        rw [layRow_set n k j hlt, Nat.zero_add] at this
        exact this
      case measure => simp [intOf]; omega
    · have : j = k := by omega
      subst this
      clear hlt
      go_wp2
      go_ret
      have hrow : layRow n j j = lo n j := by simp [layRow]
      rw [hrow] at R HW
      refine ⟨rfl, R, ?_, ?_⟩
      · rw [HW.out]
        exact ((Below.refl _ w).alloc (Nat.le_refl _) _).trans ((fr_putRow _ _ _).below (by simp) (fun j hj => by omega))
      · rw [HW.out]
        exact Nat.lt_of_lt_of_le (by simp) (fr_putRow _ _ _).size

theorem str_ne_of {s : ByteArray} (h : s.size ≠ 0) : s.toList.isEmpty = false := by
  rw [ByteArray.toList_eq]
  cases hd : s.data.toList with
  | nil => exact absurd (by rw [ByteArray.size, ← Array.length_toList, hd]; rfl) h
  | cons b m => rfl

theorem sized_none (w : World) : Calls Try.prog 50 #[.string ByteArray.empty] w fun e w' => e = .returned (.int .i64 1) ∧ w = w' := by
  go_enter Try.func50, Try.ntmps50
  go_wp2
  go_ret
  exact ⟨rfl, rfl⟩

theorem sized_ok (s : ByteArray) (h0 : s.size ≠ 0) (hs : s.size ≤ 8) (w : World) : Calls Try.prog 50 #[.string s] w fun e w' => e = .returned (.int .i64 0) ∧ w = w' := by
  have hne := str_ne_of h0
  go_enter Try.func50, Try.ntmps50
  go_wp2
  go_ret
  exact ⟨rfl, rfl⟩

theorem sized_over (s : ByteArray) (hs : 8 < s.size) (w : World) : Calls Try.prog 50 #[.string s] w fun e w' => e = .returned (.int .i64 5) ∧ w = w' := by
  have hne := str_ne_of (s := s) (by omega)
  go_enter Try.func50, Try.ntmps50
  go_wp2
  go_ret
  exact ⟨rfl, rfl⟩

theorem or_step (l : List UInt8) (j : Nat) (hj : j < l.length) : num (l.take j) ||| l[j].toNat * 2 ^ (8 * j) = num (l.take (j + 1)) := by
  have h2 : (2 : Nat) ^ (8 * j) = 256 ^ j := by rw [show (256 : Nat) = 2 ^ 8 from rfl, ← Nat.pow_mul]
  have hlen : (l.take j).length = j := by simp; omega
  have hlt : num (l.take j) < 2 ^ (8 * j) := by rw [h2]; have := num_lt (l.take j); rwa [hlen] at this
  rw [List.take_succ_eq_append_getElem hj, num_append, hlen, ← h2]
  simp only [num, Nat.mul_zero, Nat.add_zero]
  rw [Nat.or_comm, Nat.mul_comm l[j].toNat, ← Nat.two_pow_add_eq_or_of_lt hlt, Nat.add_comm]

theorem or_walk (l : List UInt8) (j : Nat) (hj : j < l.length) (h8 : l.length ≤ 8) :
    bits BinOp.or IntKind.u64 ((num (l.take j) : Nat) : Int) (IntKind.u64.wrap (IntKind.u64.wrap (l[j].toNat : Int) * 2 ^ (8 * j))) = ((num (l.take (j + 1)) : Nat) : Int) := by
  have hb : l[j].toNat < 256 := l[j].toNat_lt
  have h1 : IntKind.u64.wrap (l[j].toNat : Int) = (l[j].toNat : Int) := by rw [IntKind.wrap_u64]; omega
  have hs := or_step l j hj
  have ht : num (l.take (j + 1)) < 18446744073709551616 := num_lt8 (by simp; omega)
  have h2 : l[j].toNat * 2 ^ (8 * j) < 18446744073709551616 := Nat.lt_of_le_of_lt (by rw [← hs]; exact Nat.right_le_or) ht
  have h3 : (l[j].toNat : Int) * 2 ^ (8 * j) = ((l[j].toNat * 2 ^ (8 * j) : Nat) : Int) := by simp
  have h4 : IntKind.u64.wrap ((l[j].toNat * 2 ^ (8 * j) : Nat) : Int) = ((l[j].toNat * 2 ^ (8 * j) : Nat) : Int) := by rw [IntKind.wrap_u64]; omega
  rw [h1, h3, h4, bits_or_u64_nat _ _ (num_lt8 (by simp; omega)) h2, hs]

set_option maxRecDepth 100000 in
theorem read8_any (g : Nat) (l : List UInt8) (n c : Nat) (hn : l.length = n) (h8 : n ≤ 8) (w : World) (h : Row8 w g l) :
    Calls Try.prog 51 #[.slice (some ⟨g, 0, none⟩) n c] w fun e w' => e = .returned (.int .u64 (num l)) ∧ w = w' := by
  have H := Lib.hid h
  have HN := Lib.hid hn
  clear h hn
  go_enter Try.func51, Try.ntmps51
  go_wp2
  go_loop [2, 6] (fun v2 v6 => ∃ j : Nat, j ≤ n ∧ v6 = .int .i64 j ∧ v2 = .int .u64 (num (l.take j))) (fun _ i => n - (intOf i).toNat)
  case atStart => exact ⟨0, Nat.zero_le _, rfl, rfl⟩
  case round =>
    obtain ⟨j, hj, rfl, rfl⟩ := hrel
    by_cases hlt : j < n
    · have hc := H.out.cell j (by rw [HN.out]; exact hlt)
      go_wp2
      go_round
      case rel => exact ⟨j + 1, by omega, by go_num, congrArg _ (or_walk l j (by rw [HN.out]; exact hlt) (by rw [HN.out]; exact h8))⟩
      case measure => simp [intOf]; omega
    · have : j = n := by omega
      subst this
      go_wp2
      go_ret
      have := HN.out
      exact ⟨by rw [← this, List.take_length]; rfl, rfl⟩
end Go.Proofs.Ytaddlobmmmafaaa
