/-
  The contract of sha's appendBig (layer 5): a number's bytes, the first one weighing most, laid behind bytes of the call's own. Conditions: at most eight bytes; a number below 2^64.
-/
import Derived.Test.YtnjiflkbgpbchaaShaM
namespace Go.Proofs.Ytnjiflkbgpbchaa
open Go.RowKit Go.Sort

/-- The first i of n's k bytes, the first one weighing most. -/
def bigs (n k i : Nat) : List UInt8 := (lo n k).reverse.take i
theorem bigs_zero (n k : Nat) : bigs n k 0 = [] := rfl
theorem bigs_all (n k : Nat) : bigs n k k = (lo n k).reverse := by
  rw [bigs, List.take_of_length_le (by rw [List.length_reverse, lo_length]; exact Nat.le_refl _)]
theorem bigs_length (n k i : Nat) (hi : i ≤ k) : (bigs n k i).length = i := by
  rw [bigs, List.length_take, List.length_reverse, lo_length]
  omega
theorem bigs_succ (n k i : Nat) (hi : i < k) : bigs n k (i + 1) = bigs n k i ++ [UInt8.ofNat (n / 256 ^ (k - 1 - i))] := by
  have hl : i < (lo n k).reverse.length := by rw [List.length_reverse, lo_length]; exact hi
  rw [bigs, bigs, List.take_succ_eq_append_getElem hl]
  congr 2
  rw [List.getElem_reverse, lo_get]
  congr 3
  rw [lo_length]
theorem byt_big (x : Nat) : (lo x 4).reverse = byt x := by
  simp [lo, byt, Nat.div_div_eq_div_mul]

/-- One byte in memory. -/
theorem row_one (W : World) (b : UInt8) : Row8 (W.alloc (.cells #[.int .u8 (b.toNat : Int)] 5)) W.heap.size [b] := by
  refine row8_of_block (fr := (0, 0)) (heap_alloc_new W _) (fun i hi => ?_) (fun i _ h => absurd h.2 (Nat.not_lt_zero i))
  obtain rfl : i = 0 := by simpa using hi
  rfl

set_option maxRecDepth 100000 in
theorem appendBig_any (n k base : Nat) (v : Value) (l : List UInt8) (w : World) (hn : n < 18446744073709551616) (hk : k ≤ 8) (hO : Own8 w base v l) (hl : l.length ≤ 100000) (hb : base ≤ w.heap.size) :
    Calls Try.prog 20 #[v, .int .u64 n, .int .i64 k] w fun e w' => ∃ v', e = .returned v' ∧ Own8 w' base v' (l ++ (lo n k).reverse) ∧ Fr (fun j => base ≤ j) w w' := by
  have HO := Lib.hid hO
  have HL := Lib.hid (And.intro hl hb)
  clear hO hl hb
  go_enter Try.func20, Try.ntmps20
  go_wp2_with fail
  go_loopw [0, 9] (fun v0 v9 wr => ∃ i : Nat, v9 = .int .i64 i ∧ i ≤ k ∧ Own8 wr base v0 (l ++ bigs n k i) ∧ Fr (fun j => base ≤ j) w wr) (fun _ i _ => k - (intOf i).toNat)
  case atStart => exact ⟨0, rfl, Nat.zero_le _, by rw [bigs_zero, List.append_nil]; exact HO.out, Fr.refl _ _⟩
  case round =>
    obtain ⟨i, rfl, hi, hO, hF⟩ := hrel
    by_cases hlt : i < k
    · obtain ⟨j, hj⟩ : ∃ j, j = k - 1 - i := ⟨_, rfl⟩
      have hsucc := bigs_succ n k i hlt
      rw [← hj] at hsucc
      obtain ⟨d, hd⟩ : ∃ d, d = UInt8.ofNat (n / 256 ^ j) := ⟨_, rfl⟩
      rw [← hd] at hsucc
      have w1 : IntKind.i64.wrap ((k : Int) - 1) = (k : Int) - 1 := IntWalk.i64_in _ (by omega)
      have w2 : IntKind.i64.wrap ((k : Int) - 1 - (i : Int)) = (j : Int) := by rw [IntWalk.i64_in _ (by omega)]; omega
      have w3 : IntKind.i64.wrap (8 * (j : Int)) = ((8 * j : Nat) : Int) := by rw [IntWalk.i64_in _ (by omega)]; omega
      have hpos : (0 : Int) ≤ ((8 * j : Nat) : Int) := by omega
      have hbig := bigs_length n k i hi
      obtain ⟨m, hm⟩ : ∃ m, m = n / 2 ^ (8 * j) := ⟨_, rfl⟩
      have hj7 : j ≤ 7 := by omega
      have hsh : (n : Int) / 2 ^ (8 * j) = (m : Int) := by rw [hm]; simp
      have hdv : (m : Int) % 256 = (d.toNat : Int) := by
        rw [hd, u8_toNat_ofNat, show (256 : Nat) ^ j = 2 ^ (8 * j) by rw [Nat.pow_mul], hm]
        simp
      have bm : m < 18446744073709551616 := by rw [hm]; exact Nat.lt_of_le_of_lt (Nat.div_le_self _ _) hn
      have R := Lib.hid (And.intro hO (And.intro hF (And.intro hsucc hbig)))
      clear hO hF hsucc hbig hd hj hm
      go_wp2_with ((refine wpList_append8 (by with_reducible rfl) (.tmp 12) (.tmp 21) (by with_reducible rfl) base _ (l ++ bigs n k i) [d] (by rfl) (R.out.1.alloc _) _ 1 1 (by rfl) (by rfl) (row_one wr d) (by rw [List.length_append, R.out.2.2.2]; have := HL.out.1; omega) (by have := R.out.2.1.size; have := HL.out.2; simp; omega) ?_; intro v1 w2 h1 h2; have RO := Lib.hid (And.intro h1 h2); clear h1 h2))
      go_roundw
      case rel =>
        refine ⟨i + 1, by go_num, by omega, by rw [R.out.2.2.1, ← List.append_assoc]; exact RO.out.1, fr_grown (R.out.2.1.alloc _) RO.out.2 fun q hq => .inl ?_⟩
        have := (R.out.1.lt q hq).1
        exact this
      case measure => (simp [intOf]) <;> omega
    · obtain rfl : i = k := by omega
      rw [bigs_all] at hO
      have R := Lib.hid (And.intro hO hF)
      clear hO hF
      go_wp2
      go_ret
      exact ⟨_, rfl, R.out⟩
end Go.Proofs.Ytnjiflkbgpbchaa
