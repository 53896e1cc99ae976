/-
  For every number and text LebPuts answers true, for every text LebReads and LebShort do. Conditions: a number is a uint64; a text has at most maxLen bytes.
-/
import Derived.Test.YtpfjpekodpffkaaLebP
namespace Go.Proofs.Ytpfjpekodpffkaa
open Go.RowKit Go.Sort

theorem next_is (s : ByteArray) (a k f : Nat) (h : nx s.data.toList 0 0 = (a, k, f)) (w : World) :
    Calls Try.prog 9 #[.string s] w fun e w' => e = .returned (.tuple #[.int .u64 a, .int .i64 k, .int .i64 f]) ∧ w = w' := by
  have := next_told s w
  rw [h] at this
  exact this
theorem refNext_is (s : ByteArray) (a k f : Nat) (h : nx s.data.toList 0 0 = (a, k, f)) (w : World) :
    Calls Try.prog 12 #[.string s] w fun e w' => e = .returned (.tuple #[.int .u64 a, .int .i64 k, .int .i64 f]) ∧ w = w' := by
  have := refNext_told s w
  rw [h] at this
  exact this

theorem puts_300 : bs (puts 300) = ⟨#[172, 2]⟩ := by
  have : puts 300 = [172, 2] := by rw [puts_more (by omega), show 300 / 128 = 2 from rfl, puts_small (by omega)]; rfl
  rw [this]; rfl

theorem alive_any (w : World) : Calls Try.prog 7 #[] w fun e w' => e = .returned (.bool true) ∧ Below w.heap.size w w' := by
  go_enter Try.func7, Try.ntmps7
  go_wp2_with fail
  refine (next_is _ 0 0 3 rfl _).mono ?_
  rintro e w1 ⟨rfl, rfl⟩
  go_wp2_with fail
  refine (next_is _ 0 0 2 rfl _).mono ?_
  rintro e w1 ⟨rfl, rfl⟩
  go_wp2_with fail
  refine (put_any 300 _ (by omega)).mono ?_
  rw [puts_300]
  rintro e w1 ⟨rfl, b1⟩
  have B1 := Lib.hid b1
  clear b1
  go_wp2
  go_ret
  exact ⟨rfl, B1.out⟩

theorem lebPuts_big (n : Nat) (s : ByteArray) (w : World) (hs : 100 < s.size) (hm : s.size ≤ maxLen) :
    Calls Try.prog 3 #[.int .u64 n, .string s] w fun e w' => e = .returned (.bool true) ∧ Below w.heap.size w w' := by
  unfold maxLen at hm
  go_enter Try.func3, Try.ntmps3
  go_wp2_with fail
  refine (alive_any _).mono ?_
  rintro e w1 ⟨rfl, b1⟩
  have B1 := Lib.hid b1
  clear b1
  go_wp2
  go_ret
  exact ⟨rfl, B1.out⟩

theorem lebPuts_small (n : Nat) (s : ByteArray) (w : World) (hn : n < 18446744073709551616) (hs : s.size ≤ 100) :
    Calls Try.prog 3 #[.int .u64 n, .string s] w fun e w' => e = .returned (.bool true) ∧ Below w.heap.size w w' := by
  have hz : (bs (puts n)).size = (puts n).length := bs_size _
  have h10 := puts_le10 hn
  have hle : (bs (puts n)).size ≤ 10 := by omega
  obtain ⟨k, hk⟩ : ∃ k, (puts n).length = k := ⟨_, rfl⟩
  have hnx : nx (bs (puts n) ++ s).data.toList 0 0 = (n, k, 0) := by
    have := nx_puts n 0 0 s.data.toList (by simpa using hn) (by omega) (by omega)
    simp only [Nat.pow_zero, Nat.mul_one, Nat.zero_add, hk] at this
    rw [← this]
    simp [bs]
  rw [hk] at hz h10
  have HN := Lib.hid hnx
  have HK := Lib.hid hk
  have HZ := Lib.hid hz
  clear hnx hk hz
  go_enter Try.func3, Try.ntmps3
  go_wp2_with fail
  refine (alive_any _).mono ?_
  rintro e w1 ⟨rfl, b1⟩
  have B1 := Lib.hid b1
  clear b1
  go_wp2_with fail
  refine (put_any n _ hn).mono ?_
  rintro e w2 ⟨rfl, b2⟩
  have B2 := Lib.hid (below_then B1.out b2)
  clear b2
  go_wp2_with fail
  refine (next_is _ n k 0 HN.out _).mono ?_
  rintro e w3 ⟨rfl, rfl⟩
  go_wp2_with fail
  refine (refPut_any n _ hn).mono ?_
  rintro e w3 ⟨rfl, b3⟩
  have B3 := Lib.hid (below_then B2.out b3)
  clear b3
  go_wp2_with fail
  refine (size_any n _ hn).mono ?_
  rw [HK.out]
  rintro e w4 ⟨rfl, rfl⟩
  have hz2 := HZ.out
  go_wp2
  go_ret
  exact ⟨rfl, B3.out⟩

theorem lebPuts_any (n : Nat) (s : ByteArray) (w : World) (hn : n < 18446744073709551616) (hm : s.size ≤ maxLen) :
    Calls Try.prog 3 #[.int .u64 n, .string s] w fun e w' => e = .returned (.bool true) ∧ Below w.heap.size w w' := by
  by_cases hs : 100 < s.size
  · exact lebPuts_big n s w hs hm
  · exact lebPuts_small n s w hn (by omega)

theorem lebReads_big (s : ByteArray) (w : World) (hs : 200 < s.size) (hm : s.size ≤ maxLen) :
    Calls Try.prog 4 #[.string s] w fun e w' => e = .returned (.bool true) ∧ Below w.heap.size w w' := by
  unfold maxLen at hm
  go_enter Try.func4, Try.ntmps4
  go_wp2_with fail
  refine (alive_any _).mono ?_
  rintro e w1 ⟨rfl, b1⟩
  have B1 := Lib.hid b1
  clear b1
  go_wp2
  go_ret
  exact ⟨rfl, B1.out⟩

theorem lebReads_err (s : ByteArray) (f : Nat) (hf : 0 < f) (h : nx s.data.toList 0 0 = (0, 0, f)) (w : World) (hs : s.size ≤ 200) :
    Calls Try.prog 4 #[.string s] w fun e w' => e = .returned (.bool true) ∧ Below w.heap.size w w' := by
  have H := Lib.hid h
  clear h
  have hf2 : ((f : Int) != 0) = true := by simp; omega
  go_enter Try.func4, Try.ntmps4
  go_wp2_with fail
  refine (alive_any _).mono ?_
  rintro e w1 ⟨rfl, b1⟩
  have B1 := Lib.hid b1
  clear b1
  go_wp2_with fail
  refine (next_is _ 0 0 f H.out _).mono ?_
  rintro e w3 ⟨rfl, rfl⟩
  go_wp2_with fail
  refine (refNext_is _ 0 0 f H.out _).mono ?_
  rintro e w3 ⟨rfl, rfl⟩
  go_wp2_with fail
  go_region
  go_wp2
  go_ret
  exact ⟨rfl, B1.out.drew⟩

theorem lebReads_ok (s : ByteArray) (n k : Nat) (h : nx s.data.toList 0 0 = (n, k, 0)) (w : World) (hs : s.size ≤ 200) :
    Calls Try.prog 4 #[.string s] w fun e w' => e = .returned (.bool true) ∧ Below w.heap.size w w' := by
  have hn : n < 18446744073709551616 := nx_lt _ 0 0 n k (by omega) (by simp) h
  have hk : k ≤ s.size := by have := nx_size _ 0 0 n k h; simpa using this
  have hx : s.extract 0 k = bs (puts n) := by
    obtain ⟨m, hm, hl, _, ht⟩ := nx_told _ 0 0 n k h
    simp only [Nat.pow_zero, Nat.mul_one, Nat.zero_add, Nat.sub_zero] at hm ht
    subst hm
    rw [← ht]
    apply ByteArray.ext
    apply Array.toList_inj.1
    rw [Lib.extract_data]
    simp [bs]
  have hle : (bs (puts n)).size ≤ 10 := by rw [bs_size]; exact puts_le10 hn
  have H := Lib.hid h
  clear h
  have i0 : (0 : Int) ≤ (k : Int) := by omega
  have i1 : (k : Int) ≤ (s.size : Int) := by omega
  go_enter Try.func4, Try.ntmps4
  go_wp2_with fail
  refine (alive_any _).mono ?_
  rintro e w1 ⟨rfl, b1⟩
  have B1 := Lib.hid b1
  clear b1
  go_wp2_with fail
  refine (next_is _ n k 0 H.out _).mono ?_
  rintro e w3 ⟨rfl, rfl⟩
  go_wp2_with fail
  refine (refNext_is _ n k 0 H.out _).mono ?_
  rintro e w3 ⟨rfl, rfl⟩
  go_wp2_with fail
  go_region_held_law (fun _ => True) (first | exact trivial) (first | (go_at_call 8; refine (put_any n _ hn).mono ?_; rintro e w2 ⟨rfl, b2⟩))
  all_goals
    have B2 := Lib.hid b2
    clear b2
    go_wp2
    go_ret
    refine ⟨rfl, ?_⟩
    first
      | exact below_then (B1.out.drew) B2.out
      | exact (below_then (B1.out.drew) B2.out).drew

theorem lebReads_any (s : ByteArray) (w : World) (hm : s.size ≤ maxLen) :
    Calls Try.prog 4 #[.string s] w fun e w' => e = .returned (.bool true) ∧ Below w.heap.size w w' := by
  by_cases hs : 200 < s.size
  · exact lebReads_big s w hs hm
  · rcases nx_err s.data.toList 0 0 with h | h | h
    · obtain ⟨a, k, f, hr⟩ : ∃ a k f, nx s.data.toList 0 0 = (a, k, f) := ⟨_, _, _, rfl⟩
      rw [hr] at h
      have h0 : f = 0 := h
      subst h0
      exact lebReads_ok s a k hr w (by omega)
    · exact lebReads_err s 2 (by omega) h w (by omega)
    · exact lebReads_err s 3 (by omega) h w (by omega)

theorem lebShort_big (s : ByteArray) (c : Nat) (w : World) (hs : 200 < s.size) (hm : s.size ≤ maxLen) :
    Calls Try.prog 5 #[.string s, .int .u8 c] w fun e w' => e = .returned (.bool true) ∧ Below w.heap.size w w' := by
  unfold maxLen at hm
  go_enter Try.func5, Try.ntmps5
  go_wp2_with fail
  refine (alive_any _).mono ?_
  rintro e w1 ⟨rfl, b1⟩
  have B1 := Lib.hid b1
  clear b1
  go_wp2
  go_ret
  exact ⟨rfl, B1.out⟩

theorem lebShort_small (s : ByteArray) (c : Nat) (w : World) (hc : c < 256) (hs : s.size ≤ 200) :
    Calls Try.prog 5 #[.string s, .int .u8 c] w fun e w' => e = .returned (.bool true) ∧ Below w.heap.size w w' := by
  obtain ⟨k, hk⟩ : ∃ k : Nat, k = min c s.size := ⟨_, rfl⟩
  have h1 : min (c : Int) (s.size : Int) = (k : Int) := by omega
  have i0 : (0 : Int) ≤ (k : Int) := by omega
  have i1 : (k : Int) ≤ (s.size : Int) := by omega
  have hx : (s.extract 0 k).data.toList = s.data.toList.take k := by rw [Lib.extract_data]; simp
  have ht := nx_take s.data.toList 0 0 k
  rw [← hx] at ht
  obtain ⟨a, n, f, hr⟩ : ∃ a n f, nx s.data.toList 0 0 = (a, n, f) := ⟨_, _, _, rfl⟩
  obtain ⟨a', n', f', hr'⟩ : ∃ a n f, nx (s.extract 0 k).data.toList 0 0 = (a, n, f) := ⟨_, _, _, rfl⟩
  rw [hr, hr'] at ht
  have HR := Lib.hid hr
  have HR' := Lib.hid hr'
  clear hr hr' hx hk
  go_enter Try.func5, Try.ntmps5
  go_wp2_with fail
  refine (alive_any _).mono ?_
  rintro e w1 ⟨rfl, b1⟩
  have B1 := Lib.hid b1
  clear b1
  go_wp2_with fail
  refine (next_is _ a' n' f' HR'.out _).mono ?_
  rintro e w3 ⟨rfl, rfl⟩
  go_wp2_with fail
  refine (next_is _ a n f HR.out _).mono ?_
  rintro e w3 ⟨rfl, rfl⟩
  rcases ht with h | h
  · simp only [Prod.mk.injEq] at h
    obtain ⟨rfl, rfl, rfl⟩ := h
    go_wp2
    go_ret
    exact ⟨rfl, B1.out⟩
  · simp only [Prod.mk.injEq] at h
    obtain ⟨rfl, rfl, rfl⟩ := h
    go_wp2
    all_goals
      go_ret
      exact ⟨rfl, B1.out⟩

theorem lebShort_any (s : ByteArray) (c : Nat) (w : World) (hc : c < 256) (hm : s.size ≤ maxLen) :
    Calls Try.prog 5 #[.string s, .int .u8 c] w fun e w' => e = .returned (.bool true) ∧ Below w.heap.size w w' := by
  by_cases hs : 200 < s.size
  · exact lebShort_big s c w hs hm
  · exact lebShort_small s c w hc (by omega)
end Go.Proofs.Ytpfjpekodpffkaa
