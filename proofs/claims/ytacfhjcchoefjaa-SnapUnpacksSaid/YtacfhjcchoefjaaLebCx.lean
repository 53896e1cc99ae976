/-
  The contract of package leb's Read over this seat's translation. Conditions: the reader's own block, a text of at most 2^47 bytes, a number below 2^64.
-/
import Derived.Test.YtacfhjcchoefjaaLebNx
import Derived.Test.YtacfhjcchoefjaaCurN
namespace Go.Proofs.Ytacfhjcchoefjaa
open Go.RowKit Go.Sort

/-- A reader of s at place k with fault e, asked for a number of at most m, answers v, and stands then at k' with fault e'. -/
def Reads (s : ByteArray) (k e m v k' e' : Nat) : Prop :=
  (e ≠ 0 ∧ v = 0 ∧ k' = k ∧ e' = e) ∨
  (e = 0 ∧ ∃ f, 0 < f ∧ nx (s.data.toList.drop k) 0 0 = (0, 0, f) ∧ v = 0 ∧ k' = k ∧ e' = f) ∨
  (e = 0 ∧ ∃ n c, nx (s.data.toList.drop k) 0 0 = (n, c, 0) ∧ m < n ∧ v = 0 ∧ k' = k ∧ e' = 5) ∨
  (e = 0 ∧ ∃ n c, nx (s.data.toList.drop k) 0 0 = (n, c, 0) ∧ n ≤ m ∧ v = n ∧ k' = k + c ∧ e' = 0)

theorem reads_total (s : ByteArray) (k e m : Nat) : ∃ v k' e', Reads s k e m v k' e' := by
  by_cases he : e = 0
  · obtain ⟨n, c, f, hr⟩ : ∃ n c f, nx (s.data.toList.drop k) 0 0 = (n, c, f) := ⟨_, _, _, rfl⟩
    rcases nx_err (s.data.toList.drop k) 0 0 with h | h | h
    · rw [hr] at h
      have h0 : f = 0 := h
      subst h0
      by_cases hm : m < n
      · exact ⟨0, k, 5, .inr (.inr (.inl ⟨he, n, c, hr, hm, rfl, rfl, rfl⟩))⟩
      · exact ⟨n, k + c, 0, .inr (.inr (.inr ⟨he, n, c, hr, by omega, rfl, rfl, rfl⟩))⟩
    · exact ⟨0, k, 2, .inr (.inl ⟨he, 2, by omega, h, rfl, rfl, rfl⟩)⟩
    · exact ⟨0, k, 3, .inr (.inl ⟨he, 3, by omega, h, rfl, rfl, rfl⟩)⟩
  · exact ⟨0, k, e, .inl ⟨he, rfl, rfl, rfl⟩⟩

theorem reads_place {s : ByteArray} {k e m v k' e' : Nat} (h : Reads s k e m v k' e') (hk : k ≤ s.size) : k' ≤ s.size := by
  rcases h with ⟨_, _, rfl, _⟩ | ⟨_, f, _, _, _, rfl, _⟩ | ⟨_, n, c, _, _, _, rfl, _⟩ | ⟨_, n, c, h, _, _, rfl, _⟩
  · exact hk
  · exact hk
  · exact hk
  · have := nx_size _ 0 0 n c h
    simp at this
    omega
theorem reads_value {s : ByteArray} {k e m v k' e' : Nat} (h : Reads s k e m v k' e') : v < 18446744073709551616 := by
  rcases h with ⟨_, rfl, _⟩ | ⟨_, f, _, _, rfl, _⟩ | ⟨_, n, c, _, _, rfl, _⟩ | ⟨_, n, c, h, _, rfl, _⟩
  · omega
  · omega
  · omega
  · exact nx_lt _ 0 0 _ c (by omega) (by simp) h

/-- What is told of the ten bytes ahead is told of all that are left. -/
theorem nx_ahead (s : ByteArray) (k : Nat) (hk : k ≤ s.size) : nx (s.extract k (k + min 10 (s.size - k))).data.toList 0 0 = nx (s.data.toList.drop k) 0 0 := by
  rw [← nx_ten (s.data.toList.drop k) 0 0 (by omega), Lib.extract_data]
  congr 1
  rw [show k + min 10 (s.size - k) - k = min 10 (s.size - k) by omega, Nat.sub_zero]
  by_cases h : 10 ≤ s.size - k
  · rw [Nat.min_eq_left h]
  · rw [Nat.min_eq_right (by omega), List.take_of_length_le (i := 10) (by simp; omega), List.take_of_length_le (by simp)]

theorem lebRead_nil (m : Nat) (w : World) :
    Calls Try.prog 16 #[.pointer none, .int .u64 m] w fun e w' => e = .returned (.int .u64 0) ∧ Below w.heap.size w w' := by
  go_enter Try.func16, Try.ntmps16
  go_wp2_with fail
  refine (ahead_nil 10 _).mono ?_
  rintro e w1 ⟨rfl, b1⟩
  have B1 := Lib.hid b1
  clear b1
  go_wp2_with fail
  refine (next_is _ 0 0 2 rfl _).mono ?_
  rintro e w2 ⟨rfl, rfl⟩
  go_wp2_with fail
  refine (fail_nil 2 _).mono ?_
  rintro e w2 ⟨rfl, b2⟩
  have B2 := Lib.hid (below_then B1.out b2)
  clear b2
  go_wp2
  go_ret
  exact ⟨rfl, B2.out⟩

theorem lebRead_any (b : Nat) (s : ByteArray) (k e m v k' e' : Nat) (hr : Reads s k e m v k' e') (w : World) (h : Rd w b s k e) (hk : k ≤ s.size) (hs : s.size ≤ 140737488355328) :
    Calls Try.prog 16 #[.pointer (some ⟨b, 0, none⟩), .int .u64 m] w fun x w' => x = .returned (.int .u64 v) ∧ Rd w' b s k' e' ∧ Fr (fun j => j = b) w w' := by
  have H := Lib.hid h
  clear h
  rcases hr with ⟨he, rfl, rfl, rfl⟩ | ⟨he, f, hf, hn, rfl, rfl, rfl⟩ | ⟨he, n, c, hn, hm, rfl, rfl, rfl⟩ | ⟨he, n, c, hn, hm, rfl, rfl, rfl⟩
  · have he2 : (e' : Int) ≠ 0 := by omega
    have HE := Lib.hid he2
    clear he2 he
    go_enter Try.func16, Try.ntmps16
    go_wp2_with fail
    refine (ahead_fault b s k' e' _ H.out HE.out 10).mono ?_
    rintro x w1 ⟨rfl, r1, f1⟩
    have R1 := Lib.hid r1
    have F1 := Lib.hid f1
    clear r1 f1
    go_wp2_with fail
    refine (next_is _ 0 0 2 rfl _).mono ?_
    rintro x w2 ⟨rfl, rfl⟩
    go_wp2_with fail
    refine (fail_skip b s k' e' _ R1.out HE.out 2).mono ?_
    rintro x w2 ⟨rfl, r1, f1⟩
    have R2 := Lib.hid r1
    have F2 := Lib.hid (F1.out.trans f1)
    clear r1 f1
    go_wp2
    go_ret
    exact ⟨rfl, R2.out, F2.out⟩
  · subst he
    rw [← nx_ahead s k' hk] at hn
    have HN := Lib.hid hn
    have t1 : ((e' : Int) == 0) = false := by simp; omega
    have t2 : ((e' : Int) != 0) = true := by simp; omega
    clear hn hf
    go_enter Try.func16, Try.ntmps16
    go_wp2_with fail
    refine (ahead_ok b s k' _ H.out hk hs 10 (by omega)).mono ?_
    rintro x w1 ⟨rfl, r1, f1⟩
    have R1 := Lib.hid r1
    have F1 := Lib.hid f1
    clear r1 f1
    go_wp2_with fail
    refine (next_is _ 0 0 e' HN.out _).mono ?_
    rintro x w2 ⟨rfl, rfl⟩
    go_wp2_with fail
    refine (fail_do b s k' _ R1.out e').mono ?_
    rintro x w2 ⟨rfl, r1, f1⟩
    have R2 := Lib.hid r1
    have F2 := Lib.hid (F1.out.trans f1)
    clear r1 f1
    go_wp2
    go_ret
    exact ⟨rfl, R2.out, F2.out⟩
  · subst he
    rw [← nx_ahead s k' hk] at hn
    have HN := Lib.hid hn
    have t1 : (m : Int) < (n : Int) := by omega
    clear hn
    go_enter Try.func16, Try.ntmps16
    go_wp2_with fail
    refine (ahead_ok b s k' _ H.out hk hs 10 (by omega)).mono ?_
    rintro x w1 ⟨rfl, r1, f1⟩
    have R1 := Lib.hid r1
    have F1 := Lib.hid f1
    clear r1 f1
    go_wp2_with fail
    refine (next_is _ n c 0 HN.out _).mono ?_
    rintro x w2 ⟨rfl, rfl⟩
    go_wp2_with fail
    refine (fail_do b s k' _ R1.out 5).mono ?_
    rintro x w2 ⟨rfl, r1, f1⟩
    have R2 := Lib.hid r1
    have F2 := Lib.hid (F1.out.trans f1)
    clear r1 f1
    go_wp2
    go_ret
    exact ⟨rfl, R2.out, F2.out⟩
  · subst he
    have hc : k + c ≤ s.size := reads_place (e := 0) (m := m) (v := v) (e' := 0) (.inr (.inr (.inr ⟨rfl, v, c, hn, hm, rfl, rfl, rfl⟩))) hk
    rw [← nx_ahead s k hk] at hn
    have HN := Lib.hid hn
    have t1 : ¬ (m : Int) < (v : Int) := by omega
    clear hn
    go_enter Try.func16, Try.ntmps16
    go_wp2_with fail
    refine (ahead_ok b s k _ H.out hk hs 10 (by omega)).mono ?_
    rintro x w1 ⟨rfl, r1, f1⟩
    have R1 := Lib.hid r1
    have F1 := Lib.hid f1
    clear r1 f1
    go_wp2_with fail
    refine (next_is _ v c 0 HN.out _).mono ?_
    rintro x w2 ⟨rfl, rfl⟩
    go_wp2_with fail
    refine (take_ok b s k _ R1.out hs c hc).mono ?_
    rintro x w2 ⟨rfl, r1, f1⟩
    have R2 := Lib.hid r1
    have F2 := Lib.hid (F1.out.trans f1)
    clear r1 f1
    go_wp2
    go_ret
    exact ⟨rfl, R2.out, F2.out⟩
end Go.Proofs.Ytacfhjcchoefjaa
