/-
  The contracts of package fixed's Least, GetBig and GetLeast over this seat's translation. Conditions: a number below 2^64; what each theorem says of the text.
-/
import Derived.Test.YtaddlobmmmafaaaFixT
namespace Go.Proofs.Ytaddlobmmmafaaa
open Go.RowKit Go.Sort

section
variable (n : Nat) (w : World)
theorem least_any (hn : n < 18446744073709551616) :
    Calls Try.prog 29 #[.int .u64 n] w fun e w' => e = .returned (.string (bs (least n))) ∧ Below w.heap.size w w' := by
  have h8 := digs_le8 hn
  go_enter Try.func29, Try.ntmps29
  go_wp2_with fail
  refine (digits_any n _ hn).mono ?_
  rintro e w' ⟨rfl, rfl⟩
  go_wp2_with fail
  refine (lay_any n (digs n) _ h8).mono ?_
  rintro e w1 ⟨rfl, R, hb, hz⟩
  have HB := Lib.hid hb
  have HR := Lib.hid R
  clear R hb
  go_wp2_with fail
  refine (turned_any w.heap.size (lo n (digs n)) (digs n) (digs n) (lo_length _ n) (by omega) _ HR.out).mono ?_
  rintro e w2 ⟨rfl, R2, F2⟩
  rw [← least_lo] at R2
  have hcv := conv8 (n := digs n) R2 rfl (digs n)
  have HF := Lib.hid F2
  clear R2 F2
  go_wp2
  go_ret
  exact ⟨rfl, HB.out.trans (fr_own HF.out (Nat.le_refl _) HB.out.size)⟩
end

section
variable (w : World)
theorem getBig_none : Calls Try.prog 49 #[.string ByteArray.empty] w fun e w' => e = .returned (.tuple #[.int .u64 0, .int .i64 1]) ∧ w = w' := by
  go_enter Try.func49, Try.ntmps49
  go_wp2_with (go_at_call 50; refine (sized_none _).mono ?_; rintro e w' ⟨rfl, rfl⟩)
  go_ret2
  exact ⟨rfl, rfl⟩
theorem getBig_over (s : ByteArray) (hs : 8 < s.size) : Calls Try.prog 49 #[.string s] w fun e w' => e = .returned (.tuple #[.int .u64 0, .int .i64 5]) ∧ w = w' := by
  go_enter Try.func49, Try.ntmps49
  go_wp2_with (go_at_call 50; refine (sized_over s hs _).mono ?_; rintro e w' ⟨rfl, rfl⟩)
  go_ret2
  exact ⟨rfl, rfl⟩
theorem getBig_ok (s : ByteArray) (h0 : s.size ≠ 0) (h8 : s.size ≤ 8) :
    Calls Try.prog 49 #[.string s] w fun e w' => e = .returned (.tuple #[.int .u64 (be s.data.toList), .int .i64 0]) ∧ Below w.heap.size w w' := by
  obtain ⟨c, W, hcv, R, hb, hz⟩ := bytes8 s w
  have HB := Lib.hid hb
  have HR := Lib.hid R
  have H0 := Lib.hid h0
  clear R hb h0
  go_enter Try.func49, Try.ntmps49
  go_wp2_with fail
  refine (sized_ok s H0.out h8 _).mono ?_
  rintro e w' ⟨rfl, rfl⟩
  go_wp2_with fail
  refine (turned_any w.heap.size s.data.toList s.size c (by simp) (by omega) _ HR.out).mono ?_
  rintro e w2 ⟨rfl, R2, F2⟩
  have HF := Lib.hid F2
  have HR2 := Lib.hid R2
  clear R2 F2
  go_wp2_with fail
  refine (read8_any w.heap.size s.data.toList.reverse s.size c (by simp) h8 _ HR2.out).mono ?_
  rintro e w' ⟨rfl, rfl⟩
  go_wp2
  go_ret2
  exact ⟨rfl, HB.out.trans (fr_own HF.out (Nat.le_refl _) HB.out.size)⟩

theorem getLeast_none : Calls Try.prog 44 #[.string ByteArray.empty] w fun e w' => e = .returned (.tuple #[.int .u64 0, .int .i64 0]) ∧ w = w' := by
  go_enter Try.func44, Try.ntmps44
  go_wp2
  go_ret2
  exact ⟨rfl, rfl⟩
theorem getLeast_over (s : ByteArray) (hs : 8 < s.size) : Calls Try.prog 44 #[.string s] w fun e w' => e = .returned (.tuple #[.int .u64 0, .int .i64 5]) ∧ w = w' := by
  have hne := str_ne_of (s := s) (by omega)
  go_enter Try.func44, Try.ntmps44
  go_wp2_with (go_at_call 49; refine (getBig_over _ s hs).mono ?_; rintro e w' ⟨rfl, rfl⟩)
  go_ret2
  exact ⟨rfl, rfl⟩
theorem getLeast_form (s : ByteArray) (h0 : 0 < s.size) (h8 : s.size ≤ 8) (hb : s[0] = 0) :
    Calls Try.prog 44 #[.string s] w fun e w' => e = .returned (.tuple #[.int .u64 0, .int .i64 3]) ∧ Below w.heap.size w w' := by
  have hne := str_ne_of (s := s) (by omega)
  have hz : (s[0].toNat : Int) = 0 := by rw [hb]; rfl
  clear hb
  go_enter Try.func44, Try.ntmps44
  go_wp2_with fail
  refine (getBig_ok _ s (by omega) h8).mono ?_
  rintro e w1 ⟨rfl, hb⟩
  have HB := Lib.hid hb
  clear hb
  go_wp2
  go_ret2
  exact ⟨rfl, HB.out⟩
theorem getLeast_ok (s : ByteArray) (h0 : 0 < s.size) (h8 : s.size ≤ 8) (hb : s[0] ≠ 0) :
    Calls Try.prog 44 #[.string s] w fun e w' => e = .returned (.tuple #[.int .u64 (be s.data.toList), .int .i64 0]) ∧ Below w.heap.size w w' := by
  have hne := str_ne_of (s := s) (by omega)
  have hz : ((s[0].toNat : Int) == 0) = false := by
    have : s[0].toNat ≠ 0 := fun e => hb (UInt8.toNat_inj.1 e)
    have h2 : (s[0].toNat : Int) ≠ 0 := by omega
    simpa using h2
  clear hb
  go_enter Try.func44, Try.ntmps44
  go_wp2_with fail
  refine (getBig_ok _ s (by omega) h8).mono ?_
  rintro e w1 ⟨rfl, hb⟩
  have HB := Lib.hid hb
  clear hb
  go_wp2
  go_ret2
  exact ⟨rfl, HB.out⟩
end
end Go.Proofs.Ytaddlobmmmafaaa
