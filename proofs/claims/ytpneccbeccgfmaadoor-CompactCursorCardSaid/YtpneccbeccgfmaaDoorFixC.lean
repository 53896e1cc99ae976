/-
  The contracts of package fixed's Little and GetLittle over this seat's translation. Conditions: a number below 2^64; what each theorem says of size and text.
-/
import Derived.Test.YtpneccbeccgfmaaDoorFixA
namespace Go.Proofs.YtpneccbeccgfmaaDoor
open Go.RowKit Go.Sort

theorem fr_own {g : Nat} {w w' : World} (h : Fr (fun j => j = g) w w') {B : Nat} (hB : B ≤ g) (hz : B ≤ w.heap.size) : Below B w w' := h.below hz fun j hj => by omega

section
variable (n k : Nat) (w : World)
theorem little_arg (s : Int) (hk : s < 1 ∨ 8 < s) :
    Calls Tryd.prog 18 #[.int .u64 n, .int .i64 s] w fun e w' => e = .returned (.tuple #[.string ByteArray.empty, .int .i64 1]) ∧ w = w' := by
  go_enter Tryd.func18, Tryd.ntmps18
  go_wp2_with (go_at_call 27; refine (fits_arg n s _ hk).mono ?_; rintro e w' ⟨rfl, rfl⟩)
  go_ret2
  exact ⟨rfl, rfl⟩
theorem little_over (hn : n < 18446744073709551616) (h1 : 1 ≤ k) (h8 : k ≤ 8) (hk : k < digs n) :
    Calls Tryd.prog 18 #[.int .u64 n, .int .i64 k] w fun e w' => e = .returned (.tuple #[.string ByteArray.empty, .int .i64 5]) ∧ w = w' := by
  go_enter Tryd.func18, Tryd.ntmps18
  go_wp2_with (go_at_call 27; refine (fits_over n k _ hn h1 h8 hk).mono ?_; rintro e w' ⟨rfl, rfl⟩)
  go_ret2
  exact ⟨rfl, rfl⟩
theorem little_ok (hn : n < 18446744073709551616) (h1 : 1 ≤ k) (h8 : k ≤ 8) (hk : digs n ≤ k) :
    Calls Tryd.prog 18 #[.int .u64 n, .int .i64 k] w fun e w' => e = .returned (.tuple #[.string (bs (lo n k)), .int .i64 0]) ∧ Below w.heap.size w w' := by
  go_enter Tryd.func18, Tryd.ntmps18
  go_wp2_with fail
  refine (fits_ok n k _ hn h1 h8 hk).mono ?_
  rintro e w' ⟨rfl, rfl⟩
  go_wp2_with fail
  refine (lay_any n k _ h8).mono ?_
  rintro e w1 ⟨rfl, R, hb, hz⟩
  have hcv := conv8 R (lo_length k n) k
  have HB := Lib.hid hb
  clear R hb
  go_wp2
  go_ret2
  exact ⟨rfl, HB.out⟩
end

section
variable (w : World)
theorem getLittle_none : Calls Tryd.prog 29 #[.string ByteArray.empty] w fun e w' => e = .returned (.tuple #[.int .u64 0, .int .i64 1]) ∧ w = w' := by
  go_enter Tryd.func29, Tryd.ntmps29
  go_wp2_with (go_at_call 38; refine (sized_none _).mono ?_; rintro e w' ⟨rfl, rfl⟩)
  go_ret2
  exact ⟨rfl, rfl⟩
theorem getLittle_over (s : ByteArray) (hs : 8 < s.size) : Calls Tryd.prog 29 #[.string s] w fun e w' => e = .returned (.tuple #[.int .u64 0, .int .i64 5]) ∧ w = w' := by
  go_enter Tryd.func29, Tryd.ntmps29
  go_wp2_with (go_at_call 38; refine (sized_over s hs _).mono ?_; rintro e w' ⟨rfl, rfl⟩)
  go_ret2
  exact ⟨rfl, rfl⟩
theorem getLittle_ok (s : ByteArray) (h0 : s.size ≠ 0) (h8 : s.size ≤ 8) :
    Calls Tryd.prog 29 #[.string s] w fun e w' => e = .returned (.tuple #[.int .u64 (num s.data.toList), .int .i64 0]) ∧ Below w.heap.size w w' := by
  obtain ⟨c, W, hcv, R, hb, hz⟩ := bytes8 s w
  have HB := Lib.hid hb
  have HR := Lib.hid R
  have H0 := Lib.hid h0
  clear R hb h0
  go_enter Tryd.func29, Tryd.ntmps29
  go_wp2_with fail
  refine (sized_ok s H0.out h8 _).mono ?_
  rintro e w' ⟨rfl, rfl⟩
  go_wp2_with fail
  refine (read8_any w.heap.size s.data.toList s.size c (by simp) h8 _ HR.out).mono ?_
  rintro e w' ⟨rfl, rfl⟩
  go_wp2
  go_ret2
  exact ⟨rfl, HB.out⟩
end
end Go.Proofs.YtpneccbeccgfmaaDoor
