/-
  The contracts of package fixed's GetLittle over this seat's translation. Conditions: what each theorem says of the text.
-/
import Derived.Test.YtacfhjcchoefjaaFixA
namespace Go.Proofs.Ytacfhjcchoefjaa
open Go.RowKit Go.Sort

theorem getLittle_none (w : World) : Calls Try.prog 43 #[.string ByteArray.empty] w fun e w' => e = .returned (.tuple #[.int .u64 0, .int .i64 1]) ∧ w = w' := by
  go_enter Try.func43, Try.ntmps43
  go_wp2_with (go_at_call 48; refine (sized_none _).mono ?_; rintro e w' ⟨rfl, rfl⟩)
  go_ret2
  exact ⟨rfl, rfl⟩
theorem getLittle_over (w : World) (s : ByteArray) (hs : 8 < s.size) : Calls Try.prog 43 #[.string s] w fun e w' => e = .returned (.tuple #[.int .u64 0, .int .i64 5]) ∧ w = w' := by
  go_enter Try.func43, Try.ntmps43
  go_wp2_with (go_at_call 48; refine (sized_over s hs _).mono ?_; rintro e w' ⟨rfl, rfl⟩)
  go_ret2
  exact ⟨rfl, rfl⟩
theorem getLittle_ok (w : World) (s : ByteArray) (h0 : s.size ≠ 0) (h8 : s.size ≤ 8) :
    Calls Try.prog 43 #[.string s] w fun e w' => e = .returned (.tuple #[.int .u64 (num s.data.toList), .int .i64 0]) ∧ Below w.heap.size w w' := by
  obtain ⟨c, W, hcv, R, hb, hz⟩ := bytes8 s w
  have HB := Lib.hid hb
  have HR := Lib.hid R
  have H0 := Lib.hid h0
  clear R hb h0
  go_enter Try.func43, Try.ntmps43
  go_wp2_with fail
  refine (sized_ok s H0.out h8 _).mono ?_
  rintro e w' ⟨rfl, rfl⟩
  go_wp2_with fail
  refine (read8_any w.heap.size s.data.toList s.size c (by simp) h8 _ HR.out).mono ?_
  rintro e w' ⟨rfl, rfl⟩
  go_wp2
  go_ret2
  exact ⟨rfl, HB.out⟩
end Go.Proofs.Ytacfhjcchoefjaa
