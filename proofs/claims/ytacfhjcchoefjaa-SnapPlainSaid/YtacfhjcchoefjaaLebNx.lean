/-
  The contracts of package leb's Next and of the document's, in terms of the plain nx, over this seat's translation. No condition.
-/
import Derived.Test.YtacfhjcchoefjaaLebR
namespace Go.Proofs.Ytacfhjcchoefjaa
open Go.RowKit Go.Sort

theorem next_is (s : ByteArray) (a k f : Nat) (h : nx s.data.toList 0 0 = (a, k, f)) (w : World) :
    Calls Try.prog 24 #[.string s] w fun e w' => e = .returned (.tuple #[.int .u64 a, .int .i64 k, .int .i64 f]) ∧ w = w' := by
  have := next_told s w
  rw [h] at this
  exact this
theorem refNext_is (s : ByteArray) (a k f : Nat) (h : nx s.data.toList 0 0 = (a, k, f)) (w : World) :
    Calls Try.prog 19 #[.string s] w fun e w' => e = .returned (.tuple #[.int .u64 a, .int .i64 k, .int .i64 f]) ∧ w = w' := by
  have := refNext_told s w
  rw [h] at this
  exact this
end Go.Proofs.Ytacfhjcchoefjaa
