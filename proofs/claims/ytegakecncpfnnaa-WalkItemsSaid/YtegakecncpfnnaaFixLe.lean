/-
  The contract of package fixed's Least over this seat's translation. Conditions: a number below 2^64.
-/
import Derived.Test.YtegakecncpfnnaaFixT
namespace Go.Proofs.Ytegakecncpfnnaa
open Go.RowKit Go.Sort

section
variable (n : Nat) (w : World)
set_option maxRecDepth 100000 in
theorem least_any (hn : n < 18446744073709551616) :
    Calls Try.prog 48 #[.int .u64 n] w fun e w' => e = .returned (.string (bs (least n))) ∧ Below w.heap.size w w' := by
  have h8 := digs_le8 hn
  go_enter Try.func48, Try.ntmps48
  go_wp2_with fail
  refine (digits_any n _ hn).mono ?_
  rintro e w' ⟨rfl, rfl⟩
  go_wp2_with fail
  refine (lay_any n (digs n) _ h8).mono ?_
  rintro e w1 ⟨rfl, R, hb, hz⟩
  have HB := Lib.hid hb
  have HR := Lib.hid R
  clear R hb
  go_wp2_with fail
  refine (turned_any w.heap.size (lo n (digs n)) (digs n) (digs n) (lo_length _ n) (by omega) _ HR.out).mono ?_
  rintro e w2 ⟨rfl, R2, F2⟩
  rw [← least_lo] at R2
  have hcv := conv8 (n := digs n) R2 rfl (digs n)
  have HF := Lib.hid F2
  clear R2 F2
  go_wp2
  go_ret
  exact ⟨rfl, HB.out.trans (fr_own HF.out (Nat.le_refl _) HB.out.size)⟩
end
end Go.Proofs.Ytegakecncpfnnaa
