/-
  Layer 1's own example, alive, over this seat's translation: it answers true. No condition.
-/
import Derived.Test.YtpiepndbngechaaCurF
namespace Go.Proofs.Ytpiepndbngechaa
open Go.RowKit

theorem alive_any (w : World) : Calls Try.prog 5 #[] w fun e w' => e = .returned (.bool true) ∧ Below w.heap.size w w' := by
  go_enter Try.func5, Try.ntmps5
  go_wp2_with fail
  refine (read_any _ _).mono ?_
  rintro e w1 ⟨rfl, rfl⟩
  go_wp2_with fail
  have R0 := Rd.new w ⟨#[97, 98, 99]⟩
  have F0 : Fr (fun j => w.heap.size ≤ j) w (w.alloc (.cells #[.string ⟨#[97, 98, 99]⟩, .int .i64 0, .int .i64 0] 35)) := (Fr.refl _ w).alloc _
  generalize w.alloc (.cells #[.string ⟨#[97, 98, 99]⟩, .int .i64 0, .int .i64 0] 35) = W at *
  have F := Lib.hid F0
  have R := Lib.hid R0
  clear F0 R0
  refine ((byte_ok _ _ 0 W R.out (by decide) (by decide)).mono ?_)
  rintro e w1 ⟨rfl, r1, f1⟩
  have R1 := Lib.hid r1
  have F1 := Lib.hid (F.out.then_ f1 (fun j _ h => by rw [h]; exact Nat.le_refl _))
  clear r1 f1
  go_wp2_with fail
  refine ((take_ok _ _ 1 w1 R1.out (by decide) 2 (by decide)).mono ?_)
  rintro e w2 ⟨rfl, r1, f1⟩
  have R2 := Lib.hid r1
  have F2 := Lib.hid (F1.out.then_ f1 (fun j _ h => by rw [h]; exact Nat.le_refl _))
  clear r1 f1
  have e1 : (⟨#[97, 98, 99]⟩ : ByteArray).extract 1 (1 + 2) = ⟨#[98, 99]⟩ := by decide
  rw [e1]
  clear e1
  go_wp2_with fail
  refine ((byte_short _ _ w2 R2.out (by decide)).mono ?_)
  rintro e w3 ⟨rfl, r1, f1⟩
  have R3 := Lib.hid r1
  have F3 := Lib.hid (F2.out.then_ f1 (fun j _ h => by rw [h]; exact Nat.le_refl _))
  clear r1 f1
  go_wp2_with fail
  refine ((fault_any _ _ _ _ w3 R3.out).mono ?_)
  rintro e w4 ⟨rfl, rfl⟩
  go_wp2
  go_ret
  exact ⟨rfl, F3.out.below (Nat.le_refl _) fun _ h => h⟩
end Go.Proofs.Ytpiepndbngechaa
