/-
  Layer 7's own example, alive, over this seat's translation: it answers true. No condition.
-/
import Derived.Test.YtgkiippokkofnaaMetR
namespace Go.Proofs.Ytgkiippokkofnaa
open Go.RowKit

theorem fr_far {b : Nat} {w w1 w2 : World} (h : Below w.heap.size w w1) (hb : w.heap.size ≤ b) (f : Fr (fun j => j = b) w1 w2) : Below w.heap.size w w2 :=
  h.trans (f.below h.size (fun j e => by rw [e]; exact hb))

theorem alive_any (w : World) : Calls Try.prog 5 #[] w fun e w' => e = .returned (.bool true) ∧ Below w.heap.size w w' := by
  go_enter Try.func5, Try.ntmps5
  go_wp2_with fail
  refine (new_any _ _).mono ?_
  rintro e w1 ⟨rfl, rfl⟩
  rw [show max (10 : Int) 0 = 10 from rfl]
  have M0 := Mt.new w 10
  have B0 : Below w.heap.size w (w.alloc (.cells #[.int .i64 10, .int .i64 0, .int .i64 0, .int .i64 0] 42)) := (Below.refl _ _).alloc (Nat.le_refl _) _
  generalize w.alloc (.cells #[.int .i64 10, .int .i64 0, .int .i64 0, .int .i64 0] 42) = W at *
  have HM := Lib.hid (And.intro M0 B0)
  clear M0 B0
  go_wp2_with fail
  refine (take_any _ 10 0 0 0 7 W HM.out.1 (by decide) (by decide) (by decide) (by decide) (by decide)).mono ?_
  rw [show tk 10 0 0 0 7 = (0, 7, 7, 7) from by decide]
  rintro e w2 ⟨rfl, m2, f2⟩
  have H2 := Lib.hid (And.intro m2 (fr_far HM.out.2 (Nat.le_refl _) f2))
  clear m2 f2 HM
  go_wp2_with fail
  refine (take_any _ 10 7 7 7 4 w2 H2.out.1 (by decide) (by decide) (by decide) (by decide) (by decide)).mono ?_
  rw [show tk 10 7 7 7 4 = (5, 7, 7, 7) from by decide]
  rintro e w3 ⟨rfl, m2, f2⟩
  have H3 := Lib.hid (And.intro m2 (fr_far H2.out.2 (Nat.le_refl _) f2))
  clear m2 f2 H2
  go_wp2_with fail
  refine (give_any _ 10 7 7 7 2 w3 H3.out.1 (by decide) (by decide) (by decide) (by decide)).mono ?_
  rw [show gv 7 7 7 2 = (0, 5, 7, 7) from by decide]
  rintro e w4 ⟨rfl, m2, f2⟩
  have H4 := Lib.hid (And.intro m2 (fr_far H3.out.2 (Nat.le_refl _) f2))
  clear m2 f2 H3
  go_wp2_with fail
  refine (take_any _ 10 5 7 7 4 w4 H4.out.1 (by decide) (by decide) (by decide) (by decide) (by decide)).mono ?_
  rw [show tk 10 5 7 7 4 = (0, 9, 11, 9) from by decide]
  rintro e w5 ⟨rfl, m2, f2⟩
  have H5 := Lib.hid (And.intro m2 (fr_far H4.out.2 (Nat.le_refl _) f2))
  clear m2 f2 H4
  go_wp2_with fail
  refine (used_any _ 10 9 11 9 w5 H5.out.1).mono ?_
  rintro e w6 ⟨rfl, b6⟩
  have H6 := Lib.hid (And.intro (H5.out.1.keep (b6.block _ H5.out.1.lt)) (below_then H5.out.2 b6))
  clear b6 H5
  go_wp2_with fail
  refine (taken_any _ 10 9 11 9 w6 H6.out.1).mono ?_
  rintro e w7 ⟨rfl, b7⟩
  have H7 := Lib.hid (And.intro (H6.out.1.keep (b7.block _ H6.out.1.lt)) (below_then H6.out.2 b7))
  clear b7 H6
  go_wp2_with fail
  refine (top_any _ 10 9 11 9 w7 H7.out.1).mono ?_
  rintro e w8 ⟨rfl, b8⟩
  have H8 := Lib.hid (And.intro (H7.out.1.keep (b8.block _ H7.out.1.lt)) (below_then H7.out.2 b8))
  clear b8 H7
  go_wp2
  go_ret
  exact ⟨rfl, H8.out.2⟩
end Go.Proofs.Ytgkiippokkofnaa
