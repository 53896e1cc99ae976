/-
  The walks of CursorShort over this seat's translation, case by case: it answers true. No condition beyond its arguments' kinds.
-/
import Derived.Test.YtpiepndbngechaaCurG
import Derived.OpenShut
namespace Go.Proofs.Ytpiepndbngechaa
open Go.RowKit

theorem short_big (s : ByteArray) (p n t : Int) (w : World) (hs : 1000 < s.size) (hm : s.size ≤ maxLen) :
    Calls Try.prog 4 #[.string s, .int .u8 p, .int .i64 n, .int .i64 t] w fun e w' => e = .returned (.bool true) ∧ Below w.heap.size w w' := by
  unfold maxLen at hm
  have t0 : (1000 : Int) < (s.size : Int) := by omega
  go_enter Try.func4, Try.ntmps4
  go_wp2_with fail
  refine (alive_any _).mono ?_
  rintro e w1 ⟨rfl, hb⟩
  have H := Lib.hid hb
  clear hb
  go_wp2
  go_ret
  exact ⟨rfl, H.out⟩

theorem short_neg (s : ByteArray) (p : Nat) (n t : Int) (w : World) (hs : s.size ≤ 1000) (hp : p < 256) (hn : n < 0) :
    Calls Try.prog 4 #[.string s, .int .u8 p, .int .i64 n, .int .i64 t] w fun e w' => e = .returned (.bool true) ∧ Below w.heap.size w w' := by
  have t0 : ¬ (1000 : Int) < (s.size : Int) := by omega
  obtain ⟨k, hk, hks⟩ : ∃ k : Nat, min (p : Int) (s.size : Int) = (k : Int) ∧ k ≤ s.size := ⟨min p s.size, by omega, by omega⟩
  have HK := Lib.hid hk
  clear hk
  go_enter Try.func4, Try.ntmps4
  go_wp2_with fail
  refine (alive_any _).mono ?_
  rintro e w1 ⟨rfl, hb⟩
  have HB := Lib.hid hb
  clear hb
  go_wp2_with fail
  refine (read_any _ _).mono ?_
  rintro e w2 ⟨rfl, rfl⟩
  have R0 := Rd.new w1 s
  have F0 : Fr (fun j => w1.heap.size ≤ j) w1 (w1.alloc (.cells #[.string s, .int .i64 0, .int .i64 0] 35)) := (Fr.refl _ w1).alloc _
  generalize w1.alloc (.cells #[.string s, .int .i64 0, .int .i64 0] 35) = W at *
  have F := Lib.hid F0
  have R := Lib.hid R0
  clear F0 R0
  go_wp2_with fail
  rw [HK.out]
  refine ((take_ok _ s 0 W R.out (by omega) k (by omega)).mono ?_)
  rintro e w2 ⟨rfl, r1, f1⟩
  rw [Nat.zero_add] at r1
  have R2 := Lib.hid r1
  have F2 := Lib.hid (F.out.then_ f1 (fun j _ h => by rw [h]; exact Nat.le_refl _))
  clear r1 f1
  go_wp2_with fail
  refine ((take_neg _ s k w2 R2.out n hn).mono ?_)
  rintro e w3 ⟨rfl, r1, f1⟩
  have R3 := Lib.hid r1
  have F3 := Lib.hid (F2.out.then_ f1 (fun j _ h => by rw [h]; exact Nat.le_refl _))
  clear r1 f1
  go_wp2_with fail
  refine ((fault_any _ s k 1 w3 R3.out).mono ?_)
  rintro e w4 ⟨rfl, rfl⟩
  go_wp2_with fail
  refine ((take_fault _ s k 1 w3 R3.out (by decide) t).mono ?_)
  rintro e w4 ⟨rfl, r1, f1⟩
  have R4 := Lib.hid r1
  have F4 := Lib.hid (F3.out.then_ f1 (fun j _ h => by rw [h]; exact Nat.le_refl _))
  clear r1 f1
  go_wp2_with fail
  refine ((all_fault _ s k 1 w4 R4.out (by decide) hks (by omega)).mono ?_)
  rintro e w5 ⟨rfl, r1, f1⟩
  have R5 := Lib.hid r1
  have F5 := Lib.hid (F4.out.then_ f1 (fun j _ h => by rw [h]; exact Nat.le_refl _))
  clear r1 f1
  go_wp2_with fail
  refine ((byte_fault _ s k 1 w5 R5.out (by decide)).mono ?_)
  rintro e w6 ⟨rfl, r1, f1⟩
  have R6 := Lib.hid r1
  have F6 := Lib.hid (F5.out.then_ f1 (fun j _ h => by rw [h]; exact Nat.le_refl _))
  clear r1 f1
  go_wp2_with fail
  refine ((fault_any _ s k 1 w6 R6.out).mono ?_)
  rintro e w7 ⟨rfl, rfl⟩
  go_wp2_with fail
  refine ((at_any _ s k 1 w6 R6.out).mono ?_)
  rintro e w7 ⟨rfl, rfl⟩
  go_wp2
  go_ret
  exact ⟨rfl, (HB.out.trans ((Fr.below F6.out (Nat.le_refl _) fun _ h => h).mono HB.out.size))⟩

theorem short_over (s : ByteArray) (p : Nat) (n t : Int) (w : World) (hs : s.size ≤ 1000) (hp : p < 256) (hn : (s.size : Int) - min (p : Int) (s.size : Int) < n) :
    Calls Try.prog 4 #[.string s, .int .u8 p, .int .i64 n, .int .i64 t] w fun e w' => e = .returned (.bool true) ∧ Below w.heap.size w w' := by
  have t0 : ¬ (1000 : Int) < (s.size : Int) := by omega
  obtain ⟨k, hk, hks⟩ : ∃ k : Nat, min (p : Int) (s.size : Int) = (k : Int) ∧ k ≤ s.size := ⟨min p s.size, by omega, by omega⟩
  have HK := Lib.hid hk
  rw [hk] at hn
  obtain ⟨m, rfl⟩ := Int.eq_ofNat_of_zero_le (show 0 ≤ n by omega)
  have t1 : ¬ (m : Int) < 0 := by omega
  have t2 : ¬ (m : Int) ≤ (s.size : Int) - (k : Int) := by omega
  have hn2 : s.size < k + m := by omega
  clear hn
  clear hk
  go_enter Try.func4, Try.ntmps4
  go_wp2_with fail
  refine (alive_any _).mono ?_
  rintro e w1 ⟨rfl, hb⟩
  have HB := Lib.hid hb
  clear hb
  go_wp2_with fail
  refine (read_any _ _).mono ?_
  rintro e w2 ⟨rfl, rfl⟩
  have R0 := Rd.new w1 s
  have F0 : Fr (fun j => w1.heap.size ≤ j) w1 (w1.alloc (.cells #[.string s, .int .i64 0, .int .i64 0] 35)) := (Fr.refl _ w1).alloc _
  generalize w1.alloc (.cells #[.string s, .int .i64 0, .int .i64 0] 35) = W at *
  have F := Lib.hid F0
  have R := Lib.hid R0
  clear F0 R0
  go_wp2_with fail
  rw [HK.out]
  refine ((take_ok _ s 0 W R.out (by omega) k (by omega)).mono ?_)
  rintro e w2 ⟨rfl, r1, f1⟩
  rw [Nat.zero_add] at r1
  have R2 := Lib.hid r1
  have F2 := Lib.hid (F.out.then_ f1 (fun j _ h => by rw [h]; exact Nat.le_refl _))
  clear r1 f1
  go_wp2_with fail
  refine ((take_short _ s k w2 R2.out hks (by omega) m hn2).mono ?_)
  rintro e w3 ⟨rfl, r1, f1⟩
  have R3 := Lib.hid r1
  have F3 := Lib.hid (F2.out.then_ f1 (fun j _ h => by rw [h]; exact Nat.le_refl _))
  clear r1 f1
  go_wp2_with fail
  refine ((fault_any _ s k 2 w3 R3.out).mono ?_)
  rintro e w4 ⟨rfl, rfl⟩
  go_wp2_with fail
  refine ((take_fault _ s k 2 w3 R3.out (by decide) t).mono ?_)
  rintro e w4 ⟨rfl, r1, f1⟩
  have R4 := Lib.hid r1
  have F4 := Lib.hid (F3.out.then_ f1 (fun j _ h => by rw [h]; exact Nat.le_refl _))
  clear r1 f1
  go_wp2_with fail
  refine ((all_fault _ s k 2 w4 R4.out (by decide) hks (by omega)).mono ?_)
  rintro e w5 ⟨rfl, r1, f1⟩
  have R5 := Lib.hid r1
  have F5 := Lib.hid (F4.out.then_ f1 (fun j _ h => by rw [h]; exact Nat.le_refl _))
  clear r1 f1
  go_wp2_with fail
  refine ((byte_fault _ s k 2 w5 R5.out (by decide)).mono ?_)
  rintro e w6 ⟨rfl, r1, f1⟩
  have R6 := Lib.hid r1
  have F6 := Lib.hid (F5.out.then_ f1 (fun j _ h => by rw [h]; exact Nat.le_refl _))
  clear r1 f1
  go_wp2_with fail
  refine ((fault_any _ s k 2 w6 R6.out).mono ?_)
  rintro e w7 ⟨rfl, rfl⟩
  go_wp2_with fail
  refine ((at_any _ s k 2 w6 R6.out).mono ?_)
  rintro e w7 ⟨rfl, rfl⟩
  go_wp2
  go_ret
  exact ⟨rfl, (HB.out.trans ((Fr.below F6.out (Nat.le_refl _) fun _ h => h).mono HB.out.size))⟩

theorem short_in (s : ByteArray) (p : Nat) (n t : Int) (w : World) (hs : s.size ≤ 1000) (hp : p < 256) (h0 : 0 ≤ n) (hn : n ≤ (s.size : Int) - min (p : Int) (s.size : Int)) :
    Calls Try.prog 4 #[.string s, .int .u8 p, .int .i64 n, .int .i64 t] w fun e w' => e = .returned (.bool true) ∧ Below w.heap.size w w' := by
  have t0 : ¬ (1000 : Int) < (s.size : Int) := by omega
  obtain ⟨k, hk, hks⟩ : ∃ k : Nat, min (p : Int) (s.size : Int) = (k : Int) ∧ k ≤ s.size := ⟨min p s.size, by omega, by omega⟩
  have HK := Lib.hid hk
  rw [hk] at hn
  obtain ⟨m, rfl⟩ := Int.eq_ofNat_of_zero_le h0
  clear h0
  have hn2 : k + m ≤ s.size := by omega
  have t1 : (0 : Int) ≤ (m : Int) := by omega
  have t2 : (m : Int) ≤ (s.size : Int) - (k : Int) := hn
  clear hn
  clear hk
  go_enter Try.func4, Try.ntmps4
  go_wp2_with fail
  refine (alive_any _).mono ?_
  rintro e w1 ⟨rfl, hb⟩
  have HB := Lib.hid hb
  clear hb
  go_wp2_with fail
  refine (read_any _ _).mono ?_
  rintro e w2 ⟨rfl, rfl⟩
  have R0 := Rd.new w1 s
  have F0 : Fr (fun j => w1.heap.size ≤ j) w1 (w1.alloc (.cells #[.string s, .int .i64 0, .int .i64 0] 35)) := (Fr.refl _ w1).alloc _
  generalize w1.alloc (.cells #[.string s, .int .i64 0, .int .i64 0] 35) = W at *
  have F := Lib.hid F0
  have R := Lib.hid R0
  clear F0 R0
  go_wp2_with fail
  rw [HK.out]
  refine ((take_ok _ s 0 W R.out (by omega) k (by omega)).mono ?_)
  rintro e w2 ⟨rfl, r1, f1⟩
  rw [Nat.zero_add] at r1
  have R2 := Lib.hid r1
  have F2 := Lib.hid (F.out.then_ f1 (fun j _ h => by rw [h]; exact Nat.le_refl _))
  clear r1 f1
  have i0 : (0 : Int) ≤ (k : Int) := by omega
  have i1 : (k : Int) ≤ (k : Int) + (m : Int) := by omega
  have i2 : (0 : Int) ≤ (k : Int) + (m : Int) := by omega
  have i3 : (k : Int) + (m : Int) ≤ (s.size : Int) := by omega
  have i5 : ((k : Int) + (m : Int)).toNat = k + m := by omega
  have i4 : IntKind.i64.wrap ((k : Int) + (m : Int)) = (k : Int) + (m : Int) := IntWalk.i64_in _ (by omega)
  go_wp2_with fail
  go_region_held3 (fun _ => True) (exact trivial)
    (first | (go_at_call 8; refine (take_ok _ s k _ R2.out.drew (by omega) m hn2).mono ?_; rintro e w3 ⟨rfl, r3, f3⟩; have R3 := Lib.hid r3; have F3 := Lib.hid f3; clear r3 f3) | (go_at_call 11; refine (fault_any _ s _ _ _ R3.out).mono ?_; rintro e w4 ⟨rfl, rfl⟩))
  have F4 : Fr (fun j => w1.heap.size ≤ j) w1 w3 := F2.out.drew.then_ F3.out (fun j _ h => by rw [h]; exact Nat.le_refl _)
  have F5 := Lib.hid F4
  clear F4
  go_wp2
  go_ret
  exact ⟨rfl, (HB.out.trans ((Fr.below F5.out (Nat.le_refl _) fun _ h => h).mono HB.out.size))⟩

theorem short_any (s : ByteArray) (p n t : Int) (hm : s.size ≤ maxLen) (hp : (Lit.int .u8 p).wf = true) (w : World) :
    Calls Try.prog 4 #[.string s, .int .u8 p, .int .i64 n, .int .i64 t] w fun e w' => e = .returned (.bool true) ∧ Below w.heap.size w w' := by
  have hb := bounds_u8 hp
  by_cases hs : 1000 < s.size
  · exact short_big s p n t w hs hm
  · obtain ⟨q, rfl⟩ := Int.eq_ofNat_of_zero_le hb.1
    by_cases h0 : n < 0
    · exact short_neg s q n t w (by omega) (by omega) h0
    · by_cases h1 : n ≤ (s.size : Int) - min (q : Int) (s.size : Int)
      · exact short_in s q n t w (by omega) (by omega) (by omega) h1
      · exact short_over s q n t w (by omega) (by omega) (by omega)
end Go.Proofs.Ytpiepndbngechaa
