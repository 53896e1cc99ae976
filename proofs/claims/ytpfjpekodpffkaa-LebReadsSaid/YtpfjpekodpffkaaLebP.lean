/-
  The contract of the document's own Put for layer 3 over this seat's translation. Conditions: a number below 2^64.
-/
import Derived.Test.YtpfjpekodpffkaaLebR
import Derived.Deep.RegionHeldLaw
namespace Go.Proofs.Ytpfjpekodpffkaa
open Go.RowKit Go.Sort

theorem conv_same (W : World) (g z : Nat) (hz : z < 256) (h : W.heap[g]? = some (.cells #[.int .u8 (z : Int)] 5 (0, 0))) :
    (convert 44 9 (.slice (some ⟨g, 0, none⟩) 1 1)).run Try.prog W = .ok (.string (bs [UInt8.ofNat z])) W := by
  refine conv8 (l := [UInt8.ofNat z]) (row8_of_block h (fun i hi => ?_) (fun i _ => by omega)) rfl 1
  have : i = 0 := by simpa using hi
  subst this
  simp
  omega

set_option maxHeartbeats 1000000 in
set_option maxRecDepth 100000 in
theorem refPut_any (n : Nat) : ∀ (w : World), n < 18446744073709551616 →
    Calls Try.prog 10 #[.int .u64 n] w fun e w' => e = .returned (.string (bs (puts n))) ∧ Below w.heap.size w w' := by
  induction n using Nat.strongRecOn with
  | _ n ih =>
    intro w hn
    by_cases h : n < 128
    · have hone := one_byte w (n : Int) (by omega) (by omega)
      have he : bs [UInt8.ofNat n] = bs (puts n) := by
        rw [puts_small h]
      have HE := Lib.hid he
      clear he ih
      go_enter Try.func10, Try.ntmps10
      go_wp2
      go_ret
      exact ⟨by rw [HE.out]; rfl, (Below.refl _ _).alloc (Nat.le_refl _) _⟩
    · have hq := ih (n / 128) (by omega)
      have HQ := Lib.hid hq
      clear ih hq
      obtain ⟨z, hz⟩ : ∃ z : Nat, z = n % 128 + 128 := ⟨_, rfl⟩
      have hz1 : z < 256 := by omega
      have hv : IntKind.u8.wrap (IntKind.u8.wrap ((n : Int).tmod 128) + 128) = (z : Int) := by
        rw [Int.tmod_eq_emod_of_nonneg (by omega)]
        simp only [IntKind.wrap_u8]
        omega
      have hd : IntKind.u64.wrap ((n : Int) / 128) = ((n / 128 : Nat) : Int) := by
        rw [IntKind.wrap_u64]
        omega
      have hs1 : (bs [UInt8.ofNat z]).size ≤ 1 := Nat.le_refl 1
      have hs2 : (bs (puts (n / 128))).size ≤ 10 := by rw [bs_size]; exact puts_le10 (by omega)
      have hfin : bs [UInt8.ofNat z] ++ bs (puts (n / 128)) = bs (puts n) := by rw [bs_append, puts_more (n := n) (by omega), hz]; rfl
      have HF := Lib.hid hfin
      clear hz hfin
      have f1 := conv_same (w.alloc (.cells #[.int .u8 (z : Int)] 5)).drew w.heap.size z hz1 (heap_alloc_new w _)
      have f2 := conv_same (w.alloc (.cells #[.int .u8 (z : Int)] 5)) w.heap.size z hz1 (heap_alloc_new w _)
      go_enter Try.func10, Try.ntmps10
      go_wp2
      go_region_held_law (fun _ => True) (first | exact trivial) (first | (go_at_call 10; refine (HQ.out _ (by omega)).mono ?_; rintro e w1 ⟨rfl, hb1⟩; have f3 := conv_same w1 w.heap.size z hz1 ((hb1.block w.heap.size (by simp)).trans (heap_alloc_new w _)); have f4 := conv_same w1.drew w.heap.size z hz1 ((hb1.block w.heap.size (by simp)).trans (heap_alloc_new w _))) | (go_at_call 10; refine (HQ.out _ (by omega)).mono ?_; rintro e w1 ⟨rfl, hb1⟩; have f3 := conv_same (w1.alloc (.cells #[.int .u8 (z : Int)] 5)).drew w1.heap.size z hz1 (heap_alloc_new w1 _); have f4 := conv_same (w1.alloc (.cells #[.int .u8 (z : Int)] 5)) w1.heap.size z hz1 (heap_alloc_new w1 _)))
      all_goals
        have hb2 := Lib.hid hb1
        clear hb1 f1 f2 f3 f4
        go_wp2
        go_ret
        refine ⟨by rw [← HF.out]; rfl, ?_⟩
        have hA : Below w.heap.size w (w.alloc (.cells #[.int .u8 (z : Int)] 5)).drew := ((Below.refl _ w).alloc (Nat.le_refl _) _).drew
        have hB : Below w.heap.size w w.drew := (Below.refl _ w).drew
        first
          | exact hA.trans (hb2.out.mono hA.size)
          | exact (hB.trans hb2.out).alloc hb2.out.size _
end Go.Proofs.Ytpfjpekodpffkaa
