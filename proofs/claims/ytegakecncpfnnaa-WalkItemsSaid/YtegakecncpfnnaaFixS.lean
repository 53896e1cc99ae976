/-
  The contract of the document's Least (layer 2) over this seat's translation. Conditions: a number below 2^64.
-/
import Derived.Test.YtegakecncpfnnaaFixK
namespace Go.Proofs.Ytegakecncpfnnaa
open Go.RowKit Go.Sort

theorem least_step (m : Nat) (h : m ≠ 0) (t : List UInt8) : least m ++ t = least (m / 256) ++ (UInt8.ofNat m :: t) := by
  rw [least_pos h]; simp
theorem ofNat_mod (m : Nat) : UInt8.ofNat ((m : Int) % 256).toNat = UInt8.ofNat m := by
  apply UInt8.toNat_inj.1
  rw [u8_toNat_ofNat, u8_toNat_ofNat]
  omega

set_option maxRecDepth 100000 in
theorem refLeast_any (n : Nat) (w : World) (hn : n < 18446744073709551616) :
    Calls Try.prog 52 #[.int .u64 n] w fun e w' => e = .returned (.string (bs (least n))) ∧ Below w.heap.size w w' := by
  have h8 := digs_le8 hn
  go_enter Try.func52, Try.ntmps52
  go_wp2
  go_loopw [0, 3] (fun v0 v3 wr => ∃ (m : Nat) (t : List UInt8), v0 = .int .u64 m ∧ v3 = .string (bs t) ∧ m < 18446744073709551616 ∧ least n = least m ++ t ∧ Below w.heap.size w wr) (fun i _ _ => (intOf i).toNat)
  case atStart => exact ⟨n, [], rfl, rfl, hn, by simp, Below.refl _ _⟩
  case round =>
    obtain ⟨m, t, rfl, rfl, hm, he, hb⟩ := hrel
    have ht : (bs t).size ≤ 8 := by
      have := congrArg List.length he
      rw [bs_size]
      rw [List.length_append] at this
      unfold digs at h8
      omega
    have hsz : (bs [UInt8.ofNat (m % 256)]).size ≤ 1 := Nat.le_refl 1
    have HE := Lib.hid he
    have HB := Lib.hid hb
    clear he hb
    by_cases h0 : m = 0
    · subst h0
      go_wp2
      go_ret
      have := HE.out
      rw [least_zero, List.nil_append] at this
      exact ⟨by rw [this]; rfl, HB.out⟩
    · have hp : 0 < m := by omega
      have H0 := Lib.hid h0
      clear h0
      have hone := one_byte wr ((m : Int) % 256) (by omega) (by omega)
      go_wp2
      go_roundw
      case rel =>
        refine ⟨m / 256, UInt8.ofNat (m % 256) :: t, by go_num, by rw [bs_append]; rfl, by omega, ?_, HB.out.alloc HB.out.size _⟩
        rw [HE.out, least_step m H0.out]
        congr 2
        apply UInt8.toNat_inj.1
        rw [u8_toNat_ofNat, u8_toNat_ofNat]
        omega
      case measure => simp [intOf]; omega
end Go.Proofs.Ytegakecncpfnnaa
