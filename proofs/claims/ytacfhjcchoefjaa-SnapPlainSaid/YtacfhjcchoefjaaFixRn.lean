/-
  The contracts of the document's Number and Turned (layer 2) over this seat's translation. Conditions: a text of at most 8 bytes.
-/
import Derived.Test.YtacfhjcchoefjaaFixA
namespace Go.Proofs.Ytacfhjcchoefjaa
open Go.RowKit Go.Sort

theorem take_snoc (l : List UInt8) (k : Nat) (h : k < l.length) : l.take (k + 1) = l.take k ++ [l[k]] := List.take_succ_eq_append_getElem h

theorem number_step (l : List UInt8) (j : Nat) (hj : j < l.length) (h8 : l.length ≤ 8) :
    IntKind.u64.wrap (IntKind.u64.wrap (256 * ((be (l.take j) : Nat) : Int)) + IntKind.u64.wrap (l[j].toNat : Int)) = ((be (l.take (j + 1)) : Nat) : Int) := by
  have h := be_snoc (l.take j) l[j]
  rw [← take_snoc l j hj] at h
  have hlt : be (l.take (j + 1)) < 18446744073709551616 := be_lt8 (by simp; omega)
  have hb : l[j].toNat < 256 := l[j].toNat_lt
  simp only [IntKind.wrap_u64]
  omega

set_option maxRecDepth 100000 in
theorem refNumber_any (s : ByteArray) (h8 : s.size ≤ 8) (w : World) :
    Calls Try.prog 44 #[.string s] w fun e w' => e = .returned (.int .u64 (be s.data.toList)) ∧ w = w' := by
  go_enter Try.func44, Try.ntmps44
  go_wp2
  go_loop [3, 4] (fun v3 v4 => ∃ j : Nat, j ≤ s.size ∧ v4 = .int .i64 j ∧ v3 = .int .u64 (be (s.data.toList.take j))) (fun _ i => s.size - (intOf i).toNat)
  case atStart => exact ⟨0, Nat.zero_le _, rfl, rfl⟩
  case round =>
    obtain ⟨j, hj, rfl, rfl⟩ := hrel
    by_cases hlt : j < s.size
    · go_wp2
      go_round
      case rel => exact ⟨j + 1, by omega, by go_num, congrArg _ (number_step s.data.toList j (by simpa using hlt) (by simpa using h8))⟩
      case measure => simp [intOf]; omega
    · go_wp2
      go_ret
      exact ⟨by rw [List.take_of_length_le (by simp; omega)]; rfl, rfl⟩

set_option maxRecDepth 100000 in
theorem refTurned_any (s : ByteArray) (h8 : s.size ≤ 8) (w : World) :
    Calls Try.prog 45 #[.string s] w fun e w' => e = .returned (.string (bs s.data.toList.reverse)) ∧ w = w' := by
  go_enter Try.func45, Try.ntmps45
  go_wp2
  go_loop [3, 4] (fun v3 v4 => ∃ j : Nat, j ≤ s.size ∧ v4 = .int .i64 j ∧ v3 = .string (bs (s.data.toList.take j).reverse)) (fun _ i => s.size - (intOf i).toNat)
  case atStart => exact ⟨0, Nat.zero_le _, rfl, rfl⟩
  case round =>
    obtain ⟨j, hj, rfl, rfl⟩ := hrel
    have hl : (bs (s.data.toList.take j).reverse).size ≤ 8 := by rw [bs_size]; simp; omega
    by_cases hlt : j < s.size
    · have hsl : ∀ W, (Instr.slice 9 (.string s) (some (.int .i64 (j : Int))) (some (.int .i64 ((j : Int) + 1))) none).run Try.prog W = .ok (.string (s.extract j (j + 1))) W := fun W => by
        have := run_slice_string (P := Try.prog) (w := W) 9 s .i64 .i64 (j : Int) ((j : Int) + 1) Try.underlying9 (by omega) (by omega) (by omega)
        rw [this]
        rfl
      have hx1 : (s.extract j (j + 1)).size ≤ 1 := by rw [extract_one s j hlt, bs_size]; exact Nat.le_refl 1
      have HX := Lib.hid (extract_one s j hlt)
      go_wp2
      go_round
      case rel => exact ⟨j + 1, by omega, by go_num, by rw [HX.out, bs_append, List.take_succ_eq_append_getElem (by simpa using hlt)]; simp⟩
      case measure => simp [intOf]; omega
    · go_wp2
      go_ret
      exact ⟨by rw [List.take_of_length_le (by simp; omega)]; rfl, rfl⟩
end Go.Proofs.Ytacfhjcchoefjaa
