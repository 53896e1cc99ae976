/-
  The contracts of the document's own answers for layer 2 (Least, Big, Turned, Number) over this seat's translation. Conditions: a number below 2^64; a text of at most 8 bytes.
-/
import Derived.Test.YtpneccbeccgfmaaDoorFixA
namespace Go.Proofs.YtpneccbeccgfmaaDoor
open Go.RowKit Go.Sort

theorem least_step (m : Nat) (h : m ≠ 0) (t : List UInt8) : least m ++ t = least (m / 256) ++ (UInt8.ofNat m :: t) := by
  rw [least_pos h]; simp
theorem ofNat_mod (m : Nat) : UInt8.ofNat ((m : Int) % 256).toNat = UInt8.ofNat m := by
  apply UInt8.toNat_inj.1
  rw [u8_toNat_ofNat, u8_toNat_ofNat]
  omega

set_option maxRecDepth 100000 in
theorem refLeast_any (n : Nat) (w : World) (hn : n < 18446744073709551616) :
    Calls Tryd.prog 40 #[.int .u64 n] w fun e w' => e = .returned (.string (bs (least n))) ∧ Below w.heap.size w w' := by
  have h8 := digs_le8 hn
  go_enter Tryd.func40, Tryd.ntmps40
  go_wp2
  go_loopw [0, 3] (fun v0 v3 wr => ∃ (m : Nat) (t : List UInt8), v0 = .int .u64 m ∧ v3 = .string (bs t) ∧ m < 18446744073709551616 ∧ least n = least m ++ t ∧ Below w.heap.size w wr) (fun i _ _ => (intOf i).toNat)
  case atStart => exact ⟨n, [], rfl, rfl, hn, by simp, Below.refl _ _⟩
  case round =>
    obtain ⟨m, t, rfl, rfl, hm, he, hb⟩ := hrel
    have ht : (bs t).size ≤ 8 := by
      have := congrArg List.length he
      rw [bs_size]
      rw [List.length_append] at this
      unfold digs at h8
      omega
    have hsz : (bs [UInt8.ofNat (m % 256)]).size ≤ 1 := Nat.le_refl 1
    have HE := Lib.hid he
    have HB := Lib.hid hb
    clear he hb
    by_cases h0 : m = 0
    · subst h0
      go_wp2
      go_ret
      have := HE.out
      rw [least_zero, List.nil_append] at this
      exact ⟨by rw [this]; rfl, HB.out⟩
    · have hp : 0 < m := by omega
      have H0 := Lib.hid h0
      clear h0
      have hone := one_byte wr ((m : Int) % 256) (by omega) (by omega)
      go_wp2
      go_roundw
      case rel =>
        refine ⟨m / 256, UInt8.ofNat (m % 256) :: t, by go_num, by rw [bs_append]; rfl, by omega, ?_, HB.out.alloc HB.out.size _⟩
        rw [HE.out, least_step m H0.out]
        congr 2
        apply UInt8.toNat_inj.1
        rw [u8_toNat_ofNat, u8_toNat_ofNat]
        omega
      case measure => simp [intOf]; omega

theorem refBig_over (n : Nat) (k : Nat) (w : World) (hn : n < 18446744073709551616) (hk : k < digs n) :
    Calls Tryd.prog 30 #[.int .u64 n, .int .i64 k] w fun e w' => e = .returned (.tuple #[.string ByteArray.empty, .bool false]) ∧ Below w.heap.size w w' := by
  have hs : (k : Int) < ((bs (least n)).size : Int) := by rw [bs_size]; unfold digs at hk; omega
  go_enter Tryd.func30, Tryd.ntmps30
  go_wp2_with fail
  refine (refLeast_any n _ hn).mono ?_
  rintro e w1 ⟨rfl, hb⟩
  have HB := Lib.hid hb
  clear hb
  go_wp2
  go_ret2
  exact ⟨rfl, HB.out⟩

theorem pad_step (t : List UInt8) : bs [0] ++ bs t = bs (0 :: t) := bs_append _ _
theorem zero_byte : (⟨#[0]⟩ : ByteArray) = bs [0] := rfl

set_option maxRecDepth 100000 in
theorem refBig_ok (n : Nat) (k : Nat) (w : World) (hn : n < 18446744073709551616) (h8 : k ≤ 8) (hk : digs n ≤ k) :
    Calls Tryd.prog 30 #[.int .u64 n, .int .i64 k] w fun e w' => e = .returned (.tuple #[.string (bs (lo n k).reverse), .bool true]) ∧ Below w.heap.size w w' := by
  have hs : ((bs (least n)).size : Int) ≤ k := by rw [bs_size]; unfold digs at hk; omega
  go_enter Tryd.func30, Tryd.ntmps30
  go_wp2_with fail
  refine (refLeast_any n _ hn).mono ?_
  rintro e w1 ⟨rfl, hb⟩
  have HB := Lib.hid hb
  clear hb
  go_wp2
  go_loop [6] (fun v6 => ∃ j : Nat, j + digs n ≤ k ∧ v6 = .string (bs (List.replicate j 0 ++ least n))) (fun v => match v with | .string s => k - s.size | _ => 0)
  case atStart => exact ⟨0, by omega, rfl⟩
  case round =>
    obtain ⟨j, hj, rfl⟩ := hrel
    have hl : (bs (List.replicate j 0 ++ least n)).size = j + digs n := by rw [bs_size]; simp [digs]
    have hle : (bs (List.replicate j 0 ++ least n)).size ≤ j + digs n := Nat.le_of_eq hl
    have hge : j + digs n ≤ (bs (List.replicate j 0 ++ least n)).size := Nat.le_of_eq hl.symm
    have HL := Lib.hid hl
    clear hl
    by_cases hlt : j + digs n < k
    · go_wp2
      go_round
      case rel => exact ⟨j + 1, by omega, by rw [zero_byte, bs_append]; rfl⟩
      case measure =>
        simp only []
        rw [zero_byte, bs_append, bs_size]
        simp only [List.singleton_append, List.length_cons, ← bs_size]
        omega
    · go_wp2
      go_ret2
      have he : j = k - digs n := by omega
      exact ⟨by rw [lo_pad n k hk, ← he]; rfl, HB.out⟩

theorem take_snoc (l : List UInt8) (k : Nat) (h : k < l.length) : l.take (k + 1) = l.take k ++ [l[k]] := List.take_succ_eq_append_getElem h

theorem number_step (l : List UInt8) (j : Nat) (hj : j < l.length) (h8 : l.length ≤ 8) :
    IntKind.u64.wrap (IntKind.u64.wrap (256 * ((be (l.take j) : Nat) : Int)) + IntKind.u64.wrap (l[j].toNat : Int)) = ((be (l.take (j + 1)) : Nat) : Int) := by
  have h := be_snoc (l.take j) l[j]
  rw [← take_snoc l j hj] at h
  have hlt : be (l.take (j + 1)) < 18446744073709551616 := be_lt8 (by simp; omega)
  have hb : l[j].toNat < 256 := l[j].toNat_lt
  simp only [IntKind.wrap_u64]
  omega

set_option maxRecDepth 100000 in
theorem refNumber_any (s : ByteArray) (h8 : s.size ≤ 8) (w : World) :
    Calls Tryd.prog 22 #[.string s] w fun e w' => e = .returned (.int .u64 (be s.data.toList)) ∧ w = w' := by
  go_enter Tryd.func22, Tryd.ntmps22
  go_wp2
  go_loop [3, 4] (fun v3 v4 => ∃ j : Nat, j ≤ s.size ∧ v4 = .int .i64 j ∧ v3 = .int .u64 (be (s.data.toList.take j))) (fun _ i => s.size - (intOf i).toNat)
  case atStart => exact ⟨0, Nat.zero_le _, rfl, rfl⟩
  case round =>
    obtain ⟨j, hj, rfl, rfl⟩ := hrel
    by_cases hlt : j < s.size
    · go_wp2
      go_round
      case rel => exact ⟨j + 1, by omega, by go_num, congrArg _ (number_step s.data.toList j (by simpa using hlt) (by simpa using h8))⟩
      case measure => simp [intOf]; omega
    · go_wp2
      go_ret
      exact ⟨by rw [List.take_of_length_le (by simp; omega)]; rfl, rfl⟩

set_option maxRecDepth 100000 in
theorem refTurned_any (s : ByteArray) (h8 : s.size ≤ 8) (w : World) :
    Calls Tryd.prog 23 #[.string s] w fun e w' => e = .returned (.string (bs s.data.toList.reverse)) ∧ w = w' := by
  go_enter Tryd.func23, Tryd.ntmps23
  go_wp2
  go_loop [3, 4] (fun v3 v4 => ∃ j : Nat, j ≤ s.size ∧ v4 = .int .i64 j ∧ v3 = .string (bs (s.data.toList.take j).reverse)) (fun _ i => s.size - (intOf i).toNat)
  case atStart => exact ⟨0, Nat.zero_le _, rfl, rfl⟩
  case round =>
    obtain ⟨j, hj, rfl, rfl⟩ := hrel
    have hl : (bs (s.data.toList.take j).reverse).size ≤ 8 := by rw [bs_size]; simp; omega
    by_cases hlt : j < s.size
    · have hsl : ∀ W, (Instr.slice 9 (.string s) (some (.int .i64 (j : Int))) (some (.int .i64 ((j : Int) + 1))) none).run Tryd.prog W = .ok (.string (s.extract j (j + 1))) W := fun W => by
        have := run_slice_string (P := Tryd.prog) (w := W) 9 s .i64 .i64 (j : Int) ((j : Int) + 1) Tryd.underlying9 (by omega) (by omega) (by omega)
        rw [this]
        rfl
      have hx1 : (s.extract j (j + 1)).size ≤ 1 := by rw [extract_one s j hlt, bs_size]; exact Nat.le_refl 1
      have HX := Lib.hid (extract_one s j hlt)
      go_wp2
      go_round
      case rel => exact ⟨j + 1, by omega, by go_num, by rw [HX.out, bs_append, List.take_succ_eq_append_getElem (by simpa using hlt)]; simp⟩
      case measure => simp [intOf]; omega
    · go_wp2
      go_ret
      exact ⟨by rw [List.take_of_length_le (by simp; omega)]; rfl, rfl⟩
end Go.Proofs.YtpneccbeccgfmaaDoor
