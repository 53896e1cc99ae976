/-
  The contracts of the document's own Put and Next for layer 3 over this seat's translation. Conditions: a number below 2^64.
-/
import Derived.Test.YtacfhjcchoefjaaLebN
namespace Go.Proofs.Ytacfhjcchoefjaa
open Go.RowKit Go.Sort

theorem wrap_nat {n : Nat} (h : n < 18446744073709551616) : IntKind.u64.wrap (n : Int) = (n : Int) := by rw [IntKind.wrap_u64]; omega

theorem bad_yes (s : ByteArray) (j x : Nat) (h : j < s.size) (hx : s[j].toNat = x) (hc : j = 9 ∧ 1 < x ∨ 0 < j ∧ x = 0) : bad j s[j] = true := by
  simp only [bad, hx]
  rcases hc with ⟨h9, h1⟩ | ⟨h0, h1⟩
  · simp [h9, h1]
  · simp [h0, h1]
theorem bad_no (s : ByteArray) (j x : Nat) (h : j < s.size) (hx : s[j].toNat = x) (h9 : j = 9 → x ≤ 1) (h0 : 0 < j → x ≠ 0) : bad j s[j] = false := by
  simp only [bad, hx, Bool.or_eq_false_iff, Bool.and_eq_false_iff, beq_eq_false_iff_ne, decide_eq_false_iff_not]
  omega

theorem gather (a b j p : Nat) (hp : p = 128 ^ j) (hj : j ≤ 9) (ha : a < 128 ^ j) (h9 : j = 9 → b ≤ 1) :
    IntKind.u64.wrap ((a : Int) + IntKind.u64.wrap ((b : Int) % 128 * (p : Int))) = ((a + b % 128 * 128 ^ j : Nat) : Int) := by
  subst hp
  have hlt := digit_lt a b j hj ha h9
  have e1 : (b : Int) % 128 = ((b % 128 : Nat) : Int) := by omega
  have e2 : ((b % 128 : Nat) : Int) * ((128 ^ j : Nat) : Int) = ((b % 128 * 128 ^ j : Nat) : Int) := by rw [Int.natCast_mul]
  rw [e1, e2, wrap_nat (by omega), ← Int.natCast_add, wrap_nat hlt]

theorem by_next (j p : Nat) (hp : p = 128 ^ j) (h : j < 9) : IntKind.u64.wrap ((p : Int) * 128) = ((128 ^ (j + 1) : Nat) : Int) := by
  subst hp
  have h2 : (128 : Nat) ^ (j + 1) ≤ 9223372036854775808 := pow_le9 (by omega)
  have e : ((128 ^ j : Nat) : Int) * 128 = ((128 ^ (j + 1) : Nat) : Int) := by rw [Nat.pow_succ, Int.natCast_mul]; rfl
  rw [e, wrap_nat (by omega)]

set_option maxHeartbeats 1000000 in
set_option maxRecDepth 100000 in
theorem refNext_told (s : ByteArray) (w : World) :
    Calls Try.prog 19 #[.string s] w fun e w' => e = .returned (told3 (nx s.data.toList 0 0)) ∧ w = w' := by
  go_enter Try.func19, Try.ntmps19
  go_wp2
  go_loop [5, 6, 7] (fun v5 v6 v7 => ∃ j a p : Nat, j ≤ s.size ∧ j ≤ 9 ∧ v7 = .int .i64 j ∧ v5 = .int .u64 a ∧ v6 = .int .u64 p ∧ p = 128 ^ j ∧ a < 128 ^ j ∧ nx s.data.toList 0 0 = nx (s.data.toList.drop j) j a) (fun _ _ i => s.size - (intOf i).toNat)
  case atStart => exact ⟨0, 0, 1, Nat.zero_le _, Nat.zero_le _, rfl, rfl, rfl, rfl, by simp, rfl⟩
  case round =>
    obtain ⟨j, a, p, hj, hj9, rfl, rfl, rfl, hp, ha, he⟩ := hrel
    have HE := Lib.hid he
    have HP := Lib.hid hp
    have HA := Lib.hid ha
    clear he hp ha
    by_cases hlt : j < s.size
    · have hlen : j < s.data.toList.length := by simpa using hlt
      have hb : s[j].toNat < 256 := s[j].toNat_lt
      have hcell : s[j] = s.data.toList[j] := by simp; rfl
      have HD := Lib.hid (drop_cons s.data.toList j hlen)
      have HC := Lib.hid hcell
      clear hcell
      have t1 : (0 : Int) ≤ (j : Int) := by omega
      have t2 : (j : Int) < (s.size : Int) := by omega
      by_cases h9 : j = 9
      · subst h9
        obtain ⟨x, hx⟩ : ∃ x, s[9].toNat = x := ⟨_, rfl⟩
        rw [hx] at hb
        by_cases hx1 : 1 < x
        · have hbad := Lib.hid (bad_yes s 9 x hlt hx (by omega))
          go_wp2
          go_ret3
          refine ⟨?_, rfl⟩
          rw [HE.out, HD.out, nx, ← HC.out, hbad.out]
          rfl
        · have hd : decide ((1 : Int) < (x : Int)) = false := by simp; omega
          by_cases hx0 : x ≤ 0
          · have hz : ((x : Int) == 0) = true := by simp; omega
            have hbad := Lib.hid (bad_yes s 9 x hlt hx (by omega))
            go_wp2
            go_ret3
            refine ⟨?_, rfl⟩
            rw [HE.out, HD.out, nx, ← HC.out, hbad.out]
            rfl
          · have hx128 : x < 128 := by omega
            have hz : ((x : Int) == 0) = false := by simp; omega
            have hbad := Lib.hid (bad_no s 9 x hlt hx (by omega) (by omega))
            have hg := Lib.hid (gather a x 9 p HP.out hj9 HA.out (by omega))
            have HX := Lib.hid hx
            go_wp2
            go_ret3
            refine ⟨?_, rfl⟩
            rw [HE.out, HD.out, nx, ← HC.out, hbad.out, HX.out]
            simp only [Bool.false_eq_true, if_false, if_pos hx128]
            rw [hg.out]
            rfl
      · by_cases h0 : j = 0
        · subst h0
          obtain ⟨x, hx⟩ : ∃ x, s[0].toNat = x := ⟨_, rfl⟩
          rw [hx] at hb
          by_cases hx128 : x < 128
          · have hbad := Lib.hid (bad_no s 0 x hlt hx (by omega) (by omega))
            have hg := Lib.hid (gather a x 0 p HP.out hj9 HA.out (by omega))
            have HX := Lib.hid hx
            go_wp2
            go_ret3
            refine ⟨?_, rfl⟩
            rw [HE.out, HD.out, nx, ← HC.out, hbad.out, HX.out]
            simp only [Bool.false_eq_true, if_false, if_pos hx128]
            rw [hg.out]
            rfl
          · have hbad := Lib.hid (bad_no s 0 x hlt hx (by omega) (by omega))
            have hg := Lib.hid (gather a x 0 p HP.out hj9 HA.out (by omega))
            have HX := Lib.hid hx
            go_wp2
            go_round
            case rel =>
              refine ⟨0 + 1, a + x % 128 * 128 ^ 0, 128 ^ (0 + 1), by omega, by omega, by go_num, congrArg _ hg.out, congrArg _ (by_next 0 p HP.out (by omega)), rfl, digit_next _ _ _ HA.out, ?_⟩
              rw [HE.out, HD.out, nx, ← HC.out, hbad.out, HX.out]
              simp only [Bool.false_eq_true, if_false, if_neg hx128]
            case measure => simp [intOf]; omega
        · have h9' : j < 9 := by omega
          have h0' : 0 < j := by omega
          clear h9 h0
          obtain ⟨x, hx⟩ : ∃ x, s[j].toNat = x := ⟨_, rfl⟩
          rw [hx] at hb
          by_cases hx0 : x ≤ 0
          · have hbad := Lib.hid (bad_yes s j x hlt hx (by omega))
            go_wp2
            go_ret3
            refine ⟨?_, rfl⟩
            rw [HE.out, HD.out, nx, ← HC.out, hbad.out]
            rfl
          · by_cases hx128 : x < 128
            · have hbad := Lib.hid (bad_no s j x hlt hx (by omega) (by omega))
              have hg := Lib.hid (gather a x j p HP.out hj9 HA.out (by omega))
              have HX := Lib.hid hx
              go_wp2
              go_ret3
              refine ⟨?_, rfl⟩
              rw [HE.out, HD.out, nx, ← HC.out, hbad.out, HX.out]
              simp only [Bool.false_eq_true, if_false, if_pos hx128]
              rw [hg.out]
              rfl
            · have hbad := Lib.hid (bad_no s j x hlt hx (by omega) (by omega))
              have hg := Lib.hid (gather a x j p HP.out hj9 HA.out (by omega))
              have HX := Lib.hid hx
              go_wp2
              go_round
              case rel =>
                refine ⟨j + 1, a + x % 128 * 128 ^ j, 128 ^ (j + 1), by omega, by omega, by go_num, congrArg _ hg.out, congrArg _ (by_next j p HP.out (by omega)), rfl, digit_next _ _ _ HA.out, ?_⟩
                rw [HE.out, HD.out, nx, ← HC.out, hbad.out, HX.out]
                simp only [Bool.false_eq_true, if_false, if_neg hx128]
              case measure => simp [intOf]; omega
    · have : j = s.size := by omega
      subst this
      go_wp2
      go_ret3
      refine ⟨?_, rfl⟩
      rw [HE.out, List.drop_of_length_le (by simp)]
      rfl
end Go.Proofs.Ytacfhjcchoefjaa
