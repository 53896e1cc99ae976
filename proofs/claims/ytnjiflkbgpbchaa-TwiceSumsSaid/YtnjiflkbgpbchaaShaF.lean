/-
  The contract of the document's own root by trying (layer 5) over this seat's translation. Conditions: degree 2 or 3; a number below 2^64.
-/
import Derived.Test.YtnjiflkbgpbchaaShaP
namespace Go.Proofs.Ytnjiflkbgpbchaa
open Go.RowKit Go.Sort

/-- The root, bit by bit: j bits are left, x is what was found. -/
def frq (prime deg : Nat) : Nat → Nat → Nat
  | 0, x => x
  | j + 1, x => frq prime deg j (if (x + 2 ^ j) ^ deg / 2 ^ (32 * deg) < prime then x + 2 ^ j else x)

theorem three_digits (y : Nat) : dv [y % 65536, y / 65536 % 65536, y / 4294967296] = y := by
  simp only [dv]
  omega

theorem digits3 (y : Nat) (h : y < 68719476736) : ∀ d ∈ [y % 65536, y / 65536 % 65536, y / 4294967296], d < 65536 := by
  intro d hd
  simp only [List.mem_cons, List.not_mem_nil, or_false] at hd
  omega
theorem drop_step (p : List Nat) (e : Nat) (h : e < p.length) : dv (p.drop e) = dv (p.drop (e + 1)) * 65536 + p.getD e 0 := by
  rw [getD_of p e h, List.drop_eq_getElem_cons h, dv]
  omega
theorem drop_lt (p : List Nat) (e : Nat) (h : ∀ d ∈ p, d < 65536) (he : p.length ≤ e + 2) : dv (p.drop e) < 4294967296 := by
  have h1 := dv_lt (p.drop e) (fun d hd => h d (List.mem_of_mem_drop hd))
  have h2 : (p.drop e).length ≤ 2 := by rw [List.length_drop]; omega
  exact Nat.lt_of_lt_of_le h1 (Nat.le_trans (Nat.pow_le_pow_right (by decide) h2) (by decide))

set_option maxRecDepth 100000 in
set_option maxHeartbeats 2000000 in
theorem fraction2_any (prime : Nat) (hp : prime < 18446744073709551616) (w : World) :
    Calls Try.prog 12 #[.int .u64 prime, .int .i64 2] w fun e w' => e = .returned (.int .u32 (frq prime 2 36 0 % 4294967296 : Nat)) ∧ Below w.heap.size w w' := by
  have HP := Lib.hid hp
  clear hp
  go_enter Try.func12, Try.ntmps12
  go_wp2_with fail
  go_loopw [5, 6] (fun v5 v6 wr => ∃ (j x : Nat), v5 = .int .u64 x ∧ v6 = .int .u64 (2 ^ j / 2 : Nat) ∧ j ≤ 36 ∧ x + 2 ^ j ≤ 68719476736 ∧ frq prime 2 j x = frq prime 2 36 0 ∧ Below w.heap.size w wr) (fun _ b _ => (intOf b).toNat)
  case atStart => exact ⟨36, 0, rfl, rfl, Nat.le_refl _, by decide, rfl, Below.refl _ _⟩
  case round =>
    obtain ⟨j, x, rfl, rfl, hj, hx, hf, hb⟩ := hrel
    cases j with
    | zero =>
      have R := Lib.hid (And.intro hf hb)
      have t1 : decide ((0 : Int) < ((2 ^ 0 / 2 : Nat) : Int)) = false := rfl
      have h1 : x < 68719476736 := by simp at hx; omega
      have s1 : IntKind.u32.wrap ((x : Int) % 4294967296) = ((x % 4294967296 : Nat) : Int) := by rw [IntKind.wrap_u32]; omega
      clear hf hb hj hx
      go_wp2
      go_ret
      have := R.out.1
      rw [frq] at this
      exact ⟨by rw [← this]; rfl, R.out.2⟩
    | succ j =>
      have hp2 : 2 ^ (j + 1) / 2 = 2 ^ j := by rw [Nat.pow_succ]; omega
      rw [hp2]
      have hpos : 0 < 2 ^ j := Nat.two_pow_pos j
      rw [Nat.pow_succ] at hx
      rw [frq] at hf
      have hhalf : 2 ^ j / 2 < 2 ^ j := by omega
      obtain ⟨b, hbe⟩ : ∃ b, b = 2 ^ j := ⟨_, rfl⟩
      rw [← hbe] at hx hpos hf hhalf
      rw [← hbe]
      obtain ⟨y, hy⟩ : ∃ y, y = x + b := ⟨_, rfl⟩
      rw [← hy] at hf
      have hy1 : y + b ≤ 68719476736 := by omega
      have R := Lib.hid (And.intro hf (And.intro hb (And.intro hbe (And.intro hx hy))))
      have s0 : IntKind.u64.wrap ((x : Int) + (b : Int)) = (y : Int) := by rw [IntKind.wrap_u64]; omega
      have t0 : decide ((0 : Int) < (b : Int)) = true := by simp; omega
      have hxy : x ≤ y := by omega
      have hx2 : x + b ≤ 68719476736 := by omega
      clear hf hb hbe hx hy
      go_wp2_with fail
      have D0 : Nums .u64 34 (wr.alloc (.cells #[.int .u64 ((y : Int) % 65536), .int .u64 ((y : Int) / 65536 % 65536), .int .u64 ((y : Int) / 4294967296)] 34)) wr.heap.size [y % 65536, y / 65536 % 65536, y / 4294967296] := by
        have := Nums.new .u64 34 wr [y % 65536, y / 65536 % 65536, y / 4294967296]
        simpa using this
      have F0 := below_al (Below.refl wr.heap.size wr) (.cells #[.int .u64 ((y : Int) % 65536), .int .u64 ((y : Int) / 65536 % 65536), .int .u64 ((y : Int) / 4294967296)] 34)
      generalize wr.alloc (.cells #[.int .u64 ((y : Int) % 65536), .int .u64 ((y : Int) / 65536 % 65536), .int .u64 ((y : Int) / 4294967296)] 34) = W1 at *
      have dD := digits3 y (by omega)
      refine (product_any _ _ 3 3 3 3 _ _ _ D0 D0 dD dD rfl rfl (by omega) (by omega)).mono ?_
      rw [three_digits y]
      rintro e w1 ⟨rfl, ⟨o, N1, l1, d1, v1⟩, b1⟩
      have H1 := Lib.hid (And.intro D0 (And.intro N1 (And.intro l1 (And.intro d1 (And.intro v1 (And.intro b1 (And.intro F0 dD)))))))
      clear D0 N1 l1 d1 v1 b1 F0 dD
      have H2 := Lib.hid (show (Nums .u64 34 w1 W1.heap.size o ∧ o.length = 6 ∧ (∀ d ∈ o, d < 65536) ∧ dv o = y ^ 2 ∧ Below wr.heap.size wr w1) from
        ⟨H1.out.2.1, H1.out.2.2.1, H1.out.2.2.2.1, by rw [H1.out.2.2.2.2.1]; simp [Nat.pow_succ], H1.out.2.2.2.2.2.2.1.trans (H1.out.2.2.2.2.2.1.mono H1.out.2.2.2.2.2.2.1.size)⟩)
      go_wp2_with fail
      go_loop [10, 11] (fun v10 v11 => ∃ e : Nat, 4 ≤ e + 1 ∧ e < 6 ∧ v11 = .int .i64 e ∧ v10 = .int .u64 (dv (o.drop (e + 1)))) (fun _ i => (intOf i).toNat)
      case atStart =>
        refine ⟨5, by omega, by omega, rfl, ?_⟩
        rw [List.drop_of_length_le (by rw [H2.out.2.1]; omega)]
        rfl
      case round =>
        obtain ⟨e, he1, he2, rfl, rfl⟩ := hrel
        by_cases hge : 4 ≤ e
        · have hel : e < o.length := by rw [H2.out.2.1]; exact he2
          have c0 := H2.out.1.cellD e hel
          have hz := getD_lt o e _ H2.out.2.2.1 hel
          have hv := drop_lt o (e + 1) H2.out.2.2.1 (by rw [H2.out.2.1]; omega)
          have hs := drop_step o e hel
          obtain ⟨z, hze⟩ : ∃ z, z = o.getD e 0 := ⟨_, rfl⟩
          obtain ⟨v, hve⟩ : ∃ v, v = dv (o.drop (e + 1)) := ⟨_, rfl⟩
          rw [← hze] at c0 hz hs
          rw [← hve] at hv hs
          rw [← hve]
          have HS := Lib.hid hs
          have t2 : decide ((4 : Int) ≤ (e : Int)) = true := by simp; omega
          have s1 : IntKind.u64.wrap ((v : Int) * 65536) = ((v * 65536 : Nat) : Int) := by rw [IntKind.wrap_u64]; omega
          have s2 : IntKind.u64.wrap (((v * 65536 : Nat) : Int) + (z : Int)) = ((v * 65536 + z : Nat) : Int) := by rw [IntKind.wrap_u64]; omega
          clear hs hze hve hel
          go_wp2
          go_round
          case rel => exact ⟨e - 1, by omega, by omega, by go_num, by rw [show e - 1 + 1 = e by omega, HS.out]; go_num⟩
          case measure => (simp [intOf]) <;> omega
        · obtain rfl : e = 4 - 1 := by omega
          have t2 : decide ((4 : Int) ≤ ((4 - 1 : Nat) : Int)) = false := rfl
          have hw : dv (o.drop (4 - 1 + 1)) = y ^ 2 / 2 ^ (32 * 2) := by
            have := dv_drop o 4 H2.out.2.2.1 (by rw [H2.out.2.1]; omega)
            rw [H2.out.2.2.2.1] at this
            exact this.symm
          obtain ⟨u, hu⟩ : ∃ u, u = y ^ 2 / 2 ^ (32 * 2) := ⟨_, rfl⟩
          rw [hw, ← hu]
          have hf := R.out.1
          rw [← hu] at hf
          clear hw hu
          by_cases hlt : u < prime
          · rw [if_pos hlt] at hf
            have R2 := Lib.hid hf
            have t3 : decide (u < prime) = true := by simpa using hlt
            clear hf hlt
            go_wp2
            go_roundw
            case rel => exact ⟨j, y, rfl, by rw [← R.out.2.2.1]; go_num, by omega, by rw [← R.out.2.2.1]; exact hy1, R2.out, R.out.2.1.trans (H2.out.2.2.2.2.mono R.out.2.1.size)⟩
            case measure => (simp [intOf]) <;> omega
          · rw [if_neg hlt] at hf
            have R2 := Lib.hid hf
            have t3 : decide (u < prime) = false := by simpa using hlt
            clear hf hlt
            go_wp2
            go_roundw
            case rel => exact ⟨j, x, rfl, by rw [← R.out.2.2.1]; go_num, by omega, by rw [← R.out.2.2.1]; omega, R2.out, R.out.2.1.trans (H2.out.2.2.2.2.mono R.out.2.1.size)⟩
            case measure => (simp [intOf]) <;> omega

set_option maxRecDepth 100000 in
set_option maxHeartbeats 2000000 in
theorem fraction3_any (prime : Nat) (hp : prime < 18446744073709551616) (w : World) :
    Calls Try.prog 12 #[.int .u64 prime, .int .i64 3] w fun e w' => e = .returned (.int .u32 (frq prime 3 36 0 % 4294967296 : Nat)) ∧ Below w.heap.size w w' := by
  have HP := Lib.hid hp
  clear hp
  go_enter Try.func12, Try.ntmps12
  go_wp2_with fail
  go_loopw [5, 6] (fun v5 v6 wr => ∃ (j x : Nat), v5 = .int .u64 x ∧ v6 = .int .u64 (2 ^ j / 2 : Nat) ∧ j ≤ 36 ∧ x + 2 ^ j ≤ 68719476736 ∧ frq prime 3 j x = frq prime 3 36 0 ∧ Below w.heap.size w wr) (fun _ b _ => (intOf b).toNat)
  case atStart => exact ⟨36, 0, rfl, rfl, Nat.le_refl _, by decide, rfl, Below.refl _ _⟩
  case round =>
    obtain ⟨j, x, rfl, rfl, hj, hx, hf, hb⟩ := hrel
    cases j with
    | zero =>
      have R := Lib.hid (And.intro hf hb)
      have t1 : decide ((0 : Int) < ((2 ^ 0 / 2 : Nat) : Int)) = false := rfl
      have h1 : x < 68719476736 := by simp at hx; omega
      have s1 : IntKind.u32.wrap ((x : Int) % 4294967296) = ((x % 4294967296 : Nat) : Int) := by rw [IntKind.wrap_u32]; omega
      clear hf hb hj hx
      go_wp2
      go_ret
      have := R.out.1
      rw [frq] at this
      exact ⟨by rw [← this]; rfl, R.out.2⟩
    | succ j =>
      have hp2 : 2 ^ (j + 1) / 2 = 2 ^ j := by rw [Nat.pow_succ]; omega
      rw [hp2]
      have hpos : 0 < 2 ^ j := Nat.two_pow_pos j
      rw [Nat.pow_succ] at hx
      rw [frq] at hf
      have hhalf : 2 ^ j / 2 < 2 ^ j := by omega
      obtain ⟨b, hbe⟩ : ∃ b, b = 2 ^ j := ⟨_, rfl⟩
      rw [← hbe] at hx hpos hf hhalf
      rw [← hbe]
      obtain ⟨y, hy⟩ : ∃ y, y = x + b := ⟨_, rfl⟩
      rw [← hy] at hf
      have hy1 : y + b ≤ 68719476736 := by omega
      have R := Lib.hid (And.intro hf (And.intro hb (And.intro hbe (And.intro hx hy))))
      have s0 : IntKind.u64.wrap ((x : Int) + (b : Int)) = (y : Int) := by rw [IntKind.wrap_u64]; omega
      have t0 : decide ((0 : Int) < (b : Int)) = true := by simp; omega
      have hxy : x ≤ y := by omega
      have hx2 : x + b ≤ 68719476736 := by omega
      clear hf hb hbe hx hy
      go_wp2_with fail
      have D0 : Nums .u64 34 (wr.alloc (.cells #[.int .u64 ((y : Int) % 65536), .int .u64 ((y : Int) / 65536 % 65536), .int .u64 ((y : Int) / 4294967296)] 34)) wr.heap.size [y % 65536, y / 65536 % 65536, y / 4294967296] := by
        have := Nums.new .u64 34 wr [y % 65536, y / 65536 % 65536, y / 4294967296]
        simpa using this
      have F0 := below_al (Below.refl wr.heap.size wr) (.cells #[.int .u64 ((y : Int) % 65536), .int .u64 ((y : Int) / 65536 % 65536), .int .u64 ((y : Int) / 4294967296)] 34)
      generalize wr.alloc (.cells #[.int .u64 ((y : Int) % 65536), .int .u64 ((y : Int) / 65536 % 65536), .int .u64 ((y : Int) / 4294967296)] 34) = W1 at *
      have dD := digits3 y (by omega)
      refine (product_any _ _ 3 3 3 3 _ _ _ D0 D0 dD dD rfl rfl (by omega) (by omega)).mono ?_
      rw [three_digits y]
      rintro e w1 ⟨rfl, ⟨o, N1, l1, d1, v1⟩, b1⟩
      have H1 := Lib.hid (And.intro D0 (And.intro N1 (And.intro l1 (And.intro d1 (And.intro v1 (And.intro b1 (And.intro F0 dD)))))))
      clear D0 N1 l1 d1 v1 b1 F0 dD
      go_wp2_with fail
      refine (product_any _ _ 6 3 6 3 _ _ _ H1.out.2.1 (H1.out.1.bel H1.out.2.2.2.2.2.1) H1.out.2.2.2.1 H1.out.2.2.2.2.2.2.2 H1.out.2.2.1 rfl (by omega) (by omega)).mono ?_
      rw [three_digits y, H1.out.2.2.2.2.1]
      rintro e w2 ⟨rfl, ⟨p, N2, l2, d2, v2⟩, b2⟩
      have H2 := Lib.hid (show (Nums .u64 34 w2 w1.heap.size p ∧ p.length = 9 ∧ (∀ d ∈ p, d < 65536) ∧ dv p = y ^ 3 ∧ Below wr.heap.size wr w2) from
        ⟨N2, l2, d2, by rw [v2]; simp [Nat.pow_succ], (H1.out.2.2.2.2.2.2.1.trans (H1.out.2.2.2.2.2.1.mono H1.out.2.2.2.2.2.2.1.size)).trans (b2.mono (Nat.le_trans H1.out.2.2.2.2.2.2.1.size H1.out.2.2.2.2.2.1.size))⟩)
      clear N2 l2 d2 v2 b2
      go_wp2_with fail
      go_loop [10, 11] (fun v10 v11 => ∃ e : Nat, 6 ≤ e + 1 ∧ e < 9 ∧ v11 = .int .i64 e ∧ v10 = .int .u64 (dv (p.drop (e + 1)))) (fun _ i => (intOf i).toNat)
      case atStart =>
        refine ⟨8, by omega, by omega, rfl, ?_⟩
        rw [List.drop_of_length_le (by rw [H2.out.2.1]; omega)]
        rfl
      case round =>
        obtain ⟨e, he1, he2, rfl, rfl⟩ := hrel
        by_cases hge : 6 ≤ e
        · have hel : e < p.length := by rw [H2.out.2.1]; exact he2
          have c0 := H2.out.1.cellD e hel
          have hz := getD_lt p e _ H2.out.2.2.1 hel
          have hv := drop_lt p (e + 1) H2.out.2.2.1 (by rw [H2.out.2.1]; omega)
          have hs := drop_step p e hel
          obtain ⟨z, hze⟩ : ∃ z, z = p.getD e 0 := ⟨_, rfl⟩
          obtain ⟨v, hve⟩ : ∃ v, v = dv (p.drop (e + 1)) := ⟨_, rfl⟩
          rw [← hze] at c0 hz hs
          rw [← hve] at hv hs
          rw [← hve]
          have HS := Lib.hid hs
          have t2 : decide ((6 : Int) ≤ (e : Int)) = true := by simp; omega
          have s1 : IntKind.u64.wrap ((v : Int) * 65536) = ((v * 65536 : Nat) : Int) := by rw [IntKind.wrap_u64]; omega
          have s2 : IntKind.u64.wrap (((v * 65536 : Nat) : Int) + (z : Int)) = ((v * 65536 + z : Nat) : Int) := by rw [IntKind.wrap_u64]; omega
          clear hs hze hve hel
          go_wp2
          go_round
          case rel => exact ⟨e - 1, by omega, by omega, by go_num, by rw [show e - 1 + 1 = e by omega, HS.out]; go_num⟩
          case measure => (simp [intOf]) <;> omega
        · obtain rfl : e = 6 - 1 := by omega
          have t2 : decide ((6 : Int) ≤ ((6 - 1 : Nat) : Int)) = false := rfl
          have hw : dv (p.drop (6 - 1 + 1)) = y ^ 3 / 2 ^ (32 * 3) := by
            have := dv_drop p 6 H2.out.2.2.1 (by rw [H2.out.2.1]; omega)
            rw [H2.out.2.2.2.1] at this
            exact this.symm
          obtain ⟨u, hu⟩ : ∃ u, u = y ^ 3 / 2 ^ (32 * 3) := ⟨_, rfl⟩
          rw [hw, ← hu]
          have hf := R.out.1
          rw [← hu] at hf
          clear hw hu
          by_cases hlt : u < prime
          · rw [if_pos hlt] at hf
            have R2 := Lib.hid hf
            have t3 : decide (u < prime) = true := by simpa using hlt
            clear hf hlt
            go_wp2
            go_roundw
            case rel => exact ⟨j, y, rfl, by rw [← R.out.2.2.1]; go_num, by omega, by rw [← R.out.2.2.1]; exact hy1, R2.out, R.out.2.1.trans (H2.out.2.2.2.2.mono R.out.2.1.size)⟩
            case measure => (simp [intOf]) <;> omega
          · rw [if_neg hlt] at hf
            have R2 := Lib.hid hf
            have t3 : decide (u < prime) = false := by simpa using hlt
            clear hf hlt
            go_wp2
            go_roundw
            case rel => exact ⟨j, x, rfl, by rw [← R.out.2.2.1]; go_num, by omega, by rw [← R.out.2.2.1]; omega, R2.out, R.out.2.1.trans (H2.out.2.2.2.2.mono R.out.2.1.size)⟩
            case measure => (simp [intOf]) <;> omega
end Go.Proofs.Ytnjiflkbgpbchaa
