/-
  The contracts of package compact's Put and Next over this seat's translation. Conditions: a number below 2^64; the table of sizes is in memory as the program's text lays it.
-/
import Derived.Test.YtpneccbeccgfmaaDoorComA
namespace Go.Proofs.YtpneccbeccgfmaaDoor
open Go.RowKit Go.Sort

theorem put_small (n : Nat) (w : World) (hn : n ≤ 252) :
    Calls Tryd.prog 7 #[.int .u64 n] w fun e w' => e = .returned (.string (bs (cputs n))) ∧ Below w.heap.size w w' := by
  have hb : Calls Tryd.prog 17 #[.int .u64 n] w fun e w' => e = .returned (.int .u8 n) ∧ w = w' := by
    have := first_any n w (by omega)
    rwa [head_small hn] at this
  have hone := one_byte w (n : Int) (by omega) (by omega)
  rw [Int.toNat_natCast, ← cputs_small hn] at hone
  have HB := Lib.hid hb
  clear hb
  go_enter Tryd.func7, Tryd.ntmps7
  go_wp2_with fail
  refine HB.out.mono ?_
  rintro e w' ⟨rfl, rfl⟩
  go_wp2
  go_ret
  exact ⟨rfl, (Below.refl _ _).alloc (Nat.le_refl _) _⟩

theorem put_big (n : Nat) (w : World) (h0 : 252 < n) (hn : n < 18446744073709551616) (h : Tab w) :
    Calls Tryd.prog 7 #[.int .u64 n] w fun e w' => e = .returned (.string (bs (cputs n))) ∧ Below w.heap.size w w' := by
  obtain ⟨x, hx⟩ : ∃ x, x = head n := ⟨_, rfl⟩
  obtain ⟨k, hk⟩ : ∃ k, k = hind x := ⟨_, rfl⟩
  have hx0 : 252 < x := by rw [hx]; exact head_big h0
  have hx1 : x < 256 := by rw [hx]; exact head_lt n
  have h2 : 2 ≤ k := by rw [hk]; exact hind_big hx0
  have h8 : k ≤ 8 := by rw [hk]; exact hind_le x
  have hd : digs n ≤ k := by rw [hk, hx]; exact digs_hind h0 hn
  have hf : Calls Tryd.prog 17 #[.int .u64 n] w fun e w' => e = .returned (.int .u8 x) ∧ w = w' := by rw [hx]; exact first_any n w hn
  have hb : ∀ W, Tab W → Calls Tryd.prog 19 #[.int .u8 x] W fun e w' => e = .returned (.int .i64 k) ∧ W = w' := by rw [hk]; exact fun W => behind_any x W hx1
  have hone := one_byte w (x : Int) (by omega) (by omega)
  rw [Int.toNat_natCast] at hone
  have hp : bs [UInt8.ofNat x] ++ bs (lo n k) = bs (cputs n) := by rw [bs_append, cputs, ← hx, ← hk]; rfl
  have z1 : (bs [UInt8.ofNat x]).size ≤ 1 := Nat.le_refl 1
  have z2 : (bs (lo n k)).size ≤ 8 := by rw [bs_size, lo_length]; exact h8
  have HF := Lib.hid hf
  have HB := Lib.hid hb
  have HP := Lib.hid hp
  have H := Lib.hid h
  clear hf hb hp hx hk h
  go_enter Tryd.func7, Tryd.ntmps7
  go_wp2_with fail
  refine HF.out.mono ?_
  rintro e w' ⟨rfl, rfl⟩
  go_wp2_with fail
  refine (HB.out _ (H.out.keep (Below.heap_alloc w _ _ H.out.lt))).mono ?_
  rintro e w' ⟨rfl, rfl⟩
  go_wp2_with fail
  refine (little_ok n k _ hn (by omega) h8 hd).mono ?_
  rintro e w1 ⟨rfl, b1⟩
  have B1 := Lib.hid b1
  clear b1
  go_wp2
  go_ret
  exact ⟨by rw [← HP.out]; rfl, below_then ((Below.refl _ _).alloc (Nat.le_refl _) _) B1.out⟩

theorem put_any (n : Nat) (w : World) (hn : n < 18446744073709551616) (h : Tab w) :
    Calls Tryd.prog 7 #[.int .u64 n] w fun e w' => e = .returned (.string (bs (cputs n))) ∧ Below w.heap.size w w' := by
  by_cases hs : n ≤ 252
  · exact put_small n w hs
  · exact put_big n w (by omega) hn h

theorem next_none (w : World) :
    Calls Tryd.prog 8 #[.string ByteArray.empty] w fun e w' => e = .returned (.tuple #[.int .u64 0, .int .i64 0, .int .i64 2]) ∧ Below w.heap.size w w' := by
  go_enter Tryd.func8, Tryd.ntmps8
  go_wp2
  go_ret3
  exact ⟨rfl, Below.refl _ _⟩

theorem next_short (s : ByteArray) (x k : Nat) (w : World) (h : Tab w) (h0 : 0 < s.size) (hx : s[0].toNat = x) (hk : k = hind x) (hl : s.size < 1 + k) :
    Calls Tryd.prog 8 #[.string s] w fun e w' => e = .returned (.tuple #[.int .u64 0, .int .i64 0, .int .i64 2]) ∧ Below w.heap.size w w' := by
  have hx1 : x < 256 := by rw [← hx]; exact s[0].toNat_lt
  have h8 : k ≤ 8 := by rw [hk]; exact hind_le x
  have hb : ∀ W, Tab W → Calls Tryd.prog 19 #[.int .u8 x] W fun e w' => e = .returned (.int .i64 k) ∧ W = w' := by rw [hk]; exact fun W => behind_any x W hx1
  have hne := str_ne_of (s := s) (by omega)
  have t1 : decide ((s.size : Int) < 1 + (k : Int)) = true := by simp; omega
  have HB := Lib.hid hb
  have H := Lib.hid h
  clear hb h hk
  go_enter Tryd.func8, Tryd.ntmps8
  go_wp2_with fail
  refine (HB.out _ H.out).mono ?_
  rintro e w' ⟨rfl, rfl⟩
  go_wp2
  go_ret3
  exact ⟨rfl, Below.refl _ _⟩

theorem next_long (s : ByteArray) (x k n y : Nat) (w : World) (h : Tab w) (h0 : 0 < s.size) (hx : s[0].toNat = x) (hk : k = hind x) (hl : 1 + k ≤ s.size) (hn : n = cnum x s.data.toList.tail) (hy : y = head n) :
    Calls Tryd.prog 8 #[.string s] w fun e w' => e = .returned (if y = x then .tuple #[.int .u64 n, .int .i64 ((1 + k : Nat) : Int), .int .i64 0] else .tuple #[.int .u64 0, .int .i64 0, .int .i64 3]) ∧ Below w.heap.size w w' := by
  have hx1 : x < 256 := by rw [← hx]; exact s[0].toNat_lt
  have h8 : k ≤ 8 := by rw [hk]; exact hind_le x
  have hb : ∀ W, Tab W → Calls Tryd.prog 19 #[.int .u8 x] W fun e w' => e = .returned (.int .i64 k) ∧ W = w' := by rw [hk]; exact fun W => behind_any x W hx1
  have hu : Calls Tryd.prog 20 #[.string s] w fun e w' => e = .returned (.int .u64 n) ∧ Below w.heap.size w w' := by rw [hn]; exact number_any s x w h h0 hx (by rw [← hk]; omega)
  have hf : ∀ W, Calls Tryd.prog 17 #[.int .u64 n] W fun e w' => e = .returned (.int .u8 y) ∧ W = w' := by rw [hy]; exact fun W => first_any n W (by rw [hn]; exact cnum_lt _ _)
  have hne := str_ne_of (s := s) (by omega)
  have t1 : decide ((s.size : Int) < 1 + (k : Int)) = false := by simp; omega
  have HB := Lib.hid hb
  have HU := Lib.hid hu
  have HF := Lib.hid hf
  have H := Lib.hid h
  have HL := Lib.hid hl
  clear hb hu hf h hk hn hy hl
  by_cases he : y = x
  · rw [if_pos he]
    subst he
    have t2 : ((y : Int) != (y : Int)) = false := by simp
    go_enter Tryd.func8, Tryd.ntmps8
    go_wp2_with fail
    refine (HB.out _ H.out).mono ?_
    rintro e w' ⟨rfl, rfl⟩
    go_wp2_with fail
    refine HU.out.mono ?_
    rintro e w1 ⟨rfl, b1⟩
    have B1 := Lib.hid b1
    clear b1
    go_wp2_with fail
    go_quiet ((go_at_call 17; exact Calls.quiet_of_same ((HF.out _).mono fun _ _ ⟨h1, h2⟩ => ⟨h1, h2.symm⟩)))
    go_wp2_with fail
    refine (HB.out _ ((H.out.bel B1.out).drewN _)).mono ?_
    rintro e w' ⟨rfl, rfl⟩
    go_wp2
    go_ret3
    exact ⟨rfl, below_drewN B1.out _⟩
  · rw [if_neg he]
    have t2 : ((y : Int) != (x : Int)) = true := by simp; omega
    clear he
    go_enter Tryd.func8, Tryd.ntmps8
    go_wp2_with fail
    refine (HB.out _ H.out).mono ?_
    rintro e w' ⟨rfl, rfl⟩
    go_wp2_with fail
    refine HU.out.mono ?_
    rintro e w1 ⟨rfl, b1⟩
    have B1 := Lib.hid b1
    clear b1
    go_wp2_with fail
    go_quiet ((go_at_call 17; exact Calls.quiet_of_same ((HF.out _).mono fun _ _ ⟨h1, h2⟩ => ⟨h1, h2.symm⟩)))
    go_wp2
    go_ret3
    exact ⟨rfl, below_drewN B1.out _⟩

theorem next_is (s : ByteArray) (a k f : Nat) (h : cnx s.data.toList = (a, k, f)) (w : World) (ht : Tab w) :
    Calls Tryd.prog 8 #[.string s] w fun e w' => e = .returned (.tuple #[.int .u64 a, .int .i64 k, .int .i64 f]) ∧ Below w.heap.size w w' := by
  by_cases h0 : s.size = 0
  · have : s = ByteArray.empty := ByteArray.ext (Array.eq_empty_of_size_eq_zero h0)
    subst this
    simp only [cnx, ByteArray.data_empty, Array.toList_empty, Prod.mk.injEq] at h
    obtain ⟨rfl, rfl, rfl⟩ := h
    exact next_none w
  · have hp : 0 < s.size := by omega
    rw [data_cons s hp, cnx] at h
    have hlen : s.data.toList.tail.length = s.size - 1 := by simp
    rw [hlen] at h
    by_cases h1 : s.size - 1 < hind s[0].toNat
    · rw [if_pos h1] at h
      simp only [Prod.mk.injEq] at h
      obtain ⟨rfl, rfl, rfl⟩ := h
      exact next_short s _ _ w ht hp rfl rfl (by omega)
    · rw [if_neg h1] at h
      have := next_long s _ _ _ _ w ht hp rfl rfl (by omega) rfl rfl
      by_cases h2 : head (cnum s[0].toNat s.data.toList.tail) = s[0].toNat
      · rw [if_pos h2] at h this
        simp only [Prod.mk.injEq] at h
        obtain ⟨rfl, rfl, rfl⟩ := h
        exact this
      · rw [if_neg h2] at h this
        simp only [Prod.mk.injEq] at h
        obtain ⟨rfl, rfl, rfl⟩ := h
        exact this
end Go.Proofs.YtpneccbeccgfmaaDoor
