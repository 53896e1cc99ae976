/-
  The contracts of the document's own answers for layer 4 (little, Put, Next) over this seat's translation. Conditions: a number below 2^64.
-/
import Derived.Test.YtpneccbeccgfmaaDoorFixR
import Derived.Test.YtpneccbeccgfmaaDoorComM
import Derived.Deep.RegionHeldLaw
namespace Go.Proofs.YtpneccbeccgfmaaDoor
open Go.RowKit Go.Sort

theorem data_cons' (s : ByteArray) (h0 : 0 < s.size) : s.data.toList = s[0] :: s.data.toList.tail := by
  have h : 0 < s.data.toList.length := by simpa using h0
  have e : s[0] = s.data.toList[0] := rfl
  have g : ∀ (l : List UInt8) (hl : 0 < l.length), l = l[0] :: l.tail := by
    intro l hl
    cases l with
    | nil => simp at hl
    | cons b m => rfl
  rw [e]
  exact g _ h

theorem refLittle_any (n k : Nat) (w : World) (hn : n < 18446744073709551616) (h8 : k ≤ 8) (hk : digs n ≤ k) :
    Calls Tryd.prog 21 #[.int .u64 n, .int .i64 k] w fun e w' => e = .returned (.string (bs (lo n k))) ∧ Below w.heap.size w w' := by
  have hz : (bs (lo n k).reverse).size ≤ 8 := by rw [bs_size]; simp [lo_length]; exact h8
  have he : bs (bs (lo n k).reverse).data.toList.reverse = bs (lo n k) := by rw [bs_list, List.reverse_reverse]
  have HE := Lib.hid he
  clear he
  go_enter Tryd.func21, Tryd.ntmps21
  go_wp2_with fail
  refine (refBig_ok n k _ hn h8 hk).mono ?_
  rintro e w1 ⟨rfl, b1⟩
  have B1 := Lib.hid b1
  clear b1
  go_wp2_with fail
  refine (refTurned_any _ hz _).mono ?_
  rw [HE.out]
  rintro e w2 ⟨rfl, rfl⟩
  go_wp2
  go_ret
  exact ⟨rfl, B1.out⟩

theorem head_join (n x k : Nat) (hx : x = head n) (hk : k = hind x) : bs [UInt8.ofNat x] ++ bs (lo n k) = bs (cputs n) := by
  rw [bs_append, cputs, ← hx, ← hk]; rfl

theorem refPut_small (n : Nat) (w : World) (hn : n ≤ 252) :
    Calls Tryd.prog 9 #[.int .u64 n] w fun e w' => e = .returned (.string (bs (cputs n))) ∧ Below w.heap.size w w' := by
  have hone := one_byte w (n : Int) (by omega) (by omega)
  rw [Int.toNat_natCast, ← cputs_small (by omega)] at hone
  have t1 : decide ((n : Int) < 253) = true := by simp; omega
  go_enter Tryd.func9, Tryd.ntmps9
  go_wp2
  go_ret
  exact ⟨rfl, (Below.refl _ _).alloc (Nat.le_refl _) _⟩

theorem refPut_big (n x k : Nat) (w : World) (h0 : 252 < n) (hn : n < 18446744073709551616) (hx : x = head n) (hk : k = hind x) :
    Calls Tryd.prog 9 #[.int .u64 n] w fun e w' => e = .returned (.string (bs (cputs n))) ∧ Below w.heap.size w w' := by
  have hd : digs n ≤ k := by rw [hk, hx]; exact digs_hind h0 hn
  have hj := head_join n x k hx hk
  have h8 : k ≤ 8 := by rw [hk]; exact hind_le x
  have hz : (bs (lo n k)).size ≤ 8 := by rw [bs_size, lo_length]; omega
  have hl := refLittle_any n k w hn h8 hd
  have t1 : decide ((n : Int) < 253) = false := by simp; omega
  have HL := Lib.hid hl
  have HJ := Lib.hid hj
  clear hl hj hd h8
  by_cases h2 : n < 65536
  · have hh : head n = 253 := by unfold head; rw [if_neg (by omega), if_pos (by omega)]
    have t2 : decide ((n : Int) < 65536) = true := by simp; omega
    obtain rfl : x = 253 := by rw [hx, hh]
    obtain rfl : k = 2 := by rw [hk]; rfl
    clear hh h2 hn h0 hx hk
    go_enter Tryd.func9, Tryd.ntmps9
    go_wp2_with fail
    refine HL.out.mono ?_
    rintro e w1 ⟨rfl, b1⟩
    have B1 := Lib.hid b1
    clear b1
    go_wp2
    go_ret
    exact ⟨by rw [← HJ.out]; rfl, B1.out⟩
  · have t2 : decide ((n : Int) < 65536) = false := by simp; omega
    by_cases h3 : n < 4294967296
    · have hh : head n = 254 := by unfold head; rw [if_neg (by omega), if_neg (by omega), if_pos (by omega)]
      have t3 : decide ((n : Int) < 4294967296) = true := by simp; omega
      obtain rfl : x = 254 := by rw [hx, hh]
      obtain rfl : k = 4 := by rw [hk]; rfl
      clear hh h2 h3 hn h0 hx hk
      go_enter Tryd.func9, Tryd.ntmps9
      go_wp2_with fail
      refine HL.out.mono ?_
      rintro e w1 ⟨rfl, b1⟩
      have B1 := Lib.hid b1
      clear b1
      go_wp2
      go_ret
      exact ⟨by rw [← HJ.out]; rfl, B1.out⟩
    · have t3 : decide ((n : Int) < 4294967296) = false := by simp; omega
      have hh : head n = 255 := by unfold head; rw [if_neg (by omega), if_neg (by omega), if_neg (by omega)]
      obtain rfl : x = 255 := by rw [hx, hh]
      obtain rfl : k = 8 := by rw [hk]; rfl
      clear hh h2 h3 hn h0 hx hk
      go_enter Tryd.func9, Tryd.ntmps9
      go_wp2_with fail
      refine HL.out.mono ?_
      rintro e w1 ⟨rfl, b1⟩
      have B1 := Lib.hid b1
      clear b1
      go_wp2
      go_ret
      exact ⟨by rw [← HJ.out]; rfl, B1.out⟩

theorem refPut_any (n : Nat) (w : World) (hn : n < 18446744073709551616) :
    Calls Tryd.prog 9 #[.int .u64 n] w fun e w' => e = .returned (.string (bs (cputs n))) ∧ Below w.heap.size w w' := by
  by_cases h : n ≤ 252
  · exact refPut_small n w h
  · exact refPut_big n _ _ w (by omega) hn rfl rfl

theorem refNext_none (w : World) :
    Calls Tryd.prog 10 #[.string ByteArray.empty] w fun e w' => e = .returned (.tuple #[.int .u64 0, .int .i64 0, .int .i64 2]) ∧ Below w.heap.size w w' := by
  go_enter Tryd.func10, Tryd.ntmps10
  go_wp2
  go_ret3
  exact ⟨rfl, Below.refl _ _⟩

theorem refNext_short (s : ByteArray) (x : Nat) (w : World) (h0 : 0 < s.size) (hx : s[0].toNat = x) (hl : s.size < 1 + hind x) :
    Calls Tryd.prog 10 #[.string s] w fun e w' => e = .returned (.tuple #[.int .u64 0, .int .i64 0, .int .i64 2]) ∧ Below w.heap.size w w' := by
  have hx1 : x < 256 := by rw [← hx]; exact s[0].toNat_lt
  have hne := str_ne_of (s := s) (by omega)
  have h4 : x = 253 ∨ x = 254 ∨ x = 255 := by
    rcases Nat.lt_or_ge 252 x with h | h
    · omega
    · rw [hind_small h] at hl; omega
  rcases h4 with rfl | rfl | rfl
  · have t1 : (s.size : Int) < 3 := by have : hind 253 = 2 := rfl; omega
    clear hl
    go_enter Tryd.func10, Tryd.ntmps10
    go_wp2
    go_ret3
    exact ⟨rfl, Below.refl _ _⟩
  · have t1 : (s.size : Int) < 5 := by have : hind 254 = 4 := rfl; omega
    clear hl
    go_enter Tryd.func10, Tryd.ntmps10
    go_wp2
    go_ret3
    exact ⟨rfl, Below.refl _ _⟩
  · have t1 : (s.size : Int) < 9 := by have : hind 255 = 8 := rfl; omega
    clear hl
    go_enter Tryd.func10, Tryd.ntmps10
    go_wp2
    go_ret3
    exact ⟨rfl, Below.refl _ _⟩

set_option maxHeartbeats 1000000 in
theorem refNext_small (s : ByteArray) (x : Nat) (w : World) (h0 : 0 < s.size) (hx : s[0].toNat = x) (hs : x ≤ 252) :
    Calls Tryd.prog 10 #[.string s] w fun e w' => e = .returned (.tuple #[.int .u64 x, .int .i64 1, .int .i64 0]) ∧ Below w.heap.size w w' := by
  have hne := str_ne_of (s := s) (by omega)
  have t1 : ((x : Int) == 253) = false := by simp; omega
  have t2 : ((x : Int) == 254) = false := by simp; omega
  have t3 : ((x : Int) == 255) = false := by simp; omega
  have hl : decide ((s.size : Int) < 1) = false := by simp; omega
  have hp : ∀ W, Calls Tryd.prog 9 #[.int .u64 x] W fun e w' => e = .returned (.string (bs [UInt8.ofNat x])) ∧ Below W.heap.size W w' := fun W => by
    have := refPut_any x W (by omega)
    rwa [cputs_small hs] at this
  have hz : (bs [UInt8.ofNat x]).size ≤ 1 := Nat.le_refl 1
  have he : s.extract 0 1 = bs [UInt8.ofNat x] := by
    have hb : s.data.toList[0]'(by simpa using h0) = UInt8.ofNat x := by
      apply UInt8.toNat_inj.1
      rw [u8_toNat_ofNat, ← hx]
      exact (Nat.mod_eq_of_lt s[0].toNat_lt).symm
    have := extract_one s 0 h0
    rw [hb] at this
    exact this
  have HP := Lib.hid hp
  clear hp
  have i1 : (1 : Int) ≤ (s.size : Int) := by omega
  go_enter Tryd.func10, Tryd.ntmps10
  go_wp2_with fail
  go_region_held_law (fun _ => True) (first | exact trivial) (first | (go_at_call 9; refine (HP.out _).mono ?_; rintro e w2 ⟨rfl, b2⟩))
  all_goals
    have B2 := Lib.hid b2
    clear b2
    go_wp2
    go_ret3
    refine ⟨rfl, ?_⟩
    exact ⟨B2.out.os, B2.out.tape, B2.out.output, B2.out.size, B2.out.block⟩

/-- What the document's Next answers of bytes that are long enough. -/
def toldBy (n x m y : Nat) : Value := if y = x then .tuple #[.int .u64 n, .int .i64 m, .int .i64 0] else .tuple #[.int .u64 0, .int .i64 0, .int .i64 3]

set_option maxHeartbeats 1000000 in
theorem refNext_big (s : ByteArray) (x k m n y : Nat) (w : World) (h0 : 0 < s.size) (hx : s[0].toNat = x) (hs : 252 < x) (hk : k = hind x) (hm : m = 1 + k) (hl : m ≤ s.size) (hn : n = num (s.data.toList.tail.take k)) (hy : y = head n) :
    Calls Tryd.prog 10 #[.string s] w fun e w' => e = .returned (toldBy n x m y) ∧ Below w.heap.size w w' := by
  have hx1 : x < 256 := by rw [← hx]; exact s[0].toNat_lt
  have h8 : k ≤ 8 := by rw [hk]; exact hind_le x
  have hne := str_ne_of (s := s) (by omega)
  have hz1 : (s.extract 1 m).size ≤ 8 := by simp; omega
  have hd : (s.extract 1 m).data.toList = s.data.toList.tail.take k := by rw [Lib.extract_data, hm]; simp
  have hz2 : (bs (s.extract 1 m).data.toList.reverse).size ≤ 8 := by rw [bs_size, List.length_reverse, Array.length_toList]; exact hz1
  have hnum : be (bs (s.extract 1 m).data.toList.reverse).data.toList = n := by rw [bs_list, be_reverse, hd, hn]
  have hn64 : n < 18446744073709551616 := by rw [hn]; exact num_lt8 (by simp; omega)
  obtain ⟨T, hTe⟩ : ∃ T, T = bs (s.extract 1 m).data.toList.reverse := ⟨_, rfl⟩
  have hT : ∀ W, Calls Tryd.prog 23 #[.string (s.extract 1 m)] W fun e w' => e = .returned (.string T) ∧ W = w' := by rw [hTe]; exact fun W => refTurned_any _ hz1 W
  have hN : ∀ W, Calls Tryd.prog 22 #[.string T] W fun e w' => e = .returned (.int .u64 n) ∧ W = w' := fun W => by
    have := refNumber_any _ hz2 W
    rwa [hnum, ← hTe] at this
  have hP : ∀ W, Calls Tryd.prog 9 #[.int .u64 n] W fun e w' => e = .returned (.string (bs (cputs n))) ∧ Below W.heap.size W w' := fun W => refPut_any n W hn64
  have hlen : (s.data.toList.tail).length = s.size - 1 := by simp
  have he : (s.extract 0 m).data.toList = s[0] :: s.data.toList.tail.take k := by
    rw [Lib.extract_data]
    conv => lhs; rw [data_cons' s h0]
    rw [show m - 0 = k + 1 by omega, List.drop_zero, List.take_succ_cons]
  have hq := cputs_eq s[0] s.data.toList.tail (by rw [hx, hlen, ← hk]; omega)
  have hc : cnum s[0].toNat s.data.toList.tail = n := by unfold cnum; rw [hx, if_neg (by omega), ← hk, hn]
  rw [hc, hx, ← hk, ← he, ← hy] at hq
  have hb1 : y = x → s.extract 0 m = bs (cputs n) := fun h => by rw [hq.2 h, bs_of]
  have hb2 : y ≠ x → ((bs (cputs n)).toList == (s.extract 0 m).toList) = false := fun h => by
    rw [ByteArray.toList_eq, ByteArray.toList_eq, bs_list]
    exact beq_eq_false_iff_ne.2 fun e => h (hq.1 e)
  have hzp : (bs (cputs n)).size ≤ 9 := by rw [bs_size]; exact cputs_le9 n
  have HT := Lib.hid hT
  have HN := Lib.hid hN
  have HP := Lib.hid hP
  have HB1 := Lib.hid hb1
  have HB2 := Lib.hid hb2
  have h4 : x = 253 ∧ m = 3 ∨ x = 254 ∧ m = 5 ∨ x = 255 ∧ m = 9 := by
    have : x = 253 ∨ x = 254 ∨ x = 255 := by omega
    rcases this with rfl | rfl | rfl
    · exact .inl ⟨rfl, by rw [hm, hk]; rfl⟩
    · exact .inr (.inl ⟨rfl, by rw [hm, hk]; rfl⟩)
    · exact .inr (.inr ⟨rfl, by rw [hm, hk]; rfl⟩)
  have i2 : (m : Int) ≤ (s.size : Int) := by omega
  clear hz1 hz2 hT hN hP hd hnum hn64 hn he hq hc hb1 hb2 hlen hy hs hx1 h8 hl hm hk hTe
  rcases h4 with ⟨rfl, rfl⟩ | ⟨rfl, rfl⟩ | ⟨rfl, rfl⟩
  · have i3 : (3 : Int) ≤ (s.size : Int) := i2
    have t1 : decide ((s.size : Int) < 3) = false := by simp; omega
    clear i2
    by_cases he : y = 253
    · have hb := HB1.out he
      have HE := Lib.hid he
      clear he
      go_enter Tryd.func10, Tryd.ntmps10
      go_wp2_with fail
      refine (HT.out _).mono ?_
      rintro e w1 ⟨rfl, rfl⟩
      go_wp2_with fail
      refine (HN.out _).mono ?_
      rintro e w1 ⟨rfl, rfl⟩
      go_wp2_with fail
      go_region_held_law (fun _ => True) (first | exact trivial) (first | (go_at_call 9; refine (HP.out _).mono ?_; rintro e w2 ⟨rfl, b2⟩))
      all_goals
        have B2 := Lib.hid b2
        clear b2
        go_wp2
        go_ret3
        refine ⟨by rw [toldBy, if_pos HE.out]; rfl, ?_⟩
        exact ⟨B2.out.os, B2.out.tape, B2.out.output, B2.out.size, B2.out.block⟩
    · have hb := HB2.out he
      have HE := Lib.hid he
      clear he
      go_enter Tryd.func10, Tryd.ntmps10
      go_wp2_with fail
      refine (HT.out _).mono ?_
      rintro e w1 ⟨rfl, rfl⟩
      go_wp2_with fail
      refine (HN.out _).mono ?_
      rintro e w1 ⟨rfl, rfl⟩
      go_wp2_with fail
      go_region_held_law (fun _ => True) (first | exact trivial) (first | (go_at_call 9; refine (HP.out _).mono ?_; rintro e w2 ⟨rfl, b2⟩))
      all_goals
        have B2 := Lib.hid b2
        clear b2
        go_wp2
        go_ret3
        refine ⟨by rw [toldBy, if_neg HE.out]; rfl, ?_⟩
        exact ⟨B2.out.os, B2.out.tape, B2.out.output, B2.out.size, B2.out.block⟩
  · have i3 : (5 : Int) ≤ (s.size : Int) := i2
    have t1 : decide ((s.size : Int) < 5) = false := by simp; omega
    clear i2
    by_cases he : y = 254
    · have hb := HB1.out he
      have HE := Lib.hid he
      clear he
      go_enter Tryd.func10, Tryd.ntmps10
      go_wp2_with fail
      refine (HT.out _).mono ?_
      rintro e w1 ⟨rfl, rfl⟩
      go_wp2_with fail
      refine (HN.out _).mono ?_
      rintro e w1 ⟨rfl, rfl⟩
      go_wp2_with fail
      go_region_held_law (fun _ => True) (first | exact trivial) (first | (go_at_call 9; refine (HP.out _).mono ?_; rintro e w2 ⟨rfl, b2⟩))
      all_goals
        have B2 := Lib.hid b2
        clear b2
        go_wp2
        go_ret3
        refine ⟨by rw [toldBy, if_pos HE.out]; rfl, ?_⟩
        exact ⟨B2.out.os, B2.out.tape, B2.out.output, B2.out.size, B2.out.block⟩
    · have hb := HB2.out he
      have HE := Lib.hid he
      clear he
      go_enter Tryd.func10, Tryd.ntmps10
      go_wp2_with fail
      refine (HT.out _).mono ?_
      rintro e w1 ⟨rfl, rfl⟩
      go_wp2_with fail
      refine (HN.out _).mono ?_
      rintro e w1 ⟨rfl, rfl⟩
      go_wp2_with fail
      go_region_held_law (fun _ => True) (first | exact trivial) (first | (go_at_call 9; refine (HP.out _).mono ?_; rintro e w2 ⟨rfl, b2⟩))
      all_goals
        have B2 := Lib.hid b2
        clear b2
        go_wp2
        go_ret3
        refine ⟨by rw [toldBy, if_neg HE.out]; rfl, ?_⟩
        exact ⟨B2.out.os, B2.out.tape, B2.out.output, B2.out.size, B2.out.block⟩
  · have i3 : (9 : Int) ≤ (s.size : Int) := i2
    have t1 : decide ((s.size : Int) < 9) = false := by simp; omega
    clear i2
    by_cases he : y = 255
    · have hb := HB1.out he
      have HE := Lib.hid he
      clear he
      go_enter Tryd.func10, Tryd.ntmps10
      go_wp2_with fail
      refine (HT.out _).mono ?_
      rintro e w1 ⟨rfl, rfl⟩
      go_wp2_with fail
      refine (HN.out _).mono ?_
      rintro e w1 ⟨rfl, rfl⟩
      go_wp2_with fail
      go_region_held_law (fun _ => True) (first | exact trivial) (first | (go_at_call 9; refine (HP.out _).mono ?_; rintro e w2 ⟨rfl, b2⟩))
      all_goals
        have B2 := Lib.hid b2
        clear b2
        go_wp2
        go_ret3
        refine ⟨by rw [toldBy, if_pos HE.out]; rfl, ?_⟩
        exact ⟨B2.out.os, B2.out.tape, B2.out.output, B2.out.size, B2.out.block⟩
    · have hb := HB2.out he
      have HE := Lib.hid he
      clear he
      go_enter Tryd.func10, Tryd.ntmps10
      go_wp2_with fail
      refine (HT.out _).mono ?_
      rintro e w1 ⟨rfl, rfl⟩
      go_wp2_with fail
      refine (HN.out _).mono ?_
      rintro e w1 ⟨rfl, rfl⟩
      go_wp2_with fail
      go_region_held_law (fun _ => True) (first | exact trivial) (first | (go_at_call 9; refine (HP.out _).mono ?_; rintro e w2 ⟨rfl, b2⟩))
      all_goals
        have B2 := Lib.hid b2
        clear b2
        go_wp2
        go_ret3
        refine ⟨by rw [toldBy, if_neg HE.out]; rfl, ?_⟩
        exact ⟨B2.out.os, B2.out.tape, B2.out.output, B2.out.size, B2.out.block⟩

theorem refNext_is (s : ByteArray) (a k f : Nat) (h : cnx s.data.toList = (a, k, f)) (w : World) :
    Calls Tryd.prog 10 #[.string s] w fun e w' => e = .returned (.tuple #[.int .u64 a, .int .i64 k, .int .i64 f]) ∧ Below w.heap.size w w' := by
  by_cases h0 : s.size = 0
  · have : s = ByteArray.empty := ByteArray.ext (Array.eq_empty_of_size_eq_zero h0)
    subst this
    simp only [cnx, ByteArray.data_empty, Array.toList_empty, Prod.mk.injEq] at h
    obtain ⟨rfl, rfl, rfl⟩ := h
    exact refNext_none w
  · have hp : 0 < s.size := by omega
    rw [data_cons' s hp, cnx] at h
    have hlen : s.data.toList.tail.length = s.size - 1 := by simp
    rw [hlen] at h
    by_cases h1 : s.size - 1 < hind s[0].toNat
    · rw [if_pos h1] at h
      simp only [Prod.mk.injEq] at h
      obtain ⟨rfl, rfl, rfl⟩ := h
      exact refNext_short s _ w hp rfl (by omega)
    · rw [if_neg h1] at h
      by_cases h3 : s[0].toNat ≤ 252
      · have hc : cnum s[0].toNat s.data.toList.tail = s[0].toNat := by unfold cnum; rw [if_pos h3]
        rw [hc, head_small h3, if_pos rfl, hind_small h3] at h
        simp only [Prod.mk.injEq] at h
        obtain ⟨rfl, rfl, rfl⟩ := h
        exact refNext_small s _ w hp rfl h3
      · have hc : cnum s[0].toNat s.data.toList.tail = num (s.data.toList.tail.take (hind s[0].toNat)) := by unfold cnum; rw [if_neg h3]
        have := refNext_big s _ _ _ _ _ w hp rfl (by omega) rfl rfl (by omega) rfl rfl
        rw [hc] at h
        unfold toldBy at this
        by_cases h2 : head (num (s.data.toList.tail.take (hind s[0].toNat))) = s[0].toNat
        · rw [if_pos h2] at h this
          simp only [Prod.mk.injEq] at h
          obtain ⟨rfl, rfl, rfl⟩ := h
          exact this
        · rw [if_neg h2] at h this
          simp only [Prod.mk.injEq] at h
          obtain ⟨rfl, rfl, rfl⟩ := h
          exact this
end Go.Proofs.YtpneccbeccgfmaaDoor
