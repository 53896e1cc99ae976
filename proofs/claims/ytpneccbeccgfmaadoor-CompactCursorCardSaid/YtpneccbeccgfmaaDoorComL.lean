/-
  For every number and text CompactPuts answers true, for every text and cut CompactReads does. Conditions: a number is a uint64; a text has at most maxLen bytes; the table of sizes is in memory as the program's text lays it.
-/
import Derived.Test.YtpneccbeccgfmaaDoorComB
import Derived.Test.YtpneccbeccgfmaaDoorComR
namespace Go.Proofs.YtpneccbeccgfmaaDoor
open Go.RowKit Go.Sort

theorem cputs_253 : bs (cputs 253) = ⟨#[253, 253, 0]⟩ := rfl

theorem alive_any (w : World) (h : Tab w) : Calls Tryd.prog 6 #[] w fun e w' => e = .returned (.bool true) ∧ Below w.heap.size w w' := by
  have H := Lib.hid h
  clear h
  go_enter Tryd.func6, Tryd.ntmps6
  go_wp2_with fail
  refine (next_is _ 0 0 3 rfl _ H.out).mono ?_
  rintro e w1 ⟨rfl, b1⟩
  have B1 := Lib.hid b1
  clear b1
  go_wp2_with fail
  refine (put_any 253 _ (by omega) (H.out.bel B1.out)).mono ?_
  rw [cputs_253]
  rintro e w2 ⟨rfl, b2⟩
  have B2 := Lib.hid (below_then B1.out b2)
  clear b2
  go_wp2
  go_ret
  exact ⟨rfl, B2.out⟩

theorem compactPuts_big (n : Nat) (s : ByteArray) (w : World) (h : Tab w) (hs : 100 < s.size) (hm : s.size ≤ maxLen) :
    Calls Tryd.prog 3 #[.int .u64 n, .string s] w fun e w' => e = .returned (.bool true) ∧ Below w.heap.size w w' := by
  unfold maxLen at hm
  have H := Lib.hid h
  clear h
  go_enter Tryd.func3, Tryd.ntmps3
  go_wp2_with fail
  refine (alive_any _ H.out).mono ?_
  rintro e w1 ⟨rfl, b1⟩
  have B1 := Lib.hid b1
  clear b1
  go_wp2
  go_ret
  exact ⟨rfl, B1.out⟩

theorem compactPuts_small (n : Nat) (s : ByteArray) (w : World) (h : Tab w) (hn : n < 18446744073709551616) (hs : s.size ≤ 100) :
    Calls Tryd.prog 3 #[.int .u64 n, .string s] w fun e w' => e = .returned (.bool true) ∧ Below w.heap.size w w' := by
  have hz : (bs (cputs n)).size = (cputs n).length := bs_size _
  have h9 := cputs_le9 n
  have hle : (bs (cputs n)).size ≤ 9 := by omega
  obtain ⟨k, hk⟩ : ∃ k, (cputs n).length = k := ⟨_, rfl⟩
  have hnx : cnx (bs (cputs n) ++ s).data.toList = (n, k, 0) := by
    have := cnx_puts n s.data.toList hn
    rw [hk] at this
    rw [← this]
    simp [bs]
  rw [hk] at hz h9
  have HN := Lib.hid hnx
  have HZ := Lib.hid hz
  have H := Lib.hid h
  clear hnx hk hz h
  go_enter Tryd.func3, Tryd.ntmps3
  go_wp2_with fail
  refine (alive_any _ H.out).mono ?_
  rintro e w1 ⟨rfl, b1⟩
  have B1 := Lib.hid b1
  clear b1
  go_wp2_with fail
  refine (put_any n _ hn (H.out.bel B1.out)).mono ?_
  rintro e w2 ⟨rfl, b2⟩
  have B2 := Lib.hid (below_then B1.out b2)
  clear b2
  go_wp2_with fail
  refine (next_is _ n k 0 HN.out _ (H.out.bel B2.out)).mono ?_
  rintro e w3 ⟨rfl, b3⟩
  have B3 := Lib.hid (below_then B2.out b3)
  clear b3
  go_wp2_with fail
  refine (refPut_any n _ hn).mono ?_
  rintro e w4 ⟨rfl, b4⟩
  have B4 := Lib.hid (below_then B3.out b4)
  clear b4
  have hz2 := HZ.out
  go_wp2
  go_ret
  exact ⟨rfl, B4.out⟩

theorem compactPuts_any (n : Nat) (s : ByteArray) (w : World) (h : Tab w) (hn : n < 18446744073709551616) (hm : s.size ≤ maxLen) :
    Calls Tryd.prog 3 #[.int .u64 n, .string s] w fun e w' => e = .returned (.bool true) ∧ Below w.heap.size w w' := by
  by_cases hs : 100 < s.size
  · exact compactPuts_big n s w h hs hm
  · exact compactPuts_small n s w h hn (by omega)

theorem compactReads_big (s : ByteArray) (c : Nat) (w : World) (h : Tab w) (hs : 200 < s.size) (hm : s.size ≤ maxLen) :
    Calls Tryd.prog 4 #[.string s, .int .u8 c] w fun e w' => e = .returned (.bool true) ∧ Below w.heap.size w w' := by
  unfold maxLen at hm
  have H := Lib.hid h
  clear h
  go_enter Tryd.func4, Tryd.ntmps4
  go_wp2_with fail
  refine (alive_any _ H.out).mono ?_
  rintro e w1 ⟨rfl, b1⟩
  have B1 := Lib.hid b1
  clear b1
  go_wp2
  go_ret
  exact ⟨rfl, B1.out⟩

theorem compactReads_err (s : ByteArray) (c f j g : Nat) (hf : 0 < f) (hn : cnx s.data.toList = (0, 0, f)) (hj : j = min c s.size) (hg : g = 2 ∨ g = f) (hn2 : cnx (s.extract 0 j).data.toList = (0, 0, g)) (w : World) (h : Tab w) (hs : s.size ≤ 200) (hc : c < 256) :
    Calls Tryd.prog 4 #[.string s, .int .u8 c] w fun e w' => e = .returned (.bool true) ∧ Below w.heap.size w w' := by
  have h1 : min (c : Int) (s.size : Int) = (j : Int) := by omega
  have i0 : (0 : Int) ≤ (j : Int) := by omega
  have i1 : (j : Int) ≤ (s.size : Int) := by omega
  have HN := Lib.hid hn
  have HN2 := Lib.hid hn2
  have H := Lib.hid h
  clear h hn hn2 hj
  have hf2 : ((f : Int) != 0) = true := by simp; omega
  have hf3 : ((f : Int) == 0) = false := by simp; omega
  go_enter Tryd.func4, Tryd.ntmps4
  go_wp2_with fail
  refine (alive_any _ H.out).mono ?_
  rintro e w1 ⟨rfl, b1⟩
  have B1 := Lib.hid b1
  clear b1
  go_wp2_with fail
  refine (next_is _ 0 0 f HN.out _ (H.out.bel B1.out)).mono ?_
  rintro e w2 ⟨rfl, b2⟩
  have B2 := Lib.hid (below_then B1.out b2)
  clear b2
  go_wp2_with fail
  refine (refNext_is _ 0 0 f HN.out _).mono ?_
  rintro e w3 ⟨rfl, b3⟩
  have B3 := Lib.hid (below_then B2.out b3)
  clear b3
  go_wp2_with fail
  go_region
  go_wp2_with fail
  refine (next_is _ 0 0 g HN2.out _ (H.out.bel B3.out).drew).mono ?_
  rintro e w4 ⟨rfl, b4⟩
  have B4 := Lib.hid (below_then B3.out.drew b4)
  clear b4
  rcases hg with rfl | rfl
  · go_wp2
    go_ret
    exact ⟨rfl, B4.out⟩
  · go_wp2
    all_goals
      go_ret
      exact ⟨rfl, B4.out⟩

set_option maxHeartbeats 1000000 in
theorem compactReads_ok (s : ByteArray) (c n k j x y g : Nat) (hn : cnx s.data.toList = (n, k, 0)) (hj : j = min c s.size) (hg : (x, y, g) = (0, 0, 2) ∨ (x, y, g) = (n, k, 0)) (hn2 : cnx (s.extract 0 j).data.toList = (x, y, g)) (w : World) (h : Tab w) (hs : s.size ≤ 200) (hc : c < 256) :
    Calls Tryd.prog 4 #[.string s, .int .u8 c] w fun e w' => e = .returned (.bool true) ∧ Below w.heap.size w w' := by
  obtain ⟨ht, hk, hk0, hk9, h64⟩ := cnx_told _ n k hn
  have hk2 : k ≤ s.size := by simpa using hk
  have hx : s.extract 0 k = bs (cputs n) := by
    rw [← ht]
    apply ByteArray.ext
    apply Array.toList_inj.1
    rw [Lib.extract_data]
    simp [bs]
  have h1 : min (c : Int) (s.size : Int) = (j : Int) := by omega
  have i0 : (0 : Int) ≤ (j : Int) := by omega
  have i1 : (j : Int) ≤ (s.size : Int) := by omega
  have i2 : (0 : Int) ≤ (k : Int) := by omega
  have i3 : (k : Int) ≤ (s.size : Int) := by omega
  have hle : (bs (cputs n)).size ≤ 9 := by rw [bs_size]; exact cputs_le9 n
  have HN := Lib.hid hn
  have HN2 := Lib.hid hn2
  have H := Lib.hid h
  clear h hn hn2 hj ht hk
  go_enter Tryd.func4, Tryd.ntmps4
  go_wp2_with fail
  refine (alive_any _ H.out).mono ?_
  rintro e w1 ⟨rfl, b1⟩
  have B1 := Lib.hid b1
  clear b1
  go_wp2_with fail
  refine (next_is _ n k 0 HN.out _ (H.out.bel B1.out)).mono ?_
  rintro e w2 ⟨rfl, b2⟩
  have B2 := Lib.hid (below_then B1.out b2)
  clear b2
  go_wp2_with fail
  refine (refNext_is _ n k 0 HN.out _).mono ?_
  rintro e w3 ⟨rfl, b3⟩
  have B3 := Lib.hid (below_then B2.out b3)
  clear b3
  go_wp2_with fail
  go_region_held_law (fun _ => True) (first | exact trivial) (first | (go_at_call 7; refine (put_any n _ h64 (H.out.bel B3.out).drew).mono ?_; rintro e w4 ⟨rfl, b4⟩))
  all_goals
    have B4 := Lib.hid (show Below w.heap.size w w4 from below_then B3.out ⟨b4.os, b4.tape, b4.output, b4.size, b4.block⟩)
    clear b4
    go_wp2_with fail
    refine (next_is _ x y g HN2.out _ (by first | exact H.out.bel B4.out | exact (H.out.bel B4.out).drew)).mono ?_
    rintro e w5 ⟨rfl, b5⟩
    have B5 := Lib.hid (show Below w.heap.size w w5 from below_then B4.out ⟨b5.os, b5.tape, b5.output, b5.size, b5.block⟩)
    clear b5
    rcases hg with hg | hg
    · simp only [Prod.mk.injEq] at hg
      obtain ⟨rfl, rfl, rfl⟩ := hg
      go_wp2
      go_ret
      exact ⟨rfl, B5.out⟩
    · simp only [Prod.mk.injEq] at hg
      obtain ⟨rfl, rfl, rfl⟩ := hg
      go_wp2
      all_goals
        go_ret
        exact ⟨rfl, B5.out⟩

theorem compactReads_any (s : ByteArray) (c : Nat) (w : World) (h : Tab w) (hc : c < 256) (hm : s.size ≤ maxLen) :
    Calls Tryd.prog 4 #[.string s, .int .u8 c] w fun e w' => e = .returned (.bool true) ∧ Below w.heap.size w w' := by
  by_cases hs : 200 < s.size
  · exact compactReads_big s c w h hs hm
  · have hx : (s.extract 0 (min c s.size)).data.toList = s.data.toList.take (min c s.size) := by rw [Lib.extract_data]; simp
    have ht := cnx_take s.data.toList (min c s.size)
    rw [← hx] at ht
    obtain ⟨x, y, g, hr⟩ : ∃ x y g, cnx (s.extract 0 (min c s.size)).data.toList = (x, y, g) := ⟨_, _, _, rfl⟩
    rw [hr] at ht
    rcases cnx_err s.data.toList with h0 | h0 | h0
    · obtain ⟨n, k, f, hn⟩ : ∃ n k f, cnx s.data.toList = (n, k, f) := ⟨_, _, _, rfl⟩
      rw [hn] at h0 ht
      obtain rfl : f = 0 := h0
      exact compactReads_ok s c n k _ x y g hn rfl ht hr w h (by omega) hc
    · rw [h0] at ht
      have ht2 : (x, y, g) = (0, 0, 2) := by rcases ht with h | h <;> exact h
      simp only [Prod.mk.injEq] at ht2
      obtain ⟨rfl, rfl, rfl⟩ := ht2
      exact compactReads_err s c 2 _ 2 (by omega) h0 rfl (.inl rfl) hr w h (by omega) hc
    · rw [h0] at ht
      rcases ht with ht | ht
      · simp only [Prod.mk.injEq] at ht
        obtain ⟨rfl, rfl, rfl⟩ := ht
        exact compactReads_err s c 3 _ 2 (by omega) h0 rfl (.inl rfl) hr w h (by omega) hc
      · simp only [Prod.mk.injEq] at ht
        obtain ⟨rfl, rfl, rfl⟩ := ht
        exact compactReads_err s c 3 _ 3 (by omega) h0 rfl (.inr rfl) hr w h (by omega) hc
end Go.Proofs.YtpneccbeccgfmaaDoor
