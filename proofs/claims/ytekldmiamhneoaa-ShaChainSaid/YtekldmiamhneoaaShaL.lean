/-
  For every text ShaSums answers true, for every number ShaPads does. Conditions: a text has at most maxLen bytes; what Tab says of memory.
-/
import Derived.Test.YtekldmiamhneoaaShaC
namespace Go.Proofs.Ytekldmiamhneoaa
open Go.RowKit Go.Sort

theorem pad3 : padL 3 = 128 :: (List.replicate 52 0 ++ [0, 0, 0, 0, 0, 0, 0, 24]) := by decide +kernel
theorem abc : (⟨#[97, 98, 99]⟩ : ByteArray) = bs [97, 98, 99] := rfl
theorem abc_words : (chain KEY F8 ([97, 98, 99] ++ padL 3) 1).take 1 = [3128432319] := by decide +kernel
theorem digL_length (s : ByteArray) : (digL s).length = 32 := by
  rw [digL, byts_length _ 8 (by rw [chain_length _ _ _ first_length]; exact Nat.le_refl _)]
theorem abc_dig : (digL ⟨#[97, 98, 99]⟩).take 4 = [186, 120, 22, 191] := by
  have h1 : padded ⟨#[97, 98, 99]⟩ = [97, 98, 99] ++ padL 3 := rfl
  have h2 : nblk (⟨#[97, 98, 99]⟩ : ByteArray).size = 1 := rfl
  rw [digL, h1, h2]
  have hl := chain_length KEY F8 ([97, 98, 99] ++ padL 3) first_length 1
  have hw := abc_words
  obtain ⟨v, hv⟩ : ∃ v, v = chain KEY F8 ([97, 98, 99] ++ padL 3) 1 := ⟨_, rfl⟩
  rw [← hv] at hl hw ⊢
  match v, hl with
  | [a, b, c, d, e, f, g, h], _ =>
    simp only [List.take_succ_cons, List.take_zero, List.cons.injEq, and_true] at hw
    subst hw
    rfl

theorem alive_any (w : World) (h : Tab w) : Calls Try.prog 7 #[] w fun e w' => e = .returned (.bool true) ∧ Below w.heap.size w w' := by
  have H := Lib.hid h
  have hp : (bs (padL 3)).size = 61 := by rw [bs_size, pad3]; rfl
  have hpb : (bs (padL 3))[60].toNat = 24 := by
    have : (bs (padL 3))[60] = (padL 3)[60]'(by rw [pad3]; decide) := bs_get _ _ _
    rw [this]
    simp only [pad3]
    rfl
  have hd : (bs (digL ⟨#[97, 98, 99]⟩)).size = 32 := by rw [bs_size, digL_length]
  have hx : (bs (digL ⟨#[97, 98, 99]⟩)).extract 0 4 = ⟨#[186, 120, 22, 191]⟩ := by rw [bs_extract, List.drop_zero, Nat.sub_zero, abc_dig]; rfl
  obtain ⟨D, hD⟩ : ∃ D, D = bs (digL ⟨#[97, 98, 99]⟩) := ⟨_, rfl⟩
  rw [← hD] at hd hx
  have HP := Lib.hid (pad_ok 3)
  have HS := Lib.hid (sum_any ⟨#[97, 98, 99]⟩)
  have HD := Lib.hid hD
  clear h hD
  go_enter Try.func7, Try.ntmps7
  go_wp2_with fail
  refine (HP.out _ H.out (by omega)).mono ?_
  rintro e w1 ⟨rfl, b1⟩
  have B1 := Lib.hid b1
  clear b1
  go_wp2_with fail
  refine (HS.out _ (H.out.bel B1.out) (by decide)).mono ?_
  rw [← HD.out]
  rintro e w2 ⟨rfl, b2⟩
  have B2 := Lib.hid (below_then B1.out b2)
  clear b2
  go_wp2
  go_ret
  exact ⟨rfl, B2.out⟩

theorem shaSums_big (s : ByteArray) (w : World) (h : Tab w) (hs : 700 < s.size) (hm : s.size ≤ maxLen) :
    Calls Try.prog 3 #[.string s] w fun e w' => e = .returned (.bool true) ∧ Below w.heap.size w w' := by
  unfold maxLen at hm
  have H := Lib.hid h
  have t1 : decide ((700 : Int) < (s.size : Int)) = true := by simp; omega
  clear h
  go_enter Try.func3, Try.ntmps3
  go_wp2_with fail
  refine (alive_any _ H.out).mono ?_
  rintro e w1 ⟨rfl, b1⟩
  have B1 := Lib.hid b1
  clear b1
  go_wp2
  go_ret
  exact ⟨rfl, B1.out⟩

theorem shaSums_small (s : ByteArray) (w : World) (h : Tab w) (hs : s.size ≤ 700) :
    Calls Try.prog 3 #[.string s] w fun e w' => e = .returned (.bool true) ∧ Below w.heap.size w w' := by
  have H := Lib.hid h
  have t1 : decide ((700 : Int) < (s.size : Int)) = false := by simp; omega
  have hz : (bs (digL s)).size ≤ 32 := by rw [bs_size, digL_length]; exact Nat.le_refl _
  obtain ⟨X, hX⟩ : ∃ X, X = (KEY.map fun (n : Nat) => Value.int .u32 (n : Int)).toArray := ⟨_, rfl⟩
  have hk : wordsOf .u32 (K64 ++ F8) = .agg X := by rw [hX]; rfl
  have HK := Lib.hid hk
  have HX := Lib.hid hX
  have HD := Lib.hid (refDigest_any s X)
  clear h hk hX
  go_enter Try.func3, Try.ntmps3
  go_wp2_with fail
  refine (alive_any _ H.out).mono ?_
  rintro e w1 ⟨rfl, b1⟩
  have B1 := Lib.hid b1
  clear b1
  go_wp2_with fail
  refine (sum_any s _ (H.out.bel B1.out) (by omega)).mono ?_
  rintro e w2 ⟨rfl, b2⟩
  have B2 := Lib.hid (below_then B1.out b2)
  clear b2
  go_wp2_with fail
  refine (makeKey_any _).mono ?_
  rw [HK.out]
  rintro e w3 ⟨rfl, b3⟩
  have B3 := Lib.hid (below_then B2.out b3)
  clear b3
  go_wp2_with fail
  refine (HD.out _ HX.out (by omega)).mono ?_
  rintro e w4 ⟨rfl, b4⟩
  have B4 := Lib.hid (below_then B3.out b4)
  clear b4
  go_wp2
  go_ret
  exact ⟨rfl, B4.out⟩

theorem shaSums_any (s : ByteArray) (w : World) (h : Tab w) (hm : s.size ≤ maxLen) :
    Calls Try.prog 3 #[.string s] w fun e w' => e = .returned (.bool true) ∧ Below w.heap.size w w' := by
  by_cases hs : 700 < s.size
  · exact shaSums_big s w h hs hm
  · exact shaSums_small s w h (by omega)

theorem shaPads_arg (n : Int) (w : World) (h : Tab w) (hn : n < 0 ∨ 1099511627776 < n) :
    Calls Try.prog 4 #[.int .i64 n] w fun e w' => e = .returned (.bool true) ∧ Below w.heap.size w w' := by
  have H := Lib.hid h
  have HN := Lib.hid hn
  clear h
  rcases hn with hn | hn
  · have t1 : decide (n < 0) = true := by simpa using hn
    clear hn
    go_enter Try.func4, Try.ntmps4
    go_wp2_with fail
    refine (alive_any _ H.out).mono ?_
    rintro e w1 ⟨rfl, b1⟩
    have B1 := Lib.hid b1
    clear b1
    go_wp2_with fail
    refine (pad_arg n _ (H.out.bel B1.out) HN.out).mono ?_
    rintro e w2 ⟨rfl, b2⟩
    have B2 := Lib.hid (below_then B1.out b2)
    clear b2
    go_wp2
    go_ret
    exact ⟨rfl, B2.out⟩
  · have t1 : decide (n < 0) = false := by simp; omega
    have t2 : decide (1099511627776 < n) = true := by simpa using hn
    clear hn
    go_enter Try.func4, Try.ntmps4
    go_wp2_with fail
    refine (alive_any _ H.out).mono ?_
    rintro e w1 ⟨rfl, b1⟩
    have B1 := Lib.hid b1
    clear b1
    go_wp2_with fail
    refine (pad_arg n _ (H.out.bel B1.out) HN.out).mono ?_
    rintro e w2 ⟨rfl, b2⟩
    have B2 := Lib.hid (below_then B1.out b2)
    clear b2
    go_wp2
    go_ret
    exact ⟨rfl, B2.out⟩

theorem shaPads_ok (n : Nat) (w : World) (h : Tab w) (hn : n ≤ 1099511627776) :
    Calls Try.prog 4 #[.int .i64 n] w fun e w' => e = .returned (.bool true) ∧ Below w.heap.size w w' := by
  have H := Lib.hid h
  have t1 : decide ((n : Int) < 0) = false := by simp
  have t2 : decide ((1099511627776 : Int) < (n : Int)) = false := by simp; omega
  have hl : (bs (padL n)).size = 9 + nou n := by rw [bs_size, padL_length]
  have hnz := nou_lt n
  have hd := (nou_done n (nou n) (Nat.le_refl _)).2 rfl
  have HP := Lib.hid (pad_ok n)
  have HR := Lib.hid (refPad_any n)
  obtain ⟨P, hP⟩ : ∃ P, P = bs (padL n) := ⟨_, rfl⟩
  have HPP := Lib.hid hP
  rw [← hP] at hl
  have z1 : 9 ≤ P.size := by omega
  have z2 : P.size ≤ 72 := by omega
  have t3 : (((n : Int) + (P.size : Int)) % 64 == 0) = true := by
    have : ((n : Int) + (P.size : Int)) % 64 = 0 := by omega
    simpa using this
  have t4 : decide ((9 : Int) ≤ (P.size : Int)) = true := by simp; omega
  have t5 : decide ((P.size : Int) ≤ 72) = true := by simp; omega
  clear h hl hnz hd hP
  go_enter Try.func4, Try.ntmps4
  go_wp2_with fail
  refine (alive_any _ H.out).mono ?_
  rintro e w1 ⟨rfl, b1⟩
  have B1 := Lib.hid b1
  clear b1
  go_wp2_with fail
  refine (HP.out _ (H.out.bel B1.out) hn).mono ?_
  rw [← HPP.out]
  rintro e w2 ⟨rfl, b2⟩
  have B2 := Lib.hid (below_then B1.out b2)
  clear b2
  go_wp2_with fail
  refine (HR.out _ hn).mono ?_
  rw [← HPP.out]
  rintro e w3 ⟨rfl, b3⟩
  have B3 := Lib.hid (below_then B2.out b3)
  clear b3
  go_wp2
  go_ret
  exact ⟨rfl, B3.out⟩

theorem shaPads_any (n : Int) (w : World) (h : Tab w) :
    Calls Try.prog 4 #[.int .i64 n] w fun e w' => e = .returned (.bool true) ∧ Below w.heap.size w w' := by
  by_cases hn : n < 0 ∨ 1099511627776 < n
  · exact shaPads_arg n w h hn
  · obtain ⟨m, rfl⟩ : ∃ m : Nat, n = (m : Int) := ⟨n.toNat, by omega⟩
    exact shaPads_ok m w h (by omega)
end Go.Proofs.Ytekldmiamhneoaa
