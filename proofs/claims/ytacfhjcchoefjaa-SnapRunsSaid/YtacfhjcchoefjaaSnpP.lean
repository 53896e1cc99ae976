/-
  What blocks of one literal, and of a literal and a copy, unpack to: plain lemmas, no program. No condition beyond the lengths named.
-/
import Derived.Test.YtacfhjcchoefjaaSnpB
namespace Go.Proofs.Ytacfhjcchoefjaa

/-- A block's size, put, is told. -/
theorem szs_puts (n : Nat) (r : List UInt8) (hn : n ≤ 4294967295) : szs (puts n ++ r) = (n, (puts n).length, 0) := by
  have h := nx_puts n 0 0 r (by simp; omega) (by omega) (by omega)
  unfold szs
  rw [h]
  simp
  omega
theorem upk_puts (n : Nat) (r : List UInt8) (hn : n ≤ 4294967295) (most : Int) (hm : (n : Int) ≤ most) : upk (puts n ++ r) most = els r n [] := by
  unfold upk
  rw [szs_puts n r hn]
  simp only [if_true]
  rw [if_neg (by omega), List.drop_left' rfl]
theorem puts_one (n : Nat) (h : n < 128) : puts n = [UInt8.ofNat n] := puts_small h
theorem puts_two (n : Nat) (h : 128 ≤ n) (h2 : n < 256) : puts n = [UInt8.ofNat (n % 128 + 128), 1] := by
  rw [puts_more (by omega), puts_small (by omega)]
  have : n / 128 = 1 := by omega
  rw [this]
  rfl
theorem toNat_u8 {n : Nat} (h : n < 256) : (UInt8.ofNat n).toNat = n := by rw [u8_toNat_ofNat]; omega

theorem num_zeros (n m : Nat) (h : n < 256) : num (UInt8.ofNat n :: List.replicate m 0) = n := by
  have hz : ∀ m, num (List.replicate m (0 : UInt8)) = 0 := fun m => by
    induction m with
    | zero => rfl
    | succ m ih => rw [List.replicate_succ, num, ih]; rfl
  rw [num, hz, toNat_u8 h]
  omega
/-- A literal with a head of one byte. -/
theorem els_short (t : List UInt8) (h0 : 0 < t.length) (h6 : t.length ≤ 60) : els (UInt8.ofNat (4 * (t.length - 1)) :: t) t.length [] = (t, 0) := by
  have hb : (UInt8.ofNat (4 * (t.length - 1))).toNat = 4 * (t.length - 1) := toNat_u8 (by omega)
  have := els_one (UInt8.ofNat (4 * (t.length - 1))) [] t (by rw [hb]; omega) (by rw [hb]; unfold hdb; rw [if_pos (by omega), if_neg (by omega)]; rfl) (by rw [hb, if_neg (by omega)]; omega) h0
  simpa using this
/-- A literal with a head of k bytes more. -/
theorem els_long (t : List UInt8) (k : Nat) (h0 : 0 < t.length) (h2 : t.length ≤ 250) (hk : 1 ≤ k) (hk4 : k ≤ 4) :
    els (UInt8.ofNat (4 * (59 + k)) :: (UInt8.ofNat (t.length - 1) :: List.replicate (k - 1) 0 ++ t)) t.length [] = (t, 0) := by
  have hb : (UInt8.ofNat (4 * (59 + k))).toNat = 4 * (59 + k) := toNat_u8 (by omega)
  refine els_one (UInt8.ofNat (4 * (59 + k))) (UInt8.ofNat (t.length - 1) :: List.replicate (k - 1) 0) t (by rw [hb]; omega) ?_ ?_ h0
  · rw [hb]; unfold hdb; rw [if_pos (by omega), if_pos (by omega)]; simp; omega
  · rw [hb, if_pos (by omega), num_zeros _ _ (by omega)]; omega

/-- A literal, and a copy of k from as many back. -/
theorem els_run (t : List UInt8) (k : Nat) (h0 : 0 < t.length) (h6 : t.length ≤ 60) (hk : 1 ≤ k) (hk6 : k ≤ 64) :
    els (UInt8.ofNat (4 * (t.length - 1)) :: (t ++ [UInt8.ofNat (4 * (k - 1) + 2), UInt8.ofNat t.length, 0])) (t.length + k) [] = (cpy k t.length t, 0) := by
  have hb : (UInt8.ofNat (4 * (t.length - 1))).toNat = 4 * (t.length - 1) := toNat_u8 (by omega)
  have hc : (UInt8.ofNat (4 * (k - 1) + 2)).toNat = 4 * (k - 1) + 2 := toNat_u8 (by omega)
  have hh : hdb (UInt8.ofNat (4 * (t.length - 1))).toNat = 1 := by rw [hb]; unfold hdb; rw [if_pos (by omega), if_neg (by omega)]
  have hg : hdb (UInt8.ofNat (4 * (k - 1) + 2)).toNat = 3 := by rw [hc]; unfold hdb; rw [if_neg (by omega), if_neg (by omega), if_pos (by omega)]
  have hl : ltn (UInt8.ofNat (4 * (t.length - 1))) (t ++ [UInt8.ofNat (4 * (k - 1) + 2), UInt8.ofNat t.length, 0]) = t.length := by unfold ltn; rw [hb, if_neg (by omega)]; omega
  have hn : cpn (UInt8.ofNat (4 * (k - 1) + 2)) = k := by unfold cpn; rw [hc, if_neg (by omega)]; omega
  have hd : bck (UInt8.ofNat (4 * (k - 1) + 2)) [UInt8.ofNat t.length, 0] = t.length := by
    unfold bck
    rw [hg, hc, if_neg (by omega)]
    show num [UInt8.ofNat t.length, 0] = _
    exact num_zeros t.length 1 (by omega)
  rw [els_lit (by rw [hb]; omega) (by rw [hh]; simp) (by rw [hl]; simp), hl, hh]
  simp only [Nat.sub_self, List.drop_zero, List.nil_append]
  rw [if_neg (by simp), List.drop_left' rfl, List.take_left' rfl]
  rw [els_cpy (by rw [hc]; omega) (by rw [hg]; simp) (by rw [hn]; omega) (by rw [hd]; exact h0) (by rw [hd]; exact Nat.le_refl _), hn, hd, hg]
  show els [] _ _ = _
  rw [els_nil, if_neg (by rw [cpy_length]; omega)]
end Go.Proofs.Ytacfhjcchoefjaa
