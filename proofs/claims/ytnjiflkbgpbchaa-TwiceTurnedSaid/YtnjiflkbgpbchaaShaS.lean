/-
  Digests: words, spread, turns, blocks, padding, as functions of numbers and lists of bytes: plain mathematics, no program. No condition.
-/
import Derived.Test.YtnjiflkbgpbchaaShaK
import Derived.Laws.BitsLemmas
namespace Go.Proofs.Ytnjiflkbgpbchaa

/-- A word spun to the right. -/
def spn (x n : Nat) : Nat := (x / 2 ^ n) ||| (x * 2 ^ (32 - n) % 4294967296)
def sm0 (x : Nat) : Nat := spn x 7 ^^^ spn x 18 ^^^ x / 2 ^ 3
def sm1 (x : Nat) : Nat := spn x 17 ^^^ spn x 19 ^^^ x / 2 ^ 10
def bg1 (x : Nat) : Nat := spn x 6 ^^^ spn x 11 ^^^ spn x 25
def bg0 (x : Nat) : Nat := spn x 2 ^^^ spn x 13 ^^^ spn x 22
def cho (e f g : Nat) : Nat := (e &&& f) ||| ((e ^^^ 4294967295) &&& g)
def vot (a b c : Nat) : Nat := ((a &&& b) ||| (a &&& c)) ||| (b &&& c)
/-- The word that four bytes are. -/
def wd (b : List UInt8) (i : Nat) : Nat := (b.getD (4 * i) 0).toNat * 16777216 + (b.getD (4 * i + 1) 0).toNat * 65536 + (b.getD (4 * i + 2) 0).toNat * 256 + (b.getD (4 * i + 3) 0).toNat
/-- The next word of a spread. -/
def nxw (l : List Nat) (n : Nat) : Nat := (l.getD (n - 16) 0 + sm0 (l.getD (n - 15) 0) + l.getD (n - 7) 0 + sm1 (l.getD (n - 2) 0)) % 4294967296
/-- The first n words that a block spreads to. -/
def spr (b : List UInt8) : Nat → List Nat
  | 0 => []
  | n + 1 => spr b n ++ [if n < 16 then wd b n else nxw (spr b n) n]
def tp (k w e f g h : Nat) : Nat := (h + bg1 e + k + w + cho e f g) % 4294967296
def tq (a b c : Nat) : Nat := (bg0 a + vot a b c) % 4294967296
/-- One turn. -/
def turn (k w : Nat) (v : List Nat) : List Nat :=
  let p := tp k w (v.getD 4 0) (v.getD 5 0) (v.getD 6 0) (v.getD 7 0)
  let q := tq (v.getD 0 0) (v.getD 1 0) (v.getD 2 0)
  [(p + q) % 4294967296, v.getD 0 0, v.getD 1 0, v.getD 2 0, (v.getD 3 0 + p) % 4294967296, v.getD 4 0, v.getD 5 0, v.getD 6 0]
def turns (K W v : List Nat) : Nat → List Nat
  | 0 => v
  | i + 1 => turn (K.getD i 0) (W.getD i 0) (turns K W v i)
/-- The eight words behind a block. -/
def mixed (K : List Nat) (b : List UInt8) (v : List Nat) : List Nat := List.zipWith (fun x y => (x + y) % 4294967296) (turns K (spr b 64) v 64) v

/-- A row of words. -/
def W32 (l : List Nat) : Prop := ∀ d ∈ l, d < 4294967296

section
variable {x y z n : Nat}
theorem spn_lt (hx : x < 4294967296) : spn x n < 4294967296 := by
  have h1 : x / 2 ^ n < 2 ^ 32 := Nat.lt_of_le_of_lt (Nat.div_le_self _ _) hx
  have h2 : x * 2 ^ (32 - n) % 4294967296 < 2 ^ 32 := Nat.mod_lt _ (by decide)
  exact Nat.or_lt_two_pow h1 h2
theorem xor_lt32 (hx : x < 4294967296) (hy : y < 4294967296) : x ^^^ y < 4294967296 := Nat.xor_lt_two_pow (n := 32) hx hy
theorem and_lt32 (hy : y < 4294967296) : x &&& y < 4294967296 := Nat.and_lt_two_pow (n := 32) x hy
theorem or_lt32 (hx : x < 4294967296) (hy : y < 4294967296) : x ||| y < 4294967296 := Nat.or_lt_two_pow (n := 32) hx hy
theorem div_lt32 (hx : x < 4294967296) : x / 2 ^ n < 4294967296 := Nat.lt_of_le_of_lt (Nat.div_le_self _ _) hx
theorem sm0_lt (hx : x < 4294967296) : sm0 x < 4294967296 := xor_lt32 (xor_lt32 (spn_lt hx) (spn_lt hx)) (div_lt32 hx)
theorem sm1_lt (hx : x < 4294967296) : sm1 x < 4294967296 := xor_lt32 (xor_lt32 (spn_lt hx) (spn_lt hx)) (div_lt32 hx)
theorem bg1_lt (hx : x < 4294967296) : bg1 x < 4294967296 := xor_lt32 (xor_lt32 (spn_lt hx) (spn_lt hx)) (spn_lt hx)
theorem bg0_lt (hx : x < 4294967296) : bg0 x < 4294967296 := xor_lt32 (xor_lt32 (spn_lt hx) (spn_lt hx)) (spn_lt hx)
theorem cho_lt (hy : y < 4294967296) (hz : z < 4294967296) : cho x y z < 4294967296 := or_lt32 (and_lt32 hy) (and_lt32 hz)
theorem vot_lt (hy : y < 4294967296) (hz : z < 4294967296) : vot x y z < 4294967296 := or_lt32 (or_lt32 (and_lt32 hy) (and_lt32 hz)) (and_lt32 hz)
end

theorem W32.getD {l : List Nat} (h : W32 l) (i : Nat) : l.getD i 0 < 4294967296 := by
  by_cases hi : i < l.length
  · exact getD_lt l i _ h hi
  · simp [List.getD, hi]
theorem wd_lt (b : List UInt8) (i : Nat) : wd b i < 4294967296 := by
  have h0 := (b.getD (4 * i) 0).toNat_lt
  have h1 := (b.getD (4 * i + 1) 0).toNat_lt
  have h2 := (b.getD (4 * i + 2) 0).toNat_lt
  have h3 := (b.getD (4 * i + 3) 0).toNat_lt
  unfold wd
  omega
theorem spr_length (b : List UInt8) : ∀ n, (spr b n).length = n
  | 0 => rfl
  | n + 1 => by rw [spr, List.length_append, spr_length b n]; rfl
theorem spr_w32 (b : List UInt8) : ∀ n, W32 (spr b n)
  | 0 => by intro d hd; simp [spr] at hd
  | n + 1 => by
    intro d hd
    rw [spr] at hd
    rcases List.mem_append.1 hd with h | h
    · exact spr_w32 b n d h
    · rw [List.mem_singleton.1 h]
      split
      · exact wd_lt b n
      · exact Nat.mod_lt _ (by decide)
theorem turn_w32 (k w : Nat) (v : List Nat) (h : W32 v) : W32 (turn k w v) := by
  intro d hd
  simp only [turn, List.mem_cons, List.not_mem_nil, or_false] at hd
  rcases hd with rfl | rfl | rfl | rfl | rfl | rfl | rfl | rfl
  · exact Nat.mod_lt _ (by decide)
  · exact h.getD 0
  · exact h.getD 1
  · exact h.getD 2
  · exact Nat.mod_lt _ (by decide)
  · exact h.getD 4
  · exact h.getD 5
  · exact h.getD 6
theorem turns_w32 (K W v : List Nat) (h : W32 v) : ∀ i, W32 (turns K W v i)
  | 0 => h
  | i + 1 => turn_w32 _ _ _ (turns_w32 K W v h i)
theorem turns_length (K W v : List Nat) (h : v.length = 8) : ∀ i, (turns K W v i).length = 8
  | 0 => h
  | _ + 1 => rfl
theorem mixed_length (K : List Nat) (b : List UInt8) (v : List Nat) (h : v.length = 8) : (mixed K b v).length = 8 := by
  rw [mixed, List.length_zipWith, turns_length _ _ _ h, h]; rfl
theorem mixed_w32 (K : List Nat) (b : List UInt8) (v : List Nat) : W32 (mixed K b v) := by
  intro d hd
  rw [mixed, List.mem_iff_getElem] at hd
  obtain ⟨i, hi, rfl⟩ := hd
  rw [List.getElem_zipWith]
  exact Nat.mod_lt _ (by decide)

/-- The eight words behind i additions. -/
def half (t v : List Nat) (i : Nat) : List Nat := List.zipWith (fun x y => (x + y) % 4294967296) (t.take i) (v.take i) ++ t.drop i
theorem half_zero (t v : List Nat) : half t v 0 = t := by simp [half]
theorem half_length (t v : List Nat) (i : Nat) (hl : v.length = t.length) (hi : i ≤ t.length) : (half t v i).length = t.length := by
  simp only [half, List.length_append, List.length_zipWith, List.length_take, List.length_drop]
  omega
theorem half_all (t v : List Nat) (n : Nat) (ht : t.length = n) (hv : v.length = n) : half t v n = List.zipWith (fun x y => (x + y) % 4294967296) t v := by
  rw [half, List.take_of_length_le (by omega), List.take_of_length_le (by omega), List.drop_of_length_le (by omega), List.append_nil]
theorem half_pre (t v : List Nat) (i : Nat) (hl : v.length = t.length) (hi : i ≤ t.length) : (List.zipWith (fun x y => (x + y) % 4294967296) (t.take i) (v.take i)).length = i := by
  simp only [List.length_zipWith, List.length_take]
  omega
theorem half_get (t v : List Nat) (i : Nat) (hl : v.length = t.length) (hi : i < t.length) : (half t v i).getD i 0 = t.getD i 0 := by
  have hp := half_pre t v i hl (by omega)
  rw [half]
  simp only [List.getD, List.getElem?_append_right (show (List.zipWith (fun x y => (x + y) % 4294967296) (t.take i) (v.take i)).length ≤ i by omega), hp, Nat.sub_self, List.getElem?_drop, Nat.add_zero]
theorem half_set (t v : List Nat) (i : Nat) (hl : v.length = t.length) (hi : i < t.length) : (half t v i).set i ((t.getD i 0 + v.getD i 0) % 4294967296) = half t v (i + 1) := by
  have hp := half_pre t v i hl (by omega)
  have hv : i < v.length := by omega
  rw [half, half, List.set_append_right _ _ (by omega), hp, Nat.sub_self, List.drop_eq_getElem_cons hi, List.set_cons_zero, List.take_succ_eq_append_getElem hi, List.take_succ_eq_append_getElem hv,
    List.zipWith_append (by simp only [List.length_take]; omega), getD_of t i hi, getD_of v i hv, List.append_assoc]
  rfl

/-- The eight words behind k blocks. -/
def chain (K v : List Nat) (l : List UInt8) : Nat → List Nat
  | 0 => v
  | k + 1 => mixed K ((l.drop (64 * k)).take 64) (chain K v l k)
theorem chain_length (K v : List Nat) (l : List UInt8) (h : v.length = 8) : ∀ k, (chain K v l k).length = 8
  | 0 => h
  | k + 1 => mixed_length _ _ _ (chain_length K v l h k)
theorem chain_w32 (K v : List Nat) (l : List UInt8) (h : W32 v) : ∀ k, W32 (chain K v l k)
  | 0 => h
  | _ + 1 => mixed_w32 _ _ _
/-- A word's bytes. -/
def byt (x : Nat) : List UInt8 := [UInt8.ofNat (x / 16777216), UInt8.ofNat (x / 65536), UInt8.ofNat (x / 256), UInt8.ofNat x]
/-- The bytes of i words. -/
def byts (v : List Nat) (i : Nat) : List UInt8 := (v.take i).flatMap byt
theorem byts_zero (v : List Nat) : byts v 0 = [] := rfl
theorem byts_succ (v : List Nat) (i : Nat) (h : i < v.length) : byts v (i + 1) = byts v i ++ byt (v.getD i 0) := by
  rw [byts, byts, List.take_succ_eq_append_getElem h, List.flatMap_append, getD_of v i h]
  simp
theorem byts_length (v : List Nat) : ∀ i, i ≤ v.length → (byts v i).length = 4 * i
  | 0, _ => rfl
  | i + 1, h => by
    rw [byts_succ v i (by omega), List.length_append, byts_length v i (by omega)]
    simp [byt]
    omega
theorem byts_get (v : List Nat) (i j : Nat) (hj : j < 4) : ∀ n, n ≤ v.length → i < n → (byts v n).getD (4 * i + j) 0 = (byt (v.getD i 0)).getD j 0
  | 0, _, h => by omega
  | n + 1, hn, hi => by
    have hl := byts_length v n (by omega)
    rw [byts_succ v n (by omega)]
    by_cases h : i < n
    · have ih := byts_get v i j hj n (by omega) h
      rw [← ih]
      simp only [List.getD, List.getElem?_append_left (show 4 * i + j < (byts v n).length by omega)]
    · obtain rfl : i = n := by omega
      simp only [List.getD, List.getElem?_append_right (show (byts v i).length ≤ 4 * i + j by omega), hl, Nat.add_sub_cancel_left]
theorem byt_sum (x : Nat) (h : x < 4294967296) : ((byt x).getD 0 0).toNat * 16777216 + ((byt x).getD 1 0).toNat * 65536 + ((byt x).getD 2 0).toNat * 256 + ((byt x).getD 3 0).toNat = x := by
  have e0 : ((byt x).getD 0 0).toNat = x / 16777216 % 256 := by simp [byt]
  have e1 : ((byt x).getD 1 0).toNat = x / 65536 % 256 := by simp [byt]
  have e2 : ((byt x).getD 2 0).toNat = x / 256 % 256 := by simp [byt]
  have e3 : ((byt x).getD 3 0).toNat = x % 256 := by simp [byt]
  rw [e0, e1, e2, e3]
  omega
/-- The sixty-four and First. -/
def KEY : List Nat := K64 ++ F8
theorem key_length : KEY.length = 72 := rfl
theorem key_w32 : W32 KEY := by
  have : (KEY.all fun d => decide (d < 4294967296)) = true := by decide +kernel
  intro d hd
  simpa using List.all_eq_true.1 this d hd
theorem key_first : (KEY.drop 64).take 8 = F8 := rfl
theorem first_w32 : W32 F8 := by
  intro d hd
  exact key_w32 d (List.mem_append_right _ hd)
theorem first_length : F8.length = 8 := rfl

/-! Bits of words, as the walk has them. -/
theorem wrap32 (n : Nat) (h : n < 4294967296) : IntKind.u32.wrap (n : Int) = (n : Int) := by rw [IntKind.wrap_u32]; omega
theorem hk32 : ∀ n : Int, 0 ≤ n → n < 2 ^ 32 → IntKind.u32.wrap n = n := fun n h0 h1 => by rw [IntKind.wrap_u32]; omega
theorem bits_and32 (a b : Nat) (ha : a < 4294967296) (hb : b < 4294967296) : bits .and .u32 (a : Int) (b : Int) = ((a &&& b : Nat) : Int) := (bits_nat .u32 32 (by decide) hk32 a b ha hb).1
theorem bits_or32 (a b : Nat) (ha : a < 4294967296) (hb : b < 4294967296) : bits .or .u32 (a : Int) (b : Int) = ((a ||| b : Nat) : Int) := (bits_nat .u32 32 (by decide) hk32 a b ha hb).2
theorem bits_xor32 (a b : Nat) (ha : a < 4294967296) (hb : b < 4294967296) : bits .xor .u32 (a : Int) (b : Int) = ((a ^^^ b : Nat) : Int) := by
  have hx : a ^^^ b < 2 ^ 32 := Nat.xor_lt_two_pow (by omega) (by omega)
  have h1 : (BitVec.ofInt 32 (a : Int)).toNat = a := by
    rw [BitVec.ofInt_natCast, BitVec.toNat_ofNat]; exact Nat.mod_eq_of_lt (by omega)
  have h2 : (BitVec.ofInt 32 (b : Int)).toNat = b := by
    rw [BitVec.ofInt_natCast, BitVec.toNat_ofNat]; exact Nat.mod_eq_of_lt (by omega)
  show IntKind.u32.wrap ((BitVec.ofInt 32 (a : Int) ^^^ BitVec.ofInt 32 (b : Int)).toNat : Int) = _
  rw [BitVec.toNat_xor, h1, h2, IntKind.wrap_u32]
  omega
end Go.Proofs.Ytnjiflkbgpbchaa
