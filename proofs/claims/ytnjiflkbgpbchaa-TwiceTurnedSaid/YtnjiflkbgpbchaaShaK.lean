/-
  The document's sixty-four and First, as numbers, and that its own search over primes finds them: plain mathematics, checked by the kernel. No program. No condition.
-/
import Derived.Test.YtnjiflkbgpbchaaShaF
import Derived.KernelRfl
namespace Go.Proofs.Ytnjiflkbgpbchaa

/-- The first 64 primes. -/
def PS : List Nat := [2, 3, 5, 7, 11, 13, 17, 19, 23, 29, 31, 37, 41, 43, 47, 53, 59, 61, 67, 71, 73, 79, 83, 89, 97, 101, 103, 107, 109, 113, 127, 131, 137, 139, 149, 151, 157, 163, 167, 173, 179, 181, 191, 193, 197, 199, 211, 223, 227, 229, 233, 239, 241, 251, 257, 263, 269, 271, 277, 281, 283, 293, 307, 311]
/-- The sixty-four. -/
def K64 : List Nat := [1116352408, 1899447441, 3049323471, 3921009573, 961987163, 1508970993, 2453635748, 2870763221, 3624381080, 310598401, 607225278, 1426881987, 1925078388, 2162078206, 2614888103, 3248222580, 3835390401, 4022224774, 264347078, 604807628, 770255983, 1249150122, 1555081692, 1996064986, 2554220882, 2821834349, 2952996808, 3210313671, 3336571891, 3584528711, 113926993, 338241895, 666307205, 773529912, 1294757372, 1396182291, 1695183700, 1986661051, 2177026350, 2456956037, 2730485921, 2820302411, 3259730800, 3345764771, 3516065817, 3600352804, 4094571909, 275423344, 430227734, 506948616, 659060556, 883997877, 958139571, 1322822218, 1537002063, 1747873779, 1955562222, 2024104815, 2227730452, 2361852424, 2428436474, 2756734187, 3204031479, 3329325298]
/-- First. -/
def F8 : List Nat := [1779033703, 3144134277, 1013904242, 2773480762, 1359893119, 2600822924, 528734635, 1541459225]
/-- A number's root of that degree: the first 32 bits of its fraction. -/
def frac (p deg : Nat) : Nat := frq p deg 36 0 % 4294967296
/-- Is p free of divisors from 2 to below d? -/
def bp (p : Nat) : Nat → Bool
  | 0 => true
  | d + 1 => bp p d && (decide (d < 2) || decide (0 < p % d))
/-- How many primes are below p. -/
def cnt (p : Nat) : Nat := (PS.filter fun q => decide (q < p)).length
/-- What must hold of p for the search. -/
def good (p : Nat) : Bool :=
  decide (p < 2) || (decide (cnt p < 64) && (if bp p p then cnt (p + 1) == cnt p + 1 && K64.getD (cnt p) 0 == frac p 3 && (decide (8 ≤ cnt p) || F8.getD (cnt p) 0 == frac p 2) else cnt (p + 1) == cnt p))
theorem all_good : ((List.range 312).all good) = true := by decide +kernel
theorem cnt_two : cnt 2 = 0 := rfl
theorem cnt_all : cnt 312 = 64 := by decide +kernel
theorem bp_two (p : Nat) : bp p 2 = true := by simp [bp]
theorem bp_step (p d : Nat) (h : 2 ≤ d) : bp p (d + 1) = (bp p d && decide (0 < p % d)) := by
  rw [bp]
  have : decide (d < 2) = false := by simp; omega
  rw [this, Bool.false_or]

theorem good_at (p : Nat) (h : p < 312) (h2 : 2 ≤ p) : cnt p < 64 ∧ (bp p p = true → cnt (p + 1) = cnt p + 1 ∧ K64.getD (cnt p) 0 = frac p 3 ∧ (cnt p < 8 → F8.getD (cnt p) 0 = frac p 2)) ∧ (bp p p = false → cnt (p + 1) = cnt p) := by
  have g := List.all_eq_true.1 all_good p (List.mem_range.2 h)
  unfold good at g
  have h0 : decide (p < 2) = false := by simp; omega
  rw [h0, Bool.false_or, Bool.and_eq_true, decide_eq_true_eq] at g
  refine ⟨g.1, fun hb => ?_, fun hb => ?_⟩
  · have g2 := g.2
    rw [hb, if_pos rfl] at g2
    simp only [Bool.and_eq_true, Bool.or_eq_true, beq_iff_eq, decide_eq_true_eq] at g2
    exact ⟨g2.1.1, g2.1.2, fun h8 => by rcases g2.2 with h | h; omega; exact h⟩
  · have g2 := g.2
    rw [hb, if_neg (by simp)] at g2
    exact beq_iff_eq.1 g2

/-- The key behind n primes: 72 words. -/
def keyAt (n : Nat) : List Nat := (K64.take n ++ List.replicate (64 - n) 0) ++ (F8.take n ++ List.replicate (8 - n) 0)
theorem keyAt_zero : keyAt 0 = List.replicate 72 0 := rfl
theorem keyAt_all : keyAt 64 = K64 ++ F8 := rfl
theorem keyAt_length (n : Nat) (h : n ≤ 64) : (keyAt n).length = 72 := by
  simp only [keyAt, List.length_append, List.length_take, List.length_replicate, show K64.length = 64 from rfl, show F8.length = 8 from rfl]
  omega
/-- The next word of each. -/
def keyStep (n : Nat) : Bool := if n < 8 then keyAt (n + 1) == ((keyAt n).set n (K64.getD n 0)).set (64 + n) (F8.getD n 0) else keyAt (n + 1) == (keyAt n).set n (K64.getD n 0)
theorem all_steps : ((List.range 64).all keyStep) = true := by decide +kernel
theorem step_small (n : Nat) (h : n < 8) : keyAt (n + 1) = ((keyAt n).set n (K64.getD n 0)).set (64 + n) (F8.getD n 0) := by
  have g := List.all_eq_true.1 all_steps n (List.mem_range.2 (by omega))
  unfold keyStep at g
  rw [if_pos h] at g
  exact beq_iff_eq.1 g
theorem step_big (n : Nat) (h : n < 64) (h8 : 8 ≤ n) : keyAt (n + 1) = (keyAt n).set n (K64.getD n 0) := by
  have g := List.all_eq_true.1 all_steps n (List.mem_range.2 h)
  unfold keyStep at g
  rw [if_neg (by omega)] at g
  exact beq_iff_eq.1 g
end Go.Proofs.Ytnjiflkbgpbchaa
