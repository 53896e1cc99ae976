/-
  The contracts of the document's own spin, choice and vote (layer 5) over this seat's translation. Conditions: words below 2^32.
-/
import Derived.Test.YtnjiflkbgpbchaaShaS
import Derived.Test.YtnjiflkbgpbchaaShaG
namespace Go.Proofs.Ytnjiflkbgpbchaa
open Go.RowKit Go.Sort

theorem spin_bits (x n m : Nat) (hx : x < 4294967296) (hm : m = 32 - n) : bits .or .u32 ((x : Int) / 2 ^ n) (IntKind.u32.wrap ((x : Int) * 2 ^ m)) = ((spn x n : Nat) : Int) := by
  subst hm
  have s2 : (x : Int) / 2 ^ n = ((x / 2 ^ n : Nat) : Int) := by rw [Int.natCast_ediv]; simp
  have s3 : IntKind.u32.wrap ((x : Int) * 2 ^ (32 - n)) = ((x * 2 ^ (32 - n) % 4294967296 : Nat) : Int) := by
    rw [IntKind.wrap_u32]; simp
  rw [s2, s3]
  exact bits_or32 (x / 2 ^ n) (x * 2 ^ (32 - n) % 4294967296) (div_lt32 hx) (Nat.mod_lt _ (by decide))

theorem refSpin_any (x n : Nat) (w : World) (hx : x < 4294967296) (hn : n ≤ 32) :
    Calls Try.prog 21 #[.int .u32 x, .int .u64 n] w fun e w' => e = .returned (.int .u32 (spn x n)) ∧ w = w' := by
  obtain ⟨m, hm⟩ : ∃ m, m = 32 - n := ⟨_, rfl⟩
  have hm2 : m ≤ 32 := by omega
  have s1 : IntKind.u64.wrap (32 - (n : Int)) = (m : Int) := by rw [IntKind.wrap_u64]; omega
  have s0 : 32 - (n : Int) = (m : Int) := by omega
  have HS := Lib.hid (spin_bits x n m hx hm)
  clear hm
  go_enter Try.func21, Try.ntmps21
  go_wp2
  go_ret
  exact ⟨by rw [← HS.out]; rfl, rfl⟩

theorem refChoice_any (e f g : Nat) (w : World) (he : e < 4294967296) (hf : f < 4294967296) (hg : g < 4294967296) :
    Calls Try.prog 22 #[.int .u32 e, .int .u32 f, .int .u32 g] w fun x w' => x = .returned (.int .u32 (cho e f g)) ∧ w = w' := by
  have s1 := bits_and32 e f he hf
  have s2 : bits .xor .u32 (e : Int) 4294967295 = ((e ^^^ 4294967295 : Nat) : Int) := bits_xor32 e 4294967295 he (by decide)
  have s3 := bits_and32 (e ^^^ 4294967295) g (xor_lt32 he (by decide)) hg
  have s4 := bits_or32 (e &&& f) ((e ^^^ 4294967295) &&& g) (and_lt32 hf) (and_lt32 hg)
  have hs : cho e f g = (e &&& f) ||| ((e ^^^ 4294967295) &&& g) := rfl
  have HS := Lib.hid hs
  clear hs
  go_enter Try.func22, Try.ntmps22
  go_wp2
  go_ret
  exact ⟨by rw [HS.out, ← s4]; rfl, rfl⟩

theorem refVote_any (a b c : Nat) (w : World) (ha : a < 4294967296) (hb : b < 4294967296) (hc : c < 4294967296) :
    Calls Try.prog 23 #[.int .u32 a, .int .u32 b, .int .u32 c] w fun x w' => x = .returned (.int .u32 (vot a b c)) ∧ w = w' := by
  have s1 := bits_and32 a b ha hb
  have s2 := bits_and32 a c ha hc
  have s3 := bits_or32 (a &&& b) (a &&& c) (and_lt32 hb) (and_lt32 hc)
  have s4 := bits_and32 b c hb hc
  have s5 := bits_or32 ((a &&& b) ||| (a &&& c)) (b &&& c) (or_lt32 (and_lt32 hb) (and_lt32 hc)) (and_lt32 hc)
  have hs : vot a b c = ((a &&& b) ||| (a &&& c)) ||| (b &&& c) := rfl
  have HS := Lib.hid hs
  clear hs
  go_enter Try.func23, Try.ntmps23
  go_wp2
  go_ret
  exact ⟨by rw [HS.out, ← s5]; rfl, rfl⟩
end Go.Proofs.Ytnjiflkbgpbchaa
