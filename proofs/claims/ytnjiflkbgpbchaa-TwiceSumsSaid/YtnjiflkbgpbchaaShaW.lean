/-
  The contracts of sha's mixes and of the words of a text (layer 5). Conditions: words below 2^32, spins of 1 to 31 bits, a word within its text.
-/
import Derived.Test.YtnjiflkbgpbchaaShaV
namespace Go.Proofs.Ytnjiflkbgpbchaa
open Go.RowKit Go.Sort

theorem smix_any (x a b c : Nat) (w : World) (hx : x < 4294967296) (ha : 1 ≤ a ∧ a ≤ 31) (hb : 1 ≤ b ∧ b ≤ 31) (hc : c ≤ 31) :
    Calls Try.prog 30 #[.int .u32 x, .int .i64 a, .int .i64 b, .int .i64 c] w fun e w' => e = .returned (.int .u32 (spn x a ^^^ spn x b ^^^ x / 2 ^ c : Nat)) ∧ ∃ q, w' = w.drewN q := by
  have ba := spn_lt (n := a) hx
  have bb := spn_lt (n := b) hx
  have k1 := bits_xor32 (spn x a) (spn x b) ba bb
  have k2 : bits .xor .u32 ((spn x a ^^^ spn x b : Nat) : Int) ((x : Int) / 2 ^ c) = ((spn x a ^^^ spn x b ^^^ x / 2 ^ c : Nat) : Int) := by
    have := bits_xor32 (spn x a ^^^ spn x b) (x / 2 ^ c) (xor_lt32 ba bb) (div_lt32 hx)
    rw [← this, Int.natCast_ediv]
    simp
  have SA := Lib.hid (fun W => spun_any x a W hx ha.1 ha.2)
  have SB := Lib.hid (fun W => spun_any x b W hx hb.1 hb.2)
  obtain ⟨y, hy⟩ : ∃ y, y = spn x a ^^^ spn x b ^^^ x / 2 ^ c := ⟨_, rfl⟩
  obtain ⟨m, hm⟩ : ∃ m, m = spn x a ^^^ spn x b := ⟨_, rfl⟩
  rw [← hy] at k2
  rw [← hy]
  rw [← hm] at k1 k2
  obtain ⟨pa, hpa⟩ : ∃ p, p = spn x a := ⟨_, rfl⟩
  obtain ⟨pb, hpb⟩ : ∃ p, p = spn x b := ⟨_, rfl⟩
  rw [← hpa] at k1 SA
  rw [← hpb] at k1 SB
  clear hy hm hpa hpb ba bb ha hb hx
  go_enter Try.func30, Try.ntmps30
  go_wp2_with fail
  go_quiet ((first
    | (go_at_call 32; with_reducible exact Calls.quiet_of_same (SA.out _))
    | (go_at_call 32; with_reducible exact Calls.quiet_of_same (SB.out _))))
  go_wp2
  go_ret
  exact ⟨rfl, _, rfl⟩

theorem bmix_any (x a b c : Nat) (w : World) (hx : x < 4294967296) (ha : 1 ≤ a ∧ a ≤ 31) (hb : 1 ≤ b ∧ b ≤ 31) (hc : 1 ≤ c ∧ c ≤ 31) :
    Calls Try.prog 31 #[.int .u32 x, .int .i64 a, .int .i64 b, .int .i64 c] w fun e w' => e = .returned (.int .u32 (spn x a ^^^ spn x b ^^^ spn x c : Nat)) ∧ w' = w := by
  have ba := spn_lt (n := a) hx
  have bb := spn_lt (n := b) hx
  have bc := spn_lt (n := c) hx
  have k1 := bits_xor32 (spn x a) (spn x b) ba bb
  have k2 := bits_xor32 (spn x a ^^^ spn x b) (spn x c) (xor_lt32 ba bb) bc
  have SA := Lib.hid (fun W => spun_any x a W hx ha.1 ha.2)
  have SB := Lib.hid (fun W => spun_any x b W hx hb.1 hb.2)
  have SC := Lib.hid (fun W => spun_any x c W hx hc.1 hc.2)
  obtain ⟨y, hy⟩ : ∃ y, y = spn x a ^^^ spn x b ^^^ spn x c := ⟨_, rfl⟩
  obtain ⟨m, hm⟩ : ∃ m, m = spn x a ^^^ spn x b := ⟨_, rfl⟩
  rw [← hy] at k2
  rw [← hy]
  rw [← hm] at k1 k2
  obtain ⟨pa, hpa⟩ : ∃ p, p = spn x a := ⟨_, rfl⟩
  obtain ⟨pb, hpb⟩ : ∃ p, p = spn x b := ⟨_, rfl⟩
  obtain ⟨pc, hpc⟩ : ∃ p, p = spn x c := ⟨_, rfl⟩
  rw [← hpa] at k1 SA
  rw [← hpb] at k1 SB
  rw [← hpc] at k2 SC
  clear hy hm hpa hpb hpc ba bb bc ha hb hc hx
  go_enter Try.func31, Try.ntmps31
  go_wp2_with fail
  refine (SA.out _).mono ?_
  rintro e w1 ⟨rfl, rfl⟩
  go_wp2_with fail
  refine (SB.out _).mono ?_
  rintro e w2 ⟨rfl, rfl⟩
  go_wp2_with fail
  refine (SC.out _).mono ?_
  rintro e w3 ⟨rfl, rfl⟩
  go_wp2
  go_ret
  exact ⟨rfl, rfl⟩

theorem or_add (a b k : Nat) (hb : b < 2 ^ k) : a * 2 ^ k ||| b = a * 2 ^ k + b := by
  have := Nat.shiftLeft_add_eq_or_of_lt hb a
  rw [Nat.shiftLeft_eq] at this
  exact this.symm

theorem words_any (s : ByteArray) (w : World) :
    Calls Try.prog 25 #[.string s] w fun e w' => e = .returned (.func (.func 28) #[] #[.pointer (some ⟨w.heap.size, 0, none⟩)]) ∧ w' = w.alloc (.cells #[.string s] 9) := by
  go_enter Try.func25, Try.ntmps25
  go_wp2
  go_ret
  exact ⟨rfl, rfl⟩

theorem spread_any (s : ByteArray) (w : World) :
    Calls Try.prog 26 #[.string s] w fun e w' => e = .returned (.func (.func 29) #[] #[.pointer (some ⟨w.heap.size, 0, none⟩)]) ∧ w' = w.alloc (.cells #[.string s] 9) := by
  go_enter Try.func26, Try.ntmps26
  go_wp2
  go_ret
  exact ⟨rfl, rfl⟩

theorem word_any (s : ByteArray) (i b : Nat) (w : World) (hc : w.cell? ⟨b, 0, none⟩ = some (.string s)) (hi : 4 * i + 4 ≤ s.size) (hs : s.size ≤ 1048576) :
    Calls Try.prog 28 #[.int .i64 i, .pointer (some ⟨b, 0, none⟩)] w fun e w' => e = .returned (.int .u32 (wd s.data.toList i)) ∧ ∃ q, w' = w.drewN q := by
  have g0 : 4 * i < s.size := by omega
  have g1 : 4 * i + 1 < s.size := by omega
  have g2 : 4 * i + 2 < s.size := by omega
  have g3 : 4 * i + 3 < s.size := by omega
  obtain ⟨F, hF⟩ : ∃ F, F = s.extract (4 * i) (4 * i + 4) := ⟨_, rfl⟩
  have hz : F.size = 4 := by rw [hF, ByteArray.size_extract]; omega
  have hget : ∀ j (hj : j < 4), F[j]'(by omega) = s[4 * i + j]'(by omega) := fun j hj => by
    simp only [hF]
    rw [ByteArray.getElem_extract]
  obtain ⟨x0, e0⟩ : ∃ x, F[0].toNat = x := ⟨_, rfl⟩
  obtain ⟨x1, e1⟩ : ∃ x, F[1].toNat = x := ⟨_, rfl⟩
  obtain ⟨x2, e2⟩ : ∃ x, F[2].toNat = x := ⟨_, rfl⟩
  obtain ⟨x3, e3⟩ : ∃ x, F[3].toNat = x := ⟨_, rfl⟩
  have b0 : x0 < 256 := by rw [← e0]; exact F[0].toNat_lt
  have b1 : x1 < 256 := by rw [← e1]; exact F[1].toNat_lt
  have b2 : x2 < 256 := by rw [← e2]; exact F[2].toNat_lt
  have b3 : x3 < 256 := by rw [← e3]; exact F[3].toNat_lt
  have hwd : wd s.data.toList i = x0 * 16777216 + x1 * 65536 + x2 * 256 + x3 := by
    have d0 : s.data.toList.getD (4 * i) 0 = s[4 * i] := by simp [List.getD, g0]; rfl
    have d1 : s.data.toList.getD (4 * i + 1) 0 = s[4 * i + 1] := by simp [List.getD, g1]; rfl
    have d2 : s.data.toList.getD (4 * i + 2) 0 = s[4 * i + 2] := by simp [List.getD, g2]; rfl
    have d3 : s.data.toList.getD (4 * i + 3) 0 = s[4 * i + 3] := by simp [List.getD, g3]; rfl
    have q0 := hget 0 (by omega)
    simp only [Nat.add_zero] at q0
    rw [wd, d0, d1, d2, d3, ← e0, ← e1, ← e2, ← e3, q0, hget 1 (by omega), hget 2 (by omega), hget 3 (by omega)]
  obtain ⟨m1, hm1⟩ : ∃ m, m = x0 * 16777216 + x1 * 65536 := ⟨_, rfl⟩
  obtain ⟨m2, hm2⟩ : ∃ m, m = m1 + x2 * 256 := ⟨_, rfl⟩
  have k1 : bits .or .u32 ((x0 : Int) * 16777216) ((x1 : Int) * 65536) = (m1 : Int) := by
    have h1 := or_add x0 (x1 * 65536) 24 (by omega)
    have h2 := bits_or32 (x0 * 16777216) (x1 * 65536) (by omega) (by omega)
    rw [show (x0 * 16777216 ||| x1 * 65536) = m1 by rw [hm1]; exact h1] at h2
    rw [← h2]; simp
  have k2 : bits .or .u32 (m1 : Int) ((x2 : Int) * 256) = (m2 : Int) := by
    have h1 := or_add (x0 * 256 + x1) (x2 * 256) 16 (by omega)
    have h2 := bits_or32 m1 (x2 * 256) (by omega) (by omega)
    rw [show (m1 ||| x2 * 256) = m2 by rw [hm2, hm1, show x0 * 16777216 + x1 * 65536 = (x0 * 256 + x1) * 2 ^ 16 by omega]; exact h1] at h2
    rw [← h2]; simp
  have k3 : bits .or .u32 (m2 : Int) (x3 : Int) = ((wd s.data.toList i : Nat) : Int) := by
    have h1 := or_add (x0 * 65536 + x1 * 256 + x2) x3 8 (by omega)
    have h2 := bits_or32 m2 x3 (by omega) (by omega)
    rw [show (m2 ||| x3) = wd s.data.toList i by rw [hwd, hm2, hm1, show x0 * 16777216 + x1 * 65536 + x2 * 256 = (x0 * 65536 + x1 * 256 + x2) * 2 ^ 8 by omega]; exact h1] at h2
    exact h2
  obtain ⟨y, hy⟩ : ∃ y, y = wd s.data.toList i := ⟨_, rfl⟩
  rw [← hy] at k3
  rw [← hy]
  have bm1 : m1 < 4294967296 := by omega
  have bm2 : m2 < 4294967296 := by omega
  have z0 : (0 : Int) < (F.size : Int) := by omega
  have z1 : (1 : Int) < (F.size : Int) := by omega
  have z2 : (2 : Int) < (F.size : Int) := by omega
  have z3 : (3 : Int) < (F.size : Int) := by omega
  have w0 : IntKind.i64.wrap (4 * (i : Int)) = 4 * (i : Int) := IntWalk.i64_in _ (by omega)
  have w1 : IntKind.i64.wrap (4 * (i : Int) + 4) = 4 * (i : Int) + 4 := IntWalk.i64_in _ (by omega)
  have n0 : (4 * (i : Int)).toNat = 4 * i := by omega
  have n1 : (4 * (i : Int) + 4).toNat = 4 * i + 4 := by omega
  have p0 : (0 : Int) ≤ 4 * (i : Int) := by omega
  have p1 : (0 : Int) ≤ 4 * (i : Int) + 4 := by omega
  have i0 : 4 * (i : Int) ≤ 4 * (i : Int) + 4 := by omega
  have i1 : 4 * (i : Int) + 4 ≤ (s.size : Int) := by omega
  clear hwd hy hm1 hm2 hget g0 g1 g2 g3 hs
  go_enter Try.func28, Try.ntmps28
  go_wp2_with fail
  rw [← hF]
  clear hF
  go_quiet (fail)
  go_wp2
  go_ret
  exact ⟨rfl, _, rfl⟩
end Go.Proofs.Ytnjiflkbgpbchaa
