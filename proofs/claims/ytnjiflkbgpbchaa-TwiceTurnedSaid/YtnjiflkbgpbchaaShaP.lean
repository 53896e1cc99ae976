/-
  The contract of the document's own product of numbers by digits (layer 5) over this seat's translation. Conditions: digits below 65536, rows of at most 9 digits in blocks known whole.
-/
import Derived.Test.YtnjiflkbgpbchaaRows
import Derived.Test.YtnjiflkbgpbchaaNum
import Derived.Test.YtnjiflkbgpbchaaShaN
import Derived.WalkKit
import Derived.ProofKit
import Derived.OneCell
import Derived.OwnWalk
import Derived.BigQuiet
import Derived.IntWalk
import Derived.Deep.QuietTactic
import Derived.Lib.Hide
import Derived.Laws.MakeOwn
import Derived.Sort.WalkB12
import Derived.Deep.LoopGhost
namespace Go.Proofs.Ytnjiflkbgpbchaa
open Go.RowKit Go.Sort

/-- 'make([]uint64, k)'. -/
theorem u64_info : (Try.prog.info? 34).map (fun i => (i.zero, i.size, i.bytes)) = some (some (.int .u64 0), 1, 8) := by kernel_rfl
theorem make64 (k : Nat) (hk : k ≤ 1000000) (w : World) : (Instr.makeSlice 38 (.int .i64 (k : Int)) (.int .i64 (k : Int))).run Try.prog w =
    .ok (.slice (some ⟨w.heap.size, 0, none⟩) k k) (w.alloc (.cells (Array.replicate k (.int .u64 0)) 34)) := by
  obtain ⟨i, hi, hz, hs, hb⟩ := info_parts u64_info
  have := run_make (P := Try.prog) w 38 34 i _ Try.underlying38 hi hz .i64 .i64 k k (by omega) (Int.le_refl _) (by rw [hb]; omega) (by omega)
  rw [this]
  simp only [Int.toNat_natCast, hs, Nat.mul_one]
  congr 3
  apply Array.ext_getElem?
  intro j
  by_cases hj : j < k <;> simp [madeCells, hj, Value.cells, Nat.mod_one]

set_option maxRecDepth 100000 in
set_option maxHeartbeats 2000000 in
theorem product_any (ga gb la lb ca cb : Nat) (A B : List Nat) (w : World) (hA : Nums .u64 34 w ga A) (hB : Nums .u64 34 w gb B)
    (dA : ∀ d ∈ A, d < 65536) (dB : ∀ d ∈ B, d < 65536) (nA : A.length = la) (nB : B.length = lb) (zA : la ≤ 9) (zB : lb ≤ 9) :
    Calls Try.prog 16 #[.slice (some ⟨ga, 0, none⟩) la ca, .slice (some ⟨gb, 0, none⟩) lb cb] w
      fun e w' => e = .returned (.slice (some ⟨w.heap.size, 0, none⟩) (la + lb : Nat) (la + lb : Nat)) ∧
        (∃ o, Nums .u64 34 w' w.heap.size o ∧ o.length = la + lb ∧ (∀ d ∈ o, d < 65536) ∧ dv o = dv A * dv B) ∧ Below w.heap.size w w' := by
  obtain ⟨n, hn⟩ : ∃ n, n = la + lb := ⟨_, rfl⟩
  rw [← hn]
  have hmk := make64 n (by omega) w
  have hnn : IntKind.i64.wrap ((la : Int) + (lb : Int)) = (n : Int) := by rw [IntWalk.i64_in _ (by omega)]; omega
  have hnn2 : (la : Int) + (lb : Int) = (n : Int) := by omega
  have H0 := Nums.zeros .u64 34 w n
  have F0 : Fr (fun j => w.heap.size ≤ j) w (w.alloc (.cells (Array.replicate n (.int .u64 0)) 34)) := (Fr.refl _ w).alloc _
  have HH := Lib.hid (And.intro hA (And.intro hB (And.intro dA (And.intro dB (And.intro nA nB)))))
  have n18 : n ≤ 18 := by omega
  have HN := Lib.hid hn
  have h0 := Lib.hid (And.intro H0 F0)
  have la1 := hA.lt
  have lb1 := hB.lt
  obtain ⟨g, hg⟩ : ∃ g, g = w.heap.size := ⟨_, rfl⟩
  rw [← hg] at la1 lb1
  have HG := Lib.hid hg
  clear hA hB dA dB nA nB hn H0 F0
  go_enter Try.func16, Try.ntmps16
  go_wp2_with fail
  rw [← HG.out] at h0 ⊢
  generalize w.alloc (.cells (Array.replicate n (.int .u64 0)) 34) = W at *
  clear hmk hnn hnn2 hg
  go_loopw [6] (fun v6 wr => ∃ (i : Nat) (o : List Nat), i ≤ la ∧ v6 = .int .i64 i ∧ o.length = n ∧ (∀ d ∈ o, d < 65536) ∧ dv o = dv (A.take i) * dv B ∧ Nums .u64 34 wr g o ∧ Fr (fun j => g ≤ j) w wr) (fun i _ => la - (intOf i).toNat)
  case atStart =>
    refine ⟨0, List.replicate n 0, Nat.zero_le _, rfl, by simp, ?_, by rw [dv_zero]; simp [dv], h0.out.1, h0.out.2⟩
    intro d hd
    have := (List.mem_replicate.1 hd).2
    omega
  case round =>
    obtain ⟨i, o, hi, rfl, ho, hd, hv, hN, hF⟩ := hrel
    have R1 := Lib.hid (And.intro ho (And.intro hd (And.intro hv (And.intro hN hF))))
    clear ho hd hv hN hF
    by_cases hlt : i < la
    · go_wp2
      go_loopw [7] (fun v7 wr => ∃ (k : Nat) (o : List Nat), k ≤ lb ∧ v7 = .int .i64 k ∧ o.length = n ∧ (∀ d ∈ o, d < 65536) ∧ dv o = dv (A.take i) * dv B + (A.getD i 0) * 65536 ^ i * dv (B.take k) ∧ Nums .u64 34 wr g o ∧ Fr (fun j => g ≤ j) w wr) (fun i _ => lb - (intOf i).toNat)
      case atStart =>
        exact ⟨0, o, Nat.zero_le _, rfl, R1.out.1, R1.out.2.1, by rw [R1.out.2.2.1]; simp [dv], R1.out.2.2.2.1, R1.out.2.2.2.2⟩
      case round =>
        obtain ⟨k, o, hk, rfl, ho, hd, hv, hN, hF⟩ := hrel
        by_cases hkl : k < lb
        · have hik : i + k < o.length := by rw [ho, HN.out]; omega
          have hiA : i < A.length := by rw [HH.out.2.2.2.2.1]; exact hlt
          have hkB : k < B.length := by rw [HH.out.2.2.2.2.2]; exact hkl
          have c0 := hN.cellD (i + k) hik
          have f0 := hN.free (i + k)
          have cA := (HH.out.1.frame hF (by show ¬ g ≤ ga; omega)).cellD i hiA
          have cB := (HH.out.2.1.frame hF (by show ¬ g ≤ gb; omega)).cellD k hkB
          have bz := getD_lt o (i + k) _ hd hik
          have ba := getD_lt A i _ HH.out.2.2.1 hiA
          have bb := getD_lt B k _ HH.out.2.2.2.1 hkB
          have hT := part_ltD A B i (k + 1) HH.out.2.2.1 HH.out.2.2.2.1 hiA
          rw [part_step A B i k hkB, ← hv, HH.out.2.2.2.2.1, HH.out.2.2.2.2.2, ← HN.out] at hT
          have hx := dv_carryD o (i + k) (A.getD i 0 * B.getD k 0) hik
          obtain ⟨z, hz⟩ : ∃ z, z = o.getD (i + k) 0 := ⟨_, rfl⟩
          obtain ⟨a, ha⟩ : ∃ a, a = A.getD i 0 := ⟨_, rfl⟩
          obtain ⟨b, hb⟩ : ∃ b, b = B.getD k 0 := ⟨_, rfl⟩
          rw [← hz] at c0 bz hx
          rw [← ha] at cA ba hx hT
          rw [← hb] at cB bb hx hT
          obtain ⟨q, hq⟩ : ∃ q, q = a * b := ⟨_, rfl⟩
          have bq : q < 4294967296 := by
            rw [hq]
            have := Nat.mul_le_mul (Nat.le_of_lt_succ ba) (Nat.le_of_lt_succ bb)
            omega
          have s1 : IntKind.i64.wrap ((i : Int) + (k : Int)) = (i : Int) + (k : Int) := IntWalk.i64_in _ (by omega)
          have s2 : ((i : Int) + (k : Int)).toNat = i + k := by omega
          have s3 : (0 : Int) ≤ (i : Int) + (k : Int) := by omega
          have s4 : (i : Int) + (k : Int) < (n : Int) := by have := HN.out; omega
          have s5 : IntKind.u64.wrap ((a : Int) * (b : Int)) = (q : Int) := by
            have : (a : Int) * (b : Int) = (q : Int) := by rw [hq]; simp
            rw [this, IntKind.wrap_u64]; omega
          obtain ⟨x, hxe⟩ : ∃ x, x = z + q := ⟨_, rfl⟩
          rw [← hq, ← hxe] at hx
          have bx : x < 8589934592 := by omega
          have s6 : IntKind.u64.wrap ((z : Int) + (q : Int)) = (x : Int) := by rw [IntKind.wrap_u64]; omega
          have s7 : IntKind.i64.wrap ((i : Int) + (k : Int) + 1) = ((i + k + 1 : Nat) : Int) := by rw [IntWalk.i64_in _ (by omega)]; omega
          have R2 := Lib.hid (And.intro ho (And.intro hd (And.intro hv (And.intro hN hF))))
          rw [ha, hb] at hq
          have HZ := Lib.hid (And.intro hq (And.intro hxe (And.intro hx hT)))
          have HI := Lib.hid (And.intro hik (And.intro hiA hkB))
          clear ho hd hv hN hF hz ha hb hq hik hiA hkB hx hT hxe
          go_wp2_with fail
          go_region
          go_wp2_with fail
          clear c0 f0 cA cB s1 s2 s3 s4 s5 s6 s7
          go_loopw [8, 9] (fun v8 v9 wr => ∃ (x m : Nat) (o : List Nat), v8 = .int .u64 x ∧ v9 = .int .i64 m ∧ m ≤ n ∧ x < 8589934592 ∧ o.length = n ∧ (∀ d ∈ o, d < 65536) ∧
            dv o + x / 65536 * 65536 ^ m = dv (A.take i) * dv B + A.getD i 0 * 65536 ^ i * dv (B.take (k + 1)) ∧ Nums .u64 34 wr g o ∧ Fr (fun j => g ≤ j) w wr) (fun _ i _ => n - (intOf i).toNat)
          case atStart =>
            obtain ⟨ho, hd, hv, hN, hF⟩ := R2.out
            obtain ⟨hik, hiA, hkB⟩ := HI.out
            obtain ⟨hq, hxe, hx, hT⟩ := HZ.out
            refine ⟨x, i + k + 1, o.set (i + k) (x % 65536), rfl, by go_num, by omega, bx, by rw [List.length_set]; exact ho, digits_set _ _ _ hd (by omega), ?_, ?_, ?_⟩
            · rw [part_step A B i k hkB, ← hv, ← hq]
              exact hx
            · have := (hN.set (i + k) (x % 65536)).drew
              simpa using this
            · exact hF.drew.setCell (p := ⟨g, i + k, none⟩) (.inl (Nat.le_refl _)) _
          case round =>
            clear R2 HZ
            obtain ⟨x, m, o, rfl, rfl, hm, bx, ho, hd, hv, hN, hF⟩ := hrel
            have hT := part_ltD A B i (k + 1) HH.out.2.2.1 HH.out.2.2.2.1 HI.out.2.1
            rw [← hv, HH.out.2.2.2.2.1, HH.out.2.2.2.2.2, ← HN.out] at hT
            by_cases hxx : 65536 ≤ x
            · have hmn : m < n := carry_within rfl (by omega) hT
              have c0 := hN.cellD m (by rw [ho]; exact hmn)
              have f0 := hN.free m
              have bz := getD_lt o m _ hd (by rw [ho]; exact hmn)
              have hx := dv_carryD o m (x / 65536) (by rw [ho]; exact hmn)
              obtain ⟨z, hz⟩ : ∃ z, z = o.getD m 0 := ⟨_, rfl⟩
              rw [← hz] at c0 bz hx
              obtain ⟨y, hy⟩ : ∃ y, y = z + x / 65536 := ⟨_, rfl⟩
              rw [← hy] at hx
              have by1 : y < 8589934592 := by omega
              have s6 : IntKind.u64.wrap ((x : Int) / 65536 + (z : Int)) = (y : Int) := by rw [IntKind.wrap_u64]; omega
              have R3 := Lib.hid (And.intro ho (And.intro hd (And.intro hv (And.intro hN (And.intro hF hx)))))
              have t1 : decide ((65536 : Int) ≤ (x : Int)) = true := by simp; omega
              clear ho hd hv hN hF hx hz hy hT hxx
              go_wp2
              go_roundw
              case rel =>
                obtain ⟨ho, hd, hv, hN, hF, hx⟩ := R3.out
                refine ⟨y, m + 1, o.set m (y % 65536), rfl, by go_num, by omega, by1, by rw [List.length_set]; exact ho, digits_set _ _ _ hd (by omega), ?_, ?_, ?_⟩
                · rw [hx]; exact hv
                · have := hN.set m (y % 65536)
                  simpa using this
                · exact hF.setCell (p := ⟨g, m, none⟩) (.inl (Nat.le_refl _)) _
              case measure => simp [intOf]; omega
            · have hx0 : x / 65536 = 0 := by omega
              rw [hx0, Nat.zero_mul, Nat.add_zero] at hv
              have R3 := Lib.hid (And.intro ho (And.intro hd (And.intro hv (And.intro hN hF))))
              have t1 : decide ((65536 : Int) ≤ (x : Int)) = false := by simp; omega
              clear ho hd hv hN hF hT hx0 hxx
              go_wp2
              go_roundw
              case rel => exact ⟨k + 1, o, by omega, by go_num, R3.out⟩
              case measure => simp [intOf]; omega
        · obtain rfl : k = lb := by omega
          have hiA : i < A.length := by rw [HH.out.2.2.2.2.1]; exact hlt
          have hv2 := part_done A B i hiA
          rw [HH.out.2.2.2.2.2] at hv2
          rw [hv2] at hv
          have R3 := Lib.hid (And.intro ho (And.intro hd (And.intro hv (And.intro hN hF))))
          clear ho hd hv hN hF hv2 hiA
          go_wp2
          go_roundw
          case rel => exact ⟨i + 1, o, by omega, by go_num, R3.out⟩
          case measure => simp [intOf]; omega
    · obtain rfl : i = la := by omega
      go_wp2
      go_ret
      obtain ⟨ho, hd, hv, hN, hF⟩ := R1.out
      rw [← HH.out.2.2.2.2.1, List.take_length] at hv
      rw [← HG.out]
      exact ⟨rfl, ⟨o, hN, ho, hd, hv⟩, hF.below (Nat.le_of_eq HG.out) (fun _ h => h)⟩
end Go.Proofs.Ytnjiflkbgpbchaa
