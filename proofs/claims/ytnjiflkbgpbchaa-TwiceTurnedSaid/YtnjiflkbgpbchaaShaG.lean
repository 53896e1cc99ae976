/-
  The contract of the document's own search for the roots (layer 5) over this seat's translation. No condition.
-/
import Derived.Test.YtnjiflkbgpbchaaShaK
namespace Go.Proofs.Ytnjiflkbgpbchaa
open Go.RowKit Go.Sort

theorem key_info : (Try.prog.info? 27).map (fun i => (i.zero, i.size)) = some (some (.agg (Array.replicate 72 (.int .u32 0))), 72) := by kernel_rfl

set_option maxRecDepth 100000 in
set_option maxHeartbeats 2000000 in
theorem makeKey_any (w : World) :
    Calls Try.prog 6 #[] w fun e w' => e = .returned (wordsOf .u32 (K64 ++ F8)) ∧ Below w.heap.size w w' := by
  obtain ⟨hz, hs⟩ := zero_of_info key_info
  go_enter Try.func6, Try.ntmps6
  go_wp2_with fail
  have H0 := (Nums.zeros .u32 27 w 72).alloc (.cells (Array.replicate 72 (.int .u32 0)) 27)
  have H1 := Nums.zeros .u32 27 (w.alloc (.cells (Array.replicate 72 (.int .u32 0)) 27)) 72
  have F0 : Fr (fun j => w.heap.size ≤ j) w ((w.alloc (.cells (Array.replicate 72 (.int .u32 0)) 27)).alloc (.cells (Array.replicate 72 (.int .u32 0)) 27)) := ((Fr.refl _ w).alloc _).alloc _
  have z1 : (w.alloc (.cells (Array.replicate 72 (.int .u32 0)) 27)).heap.size = w.heap.size + 1 := by simp
  rw [z1] at H1
  generalize (w.alloc (.cells (Array.replicate 72 (.int .u32 0)) 27)).alloc (.cells (Array.replicate 72 (.int .u32 0)) 27) = W at *
  rw [← keyAt_zero] at H0 H1
  obtain ⟨g, hg⟩ : ∃ g, g = w.heap.size := ⟨_, rfl⟩
  rw [← hg] at H0 H1 F0
  rw [← hg]
  have HG := Lib.hid hg
  have HS := Lib.hid hs
  have R0 := Lib.hid (And.intro H0 (And.intro H1 F0))
  clear hz hs z1 H0 H1 F0 hg
  go_loopw [2, 3] (fun v2 v3 wr => ∃ (n p : Nat), v2 = .int .i64 n ∧ v3 = .int .u64 p ∧ 2 ≤ p ∧ p ≤ 312 ∧ n = cnt p ∧ n ≤ 64 ∧ Nums .u32 27 wr g (keyAt 0) ∧ Nums .u32 27 wr (g + 1) (keyAt n) ∧ Fr (fun j => g ≤ j) w wr) (fun _ p _ => 312 - (intOf p).toNat)
  case atStart => exact ⟨0, 2, rfl, rfl, by omega, by omega, cnt_two.symm, by omega, R0.out⟩
  case round =>
    clear R0
    obtain ⟨n, p, rfl, rfl, hp2, hp, hn, hn64, hA, hB, hF⟩ := hrel
    by_cases hlt : n < 64
    · have hp3 : p < 312 := by
        rcases Nat.lt_or_ge p 312 with h | h
        · exact h
        · have : p = 312 := by omega
          subst this
          rw [hn, cnt_all] at hlt
          omega
      obtain ⟨_, hyes, hno⟩ := good_at p hp3 hp2
      rw [← hn] at hyes hno
      have R := Lib.hid (And.intro hyes (And.intro hno (And.intro hn (And.intro hA (And.intro hB hF)))))
      clear hyes hno hn hA hB hF
      go_wp2
      go_loop [4, 5] (fun v4 v5 => ∃ d : Nat, 2 ≤ d ∧ d ≤ p ∧ v5 = .int .u64 d ∧ v4 = .bool (bp p d)) (fun _ d => p - (intOf d).toNat)
      case atStart => exact ⟨2, by omega, by omega, rfl, by rw [bp_two]⟩
      case round =>
        obtain ⟨d, hd2, hdp, rfl, rfl⟩ := hrel
        by_cases hdlt : d < p
        · have hs := bp_step p d hd2
          cases hb : bp p d with
          | true =>
            rw [hb, Bool.true_and] at hs
            have HS2 := Lib.hid hs
            clear hs hb
            have t1 : decide (d < p) = true := by simpa using hdlt
            go_wp2
            go_round
            case rel => exact ⟨d + 1, by omega, by omega, by go_num, by rw [HS2.out]; exact congrArg Value.bool (decide_eq_decide.2 (by rw [← Int.natCast_emod]; omega))⟩
            case measure => (simp [intOf]) <;> omega
          | false =>
            rw [hb, Bool.false_and] at hs
            have HS2 := Lib.hid hs
            clear hs hb
            have t1 : decide (d < p) = true := by simpa using hdlt
            go_wp2
            go_round
            case rel => exact ⟨d + 1, by omega, by omega, by go_num, by rw [HS2.out]⟩
            case measure => (simp [intOf]) <;> omega
        · obtain rfl : d = p := by omega
          have t1 : decide (d < d) = false := by simp
          cases hb : bp d d with
          | false =>
            have hc := R.out.2.1 hb
            have HC := Lib.hid hc
            clear hb hc
            go_wp2
            go_roundw
            case rel => exact ⟨n, d + 1, rfl, by go_num, by omega, by omega, by rw [HC.out], hn64, R.out.2.2.2⟩
            case measure => (simp [intOf]) <;> omega
          | true =>
            have hc := R.out.1 hb
            have HC := Lib.hid hc
            clear hb hc
            go_wp2_with fail
            refine (fraction3_any d (by omega) _).mono ?_
            rw [show frq d 3 36 0 % 4294967296 = K64.getD n 0 from HC.out.2.1.symm]
            rintro e w1 ⟨rfl, b1⟩
            obtain ⟨kk, hkk⟩ : ∃ kk, kk = K64.getD n 0 := ⟨_, rfl⟩
            rw [← hkk]
            have NA := R.out.2.2.2.1.bel b1
            have NB := R.out.2.2.2.2.1.bel b1
            have F1 := R.out.2.2.2.2.2.trans (Fr.ofBelow b1)
            have hl := keyAt_length n hn64
            have c0 := NB.cellD n (by omega)
            have f0 := NB.free n
            have NA2 := NA.far (p := ⟨g + 1, n, none⟩) (by show g ≠ g + 1; omega) (.int .u32 (kk : Int))
            have NB2 := NB.set n kk
            have F2 := F1.setCell (p := ⟨g + 1, n, none⟩) (.inl (Nat.le_succ g)) (.int .u32 (kk : Int))
            have G := Lib.hid (And.intro NA2 (And.intro NB2 (And.intro F2 (And.intro hkk hl))))
            clear b1 NA NB F1 hl NA2 NB2 F2 hkk
            by_cases h8 : n < 8
            · have t8 : decide ((n : Int) < 8) = true := by simp; omega
              have HK2 := Lib.hid (HC.out.2.2 h8)
              go_wp2_with fail
              refine (fraction2_any d (by omega) _).mono ?_
              rw [show frq d 2 36 0 % 4294967296 = F8.getD n 0 from HK2.out.symm]
              rintro e w2 ⟨rfl, b2⟩
              obtain ⟨ff, hff⟩ : ∃ ff, ff = F8.getD n 0 := ⟨_, rfl⟩
              rw [← hff]
              have NA := G.out.1.bel b2
              have NB := G.out.2.1.bel b2
              have F1 := G.out.2.2.1.trans (Fr.ofBelow b2)
              have c1 := NB.cellD (64 + n) (by rw [List.length_set, G.out.2.2.2.2]; omega)
              have f1 := NB.free (64 + n)
              have NA2 := NA.far (p := ⟨g + 1, 64 + n, none⟩) (by show g ≠ g + 1; omega) (.int .u32 (ff : Int))
              have NB2 := NB.set (64 + n) ff
              have F2 := F1.setCell (p := ⟨g + 1, 64 + n, none⟩) (.inl (Nat.le_succ g)) (.int .u32 (ff : Int))
              have G2 := Lib.hid (And.intro NA2 (And.intro NB2 (And.intro F2 hff)))
              clear b2 NA NB F1 NA2 NB2 F2 hff c0 f0
              go_wp2
              go_roundw
              case rel => exact ⟨n + 1, d + 1, by go_num, by go_num, by omega, by omega, HC.out.1.symm, by omega, G2.out.1, by rw [step_small n h8, ← G.out.2.2.2.1, ← G2.out.2.2.2]; exact G2.out.2.1, G2.out.2.2.1⟩
              case measure => (simp [intOf]) <;> omega
            · have t8 : decide ((n : Int) < 8) = false := by simp; omega
              go_wp2
              go_roundw
              case rel => exact ⟨n + 1, d + 1, by go_num, by go_num, by omega, by omega, HC.out.1.symm, by omega, G.out.1, by rw [step_big n hlt (by omega), ← G.out.2.2.2.1]; exact G.out.2.1, G.out.2.2.1⟩
              case measure => (simp [intOf]) <;> omega
    · obtain rfl : n = 64 := by omega
      clear hn
      obtain ⟨V, hV⟩ : ∃ V, V = wordsOf .u32 (keyAt 64) := ⟨_, rfl⟩
      obtain ⟨W2, hW2⟩ : ∃ W2, W2 = wr.setRow g ((keyAt 64).map fun (n : Nat) => Value.int .u32 (n : Int)).toArray := ⟨_, rfl⟩
      have hA2 := hA.setRow (keyAt 64)
      have hF2 := fr_setRow hF (.inl (Nat.le_refl g)) ((keyAt 64).map fun (n : Nat) => Value.int .u32 (n : Int)).toArray
      rw [← hW2] at hA2 hF2
      have hld := load_nums (P := Try.prog) hA2 27 Try.underlying27 rfl HS.out V hV
      have H := Lib.hid (And.intro hA (And.intro hB (And.intro hF2 (And.intro hV hW2))))
      have HL := Lib.hid hld
      clear hA hB hF hA2 hF2 hld hV hW2
      go_wp2_with (first
        | (refine wpList_load_nums (by with_reducible rfl) 27 (.tmp 1) (by with_reducible rfl) (by rfl) H.out.2.1 Try.underlying27 rfl HS.out V H.out.2.2.2.1 ?_)
        | (refine wpList_store_nums (by with_reducible rfl) 27 (.tmp 0) (.tmp 38) (by with_reducible rfl) (by rfl) V (by rfl) H.out.2.2.2.1 H.out.1 rfl HS.out W2 H.out.2.2.2.2 ?_))
      have hfin : Ending.returned V = .returned (wordsOf .u32 (K64 ++ F8)) := by rw [H.out.2.2.2.1]; rfl
      refine bodyPost_ret (v := V) (results_of_cell rfl (by rfl) HL.out) rfl ⟨hfin, H.out.2.2.1.below (Nat.le_refl _) (fun _ h => by rw [← HG.out]; exact h)⟩
end Go.Proofs.Ytnjiflkbgpbchaa
