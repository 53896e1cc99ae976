/-
  The contract of sha's turn (layer 5). Conditions: eight words below 2^32.
-/
import Derived.Test.YtnjiflkbgpbchaaShaW
namespace Go.Proofs.Ytnjiflkbgpbchaa
open Go.RowKit Go.Sort

set_option maxRecDepth 100000 in
theorem turn_any (v : List Nat) (Y : Array Value) (kk ww : Nat) (w : World) (hY : Y = (v.map fun (n : Nat) => Value.int .u32 (n : Int)).toArray) (lv : v.length = 8) (dv : W32 v) :
    Calls Try.prog 27 #[.agg Y, .int .u32 ((ww + kk) % 4294967296 : Nat)] w fun e w' => e = .returned (wordsOf .u32 (turn kk ww v)) ∧ Below w.heap.size w w' := by
  obtain ⟨hz8, hs8⟩ := zero_of_info eight_info
  have HS8 := Lib.hid hs8
  obtain ⟨bt, hbt⟩ : ∃ x, x = (ww + kk) % 4294967296 := ⟨_, rfl⟩
  have N0 : Nums .u32 25 (w.alloc (.cells Y 25)) w.heap.size v := by rw [hY]; exact Nums.new .u32 _ w v
  have b0 := dv.getD 0
  have b1 := dv.getD 1
  have b2 := dv.getD 2
  have b3 := dv.getD 3
  have b4 := dv.getD 4
  have b5 := dv.getD 5
  have b6 := dv.getD 6
  have b7 := dv.getD 7
  obtain ⟨a0, h0⟩ : ∃ x, x = v.getD 0 0 := ⟨_, rfl⟩
  obtain ⟨a1, h1⟩ : ∃ x, x = v.getD 1 0 := ⟨_, rfl⟩
  obtain ⟨a2, h2⟩ : ∃ x, x = v.getD 2 0 := ⟨_, rfl⟩
  obtain ⟨a3, h3⟩ : ∃ x, x = v.getD 3 0 := ⟨_, rfl⟩
  obtain ⟨a4, h4⟩ : ∃ x, x = v.getD 4 0 := ⟨_, rfl⟩
  obtain ⟨a5, h5⟩ : ∃ x, x = v.getD 5 0 := ⟨_, rfl⟩
  obtain ⟨a6, h6⟩ : ∃ x, x = v.getD 6 0 := ⟨_, rfl⟩
  obtain ⟨a7, h7⟩ : ∃ x, x = v.getD 7 0 := ⟨_, rfl⟩
  rw [← h0] at b0
  rw [← h1] at b1
  rw [← h2] at b2
  rw [← h3] at b3
  rw [← h4] at b4
  rw [← h5] at b5
  rw [← h6] at b6
  rw [← h7] at b7
  have hturn : turn kk ww v = [(tp kk ww a4 a5 a6 a7 + tq a0 a1 a2) % 4294967296, a0, a1, a2, (a3 + tp kk ww a4 a5 a6 a7) % 4294967296, a4, a5, a6] := by
    rw [turn, ← h0, ← h1, ← h2, ← h3, ← h4, ← h5, ← h6, ← h7]
  obtain ⟨pp, hpp⟩ : ∃ x, x = tp kk ww a4 a5 a6 a7 := ⟨_, rfl⟩
  obtain ⟨qq, hqq⟩ : ∃ x, x = tq a0 a1 a2 := ⟨_, rfl⟩
  rw [← hpp, ← hqq] at hturn
  rw [tp] at hpp
  rw [tq] at hqq
  have SP := Lib.hid (fun W => show Calls Try.prog 31 #[.int .u32 a4, .int .i64 6, .int .i64 11, .int .i64 25] W fun e w' => e = .returned (.int .u32 (bg1 a4)) ∧ w' = W from bmix_any a4 6 11 25 W b4 (by omega) (by omega) (by omega))
  have SQ := Lib.hid (fun W => show Calls Try.prog 31 #[.int .u32 a0, .int .i64 2, .int .i64 13, .int .i64 22] W fun e w' => e = .returned (.int .u32 (bg0 a0)) ∧ w' = W from bmix_any a0 2 13 22 W b0 (by omega) (by omega) (by omega))
  have bB1 := bg1_lt b4
  have bB0 := bg0_lt b0
  obtain ⟨B1, hB1⟩ : ∃ x, x = bg1 a4 := ⟨_, rfl⟩
  obtain ⟨B0, hB0⟩ : ∃ x, x = bg0 a0 := ⟨_, rfl⟩
  rw [← hB1] at bB1 hpp SP
  rw [← hB0] at bB0 hqq SQ
  have bch := cho_lt (x := a4) b5 b6
  have bvo := vot_lt (x := a0) b1 b2
  obtain ⟨ch, hch⟩ : ∃ x, x = cho a4 a5 a6 := ⟨_, rfl⟩
  obtain ⟨vo, hvo⟩ : ∃ x, x = vot a0 a1 a2 := ⟨_, rfl⟩
  rw [← hch] at hpp bch
  rw [← hvo] at hqq bvo
  -- choice and vote
  have hsg : IntKind.u32.signed = false := rfl
  have c1 := bits_and32 a4 a5 b4 b5
  have c2 : bits .xor .u32 IntKind.u32.max (a4 : Int) = ((a4 ^^^ 4294967295 : Nat) : Int) := by
    have := bits_xor32 4294967295 a4 (by decide) b4
    rw [Nat.xor_comm] at this
    exact this
  have c3 := bits_and32 (a4 ^^^ 4294967295) a6 (xor_lt32 b4 (by decide)) b6
  have c4 := bits_or32 (a4 &&& a5) ((a4 ^^^ 4294967295) &&& a6) (and_lt32 b5) (and_lt32 b6)
  rw [show (a4 &&& a5) ||| ((a4 ^^^ 4294967295) &&& a6) = ch from by rw [hch]; rfl] at c4
  have u1 := bits_and32 a0 a1 b0 b1
  have u2 := bits_and32 a0 a2 b0 b2
  have u3 := bits_or32 (a0 &&& a1) (a0 &&& a2) (and_lt32 b1) (and_lt32 b2)
  have u4 := bits_and32 a1 a2 b1 b2
  have u5 := bits_or32 ((a0 &&& a1) ||| (a0 &&& a2)) (a1 &&& a2) (or_lt32 (and_lt32 b1) (and_lt32 b2)) (and_lt32 b2)
  rw [show ((a0 &&& a1) ||| (a0 &&& a2)) ||| (a1 &&& a2) = vo from by rw [hvo]; rfl] at u5
  obtain ⟨q1, hq1⟩ : ∃ x, x = a4 &&& a5 := ⟨_, rfl⟩
  obtain ⟨q2, hq2⟩ : ∃ x, x = a4 ^^^ 4294967295 := ⟨_, rfl⟩
  rw [← hq1] at c1 c4
  rw [← hq2] at c2 c3 c4
  obtain ⟨q3, hq3⟩ : ∃ x, x = q2 &&& a6 := ⟨_, rfl⟩
  rw [← hq3] at c3 c4
  obtain ⟨q4, hq4⟩ : ∃ x, x = a0 &&& a1 := ⟨_, rfl⟩
  obtain ⟨q5, hq5⟩ : ∃ x, x = a0 &&& a2 := ⟨_, rfl⟩
  obtain ⟨q6, hq6⟩ : ∃ x, x = a1 &&& a2 := ⟨_, rfl⟩
  rw [← hq4] at u1 u3 u5
  rw [← hq5] at u2 u3 u5
  rw [← hq6] at u4 u5
  obtain ⟨q7, hq7⟩ : ∃ x, x = q4 ||| q5 := ⟨_, rfl⟩
  rw [← hq7] at u3 u5
  -- sums
  obtain ⟨y1, hy1⟩ : ∃ x, x = (a7 + B1) % 4294967296 := ⟨_, rfl⟩
  obtain ⟨y2, hy2⟩ : ∃ x, x = (y1 + bt) % 4294967296 := ⟨_, rfl⟩
  have k1 : IntKind.u32.wrap ((a7 : Int) + (B1 : Int)) = (y1 : Int) := by rw [IntKind.wrap_u32]; omega
  have k2 : IntKind.u32.wrap ((y1 : Int) + (bt : Int)) = (y2 : Int) := by rw [IntKind.wrap_u32]; omega
  have k3 : IntKind.u32.wrap ((y2 : Int) + (ch : Int)) = (pp : Int) := by rw [IntKind.wrap_u32]; omega
  have k4 : IntKind.u32.wrap ((B0 : Int) + (vo : Int)) = (qq : Int) := by rw [IntKind.wrap_u32]; omega
  have bpp : pp < 4294967296 := by omega
  have bqq : qq < 4294967296 := by omega
  obtain ⟨r0, hr0⟩ : ∃ x, x = (pp + qq) % 4294967296 := ⟨_, rfl⟩
  obtain ⟨r4, hr4⟩ : ∃ x, x = (a3 + pp) % 4294967296 := ⟨_, rfl⟩
  have k5 : IntKind.u32.wrap ((pp : Int) + (qq : Int)) = (r0 : Int) := by rw [IntKind.wrap_u32]; omega
  have k6 : IntKind.u32.wrap ((a3 : Int) + (pp : Int)) = (r4 : Int) := by rw [IntKind.wrap_u32]; omega
  rw [← hr0, ← hr4] at hturn
  -- memory
  obtain ⟨g, hg⟩ : ∃ g, g = w.heap.size := ⟨_, rfl⟩
  have z1 : (w.alloc (.cells Y 25)).heap.size = w.heap.size + 1 := by simp
  have M0 := N0.alloc (.cells (Array.replicate 8 (.int .u32 0)) 25)
  have M1 := Nums.zeros .u32 25 (w.alloc (.cells Y 25)) 8
  rw [z1] at M1
  have F0 : Below w.heap.size w ((w.alloc (.cells Y 25)).alloc (.cells (Array.replicate 8 (.int .u32 0)) 25)) := below_al (below_al (Below.refl _ w) _) _ (by simp)
  have HY := Lib.hid hY
  have HT := Lib.hid hturn
  have HL := Lib.hid lv
  rw [← hbt]
  clear hY dv hbt hs8 N0 z1 hq1 hq2 hq3 hq4 hq5 hq6 hq7 hch hvo hpp hqq hy1 hy2 hr0 hr4 hB1 hB0 hturn bpp bqq bB1 bB0 bch bvo b0 b1 b2 b3 b4 b5 b6 b7
  go_enter Try.func27, Try.ntmps27
  go_wp2_with fail
  obtain ⟨W0, hW0⟩ : ∃ W0, W0 = (w.alloc (.cells Y 25)).alloc (.cells (Array.replicate 8 (.int .u32 0)) 25) := ⟨_, rfl⟩
  rw [← hW0] at M0 M1 F0
  rw [← hW0, ← hg]
  rw [← hg] at M0 M1
  have d0 := M0.cellD 0 (by omega)
  rw [← h0] at d0
  have d1 := M0.cellD 1 (by omega)
  rw [← h1] at d1
  have d2 := M0.cellD 2 (by omega)
  rw [← h2] at d2
  have d3 := M0.cellD 3 (by omega)
  rw [← h3] at d3
  have d4 := M0.cellD 4 (by omega)
  rw [← h4] at d4
  have d5 := M0.cellD 5 (by omega)
  rw [← h5] at d5
  have d6 := M0.cellD 6 (by omega)
  rw [← h6] at d6
  have d7 := M0.cellD 7 (by omega)
  rw [← h7] at d7
  have R := Lib.hid (And.intro M0 (And.intro M1 F0))
  have HG := Lib.hid hg
  clear M0 M1 F0 hW0 hg lv h0 h1 h2 h3 h4 h5 h6 h7 hz8
  go_quiet (fail)
  go_wp2_with fail
  obtain ⟨W1, hW1⟩ : ∃ W1, W1 = W0.drewN nq := ⟨_, rfl⟩
  rw [← hW1]
  replace d4 : W1.cell? ⟨g, 4, none⟩ = some (.int .u32 (a4 : Int)) := by rw [hW1]; exact d4
  replace d5 : W1.cell? ⟨g, 5, none⟩ = some (.int .u32 (a5 : Int)) := by rw [hW1]; exact d5
  replace d6 : W1.cell? ⟨g, 6, none⟩ = some (.int .u32 (a6 : Int)) := by rw [hW1]; exact d6
  replace d7 : W1.cell? ⟨g, 7, none⟩ = some (.int .u32 (a7 : Int)) := by rw [hW1]; exact d7
  have R1 := Lib.hid (show Nums .u32 25 W1 (g + 1) (List.replicate 8 0) ∧ Below w.heap.size w W1 from by rw [hW1]; exact ⟨R.out.2.1.drewN _, below_drewN R.out.2.2 _⟩)
  clear hW1 R d0 d1 d2 d3
  go_quiet (fail)
  obtain ⟨W2, hW2⟩ : ∃ W2, W2 = W1.drewN nq := ⟨_, rfl⟩
  rw [← hW2]
  have HV : Value.agg #[.int .u32 (r0 : Int), .int .u32 (a0 : Int), .int .u32 (a1 : Int), .int .u32 (a2 : Int), .int .u32 (r4 : Int), .int .u32 (a4 : Int), .int .u32 (a5 : Int), .int .u32 (a6 : Int)] = wordsOf .u32 (turn kk ww v) := by rw [HT.out]; rfl
  have ht8 : (turn kk ww v).length = 8 := rfl
  have N2 : Nums .u32 25 W2 (g + 1) (List.replicate 8 0) := by rw [hW2]; exact R1.out.1.drewN _
  have F2 : Fr (fun j => w.heap.size ≤ j) w W2 := by rw [hW2]; exact (Fr.ofBelow R1.out.2).drewN _
  obtain ⟨W3, hW3⟩ : ∃ W3, W3 = W2.setRow (g + 1) ((turn kk ww v).map fun (n : Nat) => Value.int .u32 (n : Int)).toArray := ⟨_, rfl⟩
  have N3 := N2.setRow (turn kk ww v)
  have F3 := fr_setRow (g := g + 1) F2 (.inl (by show w.heap.size ≤ g + 1; rw [HG.out]; exact Nat.le_succ _)) ((turn kk ww v).map fun (n : Nat) => Value.int .u32 (n : Int)).toArray
  rw [← hW3] at N3 F3
  obtain ⟨V, hV⟩ : ∃ V, V = wordsOf .u32 (turn kk ww v) := ⟨_, rfl⟩
  have hld := load_nums (P := Try.prog) N3 25 Try.underlying25 rfl (by rw [ht8]; exact HS8.out) V hV
  have R2 := Lib.hid (And.intro N2 (And.intro hW3 (And.intro F3 (And.intro HV (And.intro ht8 (And.intro hld hV))))))
  clear N2 hW3 F3 HV ht8 hld hV hW2 d4 d5 d6 d7 R1 F2 N3
  go_wp2_with (first
    | (go_at_call 31; refine (SP.out _).mono ?_; clear SP; rintro e w1 ⟨rfl, rfl⟩)
    | (go_at_call 31; refine (SQ.out _).mono ?_; clear SQ; rintro e w1 ⟨rfl, rfl⟩)
    | (refine wpList_store_nums (by with_reducible rfl) 25 (.tmp 4) (.tmp 76) (by with_reducible rfl) (by rfl) _ (by rfl) R2.out.2.2.2.1 R2.out.1 (by rw [R2.out.2.2.2.2.1, List.length_replicate]) HS8.out W3 R2.out.2.1 ?_)
    | fail)
  exact bodyPost_ret (v := V) (results_of_cell rfl (by rfl) R2.out.2.2.2.2.2.1) rfl ⟨congrArg _ R2.out.2.2.2.2.2.2, R2.out.2.2.1.below (Nat.le_refl _) fun _ h => h⟩
end Go.Proofs.Ytnjiflkbgpbchaa
