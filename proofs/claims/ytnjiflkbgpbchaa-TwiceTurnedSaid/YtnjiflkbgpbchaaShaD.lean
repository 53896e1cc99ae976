/-
  The contract of the document's own Mix (layer 5) over this seat's translation. Conditions: words below 2^32, a block of 64 bytes.
-/
import Derived.Test.YtnjiflkbgpbchaaShaB
import Derived.Test.YtnjiflkbgpbchaaStill
namespace Go.Proofs.Ytnjiflkbgpbchaa
open Go.RowKit Go.Sort

theorem eight_info : (Try.prog.info? 25).map (fun i => (i.zero, i.size)) = some (some (.agg (Array.replicate 8 (.int .u32 0))), 8) := by kernel_rfl
theorem u32_info : (Try.prog.info? 23).map (fun i => (i.zero, i.size, i.bytes)) = some (some (.int .u32 0), 1, 4) := by kernel_rfl
theorem make32 (w : World) : (Instr.makeSlice 46 (.int .i64 64) (.int .i64 64)).run Try.prog w =
    .ok (.slice (some ⟨w.heap.size, 0, none⟩) 64 64) (w.alloc (.cells (Array.replicate 64 (.int .u32 0)) 23)) := by
  obtain ⟨i, hi, hz, hs, hb⟩ := info_parts u32_info
  have := run_make (P := Try.prog) w 46 23 i _ Try.underlying46 hi hz .i64 .i64 64 64 (by omega) (Int.le_refl _) (by rw [hb]; omega) (by omega)
  rw [this]
  simp only [show (64 : Int).toNat = 64 from rfl, hs]
  congr 3
  apply Array.ext_getElem?
  intro j
  by_cases hj : j < 64 <;> simp [madeCells, hj, Value.cells, Nat.mod_one]

set_option maxRecDepth 100000 in
set_option maxHeartbeats 2000000 in
theorem refMix_any (K v : List Nat) (s : ByteArray) (X Y : Array Value) (w : World) (hX : X = (K.map fun (n : Nat) => Value.int .u32 (n : Int)).toArray) (hY : Y = (v.map fun (n : Nat) => Value.int .u32 (n : Int)).toArray)
    (lK : K.length = 72) (lv : v.length = 8) (dK : W32 K) (dv : W32 v) (hs : s.size = 64) :
    Calls Try.prog 15 #[.agg X, .agg Y, .string s] w fun e w' => e = .returned (wordsOf .u32 (mixed K s.data.toList v)) ∧ Below w.heap.size w w' := by
  have hmk := make32
  obtain ⟨hz8, hs8⟩ := zero_of_info eight_info
  have HH := Lib.hid (And.intro lK (And.intro lv (And.intro dK (And.intro dv hs))))
  have HS8 := Lib.hid hs8
  have HX := Lib.hid hX
  have HY := Lib.hid hY
  clear lK lv dK dv hs hs8 hX hY
  go_enter Try.func15, Try.ntmps15
  go_wp2_with fail
  have N0 : Nums .u32 27 (w.alloc (.cells X 27)) w.heap.size K := by rw [HX.out]; exact Nums.new .u32 _ w K
  have z1 : (w.alloc (.cells X 27)).heap.size = w.heap.size + 1 := by simp
  have N1 : Nums .u32 25 ((w.alloc (.cells X 27)).alloc (.cells Y 25)) (w.heap.size + 1) v := by rw [← z1, HY.out]; exact Nums.new .u32 _ _ v
  have z2 : ((w.alloc (.cells X 27)).alloc (.cells Y 25)).heap.size = w.heap.size + 1 + 1 := by simp
  have N2 := Nums.zeros .u32 25 ((w.alloc (.cells X 27)).alloc (.cells Y 25)) 8
  rw [z2] at N2
  have z3 : (((w.alloc (.cells X 27)).alloc (.cells Y 25)).alloc (.cells (Array.replicate 8 (.int .u32 0)) 25)).heap.size = w.heap.size + 1 + 1 + 1 := by simp
  have N3 := Nums.zeros .u32 23 (((w.alloc (.cells X 27)).alloc (.cells Y 25)).alloc (.cells (Array.replicate 8 (.int .u32 0)) 25)) 64
  rw [z3] at N3
  have M0 := ((N0.alloc (.cells Y 25)).alloc (.cells (Array.replicate 8 (.int .u32 0)) 25)).alloc (.cells (Array.replicate 64 (.int .u32 0)) 23)
  have M1 := (N1.alloc (.cells (Array.replicate 8 (.int .u32 0)) 25)).alloc (.cells (Array.replicate 64 (.int .u32 0)) 23)
  have M2 := N2.alloc (.cells (Array.replicate 64 (.int .u32 0)) 23)
  have F0 : Below w.heap.size w ((((w.alloc (.cells X 27)).alloc (.cells Y 25)).alloc (.cells (Array.replicate 8 (.int .u32 0)) 25)).alloc (.cells (Array.replicate 64 (.int .u32 0)) 23)) :=
    ((((Below.refl _ w).alloc (Nat.le_refl _) _).alloc (by simp) _).alloc (by simp; omega) _).alloc (by simp; omega) _
  generalize (((w.alloc (.cells X 27)).alloc (.cells Y 25)).alloc (.cells (Array.replicate 8 (.int .u32 0)) 25)).alloc (.cells (Array.replicate 64 (.int .u32 0)) 23) = W at *
  obtain ⟨g, hg⟩ : ∃ g, g = w.heap.size := ⟨_, rfl⟩
  rw [← hg] at M0 M1 M2 N3 F0
  rw [← hg]
  have HG := Lib.hid hg
  have R0 := Lib.hid (And.intro M0 (And.intro M1 (And.intro M2 (And.intro N3 F0))))
  clear N0 N1 N2 N3 M0 M1 M2 F0 z1 z2 z3 hg hmk hz8
  go_loopw [8] (fun v8 wr => ∃ i : Nat, v8 = .int .i64 i ∧ i ≤ 64 ∧ Nums .u32 23 wr (g + 1 + 1 + 1) (spr s.data.toList i ++ List.replicate (64 - i) 0) ∧ Fr (fun j => j = g + 1 + 1 + 1) W wr) (fun i _ => 64 - (intOf i).toNat)
  case atStart => exact ⟨0, rfl, by omega, R0.out.2.2.2.1, Fr.refl _ _⟩
  case round =>
    obtain ⟨i, rfl, hi, hN, hF⟩ := hrel
    by_cases hlt : i < 64
    · obtain ⟨row, hrow⟩ : ∃ row, row = spr s.data.toList i ++ List.replicate (64 - i) 0 := ⟨_, rfl⟩
      rw [← hrow] at hN
      have hl : row.length = 64 := by rw [hrow, List.length_append, spr_length, List.length_replicate]; omega
      have hget : ∀ j, j < i → row.getD j 0 = (spr s.data.toList i).getD j 0 := fun j hj => by
        rw [hrow]
        simp only [List.getD, List.getElem?_append_left (show j < (spr s.data.toList i).length by rw [spr_length]; exact hj)]
      have hset : ∀ x, row.set i x = spr s.data.toList i ++ [x] ++ List.replicate (64 - (i + 1)) 0 := fun x => by
        rw [hrow, List.set_append_right _ _ (by rw [spr_length]; exact Nat.le_refl _), spr_length, Nat.sub_self]
        obtain ⟨m, hm⟩ : ∃ m, 64 - i = m + 1 := ⟨64 - i - 1, by omega⟩
        have hm2 : 64 - (i + 1) = m := by omega
        rw [hm, hm2, List.replicate_succ, List.set_cons_zero, List.append_assoc]
        rfl
      have cf := hN.free i
      have ci := hN.cellD i (by omega)
      by_cases h16 : 16 ≤ i
      · have t16 : decide ((16 : Int) ≤ (i : Int)) = true := by simp; omega
        have hw := spr_w32 s.data.toList i
        have c15 := hN.cellD (i - 15) (by omega)
        have c2 := hN.cellD (i - 2) (by omega)
        have c16 := hN.cellD (i - 16) (by omega)
        have c7 := hN.cellD (i - 7) (by omega)
        rw [hget _ (by omega)] at c15 c2 c16 c7
        have b15 := hw.getD (i - 15)
        have b2 := hw.getD (i - 2)
        have b16 := hw.getD (i - 16)
        have b7 := hw.getD (i - 7)
        obtain ⟨x15, e15⟩ : ∃ x, x = (spr s.data.toList i).getD (i - 15) 0 := ⟨_, rfl⟩
        obtain ⟨x2, e2⟩ : ∃ x, x = (spr s.data.toList i).getD (i - 2) 0 := ⟨_, rfl⟩
        obtain ⟨x16, e16⟩ : ∃ x, x = (spr s.data.toList i).getD (i - 16) 0 := ⟨_, rfl⟩
        obtain ⟨x7, e7⟩ : ∃ x, x = (spr s.data.toList i).getD (i - 7) 0 := ⟨_, rfl⟩
        rw [← e15] at c15 b15
        rw [← e2] at c2 b2
        rw [← e16] at c16 b16
        rw [← e7] at c7 b7
        have hnx : nxw (spr s.data.toList i) i = (x16 + sm0 x15 + x7 + sm1 x2) % 4294967296 := by rw [nxw, ← e15, ← e2, ← e16, ← e7]
        have R := Lib.hid (And.intro hN (And.intro hF (And.intro hl (And.intro hset hnx))))
        have w15 : IntKind.i64.wrap ((i : Int) - 15) = (i : Int) - 15 := IntWalk.i64_in _ (by omega)
        have w2 : IntKind.i64.wrap ((i : Int) - 2) = (i : Int) - 2 := IntWalk.i64_in _ (by omega)
        have w16 : IntKind.i64.wrap ((i : Int) - 16) = (i : Int) - 16 := IntWalk.i64_in _ (by omega)
        have w7 : IntKind.i64.wrap ((i : Int) - 7) = (i : Int) - 7 := IntWalk.i64_in _ (by omega)
        have n15 : ((i : Int) - 15).toNat = i - 15 := by omega
        have n2 : ((i : Int) - 2).toNat = i - 2 := by omega
        have n16 : ((i : Int) - 16).toNat = i - 16 := by omega
        have n7 : ((i : Int) - 7).toNat = i - 7 := by omega
        have p15 : (0 : Int) ≤ (i : Int) - 15 := by omega
        have p2 : (0 : Int) ≤ (i : Int) - 2 := by omega
        have p16 : (0 : Int) ≤ (i : Int) - 16 := by omega
        have p7 : (0 : Int) ≤ (i : Int) - 7 := by omega
        have r16 : (16 : Int) ≤ (i : Int) := by omega
        have r15 : (15 : Int) ≤ (i : Int) := by omega
        have r7 : (7 : Int) ≤ (i : Int) := by omega
        have r2 : (2 : Int) ≤ (i : Int) := by omega
        have q15 : (i : Int) - 15 < 64 := by omega
        have q2 : (i : Int) - 2 < 64 := by omega
        have q16 : (i : Int) - 16 < 64 := by omega
        have q7 : (i : Int) - 7 < 64 := by omega
        clear hN hF hl hset hget hrow hw e15 e2 e16 e7
        obtain ⟨pa, hpa⟩ : ∃ x, x = spn x15 7 := ⟨_, rfl⟩
        obtain ⟨pb, hpb⟩ : ∃ x, x = spn x15 18 := ⟨_, rfl⟩
        obtain ⟨pc, hpc⟩ : ∃ x, x = spn x2 17 := ⟨_, rfl⟩
        obtain ⟨pd, hpd⟩ : ∃ x, x = spn x2 19 := ⟨_, rfl⟩
        have S1 := Lib.hid (fun W => show Calls Try.prog 21 #[.int .u32 x15, .int .u64 7] W fun e w' => e = .returned (.int .u32 pa) ∧ w' = W from by rw [hpa]; exact (refSpin_any x15 7 W b15 (by omega)).mono fun _ _ ⟨h1, h2⟩ => ⟨h1, h2.symm⟩)
        have S2 := Lib.hid (fun W => show Calls Try.prog 21 #[.int .u32 x15, .int .u64 18] W fun e w' => e = .returned (.int .u32 pb) ∧ w' = W from by rw [hpb]; exact (refSpin_any x15 18 W b15 (by omega)).mono fun _ _ ⟨h1, h2⟩ => ⟨h1, h2.symm⟩)
        have S3 := Lib.hid (fun W => show Calls Try.prog 21 #[.int .u32 x2, .int .u64 17] W fun e w' => e = .returned (.int .u32 pc) ∧ w' = W from by rw [hpc]; exact (refSpin_any x2 17 W b2 (by omega)).mono fun _ _ ⟨h1, h2⟩ => ⟨h1, h2.symm⟩)
        have S4 := Lib.hid (fun W => show Calls Try.prog 21 #[.int .u32 x2, .int .u64 19] W fun e w' => e = .returned (.int .u32 pd) ∧ w' = W from by rw [hpd]; exact (refSpin_any x2 19 W b2 (by omega)).mono fun _ _ ⟨h1, h2⟩ => ⟨h1, h2.symm⟩)
        have ba : pa < 4294967296 := by rw [hpa]; exact spn_lt b15
        have bb : pb < 4294967296 := by rw [hpb]; exact spn_lt b15
        have bc : pc < 4294967296 := by rw [hpc]; exact spn_lt b2
        have bd : pd < 4294967296 := by rw [hpd]; exact spn_lt b2
        have k1 := bits_xor32 pa pb ba bb
        have k3 := bits_xor32 pc pd bc bd
        have k2 : bits .xor .u32 ((pa ^^^ pb : Nat) : Int) ((x15 : Int) / 8) = ((sm0 x15 : Nat) : Int) := by
          have := bits_xor32 (pa ^^^ pb) (x15 / 2 ^ 3) (xor_lt32 ba bb) (div_lt32 b15)
          rw [sm0, ← hpa, ← hpb, ← this, Int.natCast_ediv]; rfl
        have k4 : bits .xor .u32 ((pc ^^^ pd : Nat) : Int) ((x2 : Int) / 1024) = ((sm1 x2 : Nat) : Int) := by
          have := bits_xor32 (pc ^^^ pd) (x2 / 2 ^ 10) (xor_lt32 bc bd) (div_lt32 b2)
          rw [sm1, ← hpc, ← hpd, ← this, Int.natCast_ediv]; rfl
        have bs0 := sm0_lt b15
        have bs1 := sm1_lt b2
        obtain ⟨m1, hm1⟩ : ∃ x, x = pa ^^^ pb := ⟨_, rfl⟩
        obtain ⟨m2, hm2⟩ : ∃ x, x = pc ^^^ pd := ⟨_, rfl⟩
        obtain ⟨s0, hs0⟩ : ∃ x, x = sm0 x15 := ⟨_, rfl⟩
        obtain ⟨s1, hs1⟩ : ∃ x, x = sm1 x2 := ⟨_, rfl⟩
        rw [← hm1] at k1 k2
        rw [← hm2] at k3 k4
        rw [← hs0] at k2 bs0 hnx
        rw [← hs1] at k4 bs1 hnx
        obtain ⟨y1, hy1⟩ : ∃ x, x = (x16 + s0) % 4294967296 := ⟨_, rfl⟩
        obtain ⟨y2, hy2⟩ : ∃ x, x = (y1 + x7) % 4294967296 := ⟨_, rfl⟩
        obtain ⟨y3, hy3⟩ : ∃ x, x = (y2 + s1) % 4294967296 := ⟨_, rfl⟩
        have k5 : IntKind.u32.wrap ((x16 : Int) + (s0 : Int)) = (y1 : Int) := by rw [IntKind.wrap_u32]; omega
        have k6 : IntKind.u32.wrap ((y1 : Int) + (x7 : Int)) = (y2 : Int) := by rw [IntKind.wrap_u32]; omega
        have k7 : IntKind.u32.wrap ((y2 : Int) + (s1 : Int)) = (y3 : Int) := by rw [IntKind.wrap_u32]; omega
        have hy : y3 = nxw (spr s.data.toList i) i := by rw [hnx]; omega
        have HY := Lib.hid hy
        clear hpa hpb hpc hpd hm1 hm2 hs0 hs1 hy1 hy2 hy3 hy hnx ba bb bc bd
        go_wp2_with fail
        go_quiet (fail)
        clear c15 c2
        go_wp2_with fail
        obtain ⟨W4, hW4⟩ : ∃ W4, W4 = (wr.drewN nq).drew := ⟨_, rfl⟩
        have e16 : W4.cell? ⟨g + 1 + 1 + 1, i - 16, none⟩ = some (.int .u32 (x16 : Int)) := by rw [hW4]; exact c16
        have e7 : W4.cell? ⟨g + 1 + 1 + 1, i - 7, none⟩ = some (.int .u32 (x7 : Int)) := by rw [hW4]; exact c7
        have ei : W4.cell? ⟨g + 1 + 1 + 1, i, none⟩ = some (.int .u32 (row.getD i 0 : Nat)) := by rw [hW4]; exact ci
        have ef : W4.frozen? ⟨g + 1 + 1 + 1, i, none⟩ = false := by rw [hW4]; exact cf
        have eN : Nums .u32 23 W4 (g + 1 + 1 + 1) row := by rw [hW4]; exact R.out.1
        have eF : Fr (fun j => j = g + 1 + 1 + 1) W W4 := by rw [hW4]; exact (R.out.2.1.drewN nq).drew
        have RE := Lib.hid (And.intro eN eF)
        clear c16 c7 ci cf eN eF
        refine wp_still_named 32 (by kernel_rfl) (by kernel_rfl) W4 hW4 ?_
        clear hW4
        simp only [List.take_succ_cons, List.take_zero, List.drop_succ_cons, List.drop_zero]
        repeat still_step
        still_call (S1.out W4)
        repeat still_step
        still_call (S2.out W4)
        repeat still_step
        still_call (S3.out W4)
        repeat still_step
        still_call (S4.out W4)
        repeat still_step
        refine wpStill_nil ?_
        go_wp2
        go_roundw
        case rel =>
          refine ⟨i + 1, by go_num, by omega, ?_, RE.out.2.setCell (p := ⟨g + 1 + 1 + 1, i, none⟩) (.inl rfl) _⟩
          have := RE.out.1.set i y3
          rw [R.out.2.2.2.1, HY.out] at this
          rw [HY.out, spr, if_neg (by omega)]
          exact this
        case measure => (simp [intOf]) <;> omega
      · have t16 : decide ((16 : Int) ≤ (i : Int)) = false := by simp; omega
        have hsz := HH.out.2.2.2.2
        have g0 : 4 * i < s.size := by omega
        have g1 : 4 * i + 1 < s.size := by omega
        have g2 : 4 * i + 2 < s.size := by omega
        have g3 : 4 * i + 3 < s.size := by omega
        obtain ⟨x0, e0⟩ : ∃ x, s[4 * i].toNat = x := ⟨_, rfl⟩
        obtain ⟨x1, e1⟩ : ∃ x, s[4 * i + 1].toNat = x := ⟨_, rfl⟩
        obtain ⟨x2, e2⟩ : ∃ x, s[4 * i + 2].toNat = x := ⟨_, rfl⟩
        obtain ⟨x3, e3⟩ : ∃ x, s[4 * i + 3].toNat = x := ⟨_, rfl⟩
        have b0 : x0 < 256 := by rw [← e0]; exact s[4 * i].toNat_lt
        have b1 : x1 < 256 := by rw [← e1]; exact s[4 * i + 1].toNat_lt
        have b2 : x2 < 256 := by rw [← e2]; exact s[4 * i + 2].toNat_lt
        have b3 : x3 < 256 := by rw [← e3]; exact s[4 * i + 3].toNat_lt
        have hwd : wd s.data.toList i = x0 * 16777216 + x1 * 65536 + x2 * 256 + x3 := by
          have d0 : s.data.toList.getD (4 * i) 0 = s[4 * i] := by simp [List.getD, g0]; rfl
          have d1 : s.data.toList.getD (4 * i + 1) 0 = s[4 * i + 1] := by simp [List.getD, g1]; rfl
          have d2 : s.data.toList.getD (4 * i + 2) 0 = s[4 * i + 2] := by simp [List.getD, g2]; rfl
          have d3 : s.data.toList.getD (4 * i + 3) 0 = s[4 * i + 3] := by simp [List.getD, g3]; rfl
          rw [wd, d0, d1, d2, d3, e0, e1, e2, e3]
        obtain ⟨y, hy⟩ : ∃ y, y = wd s.data.toList i := ⟨_, rfl⟩
        rw [← hy] at hwd
        have w0 : IntKind.i64.wrap (4 * (i : Int)) = 4 * (i : Int) := IntWalk.i64_in _ (by omega)
        have w1 : IntKind.i64.wrap (4 * (i : Int) + 1) = 4 * (i : Int) + 1 := IntWalk.i64_in _ (by omega)
        have w2 : IntKind.i64.wrap (4 * (i : Int) + 2) = 4 * (i : Int) + 2 := IntWalk.i64_in _ (by omega)
        have w3 : IntKind.i64.wrap (4 * (i : Int) + 3) = 4 * (i : Int) + 3 := IntWalk.i64_in _ (by omega)
        have n0 : (4 * (i : Int)).toNat = 4 * i := by omega
        have n1 : (4 * (i : Int) + 1).toNat = 4 * i + 1 := by omega
        have n2 : (4 * (i : Int) + 2).toNat = 4 * i + 2 := by omega
        have n3 : (4 * (i : Int) + 3).toNat = 4 * i + 3 := by omega
        have p0 : (0 : Int) ≤ 4 * (i : Int) := by omega
        have i0 : 4 * (i : Int) < (s.size : Int) := by omega
        have i1 : 4 * (i : Int) + 1 < (s.size : Int) := by omega
        have i2 : 4 * (i : Int) + 2 < (s.size : Int) := by omega
        have i3 : 4 * (i : Int) + 3 < (s.size : Int) := by omega
        have p1 : (0 : Int) ≤ 4 * (i : Int) + 1 := by omega
        have p2 : (0 : Int) ≤ 4 * (i : Int) + 2 := by omega
        have p3 : (0 : Int) ≤ 4 * (i : Int) + 3 := by omega
        have HW := Lib.hid (And.intro hwd hy)
        have R := Lib.hid (And.intro hN (And.intro hF (And.intro hl hset)))
        have HSZ := Lib.hid hsz
        clear hN hF hl hset hget hrow hwd hy hsz
        go_wp2_with fail
        obtain ⟨W4, hW4⟩ : ∃ W4, W4 = wr.drew := ⟨_, rfl⟩
        have ei : W4.cell? ⟨g + 1 + 1 + 1, i, none⟩ = some (.int .u32 (row.getD i 0 : Nat)) := by rw [hW4]; exact ci
        have ef : W4.frozen? ⟨g + 1 + 1 + 1, i, none⟩ = false := by rw [hW4]; exact cf
        have eN : Nums .u32 23 W4 (g + 1 + 1 + 1) row := by rw [hW4]; exact R.out.1
        have eF : Fr (fun j => j = g + 1 + 1 + 1) W W4 := by rw [hW4]; exact R.out.2.1.drew
        have RE := Lib.hid (And.intro eN eF)
        clear ci cf eN eF
        refine wp_still_named 32 (by kernel_rfl) (by kernel_rfl) W4 hW4 ?_
        clear hW4
        simp only [List.take_succ_cons, List.take_zero, List.drop_succ_cons, List.drop_zero]
        repeat still_step
        refine wpStill_nil ?_
        have HY2 := Lib.hid (show (x0 : Int) * 16777216 + (x1 : Int) * 65536 + (x2 : Int) * 256 + (x3 : Int) = (y : Int) by have := HW.out; omega)
        go_wp2
        go_roundw
        case rel =>
          refine ⟨i + 1, by go_num, by omega, ?_, RE.out.2.setCell (p := ⟨g + 1 + 1 + 1, i, none⟩) (.inl rfl) _⟩
          have := RE.out.1.set i y
          rw [R.out.2.2.2, HW.out.2] at this
          rw [spr, if_pos (by omega), ← HW.out.2, HY2.out]
          rw [← HW.out.2] at this
          exact this
        case measure => (simp [intOf]) <;> omega
    · obtain rfl : i = 64 := by omega
      have hrow : spr s.data.toList 64 ++ List.replicate (64 - 64) 0 = spr s.data.toList 64 := by simp
      rw [hrow] at hN
      have M0 := R0.out.1.frame hF (by show ¬ g = g + 1 + 1 + 1; omega)
      have M1 := R0.out.2.1.frame hF (by show ¬ g + 1 = g + 1 + 1 + 1; omega)
      have M2 := R0.out.2.2.1.frame hF (by show ¬ g + 1 + 1 = g + 1 + 1 + 1; omega)
      have F1 : Fr (fun j => g ≤ j) w _ := (Fr.ofBelow (S := fun j => g ≤ j) (by rw [← HG.out]; exact R0.out.2.2.2.2)).then_ hF (fun j _ h => by rw [h]; omega)
      have R1 := Lib.hid (And.intro M0 (And.intro M1 (And.intro M2 (And.intro hN F1))))
      clear R0 hN hF hrow M0 M1 M2 F1 hi
      have hsz : wr.heap.size = wr.heap.size := rfl
      obtain ⟨h, hh⟩ : ∃ h, h = wr.heap.size := ⟨_, rfl⟩
      have hgh : g + 1 + 1 + 1 < h := by rw [hh]; exact R1.out.2.2.2.1.lt
      have Z : Nums .u32 25 (wr.alloc (.cells #[.int .u32 0, .int .u32 0, .int .u32 0, .int .u32 0, .int .u32 0, .int .u32 0, .int .u32 0, .int .u32 0] 25)) wr.heap.size (List.replicate 8 0) := Nums.new .u32 _ wr (List.replicate 8 0)
      obtain ⟨W5, hW5⟩ : ∃ W5, W5 = (wr.alloc (.cells #[.int .u32 0, .int .u32 0, .int .u32 0, .int .u32 0, .int .u32 0, .int .u32 0, .int .u32 0, .int .u32 0] 25)).setRow wr.heap.size (v.map fun (n : Nat) => Value.int .u32 (n : Int)).toArray := ⟨_, rfl⟩
      have hW6 := hW5
      rw [World.setRow_alloc_new] at hW6
      have hY2 : Value.agg Y = wordsOf .u32 v := by rw [HY.out]; rfl
      have R2 := Lib.hid (show Nums .u32 27 W5 g K ∧ Nums .u32 25 W5 (g + 1) v ∧ Nums .u32 25 W5 (g + 1 + 1) (List.replicate 8 0) ∧ Nums .u32 23 W5 (g + 1 + 1 + 1) (spr s.data.toList 64) ∧ Nums .u32 25 W5 h v ∧ Fr (fun j => g ≤ j) w W5 from by
        rw [hW6, hh]
        exact ⟨R1.out.1.alloc _, R1.out.2.1.alloc _, R1.out.2.2.1.alloc _, R1.out.2.2.2.1.alloc _, Nums.new .u32 _ wr v, R1.out.2.2.2.2.alloc _⟩)
      have HZ := Lib.hid (And.intro Z (And.intro hW5 (And.intro hY2 hh)))
      clear Z hW5 hW6 hY2 hsz hlt hh
      go_wp2_with (first
        | (refine wpList_load_nums (by with_reducible rfl) 25 (.tmp 4) (by with_reducible rfl) (by rfl) R1.out.2.1 Try.underlying25 rfl (by rw [HH.out.2.1]; exact HS8.out) (.agg Y) HZ.out.2.2.1 ?_)
        | (refine wpList_store_nums (by with_reducible rfl) 25 (.tmp 11) (.tmp 97) (by with_reducible rfl) (by rfl) (.agg Y) (by rfl) HZ.out.2.2.1 HZ.out.1 (by rw [HH.out.2.1]; rfl) (by rw [HH.out.2.1]; exact HS8.out) W5 HZ.out.2.1 ?_))
      rw [← HZ.out.2.2.2]
      clear HZ
      go_loopw [12] (fun v12 wr => ∃ i : Nat, v12 = .int .i64 i ∧ i ≤ 64 ∧ Nums .u32 25 wr (g + 1) (turns K (spr s.data.toList 64) v i) ∧ Fr (fun j => j = g + 1) W5 wr) (fun i _ => 64 - (intOf i).toNat)
      case atStart => exact ⟨0, rfl, by omega, R2.out.2.1, Fr.refl _ _⟩
      case round =>
        obtain ⟨i, rfl, hi, hN, hF⟩ := hrel
        by_cases hlt : i < 64
        · have hl := turns_length K (spr s.data.toList 64) v HH.out.2.1 i
          have hw := turns_w32 K (spr s.data.toList 64) v HH.out.2.2.2.1 i
          have hT : turns K (spr s.data.toList 64) v (i + 1) = turn (K.getD i 0) ((spr s.data.toList 64).getD i 0) (turns K (spr s.data.toList 64) v i) := rfl
          obtain ⟨vv, hvv⟩ : ∃ vv, vv = turns K (spr s.data.toList 64) v i := ⟨_, rfl⟩
          rw [← hvv] at hN hl hw hT
          have c0 := hN.cellD 0 (by omega)
          have b0 := hw.getD 0
          have c1 := hN.cellD 1 (by omega)
          have b1 := hw.getD 1
          have c2 := hN.cellD 2 (by omega)
          have b2 := hw.getD 2
          have c3 := hN.cellD 3 (by omega)
          have b3 := hw.getD 3
          have c4 := hN.cellD 4 (by omega)
          have b4 := hw.getD 4
          have c5 := hN.cellD 5 (by omega)
          have b5 := hw.getD 5
          have c6 := hN.cellD 6 (by omega)
          have b6 := hw.getD 6
          have c7 := hN.cellD 7 (by omega)
          have b7 := hw.getD 7
          have cK := (R2.out.1.frame hF (by show ¬ g = g + 1; omega)).cellD i (by rw [HH.out.1]; omega)
          have cW := (R2.out.2.2.2.1.frame hF (by show ¬ g + 1 + 1 + 1 = g + 1; omega)).cellD i (by rw [spr_length]; omega)
          have bK := HH.out.2.2.1.getD i
          have bW := (spr_w32 s.data.toList 64).getD i
          obtain ⟨kk, hkk⟩ : ∃ x, x = K.getD i 0 := ⟨_, rfl⟩
          obtain ⟨ww, hww⟩ : ∃ x, x = (spr s.data.toList 64).getD i 0 := ⟨_, rfl⟩
          rw [← hkk] at cK bK hT
          rw [← hww] at cW bW hT
          obtain ⟨a0, h0⟩ : ∃ x, x = vv.getD 0 0 := ⟨_, rfl⟩
          rw [← h0] at c0 b0
          obtain ⟨a1, h1⟩ : ∃ x, x = vv.getD 1 0 := ⟨_, rfl⟩
          rw [← h1] at c1 b1
          obtain ⟨a2, h2⟩ : ∃ x, x = vv.getD 2 0 := ⟨_, rfl⟩
          rw [← h2] at c2 b2
          obtain ⟨a3, h3⟩ : ∃ x, x = vv.getD 3 0 := ⟨_, rfl⟩
          rw [← h3] at c3 b3
          obtain ⟨a4, h4⟩ : ∃ x, x = vv.getD 4 0 := ⟨_, rfl⟩
          rw [← h4] at c4 b4
          obtain ⟨a5, h5⟩ : ∃ x, x = vv.getD 5 0 := ⟨_, rfl⟩
          rw [← h5] at c5 b5
          obtain ⟨a6, h6⟩ : ∃ x, x = vv.getD 6 0 := ⟨_, rfl⟩
          rw [← h6] at c6 b6
          obtain ⟨a7, h7⟩ : ∃ x, x = vv.getD 7 0 := ⟨_, rfl⟩
          rw [← h7] at c7 b7
          have hturn : turn kk ww vv = [(tp kk ww a4 a5 a6 a7 + tq a0 a1 a2) % 4294967296, a0, a1, a2, (a3 + tp kk ww a4 a5 a6 a7) % 4294967296, a4, a5, a6] := by
            rw [turn, ← h0, ← h1, ← h2, ← h3, ← h4, ← h5, ← h6, ← h7]
          obtain ⟨pp, hpp⟩ : ∃ x, x = tp kk ww a4 a5 a6 a7 := ⟨_, rfl⟩
          obtain ⟨qq, hqq⟩ : ∃ x, x = tq a0 a1 a2 := ⟨_, rfl⟩
          rw [← hpp, ← hqq] at hturn
          rw [tp] at hpp
          rw [tq] at hqq
          obtain ⟨xa, hxa⟩ : ∃ x, x = spn a4 6 := ⟨_, rfl⟩
          obtain ⟨xb, hxb⟩ : ∃ x, x = spn a4 11 := ⟨_, rfl⟩
          obtain ⟨xc, hxc⟩ : ∃ x, x = spn a4 25 := ⟨_, rfl⟩
          obtain ⟨ya, hya⟩ : ∃ x, x = spn a0 2 := ⟨_, rfl⟩
          obtain ⟨yb, hyb⟩ : ∃ x, x = spn a0 13 := ⟨_, rfl⟩
          obtain ⟨yc, hyc⟩ : ∃ x, x = spn a0 22 := ⟨_, rfl⟩
          have S1 := Lib.hid (fun W => show Calls Try.prog 21 #[.int .u32 a4, .int .u64 6] W fun e w' => e = .returned (.int .u32 xa) ∧ w' = W from by rw [hxa]; exact (refSpin_any a4 6 W b4 (by omega)).mono fun _ _ ⟨h1, h2⟩ => ⟨h1, h2.symm⟩)
          have S2 := Lib.hid (fun W => show Calls Try.prog 21 #[.int .u32 a4, .int .u64 11] W fun e w' => e = .returned (.int .u32 xb) ∧ w' = W from by rw [hxb]; exact (refSpin_any a4 11 W b4 (by omega)).mono fun _ _ ⟨h1, h2⟩ => ⟨h1, h2.symm⟩)
          have S3 := Lib.hid (fun W => show Calls Try.prog 21 #[.int .u32 a4, .int .u64 25] W fun e w' => e = .returned (.int .u32 xc) ∧ w' = W from by rw [hxc]; exact (refSpin_any a4 25 W b4 (by omega)).mono fun _ _ ⟨h1, h2⟩ => ⟨h1, h2.symm⟩)
          have S4 := Lib.hid (fun W => show Calls Try.prog 21 #[.int .u32 a0, .int .u64 2] W fun e w' => e = .returned (.int .u32 ya) ∧ w' = W from by rw [hya]; exact (refSpin_any a0 2 W b0 (by omega)).mono fun _ _ ⟨h1, h2⟩ => ⟨h1, h2.symm⟩)
          have S5 := Lib.hid (fun W => show Calls Try.prog 21 #[.int .u32 a0, .int .u64 13] W fun e w' => e = .returned (.int .u32 yb) ∧ w' = W from by rw [hyb]; exact (refSpin_any a0 13 W b0 (by omega)).mono fun _ _ ⟨h1, h2⟩ => ⟨h1, h2.symm⟩)
          have S6 := Lib.hid (fun W => show Calls Try.prog 21 #[.int .u32 a0, .int .u64 22] W fun e w' => e = .returned (.int .u32 yc) ∧ w' = W from by rw [hyc]; exact (refSpin_any a0 22 W b0 (by omega)).mono fun _ _ ⟨h1, h2⟩ => ⟨h1, h2.symm⟩)
          obtain ⟨ch, hch⟩ : ∃ x, x = cho a4 a5 a6 := ⟨_, rfl⟩
          obtain ⟨vo, hvo⟩ : ∃ x, x = vot a0 a1 a2 := ⟨_, rfl⟩
          have S7 := Lib.hid (fun W => show Calls Try.prog 22 #[.int .u32 a4, .int .u32 a5, .int .u32 a6] W fun e w' => e = .returned (.int .u32 ch) ∧ w' = W from by rw [hch]; exact (refChoice_any a4 a5 a6 W b4 b5 b6).mono fun _ _ ⟨h1, h2⟩ => ⟨h1, h2.symm⟩)
          have S8 := Lib.hid (fun W => show Calls Try.prog 23 #[.int .u32 a0, .int .u32 a1, .int .u32 a2] W fun e w' => e = .returned (.int .u32 vo) ∧ w' = W from by rw [hvo]; exact (refVote_any a0 a1 a2 W b0 b1 b2).mono fun _ _ ⟨h1, h2⟩ => ⟨h1, h2.symm⟩)
          have bxa : xa < 4294967296 := by rw [hxa]; exact spn_lt b4
          have bxb : xb < 4294967296 := by rw [hxb]; exact spn_lt b4
          have bxc : xc < 4294967296 := by rw [hxc]; exact spn_lt b4
          have bya : ya < 4294967296 := by rw [hya]; exact spn_lt b0
          have byb : yb < 4294967296 := by rw [hyb]; exact spn_lt b0
          have byc : yc < 4294967296 := by rw [hyc]; exact spn_lt b0
          have bch : ch < 4294967296 := by rw [hch]; exact cho_lt b5 b6
          have bvo : vo < 4294967296 := by rw [hvo]; exact vot_lt b1 b2
          have k1 := bits_xor32 xa xb bxa bxb
          have k2 := bits_xor32 (xa ^^^ xb) xc (xor_lt32 bxa bxb) bxc
          have k3 := bits_xor32 ya yb bya byb
          have k4 := bits_xor32 (ya ^^^ yb) yc (xor_lt32 bya byb) byc
          have bB1 := bg1_lt b4
          have bB0 := bg0_lt b0
          have e1 : xa ^^^ xb ^^^ xc = bg1 a4 := by rw [bg1, hxa, hxb, hxc]
          have e0 : ya ^^^ yb ^^^ yc = bg0 a0 := by rw [bg0, hya, hyb, hyc]
          rw [e1] at k2
          rw [e0] at k4
          obtain ⟨m1, hm1⟩ : ∃ x, x = xa ^^^ xb := ⟨_, rfl⟩
          obtain ⟨m0, hm0⟩ : ∃ x, x = ya ^^^ yb := ⟨_, rfl⟩
          obtain ⟨B1, hB1⟩ : ∃ x, x = bg1 a4 := ⟨_, rfl⟩
          obtain ⟨B0, hB0⟩ : ∃ x, x = bg0 a0 := ⟨_, rfl⟩
          rw [← hm1] at k1 k2
          rw [← hm0] at k3 k4
          rw [← hB1] at k2 bB1 hpp
          rw [← hB0] at k4 bB0 hqq
          rw [← hch] at hpp
          rw [← hvo] at hqq
          obtain ⟨y1, hy1⟩ : ∃ x, x = (a7 + B1) % 4294967296 := ⟨_, rfl⟩
          obtain ⟨y2, hy2⟩ : ∃ x, x = (y1 + kk) % 4294967296 := ⟨_, rfl⟩
          obtain ⟨y3, hy3⟩ : ∃ x, x = (y2 + ww) % 4294967296 := ⟨_, rfl⟩
          have k5 : IntKind.u32.wrap ((a7 : Int) + (B1 : Int)) = (y1 : Int) := by rw [IntKind.wrap_u32]; omega
          have k6 : IntKind.u32.wrap ((y1 : Int) + (kk : Int)) = (y2 : Int) := by rw [IntKind.wrap_u32]; omega
          have k7 : IntKind.u32.wrap ((y2 : Int) + (ww : Int)) = (y3 : Int) := by rw [IntKind.wrap_u32]; omega
          have k8 : IntKind.u32.wrap ((y3 : Int) + (ch : Int)) = (pp : Int) := by rw [IntKind.wrap_u32]; omega
          have k9 : IntKind.u32.wrap ((B0 : Int) + (vo : Int)) = (qq : Int) := by rw [IntKind.wrap_u32]; omega
          have bpp : pp < 4294967296 := by omega
          have bqq : qq < 4294967296 := by omega
          obtain ⟨r0, hr0⟩ : ∃ x, x = (pp + qq) % 4294967296 := ⟨_, rfl⟩
          obtain ⟨r4, hr4⟩ : ∃ x, x = (a3 + pp) % 4294967296 := ⟨_, rfl⟩
          have k10 : IntKind.u32.wrap ((pp : Int) + (qq : Int)) = (r0 : Int) := by rw [IntKind.wrap_u32]; omega
          have k11 : IntKind.u32.wrap ((a3 : Int) + (pp : Int)) = (r4 : Int) := by rw [IntKind.wrap_u32]; omega
          rw [← hr0, ← hr4] at hturn
          have R := Lib.hid (And.intro hN (And.intro hF (And.intro hl (And.intro hT hturn))))
          clear hN hF hl hw hT hturn hvv hkk hww h0 h1 h2 h3 h4 h5 h6 h7 hpp hqq hxa hxb hxc hya hyb hyc hch hvo e1 e0 hm1 hm0 hB1 hB0 hy1 hy2 hy3 hr0 hr4
          clear b0 b1 b2 b3 b4 b5 b6 b7 bK bW bxa bxb bxc bya byb byc bch bvo bB1 bB0
          go_wp2_with fail
          go_quiet ((first
            | (go_at_call 21; with_reducible exact Calls.quiet_of_same (S1.out _))
            | (go_at_call 21; with_reducible exact Calls.quiet_of_same (S2.out _))
            | (go_at_call 21; with_reducible exact Calls.quiet_of_same (S3.out _))
            | (go_at_call 22; with_reducible exact Calls.quiet_of_same (S7.out _))))
          go_wp2_with fail
          obtain ⟨W6, hW6⟩ : ∃ W6, W6 = wr.drewN nq := ⟨_, rfl⟩
          rw [← hW6]
          have d0 : W6.cell? ⟨g + 1, 0, none⟩ = some (.int .u32 (a0 : Int)) := by rw [hW6]; exact c0
          have d1 : W6.cell? ⟨g + 1, 1, none⟩ = some (.int .u32 (a1 : Int)) := by rw [hW6]; exact c1
          have d2 : W6.cell? ⟨g + 1, 2, none⟩ = some (.int .u32 (a2 : Int)) := by rw [hW6]; exact c2
          have d3 : W6.cell? ⟨g + 1, 3, none⟩ = some (.int .u32 (a3 : Int)) := by rw [hW6]; exact c3
          have d4 : W6.cell? ⟨g + 1, 4, none⟩ = some (.int .u32 (a4 : Int)) := by rw [hW6]; exact c4
          have d5 : W6.cell? ⟨g + 1, 5, none⟩ = some (.int .u32 (a5 : Int)) := by rw [hW6]; exact c5
          have d6 : W6.cell? ⟨g + 1, 6, none⟩ = some (.int .u32 (a6 : Int)) := by rw [hW6]; exact c6
          have d7 : W6.cell? ⟨g + 1, 7, none⟩ = some (.int .u32 (a7 : Int)) := by rw [hW6]; exact c7
          have eN : Nums .u32 25 W6 (g + 1) vv := by rw [hW6]; exact R.out.1
          have eF : Fr (fun j => j = g + 1) W5 W6 := by rw [hW6]; exact R.out.2.1.drewN nq
          have RE := Lib.hid (And.intro eN eF)
          clear c0 c1 c2 c3 c4 c5 c6 c7 cK cW eN eF hW6 k1 k2 k5 k6 k7 k8
          go_quiet ((first
            | (go_at_call 21; with_reducible exact Calls.quiet_of_same (S4.out _))
            | (go_at_call 21; with_reducible exact Calls.quiet_of_same (S5.out _))
            | (go_at_call 21; with_reducible exact Calls.quiet_of_same (S6.out _))
            | (go_at_call 23; with_reducible exact Calls.quiet_of_same (S8.out _))))
          obtain ⟨W7, hW7⟩ : ∃ W7, W7 = W6.drewN nq := ⟨_, rfl⟩
          rw [← hW7]
          have e0 : W7.cell? ⟨g + 1, 0, none⟩ = some (.int .u32 (a0 : Int)) := by rw [hW7]; exact d0
          have e1 : W7.cell? ⟨g + 1, 1, none⟩ = some (.int .u32 (a1 : Int)) := by rw [hW7]; exact d1
          have e2 : W7.cell? ⟨g + 1, 2, none⟩ = some (.int .u32 (a2 : Int)) := by rw [hW7]; exact d2
          have e3 : W7.cell? ⟨g + 1, 3, none⟩ = some (.int .u32 (a3 : Int)) := by rw [hW7]; exact d3
          have e4 : W7.cell? ⟨g + 1, 4, none⟩ = some (.int .u32 (a4 : Int)) := by rw [hW7]; exact d4
          have e5 : W7.cell? ⟨g + 1, 5, none⟩ = some (.int .u32 (a5 : Int)) := by rw [hW7]; exact d5
          have e6 : W7.cell? ⟨g + 1, 6, none⟩ = some (.int .u32 (a6 : Int)) := by rw [hW7]; exact d6
          have e7 : W7.cell? ⟨g + 1, 7, none⟩ = some (.int .u32 (a7 : Int)) := by rw [hW7]; exact d7
          have eN : Nums .u32 25 W7 (g + 1) vv := by rw [hW7]; exact RE.out.1
          have eF : Fr (fun j => j = g + 1) W5 W7 := by rw [hW7]; exact RE.out.2.drewN nq
          have HV : Value.agg #[.int .u32 (r0 : Int), .int .u32 (a0 : Int), .int .u32 (a1 : Int), .int .u32 (a2 : Int), .int .u32 (r4 : Int), .int .u32 (a4 : Int), .int .u32 (a5 : Int), .int .u32 (a6 : Int)] = wordsOf .u32 (turn kk ww vv) := by rw [R.out.2.2.2.2]; rfl
          obtain ⟨W8, hW8⟩ : ∃ W8, W8 = W7.setRow (g + 1) ((turn kk ww vv).map fun (n : Nat) => Value.int .u32 (n : Int)).toArray := ⟨_, rfl⟩
          have R8 := Lib.hid (And.intro eN (And.intro eF (And.intro HV hW8)))
          clear d0 d1 d2 d3 d4 d5 d6 d7 k3 k4 k9 hW7 eN eF HV hW8
          go_wp2_with (refine wpList_store_nums (by with_reducible rfl) 25 (.tmp 4) (.tmp 172) (by with_reducible rfl) (by rfl) _ (by rfl) R8.out.2.2.1 R8.out.1 (by rw [R.out.2.2.1]; rfl) HS8.out W8 R8.out.2.2.2 ?_)
          go_roundw
          case rel =>
            refine ⟨i + 1, by go_num, by omega, ?_, ?_⟩
            · rw [R.out.2.2.2.1, R8.out.2.2.2]
              exact R8.out.1.setRow _
            · rw [R8.out.2.2.2]
              exact fr_setRow R8.out.2.1 (.inl rfl) _
          case measure => (simp [intOf]) <;> omega
        · obtain rfl : i = 64 := by omega
          have G0 := R2.out.1.frame hF (by show ¬ g = g + 1; omega)
          have G2 := R2.out.2.2.1.frame hF (by show ¬ g + 1 + 1 = g + 1; omega)
          have G5 := R2.out.2.2.2.2.1.frame hF (by show ¬ h = g + 1; omega)
          have F2 : Fr (fun j => g ≤ j) w _ := R2.out.2.2.2.2.2.then_ hF (fun j _ h => by rw [h]; omega)
          have hl := turns_length K (spr s.data.toList 64) v HH.out.2.1 64
          have hw := turns_w32 K (spr s.data.toList 64) v HH.out.2.2.2.1 64
          have hmx : mixed K s.data.toList v = half (turns K (spr s.data.toList 64) v 64) v 8 := (half_all _ _ 8 hl HH.out.2.1).symm
          obtain ⟨tt, htt⟩ : ∃ tt, tt = turns K (spr s.data.toList 64) v 64 := ⟨_, rfl⟩
          rw [← htt] at hN hl hw hmx
          have R3 := Lib.hid (And.intro hN (And.intro G2 (And.intro G5 (And.intro F2 (And.intro hl (And.intro hw hmx))))))
          clear hN G0 G2 G5 F2 hl hw hmx htt hF R1 R2 hlt hi
          have hgh2 : g + 1 + 1 + 1 < h := hgh
          go_wp2_with fail
          go_loopw [15] (fun v15 wr => ∃ i : Nat, v15 = .int .i64 i ∧ i ≤ 8 ∧ Nums .u32 25 wr (g + 1) (half tt v i) ∧ Nums .u32 25 wr (g + 1 + 1) (List.replicate 8 0) ∧ Nums .u32 25 wr h v ∧ Fr (fun j => g ≤ j) w wr) (fun i _ => 8 - (intOf i).toNat)
          case atStart => exact ⟨0, rfl, by omega, by rw [half_zero]; exact R3.out.1, R3.out.2.1, R3.out.2.2.1, R3.out.2.2.2.1⟩
          case round =>
            obtain ⟨i, rfl, hi, hN, hZ, hV, hF⟩ := hrel
            have hl := R3.out.2.2.2.2.1
            have hlv := HH.out.2.1
            by_cases hlt : i < 8
            · have hhl := half_length tt v i (by omega) (by omega)
              have c0 := hN.cellD i (by omega)
              have f0 := hN.free i
              rw [half_get tt v i (by omega) (by omega)] at c0
              have c1 := hV.cellD i (by omega)
              have hset := half_set tt v i (by omega) (by omega)
              have b0 := R3.out.2.2.2.2.2.1.getD i
              have b1 := HH.out.2.2.2.1.getD i
              obtain ⟨x, hx⟩ : ∃ x, x = tt.getD i 0 := ⟨_, rfl⟩
              obtain ⟨y, hy⟩ : ∃ y, y = v.getD i 0 := ⟨_, rfl⟩
              rw [← hx] at c0 b0 hset
              rw [← hy] at c1 b1 hset
              obtain ⟨z, hz⟩ : ∃ z, z = (x + y) % 4294967296 := ⟨_, rfl⟩
              rw [← hz] at hset
              have k0 : IntKind.u32.wrap ((x : Int) + (y : Int)) = (z : Int) := by rw [IntKind.wrap_u32]; omega
              have R4 := Lib.hid (And.intro hN (And.intro hset (And.intro hZ (And.intro hV hF))))
              clear hN hF hset hx hy hz hhl hl hlv hZ hV
              go_wp2_with fail
              go_region
              go_wp2
              go_roundw
              case rel =>
                refine ⟨i + 1, by go_num, by omega, ?_, R4.out.2.2.1.far (p := ⟨g + 1, i, none⟩) (by show g + 1 + 1 ≠ g + 1; omega) _, R4.out.2.2.2.1.far (p := ⟨g + 1, i, none⟩) (by show h ≠ g + 1; omega) _, (R4.out.2.2.2.2.setCell (p := ⟨g + 1, i, none⟩) (.inl (Nat.le_succ g)) _).drew⟩
                have := R4.out.1.set i z
                rw [R4.out.2.1] at this
                exact this
              case measure => (simp [intOf]) <;> omega
            · obtain rfl : i = 8 := by omega
              have hmx := R3.out.2.2.2.2.2.2
              rw [← hmx] at hN
              have hml := mixed_length K s.data.toList v hlv
              obtain ⟨V, hVV⟩ : ∃ V, V = wordsOf .u32 (mixed K s.data.toList v) := ⟨_, rfl⟩
              obtain ⟨W9, hW9⟩ : ∃ W9, W9 = wr.setRow (g + 1 + 1) ((mixed K s.data.toList v).map fun (n : Nat) => Value.int .u32 (n : Int)).toArray := ⟨_, rfl⟩
              have hA2 := hZ.setRow (mixed K s.data.toList v)
              have hF2 := fr_setRow (g := g + 1 + 1) hF (.inl (by show g ≤ g + 1 + 1; omega)) ((mixed K s.data.toList v).map fun (n : Nat) => Value.int .u32 (n : Int)).toArray
              rw [← hW9] at hA2 hF2
              have hld := load_nums (P := Try.prog) hA2 25 Try.underlying25 rfl (by rw [hml]; exact HS8.out) V hVV
              have H := Lib.hid (And.intro hN (And.intro hZ (And.intro hF2 (And.intro hVV (And.intro hW9 hml)))))
              have HL := Lib.hid hld
              clear hN hZ hV hF hmx hA2 hF2 hld hVV hW9 hml hl hlv hlt hi
              go_wp2_with (first
                | (refine wpList_load_nums (by with_reducible rfl) 25 (.tmp 4) (by with_reducible rfl) (by rfl) H.out.1 Try.underlying25 rfl (by rw [H.out.2.2.2.2.2]; exact HS8.out) V H.out.2.2.2.1 ?_)
                | (refine wpList_store_nums (by with_reducible rfl) 25 (.tmp 6) (.tmp 186) (by with_reducible rfl) (by rfl) V (by rfl) H.out.2.2.2.1 H.out.2.1 (by rw [H.out.2.2.2.2.2]; rfl) (by rw [H.out.2.2.2.2.2]; exact HS8.out) W9 H.out.2.2.2.2.1 ?_))
              refine bodyPost_ret (v := V) (results_of_cell rfl (by rfl) HL.out) rfl ⟨congrArg _ H.out.2.2.2.1, H.out.2.2.1.below (Nat.le_refl _) (fun _ h => by rw [← HG.out]; exact h)⟩
end Go.Proofs.Ytnjiflkbgpbchaa
