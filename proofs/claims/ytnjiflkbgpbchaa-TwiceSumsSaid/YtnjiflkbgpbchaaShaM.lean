/-
  The contract of sha's Mix (layer 5). Conditions: eight words below 2^32; a block of 64 bytes, or of another size of at most 2^20.
-/
import Derived.Test.YtnjiflkbgpbchaaShaI
import Derived.Test.YtnjiflkbgpbchaaQuiN
import Derived.Laws.EntriesVeiled
import Derived.Shelf.Abstract
import Derived.ChangeKeysEq
namespace Go.Proofs.Ytnjiflkbgpbchaa
open Go.RowKit Go.Sort Go.Shelf

/-- The sixty-four as one text. -/
def cubesB : ByteArray := ⟨(K64.flatMap byt).toArray⟩
theorem cubes_words : ((List.range 64).all fun i => wd cubesB.data.toList i == KEY.getD i 0) = true := by decide +kernel
theorem cubes_word (i : Nat) (hi : i < 64) : wd cubesB.data.toList i = KEY.getD i 0 := by
  have := List.all_eq_true.1 cubes_words i (List.mem_range.2 hi)
  simpa using this
theorem cubes_size : cubesB.size = 256 := by decide +kernel

/-- A word of an array that is no variable. -/
theorem index_words (Y : Array Value) (i : Nat) (v : Value) (w : World) (h : Y[i]? = some v) (hi : i < 8) :
    (Instr.index 25 (.agg Y) (.int .i64 (i : Int))).run Try.prog w = .ok v w := by
  have hn : 0 ≤ (i : Int) ∧ (i : Int) < ((8 : Nat) : Int) := ⟨by omega, by omega⟩
  obtain ⟨j, hj, _, _, _⟩ := info_parts u32_info
  have hs : Try.prog.cellsOf 23 = 1 := by kernel_rfl
  simp [Instr.index, asIntOf, run_underlying Try.underlying25, hn, go_sem, part, isAgg, run_underlying Try.underlying23, run_sizeOf w hj, hs, h]
  omega

/-- What is held between two rounds: behind i turns. -/
def mixI (s : ByteArray) (v : List Nat) (g k b : Nat) (w : World) (i : Nat) (W : World) : Prop :=
  Nums .u32 25 W g v ∧ Nums .u32 25 W (g + 1) (List.replicate 8 0) ∧ Nums .u32 25 W (k + 1) (turns KEY (spr s.data.toList 64) v i) ∧ W.cell? ⟨b, 0, none⟩ = some (.string cubesB) ∧ W.cell? ⟨k, 0, none⟩ = some (.func (.func 28) #[] #[.pointer (some ⟨b, 0, none⟩)]) ∧ Fr (fun j => g ≤ j) w W

set_option maxRecDepth 100000 in
set_option maxHeartbeats 2000000 in
theorem mix_any (v : List Nat) (s : ByteArray) (Y : Array Value) (w : World) (hY : Y = (v.map fun (n : Nat) => Value.int .u32 (n : Int)).toArray) (lv : v.length = 8) (dv : W32 v) (hs : s.size = 64) :
    Calls Try.prog 24 #[.agg Y, .string s] w fun e w' => e = .returned (.tuple #[wordsOf .u32 (mixed KEY s.data.toList v), .int .i64 0]) ∧ Below w.heap.size w w' := by
  obtain ⟨hz8, hs8⟩ := zero_of_info eight_info
  have HS8 := Lib.hid hs8
  have HH := Lib.hid (And.intro hY (And.intro lv dv))
  have t1 : ((s.size : Int) != 64) = false := by rw [hs]; rfl
  have HSZ := Lib.hid hs
  clear hY lv dv hs hs8
  refine (callsIn_wide (n := 3)).1 (callsIn_of_wp_marks Try.func24 rfl trivial (wpIn_wide.2 ?_) rfl)
  simp only [Try.ntmps24, List.size_toArray, List.length_cons, List.length_nil, Nat.reduceAdd, Nat.reduceSub, Array.replicate_succ, Array.replicate_zero, List.push_toArray, List.append_toArray, List.nil_append, List.cons_append]
  go_wp2_with fail
  obtain ⟨g, hg⟩ : ∃ g, g = w.heap.size := ⟨_, rfl⟩
  have z1 : (w.alloc (.cells Y 25)).heap.size = w.heap.size + 1 := by simp
  have N0 : Nums .u32 25 (w.alloc (.cells Y 25)) w.heap.size v := by rw [HH.out.1]; exact Nums.new .u32 _ w v
  have M0 := N0.alloc (.cells (Array.replicate 8 (.int .u32 0)) 25)
  have M1 := Nums.zeros .u32 25 (w.alloc (.cells Y 25)) 8
  rw [z1] at M1
  have F0 : Fr (fun j => w.heap.size ≤ j) w ((w.alloc (.cells Y 25)).alloc (.cells (Array.replicate 8 (.int .u32 0)) 25)) := ((Fr.refl _ w).alloc _).alloc _
  obtain ⟨W0, hW0⟩ : ∃ W0, W0 = (w.alloc (.cells Y 25)).alloc (.cells (Array.replicate 8 (.int .u32 0)) 25) := ⟨_, rfl⟩
  rw [← hW0] at M0 M1 F0
  rw [← hW0, ← hg]
  rw [← hg] at M0 M1 F0
  have HG := Lib.hid hg
  clear N0 z1 hW0 hg
  refine (words_any _ _).mono ?_
  generalize hcu : ByteArray.mk _ = cu
  have hcu2 : cu = cubesB := by rw [← hcu]; kernel_rfl
  clear hcu
  subst hcu2
  rintro e w1 ⟨rfl, hw1⟩
  have C1 : w1.cell? ⟨W0.heap.size, 0, none⟩ = some (.string cubesB) := by
    have hb := heap_alloc_new W0 (.cells #[.string cubesB] 9)
    rw [hw1]
    simp only [World.cell?]
    rw [hb]
    rfl
  have R1 := Lib.hid (show Nums .u32 25 w1 g v ∧ Nums .u32 25 w1 (g + 1) (List.replicate 8 0) ∧ Fr (fun j => g ≤ j) w w1 ∧ w1.cell? ⟨W0.heap.size, 0, none⟩ = some (.string cubesB) from by
    refine ⟨?_, ?_, ?_, C1⟩
    · rw [hw1]; exact M0.alloc _
    · rw [hw1]; exact M1.alloc _
    · rw [hw1]; exact F0.alloc _)
  obtain ⟨b, hb⟩ : ∃ b, b = W0.heap.size := ⟨_, rfl⟩
  rw [← hb] at R1
  rw [← hb]
  clear hw1 C1 M0 M1 F0 hb
  obtain ⟨k, hk⟩ : ∃ k, k = w1.heap.size := ⟨_, rfl⟩
  obtain ⟨W2, hW2⟩ : ∃ W2, W2 = w1.alloc (.cells #[.func (.func 28) #[] #[.pointer (some ⟨b, 0, none⟩)]] 52) := ⟨_, rfl⟩
  have z2 : W2.heap.size = w1.heap.size + 1 := by rw [hW2]; simp
  have hbk : b < k := by rw [hk]; exact World.block_lt_of_cell? _ _ R1.out.2.2.2
  have hgk : g + 1 < k := by rw [hk]; exact R1.out.2.1.lt
  have C2 : W2.cell? ⟨b, 0, none⟩ = some (.string cubesB) := by rw [hW2, World.cell?_alloc_lt _ _ _ (by show b < _; rw [← hk]; exact hbk)]; exact R1.out.2.2.2
  have D2 : W2.cell? ⟨k, 0, none⟩ = some (.func (.func 28) #[] #[.pointer (some ⟨b, 0, none⟩)]) := by
    have hb := heap_alloc_new w1 (.cells #[.func (.func 28) #[] #[.pointer (some ⟨b, 0, none⟩)]] 52)
    rw [hW2, hk]
    simp only [World.cell?]
    rw [hb]
    rfl
  have N2 : Nums .u32 25 W2 g v := by rw [hW2]; exact R1.out.1.alloc _
  have Z := Nums.zeros .u32 25 W2 8
  obtain ⟨W3, hW3⟩ : ∃ W3, W3 = (W2.alloc (.cells (Array.replicate 8 (.int .u32 0)) 25)).setRow W2.heap.size (v.map fun (n : Nat) => Value.int .u32 (n : Int)).toArray := ⟨_, rfl⟩
  have hW3' := hW3
  rw [show Array.replicate 8 (Value.int .u32 0) = #[.int .u32 0, .int .u32 0, .int .u32 0, .int .u32 0, .int .u32 0, .int .u32 0, .int .u32 0, .int .u32 0] from rfl, World.setRow_alloc_new] at hW3'
  have hY2 : Value.agg Y = wordsOf .u32 v := by rw [HH.out.1]; rfl
  have R3 := Lib.hid (show Nums .u32 25 W3 g v ∧ Nums .u32 25 W3 (g + 1) (List.replicate 8 0) ∧ Nums .u32 25 W3 (k + 1) v ∧ W3.cell? ⟨b, 0, none⟩ = some (.string cubesB) ∧ W3.cell? ⟨k, 0, none⟩ = some (.func (.func 28) #[] #[.pointer (some ⟨b, 0, none⟩)]) ∧ Fr (fun j => g ≤ j) w W3 from by
    rw [hW3']
    refine ⟨N2.alloc _, ?_, ?_, ?_, ?_, ?_⟩
    · rw [hW2]; exact (R1.out.2.1.alloc _).alloc _
    · rw [hk, ← z2]; exact Nums.new .u32 _ W2 v
    · rw [World.cell?_alloc_lt _ _ _ (by show b < _; omega)]; exact C2
    · rw [World.cell?_alloc_lt _ _ _ (by show k < _; omega)]; exact D2
    · rw [hW2]; exact (R1.out.2.2.1.alloc _).alloc _)
  have HZ := Lib.hid (And.intro N2 (And.intro Z (And.intro hW3 (And.intro hY2 hW2))))
  have HK := Lib.hid (And.intro hk (show W2.heap.size = k + 1 by rw [hk]; exact z2))
  clear C2 D2 N2 Z hW3 hW3' hY2 hW2 z2 hk R1
  go_wp2_with (first
    | (refine wpList_load_nums (by with_reducible rfl) 25 (.tmp 2) (by with_reducible rfl) (by rfl) (by rw [← HZ.out.2.2.2.2]; exact HZ.out.1) Try.underlying25 rfl (by rw [HH.out.2.1]; exact HS8.out) (.agg Y) HZ.out.2.2.2.1 ?_; rw [← HZ.out.2.2.2.2])
    | (refine wpList_store_nums (by with_reducible rfl) 25 (.tmp 7) (.tmp 17) (by with_reducible rfl) (by rfl) (.agg Y) (by rfl) HZ.out.2.2.2.1 HZ.out.2.1 (by rw [HH.out.2.1, List.length_replicate]) (by rw [HH.out.2.1]; exact HS8.out) W3 HZ.out.2.2.1 ?_)
    | fail)
  rw [HK.out.2, ← HK.out.1]
  refine (spread_any s _).mono ?_
  rintro e w4 ⟨rfl, hw4⟩
  have C4 : w4.cell? ⟨W3.heap.size, 0, none⟩ = some (.string s) := by
    have hb := heap_alloc_new W3 (.cells #[.string s] 9)
    rw [hw4]
    simp only [World.cell?]
    rw [hb]
    rfl
  have R4 := Lib.hid (show (Nums .u32 25 w4 g v ∧ Nums .u32 25 w4 (g + 1) (List.replicate 8 0) ∧ Nums .u32 25 w4 (k + 1) (turns KEY (spr s.data.toList 64) v 0) ∧ w4.cell? ⟨b, 0, none⟩ = some (.string cubesB) ∧ w4.cell? ⟨k, 0, none⟩ = some (.func (.func 28) #[] #[.pointer (some ⟨b, 0, none⟩)]) ∧ Fr (fun j => g ≤ j) w w4) ∧ k + 1 < w4.heap.size from by
    have hlt := R3.out.2.2.1.lt
    rw [hw4]
    refine ⟨⟨R3.out.1.alloc _, R3.out.2.1.alloc _, R3.out.2.2.1.alloc _, ?_, ?_, R3.out.2.2.2.2.2.alloc _⟩, by simp; omega⟩
    · rw [World.cell?_alloc_lt _ _ _ (by show b < _; omega)]; exact R3.out.2.2.2.1
    · rw [World.cell?_alloc_lt _ _ _ (by show k < _; omega)]; exact R3.out.2.2.2.2.1)
  obtain ⟨h, hh⟩ : ∃ h, h = W3.heap.size := ⟨_, rfl⟩
  rw [← hh] at C4
  rw [← hh]
  have HC := Lib.hid C4
  clear hw4 C4 hh R3 HZ HK
  go_wp2_with fail
  refine wp_rangeFr (gf := 29) (lb := #[.pointer (some ⟨h, 0, none⟩)]) rfl (enters_of Try.func29 (by kernel_rfl) rfl) (spread_told s h w4 HC.out HSZ.out) (fun _ => rfl)
    (mixI s v g k b w)
    ?hI R4.out.1
    (fun i => { tmps := #[.agg Y, .string s, .pointer (some ⟨g, 0, none⟩), undef, .pointer (some ⟨g + 1, 0, none⟩), .int .i64 0, .pointer (some ⟨k, 0, none⟩), .pointer (some ⟨k + 1, 0, none⟩), .int .i64 i, .int .u32 ((spr s.data.toList 64).getD i 0 : Nat), undef, undef, .string s, .int .i64 s.size, .bool false, undef, .func (.func 28) #[] #[.pointer (some ⟨b, 0, none⟩)], .agg Y, .string s, .func (.func 29) #[] #[.pointer (some ⟨h, 0, none⟩)], .int .i64 i, .int .u32 ((spr s.data.toList 64).getD i 0 : Nat), undef, undef, undef, undef, undef, undef, undef, undef, undef, undef, undef, undef, undef, undef, undef, undef, undef, undef, undef, undef], defers := [] }) ?assign ?body ?done
  case hI =>
    rintro i A B ⟨h1, h2, h3, h4, h5, h6⟩ hf
    have hn := R4.out.2
    exact ⟨h1.frame hf (by show ¬ w4.heap.size ≤ g; omega), h2.frame hf (by show ¬ w4.heap.size ≤ g + 1; omega), h3.frame hf (by show ¬ w4.heap.size ≤ k + 1; omega),
      (hf.cell (p := ⟨b, 0, none⟩) (World.block_lt_of_cell? _ _ h4) (by show ¬ w4.heap.size ≤ b; omega)).trans h4, (hf.cell (p := ⟨k, 0, none⟩) (World.block_lt_of_cell? _ _ h5) (by show ¬ w4.heap.size ≤ k; omega)).trans h5,
      h6.trans (hf.mono fun j _ hj => by show g ≤ j; omega)⟩
  case assign =>
    intro l i W K hK
    simp only [tells]
    refine wpIn_seq_k fun K1 hK1 => ?_
    refine round_region (by kernel_rfl) (fun ⟨_, _, hh⟩ => hh) ?_
    go_wp2
    refine round_region (by kernel_rfl) (fun ⟨_, _, hh⟩ => hh) ?_
    go_wp2
    exact hK
  case body =>
    rintro l i W hz ⟨h1, h2, h3, h4, h5, h6⟩ hi
    have hl := turns_length KEY (spr s.data.toList 64) v HH.out.2.1 i
    have hw := turns_w32 KEY (spr s.data.toList 64) v HH.out.2.2 i
    have hT : turns KEY (spr s.data.toList 64) v (i + 1) = turn (KEY.getD i 0) ((spr s.data.toList 64).getD i 0) (turns KEY (spr s.data.toList 64) v i) := rfl
    have hln := turns_length KEY (spr s.data.toList 64) v HH.out.2.1 (i + 1)
    have bK := key_w32.getD i
    have bW := (spr_w32 s.data.toList 64).getD i
    have hwd := cubes_word i hi
    obtain ⟨vv, hvv⟩ : ∃ vv, vv = turns KEY (spr s.data.toList 64) v i := ⟨_, rfl⟩
    obtain ⟨vn, hvn⟩ : ∃ vn, vn = turns KEY (spr s.data.toList 64) v (i + 1) := ⟨_, rfl⟩
    obtain ⟨kk, hkk⟩ : ∃ x, x = KEY.getD i 0 := ⟨_, rfl⟩
    obtain ⟨ww, hww⟩ : ∃ x, x = (spr s.data.toList 64).getD i 0 := ⟨_, rfl⟩
    rw [← hvv] at h3 hl hw hT
    rw [← hvn] at hT hln
    rw [← hkk] at bK hT hwd
    rw [← hww] at bW hT
    rw [← hww]
    obtain ⟨X, hX⟩ : ∃ X, X = (vv.map fun (n : Nat) => Value.int .u32 (n : Int)).toArray := ⟨_, rfl⟩
    have hV : Value.agg X = wordsOf .u32 vv := by rw [hX]; rfl
    have hcs := cubes_size
    have HWd := Lib.hid (fun W' (h : W'.cell? ⟨b, 0, none⟩ = some (.string cubesB)) => word_any cubesB i b W' h (by omega) (by omega))
    rw [hwd] at HWd
    have HTn := Lib.hid (fun W' => turn_any vv X kk ww W' hX hl hw)
    rw [← hT] at HTn
    have kadd : IntKind.u32.wrap ((ww : Int) + (kk : Int)) = (((ww + kk) % 4294967296 : Nat) : Int) := by rw [IntKind.wrap_u32]; omega
    obtain ⟨bt, hbt⟩ : ∃ x, x = (ww + kk) % 4294967296 := ⟨_, rfl⟩
    rw [← hbt] at kadd HTn
    have R := Lib.hid (And.intro (And.intro h1 (And.intro h2 (And.intro h3 (And.intro h4 (And.intro h5 h6))))) (And.intro hV (And.intro hl (And.intro hln (And.intro hvn hz)))))
    clear h1 h2 h3 h4 h6 hl hw hT hln bK bW hwd hvv hvn hkk hww hX hV hcs hbt hz
    refine wpIn_block ?_
    refine round_quiet_tail 6 (by kernel_rfl) (by kernel_rfl) (by kernel_rfl) (fun ⟨_, _, hh⟩ => hh) W rfl ?_
    simp only [List.take_succ_cons, List.take_zero, List.drop_succ_cons, List.drop_zero]
    refine wpQuiet_load_nums rfl 25 (.tmp 7) rfl (by rfl) R.out.1.2.2.1 Try.underlying25 rfl (by rw [R.out.2.2.1]; exact HS8.out) (.agg X) R.out.2.1 ?_
    simp only [Act.put, List.setIfInBounds_toArray, List.set_cons_zero, List.set_cons_succ]
    repeat (go_big_quiet_step ((go_at_call 28; exact Calls.quiet_of (HWd.out _ R.out.1.2.2.2.1))))
    refine wpQuiet_nil ?_
    intro q
    obtain ⟨W5, hW5⟩ : ∃ W5, W5 = W.drewN q := ⟨_, rfl⟩
    rw [← hW5]
    have R5 := Lib.hid (show Nums .u32 25 W5 (k + 1) vv ∧ Fr (fun j => j = k + 1) W W5 from by rw [hW5]; exact ⟨R.out.1.2.2.1.drewN q, (Fr.refl _ W).drewN q⟩)
    clear hW5 h5
    go_wp2_with fail
    refine (HTn.out _).mono ?_
    obtain ⟨VN, hVN⟩ : ∃ VN, VN = wordsOf .u32 vn := ⟨_, rfl⟩
    rw [← hVN]
    rintro e w6 ⟨rfl, b6⟩
    have N6 := R5.out.1.bel b6
    have F6 := R5.out.2.trans (Fr.ofBelow b6)
    obtain ⟨W7, hW7⟩ : ∃ W7, W7 = w6.setRow (k + 1) (vn.map fun (n : Nat) => Value.int .u32 (n : Int)).toArray := ⟨_, rfl⟩
    have N7 := N6.setRow vn
    have F7 := fr_setRow (g := k + 1) F6 (.inl rfl) (vn.map fun (n : Nat) => Value.int .u32 (n : Int)).toArray
    rw [← hW7] at N7 F7
    have H7 : mixI s v g k b w (i + 1) W7 ∧ Fr (fun j => j < w4.heap.size) W W7 := by
      obtain ⟨h1, h2, h3, h4, h5, h6⟩ := R.out.1
      have hn := R4.out.2
      refine ⟨⟨h1.frame F7 (by show ¬ g = k + 1; omega), h2.frame F7 (by show ¬ g + 1 = k + 1; omega), by rw [← R.out.2.2.2.2.1]; exact N7,
        (F7.cell (p := ⟨b, 0, none⟩) (World.block_lt_of_cell? _ _ h4) (by show ¬ b = k + 1; omega)).trans h4, (F7.cell (p := ⟨k, 0, none⟩) (World.block_lt_of_cell? _ _ h5) (by show ¬ k = k + 1; omega)).trans h5,
        h6.then_ F7 fun j _ hj => by rw [hj]; show g ≤ k + 1; omega⟩, F7.mono fun j _ hj => by rw [hj]; exact hn⟩
    have R7 := Lib.hid (And.intro N6 (And.intro hW7 (And.intro hVN H7)))
    clear N6 F6 hW7 N7 F7 H7 hVN b6 HTn HWd R5
    go_wp2_with (refine wpList_store_nums (by with_reducible rfl) 25 (.tmp 7) (.tmp 28) (by with_reducible rfl) (by rfl) VN (by rfl) R7.out.2.2.1 R7.out.1 (by rw [R.out.2.2.1, R.out.2.2.2.1]) (by rw [R.out.2.2.2.1]; exact HS8.out) W7 R7.out.2.1 ?_)
    exact R7.out.2.2.2
  case done =>
    rintro D W hD ⟨h1, h2, h3, h4, h5, h6⟩ hdef
    have hl := turns_length KEY (spr s.data.toList 64) v HH.out.2.1 64
    have hw := turns_w32 KEY (spr s.data.toList 64) v HH.out.2.2 64
    have hmx : mixed KEY s.data.toList v = half (turns KEY (spr s.data.toList 64) v 64) v 8 := (half_all _ _ 8 hl HH.out.2.1).symm
    have hml := mixed_length KEY s.data.toList v HH.out.2.1
    obtain ⟨tt, htt⟩ : ∃ tt, tt = turns KEY (spr s.data.toList 64) v 64 := ⟨_, rfl⟩
    rw [← htt] at h3 hl hw hmx
    have hkD : k + 1 < D := Nat.lt_of_lt_of_le R4.out.2 hD
    have hY2 : Value.agg Y = wordsOf .u32 v := by rw [HH.out.1]; rfl
    have R := Lib.hid (And.intro (And.intro h1 (And.intro h2 (And.intro h3 (And.intro hdef h6)))) (And.intro hl (And.intro hw (And.intro hmx (And.intro hml (And.intro hY2 hkD))))))
    clear h1 h2 h3 h4 h5 h6 hdef hl hw hmx hml hY2 htt hD R4 HC
    go_wp2_with (refine wpList_load_nums (by with_reducible rfl) 25 (.tmp 2) (by with_reducible rfl) (by rfl) R.out.1.1 Try.underlying25 rfl (by rw [HH.out.2.1]; exact HS8.out) (.agg Y) R.out.2.2.2.2.2.1 ?_)
    go_loopw [30] (fun v30 wr => ∃ i : Nat, v30 = .int .i64 i ∧ i ≤ 8 ∧ Nums .u32 25 wr g v ∧ Nums .u32 25 wr (g + 1) (List.replicate 8 0) ∧ Nums .u32 25 wr (k + 1) (half tt v i) ∧ wr.heap[D]? = some (.deferred (some [])) ∧ Fr (fun j => g ≤ j) w wr) (fun i _ => 8 - (intOf i).toNat)
    case atStart => exact ⟨0, rfl, by omega, R.out.1.1, R.out.1.2.1, by rw [half_zero]; exact R.out.1.2.2.1, R.out.1.2.2.2⟩
    case round =>
      obtain ⟨i, rfl, hi, hN, hZ, hV, hdef, hF⟩ := hrel
      have hl := R.out.2.1
      have hlv := HH.out.2.1
      by_cases hlt : i < 8
      · have hhl := half_length tt v i (by omega) (by omega)
        have c0 := hV.cellD i (by omega)
        have f0 := hV.free i
        rw [half_get tt v i (by omega) (by omega)] at c0
        have hset := half_set tt v i (by omega) (by omega)
        have b0 := R.out.2.2.1.getD i
        have b1 := HH.out.2.2.getD i
        have hYi : Y[i]? = some (.int .u32 (v.getD i 0 : Nat)) := by
          have hiv : i < v.length := by omega
          rw [HH.out.1]
          simp [List.getD, hiv]
        have hix := fun W => index_words Y i _ W hYi hlt
        obtain ⟨x, hx⟩ : ∃ x, x = tt.getD i 0 := ⟨_, rfl⟩
        obtain ⟨y, hy⟩ : ∃ y, y = v.getD i 0 := ⟨_, rfl⟩
        rw [← hx] at c0 b0 hset
        rw [← hy] at hix b1 hset
        obtain ⟨z, hz⟩ : ∃ z, z = (x + y) % 4294967296 := ⟨_, rfl⟩
        rw [← hz] at hset
        have k0 : IntKind.u32.wrap ((x : Int) + (y : Int)) = (z : Int) := by rw [IntKind.wrap_u32]; omega
        have R5 := Lib.hid (And.intro hN (And.intro hZ (And.intro hV (And.intro hdef (And.intro hF hset)))))
        clear hN hZ hV hdef hF hset hx hy hz hhl hl hlv hYi
        go_wp2_with fail
        go_roundw
        case rel =>
          obtain ⟨h1, h2, h3, h4, h5, h6⟩ := R5.out
          have hkD := R.out.2.2.2.2.2.2
          refine ⟨i + 1, by go_num, by omega, h1.far (p := ⟨k + 1, i, none⟩) (by show g ≠ k + 1; omega) _, h2.far (p := ⟨k + 1, i, none⟩) (by show g + 1 ≠ k + 1; omega) _, ?_,
            (Below.heap_setCell wr ⟨k + 1, i, none⟩ _ D (by show D ≠ k + 1; omega)).trans h4, h5.setCell (p := ⟨k + 1, i, none⟩) (.inl (by show g ≤ k + 1; omega)) _⟩
          have := h3.set i z
          rw [h6] at this
          exact this
        case measure => (simp [intOf]) <;> omega
      · obtain rfl : i = 8 := by omega
        have hmx := R.out.2.2.2.1
        have hml := R.out.2.2.2.2.1
        rw [← hmx] at hV
        obtain ⟨V, hVV⟩ : ∃ V, V = wordsOf .u32 (mixed KEY s.data.toList v) := ⟨_, rfl⟩
        obtain ⟨W9, hW9⟩ : ∃ W9, W9 = wr.setRow (g + 1) ((mixed KEY s.data.toList v).map fun (n : Nat) => Value.int .u32 (n : Int)).toArray := ⟨_, rfl⟩
        have hA2 := hZ.setRow (mixed KEY s.data.toList v)
        have hF2 := fr_setRow (g := g + 1) hF (.inl (by show g ≤ g + 1; omega)) ((mixed KEY s.data.toList v).map fun (n : Nat) => Value.int .u32 (n : Int)).toArray
        have hkD := R.out.2.2.2.2.2.2
        have hd9 : W9.heap[D]? = some (.deferred (some [])) := by
          rw [hW9]
          simp only [World.setRow, Array.getElem?_modify]
          rw [if_neg (by omega)]
          exact hdef
        rw [← hW9] at hA2 hF2
        have hA3 : Nums .u32 25 (W9.putObj D (.deferred none)) (g + 1) (mixed KEY s.data.toList v) := hA2.keep (World.putObj_heap_other (by omega))
        have hF3 := fr_putObj hF2 (l := D) (.inl (by show g ≤ D; omega)) (.deferred none)
        have hld := load_nums (P := Try.prog) hA3 25 Try.underlying25 rfl (by rw [hml]; exact HS8.out) V hVV
        have H := Lib.hid (And.intro hV (And.intro hZ (And.intro hW9 (And.intro hVV (And.intro hml (And.intro hd9 hF3))))))
        have HL := Lib.hid hld
        clear hN hZ hV hF hdef hmx hA2 hF2 hA3 hF3 hld hVV hW9 hml hl hlv hlt hi hd9 hkD
        go_wp2_with (first
          | (refine wpList_load_nums (by with_reducible rfl) 25 (.tmp 7) (by with_reducible rfl) (by rfl) H.out.1 Try.underlying25 rfl (by rw [H.out.2.2.2.2.1]; exact HS8.out) V H.out.2.2.2.1 ?_)
          | (refine wpList_store_nums (by with_reducible rfl) 25 (.tmp 4) (.tmp 41) (by with_reducible rfl) (by rfl) V (by rfl) H.out.2.2.2.1 H.out.2.1 (by rw [H.out.2.2.2.2.1, List.length_replicate]) (by rw [H.out.2.2.2.2.1]; exact HS8.out) W9 H.out.2.2.1 ?_))
        refine ⟨by simp, .inl ⟨_, _, rfl, run_takeDeferred H.out.2.2.2.2.2.1, ?_⟩⟩
        refine ⟨.tuple #[V, .int .i64 0], ?_, by rw [H.out.2.2.2.1], H.out.2.2.2.2.2.2.below (Nat.le_refl _) fun _ h => by rw [← HG.out]; exact h⟩
        exact results_cell_tmp (p := 4) (q := 5) (ty := 25) rfl (by rfl) HL.out
end Go.Proofs.Ytnjiflkbgpbchaa
