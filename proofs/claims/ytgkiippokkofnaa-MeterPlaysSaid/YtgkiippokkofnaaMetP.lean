/-
  For every most and every row of acts MeterPlays answers true over this seat's translation. Conditions: the row holds acts.
-/
import Derived.Test.YtgkiippokkofnaaMetL
import Derived.OpenShut
import Derived.Test.YtgkiippokkofnaaHeld
import Derived.Deep.Cut
namespace Go.Proofs.Ytgkiippokkofnaa
open Go.RowKit

theorem meterPlays_many (o : Int) (a : Option Addr) (len cap : Nat) (w : World) (hl : 100 < len) (hm : len ≤ maxLen) :
    Calls Try.prog 3 #[.int .i64 o, .slice a len cap] w fun e w' => e = .returned (.bool true) ∧ Below w.heap.size w w' := by
  unfold maxLen at hm
  have t3 : decide ((100 : Int) < (len : Int)) = true := by simp; omega
  go_enter Try.func3, Try.ntmps3
  go_wp2_with fail
  refine (alive_any _).mono ?_
  rintro e w1 ⟨rfl, b1⟩
  have B1 := Lib.hid b1
  clear b1
  go_wp2
  go_ret
  exact ⟨rfl, B1.out⟩

/-- What both sides keep. -/
def Ok (O u k t : Int) : Prop := 0 ≤ u ∧ u ≤ t ∧ t ≤ O ∧ 0 ≤ k ∧ k ≤ 9223372036854775807

theorem ok_tk {O u k t : Int} (n : Int) (h : Ok O u k t) (hO : O ≤ 9223372036854775807) : Ok O (tk O u k t n).2.1 (tk O u k t n).2.2.1 (tk O u k t n).2.2.2 := by
  unfold Ok at *
  rw [tk, mv]
  by_cases h0 : n < 0
  · rw [if_pos h0]; exact h
  · rw [if_neg h0]
    by_cases h1 : (if 9223372036854775807 - k < O - u then 9223372036854775807 - k else O - u) < n
    · rw [if_pos h1]; exact h
    · rw [if_neg h1]
      dsimp only
      split at h1 <;> split <;> omega
theorem ok_gv {O u k t : Int} (n : Int) (h : Ok O u k t) : Ok O (gv u k t n).2.1 (gv u k t n).2.2.1 (gv u k t n).2.2.2 := by
  unfold Ok at *
  rw [gv, mv]
  by_cases h0 : n < 0
  · rw [if_pos h0]; exact h
  · rw [if_neg h0]
    by_cases h1 : u < n
    · rw [if_pos h1]; exact h
    · rw [if_neg h1]
      dsimp only
      split <;> omega

theorem ok_clear {O u k t : Int} (h : Ok O u k t) : Ok O u 0 u := by unfold Ok at *; omega

/-- The meter in block b, the document's in block c. -/
def Two (b c : Nat) (o u k t : Int) (w : World) : Prop := Mt w b o u k t ∧ Dm w c o u k t
theorem Two.bel {b c : Nat} {o u k t : Int} {w w' : World} (h : Two b c o u k t w) (hb : Below w.heap.size w w') : Two b c o u k t w' :=
  ⟨h.1.keep (hb.block _ h.1.lt), h.2.keep (hb.block _ h.2.lt)⟩

/-- A whole meter stored into block b. -/
def put4 (w : World) (b : Nat) (o u k t : Int) : World :=
  (((w.setCell ⟨b, 0, none⟩ (.int .i64 o)).setCell ⟨b, 1, none⟩ (.int .i64 u)).setCell ⟨b, 2, none⟩ (.int .i64 k)).setCell ⟨b, 3, none⟩ (.int .i64 t)
theorem Dm.put {w : World} {b : Nat} {o u k t : Int} (h : Dm w b o u k t) (o1 u1 k1 t1 : Int) : Dm (put4 w b o1 u1 k1 t1) b o1 u1 k1 t1 := by
  unfold Dm put4 at *
  simp [World.setCell, Array.getElem?_modify, h]
theorem put4_fr (w : World) (b : Nat) (o u k t : Int) : Fr (fun j => j = b) w (put4 w b o u k t) :=
  ((((Fr.refl (fun j => j = b) w).setCell (p := ⟨b, 0, none⟩) (.inl rfl) _).setCell (p := ⟨b, 1, none⟩) (.inl rfl) _).setCell (p := ⟨b, 2, none⟩) (.inl rfl) _).setCell (p := ⟨b, 3, none⟩) (.inl rfl) _

set_option maxRecDepth 100000 in
set_option maxHeartbeats 4000000 in
theorem meterPlays_few (o O : Int) (a : Option Addr) (len cap : Nat) (kd ns : Nat → Int) (w : World) (hl : len ≤ 100) (hO : max o 0 = O) (ho : o ≤ 9223372036854775807)
    (hc : ∀ k, k < len → ∃ b off, a = some ⟨b, off, none⟩ ∧ b < w.heap.size ∧ w.cell? ⟨b, off + k * 2, none⟩ = some (.int .u8 (kd k)) ∧ w.cell? ⟨b, off + k * 2 + 1, none⟩ = some (.int .i64 (ns k)) ∧ 0 ≤ kd k ∧ kd k ≤ 255 ∧ ns k ≤ 9223372036854775807) :
    Calls Try.prog 3 #[.int .i64 o, .slice a len cap] w fun e w' => e = .returned (.bool true) ∧ Below w.heap.size w w' := by
  have t3 : decide ((100 : Int) < (len : Int)) = false := by simp; omega
  have hO2 : O ≤ 9223372036854775807 := by omega
  have hO1 : 0 ≤ O := by omega
  have HO := Lib.hid hO
  have HC := Lib.hid hc
  clear hc hO ho
  go_enter Try.func3, Try.ntmps3
  go_wp2_with fail
  refine (alive_any _).mono ?_
  rintro e w1 ⟨rfl, hb⟩
  have HB := Lib.hid hb
  clear hb
  go_wp2_with fail
  refine (new_any _ _).mono ?_
  rintro e w2 ⟨rfl, rfl⟩
  rw [HO.out]
  have M0 := Mt.new w1 O
  have F0 : Fr (fun j => w1.heap.size ≤ j) w1 (w1.alloc (.cells #[.int .i64 O, .int .i64 0, .int .i64 0, .int .i64 0] 42)) := (Fr.refl _ w1).alloc _
  obtain ⟨b, hb⟩ : ∃ b, b = w1.heap.size := ⟨_, rfl⟩
  rw [← hb] at M0 F0
  rw [← hb]
  generalize w1.alloc (.cells #[.int .i64 O, .int .i64 0, .int .i64 0, .int .i64 0] 42) = W at *
  have HW := Lib.hid hb
  have F := Lib.hid F0
  have M := Lib.hid M0
  clear F0 M0 hb t3
  go_wp2_with fail
  refine (refNew_any _ _).mono ?_
  rintro e w2 ⟨rfl, b2⟩
  rw [HO.out]
  go_wp2_with fail
  have D2 := Dm.made w2 O 0 0 0
  have M2 := (M.out.keep (b2.block _ M.out.lt)).alloc (.cells #[.int .i64 O, .int .i64 0, .int .i64 0, .int .i64 0] 27)
  have F2 := (F.out.then_ (T := fun _ => False) ⟨b2.os, b2.tape, b2.output, b2.size, fun j hj _ => b2.block j hj⟩ (fun _ _ h => h.elim)).alloc (.cells #[.int .i64 O, .int .i64 0, .int .i64 0, .int .i64 0] 27)
  have hcb : b < w2.heap.size := Nat.lt_of_lt_of_le M.out.lt b2.size
  obtain ⟨c, hc⟩ : ∃ c, c = w2.heap.size := ⟨_, rfl⟩
  rw [← hc] at D2 hcb
  rw [← hc]
  generalize w2.alloc (.cells #[.int .i64 O, .int .i64 0, .int .i64 0, .int .i64 0] 27) = W2 at *
  have R := Lib.hid (And.intro (show Two b c O 0 0 0 W2 from ⟨M2, D2⟩) F2)
  have HBC := Lib.hid hcb
  clear M F M2 D2 F2 b2 hc hcb
  go_wp2_with fail
  go_loopw [7] (fun v7 wr => ∃ (i : Nat) (u k t : Int), i ≤ len ∧ v7 = .int .i64 i ∧ Ok O u k t ∧ Two b c O u k t wr ∧ Fr (fun j => b ≤ j) w1 wr)
    (fun i _ => len - (intOf i).toNat)
  case atStart =>
    exact ⟨0, 0, 0, 0, Nat.zero_le _, rfl, ⟨Int.le_refl _, Int.le_refl _, hO1, Int.le_refl _, by decide⟩, R.out.1, R.out.2⟩
  case round =>
    obtain ⟨i, u, k, t, hi, rfl, hok, htw, hf⟩ := hrel
    have RM := Lib.hid (And.intro hok (And.intro htw hf))
    clear hok htw hf
    by_cases hlt : i < len
    · obtain ⟨bx, off, rfl, hbx, hcell, hcell2, h0, h255, hn⟩ := HC.out i hlt
      have cx := (RM.out.2.2.cell (p := ⟨bx, off + i * 2, none⟩) (Nat.lt_of_lt_of_le hbx HB.out.size) (by show ¬ b ≤ bx; have := HW.out; have := HB.out.size; omega)).trans ((HB.out.cell (p := ⟨bx, off + i * 2, none⟩) hbx).trans hcell)
      have cy := (RM.out.2.2.cell (p := ⟨bx, off + i * 2 + 1, none⟩) (Nat.lt_of_lt_of_le hbx HB.out.size) (by show ¬ b ≤ bx; have := HW.out; have := HB.out.size; omega)).trans ((HB.out.cell (p := ⟨bx, off + i * 2 + 1, none⟩) hbx).trans hcell2)
      clear hcell hcell2
      have e0 := RM.out.2.1.2.c0
      have e1 := RM.out.2.1.2.c1
      have e2 := RM.out.2.1.2.c2
      have e3 := RM.out.2.1.2.c3
      have hlc := RM.out.2.1.2.lt
      have hlb := RM.out.2.1.1.lt
      obtain ⟨kk, hkk⟩ : ∃ kk : Nat, kd i = (kk : Int) := ⟨(kd i).toNat, by omega⟩
      rw [hkk] at cx h255
      obtain ⟨n, hnn⟩ : ∃ n, ns i = n := ⟨_, rfl⟩
      rw [hnn] at cy hn
      clear hkk h0 hnn
      by_cases h2 : kk % 4 = 2
      · go_wp2_with fail
        obtain ⟨pa, hpa⟩ : ∃ pa, pa = wr.heap.size := ⟨_, rfl⟩
        obtain ⟨W3, hW3⟩ : ∃ W3, W3 = (wr.alloc (.cells #[.int .u8 kk, .int .i64 n] 30)).alloc (.cells #[.int .i64 O, .int .i64 u, .int .i64 k, .int .i64 t] 27) := ⟨_, rfl⟩
        have A3 : W3.heap[pa]? = some (.cells #[.int .u8 kk, .int .i64 n] 30 (0, 0)) := by
          rw [hW3, hpa]; exact (Below.heap_alloc _ _ _ (by simp)).trans (heap_alloc_new wr _)
        have Y3 : Dm W3 (pa + 1) O u k t := by
          rw [hW3, hpa]
          have := Dm.made (wr.alloc (.cells #[.int .u8 kk, .int .i64 n] 30)) O u k t
          simpa using this
        have T3 : Two b c O u k t W3 := by
          rw [hW3]; exact ⟨(RM.out.2.1.1.alloc _).alloc _, (RM.out.2.1.2.alloc _).alloc _⟩
        have F3 : Fr (fun j => b ≤ j) w1 W3 := by rw [hW3]; exact (RM.out.2.2.alloc _).alloc _
        have hlt3 : b < c ∧ c < pa := ⟨HBC.out, by rw [hpa]; exact hlc⟩
        have HOK := Lib.hid RM.out.1
        rw [← hW3]
        rw [← hpa]
        have S3 := Lib.hid (And.intro A3 (And.intro Y3 (And.intro T3 F3)))
        clear hW3 hpa A3 Y3 T3 F3 cx cy e0 e1 e2 e3 hlc hlb RM
        obtain ⟨G, hG⟩ : ∃ G, gv u k t n = G := ⟨_, rfl⟩
        obtain ⟨E, u1, k1, t1⟩ := G
        have c1 := give_any b O u k t n W3 S3.out.2.2.1.1 HOK.out.1 (by have := HOK.out; unfold Ok at this; omega) HOK.out.2.2.2.1 HOK.out.2.2.2.2
        rw [hG] at c1
        dsimp only at c1
        refine c1.mono ?_
        clear c1
        rintro e w4 ⟨rfl, m4, f4⟩
        have A4 : w4.heap[pa]? = some (.cells #[.int .u8 kk, .int .i64 n] 30 (0, 0)) := (f4.block pa (lt_of_block S3.out.1) (by omega)).trans S3.out.1
        have Y4 : Dm w4 (pa + 1) O u k t := S3.out.2.1.keep (f4.block _ S3.out.2.1.lt (by omega))
        have X4 : Dm w4 c O u k t := S3.out.2.2.1.2.keep (f4.block _ S3.out.2.2.1.2.lt (by omega))
        have F4 : Fr (fun j => b ≤ j) w1 w4 := S3.out.2.2.2.then_ f4 (fun j _ h => by rw [h]; exact Nat.le_refl _)
        have e0 := X4.c0
        have e1 := X4.c1
        have e2 := X4.c2
        have e3 := X4.c3
        have a1 : w4.cell? ⟨pa, 1, none⟩ = some (.int .i64 n) := by simp [World.cell?, A4]
        have S4 := Lib.hid (And.intro m4 (And.intro A4 (And.intro Y4 (And.intro X4 F4))))
        clear m4 A4 Y4 X4 F4 f4 S3
        go_wp2_with fail
        have c1 := refGive_any O u k t n w4 HOK.out.2.1 HOK.out.1 (by have := HOK.out; unfold Ok at this; omega)
        rw [hG] at c1
        dsimp only at c1
        refine c1.mono ?_
        clear c1
        rintro e w5 ⟨rfl, b5⟩
        have M5 : Mt w5 b O u1 k1 t1 := S4.out.1.keep (b5.block _ S4.out.1.lt)
        have A5 : w5.heap[pa]? = some (.cells #[.int .u8 kk, .int .i64 n] 30 (0, 0)) := (b5.block pa (lt_of_block S4.out.2.1)).trans S4.out.2.1
        have Y5 : Dm w5 (pa + 1) O u k t := S4.out.2.2.1.keep (b5.block _ S4.out.2.2.1.lt)
        have X5 : Dm w5 c O u k t := S4.out.2.2.2.1.keep (b5.block _ S4.out.2.2.2.1.lt)
        have F5 : Fr (fun j => b ≤ j) w1 w5 := S4.out.2.2.2.2.then_ (T := fun _ => False) ⟨b5.os, b5.tape, b5.output, b5.size, fun j hj _ => b5.block j hj⟩ (fun _ _ h => h.elim)
        have y0 := Y5.c0
        have y1 := Y5.c1
        have y2 := Y5.c2
        have y3 := Y5.c3
        have yf0 := Y5.free 0
        have yf1 := Y5.free 1
        have yf2 := Y5.free 2
        have yf3 := Y5.free 3
        have S5 := Lib.hid (And.intro M5 (And.intro A5 (And.intro Y5 (And.intro X5 F5))))
        clear M5 A5 Y5 X5 F5 b5 S4 e0 e1 e2 e3 a1
        go_upto_region 21 with fail
        obtain ⟨w6, hw6⟩ : ∃ w6, w6 = put4 w5 (pa + 1) O u1 k1 t1 := ⟨_, rfl⟩
        have hw7 := hw6
        unfold put4 at hw7
        rw [← hw7]
        clear hw7
        have f6 := put4_fr w5 (pa + 1) O u1 k1 t1
        rw [← hw6] at f6
        have Y6 : Dm w6 (pa + 1) O u1 k1 t1 := by rw [hw6]; exact S5.out.2.2.1.put O u1 k1 t1
        have M6 : Mt w6 b O u1 k1 t1 := S5.out.1.keep (f6.block _ S5.out.1.lt (by omega))
        have X6 : Dm w6 c O u k t := S5.out.2.2.2.1.keep (f6.block _ S5.out.2.2.2.1.lt (by omega))
        have F6 : Fr (fun j => b ≤ j) w1 w6 := S5.out.2.2.2.2.then_ f6 (fun j _ h => by rw [h]; omega)
        have x0 := X6.c0
        have x1 := X6.c1
        have x2 := X6.c2
        have x3 := X6.c3
        have xf0 := X6.free 0
        have xf1 := X6.free 1
        have xf2 := X6.free 2
        have xf3 := X6.free 3
        have z0 := Y6.c0
        have z1 := Y6.c1
        have z2 := Y6.c2
        have z3 := Y6.c3
        have S6 := Lib.hid (And.intro M6 (And.intro X6 F6))
        clear hw6 f6 Y6 M6 X6 F6 S5 y0 y1 y2 y3 yf0 yf1 yf2 yf3
        go_upto_region 22 with fail
        obtain ⟨w7, hw7⟩ : ∃ w7, w7 = put4 w6 c O u1 k1 t1 := ⟨_, rfl⟩
        have hw8 := hw7
        unfold put4 at hw8
        rw [← hw8]
        clear hw8
        have f7 := put4_fr w6 c O u1 k1 t1
        rw [← hw7] at f7
        have X7 : Dm w7 c O u1 k1 t1 := by rw [hw7]; exact S6.out.2.1.put O u1 k1 t1
        have M7 : Mt w7 b O u1 k1 t1 := S6.out.1.keep (f7.block _ S6.out.1.lt (by omega))
        have F7 : Fr (fun j => b ≤ j) w1 w7 := S6.out.2.2.then_ f7 (fun j _ h => by rw [h]; omega)
        have HOK1 := Lib.hid (show Ok O u1 k1 t1 from by have := ok_gv n HOK.out; rw [hG] at this; exact this)
        have T7 : Two b c O u1 k1 t1 w7 := ⟨M7, X7⟩
        have S7 := Lib.hid (And.intro T7 F7)
        clear hw7 f7 X7 M7 F7 T7 S6 x0 x1 x2 x3 xf0 xf1 xf2 xf3 z0 z1 z2 z3 hG HOK
        have hHeld := (show Two b c O u1 k1 t1 w7.drew from S7.out.1)
        have BE := Lib.hid ((Below.refl w7.heap.size w7).drew)
        have q1 : decide (O < u1) = false := by have := HOK1.out; unfold Ok at this; simp <;> omega
        have q2 : decide (t1 < u1) = false := by have := HOK1.out; unfold Ok at this; simp <;> omega
        have q3 : decide (O < t1) = false := by have := HOK1.out; unfold Ok at this; simp <;> omega
        have n1 : (E != E) = false := by simp
        have n2 : (u1 != u1) = false := by simp
        have n3 : (k1 != k1) = false := by simp
        have n4 : (t1 != t1) = false := by simp
        have n5 : (O != O) = false := by simp
        refine wp_region_held_drew (S := Two b c O u1 k1 t1) (by kernel_rfl) hHeld (fun hHeld => ?_)
        refine held_take 0 67 (v := ?va0) rfl rfl (by kernel_rfl) (by kernel_rfl) (by kernel_rfl) (fun _ _ _ h => h) (by rfl) ?hya0 hHeld ?resta0
        case hya0 => (intro w hSw; clear hSw; go_simp; try with_reducible rfl)
        try simp only [Act.put, List.setIfInBounds_toArray, List.set_cons_zero, List.set_cons_succ]
        refine held_take 1 68 (v := ?va1) rfl rfl (by kernel_rfl) (by kernel_rfl) (by kernel_rfl) (fun _ _ _ h => h) (by rfl) ?hya1 hHeld ?resta1
        case hya1 => (intro w hSw; clear hSw; go_simp; try with_reducible rfl)
        try simp only [Act.put, List.setIfInBounds_toArray, List.set_cons_zero, List.set_cons_succ]
        refine held_take 2 69 (v := .bool false) rfl rfl (by kernel_rfl) (by kernel_rfl) (by kernel_rfl) (fun _ _ _ h => h) (by rfl) ?hya2 hHeld ?resta2
        case hya2 => (intro w hSw; clear hSw; go_simp; try with_reducible rfl)
        try simp only [Act.put, List.setIfInBounds_toArray, List.set_cons_zero, List.set_cons_succ]
        refine held_take 3 70 (v := ?va3) rfl rfl (by kernel_rfl) (by kernel_rfl) (by kernel_rfl) (fun _ _ _ h => h) (by rfl) ?hya3 hHeld ?resta3
        case hya3 => (intro w hSw; clear hSw; go_simp; try with_reducible rfl)
        try simp only [Act.put, List.setIfInBounds_toArray, List.set_cons_zero, List.set_cons_succ]
        refine held_take 4 71 (v := ?va4) rfl rfl (by kernel_rfl) (by kernel_rfl) (by kernel_rfl) (fun _ _ _ h => h) (by rfl) ?hya4 hHeld ?resta4
        case hya4 => (intro w hSw; clear hSw; go_simp; try with_reducible rfl)
        try simp only [Act.put, List.setIfInBounds_toArray, List.set_cons_zero, List.set_cons_succ]
        refine held_take 6 73 (v := ?va6) rfl rfl (by kernel_rfl) (by kernel_rfl) (by kernel_rfl) (fun _ _ _ h => h) (by rfl) ?hya6 hHeld ?resta6
        case hya6 => (intro w hSw; clear hSw; go_simp; try with_reducible rfl)
        try simp only [Act.put, List.setIfInBounds_toArray, List.set_cons_zero, List.set_cons_succ]
        refine held_take 7 74 (v := ?va7) rfl rfl (by kernel_rfl) (by kernel_rfl) (by kernel_rfl) (fun _ _ _ h => h) (by rfl) ?hya7 hHeld ?resta7
        case hya7 => (intro w hSw; have l0 := hSw.2.c0; have l1 := hSw.2.c1; have l2 := hSw.2.c2; have l3 := hSw.2.c3; clear hSw; go_simp; try with_reducible rfl)
        try simp only [Act.put, List.setIfInBounds_toArray, List.set_cons_zero, List.set_cons_succ]
        refine wpAnyH_ready (rs := [5]) (by kernel_rfl) (by simp) ?_
        refine AllReadyH.cons rfl (fun K hK => ?_) AllReadyH.nil
        go_simp
        refine (used_any b O u1 k1 t1 _ hHeld.1).mono ?_
        rintro e z0 ⟨rfl, bb⟩
        have nn := Two.bel hHeld bb
        have R0 := Lib.hid (below_then BE.out bb)
        clear bb hHeld
        refine hK.out _ _ nn (fun hHeld => ?_)
        clear hK K nn
        try simp only [Act.put, List.setIfInBounds_toArray, List.set_cons_zero, List.set_cons_succ]
        refine held_take 8 75 (v := .bool false) rfl rfl (by kernel_rfl) (by kernel_rfl) (by kernel_rfl) (fun _ _ _ h => h) (by rfl) ?hya8 hHeld ?resta8
        case hya8 => (intro w hSw; clear hSw; go_simp; try with_reducible rfl)
        try simp only [Act.put, List.setIfInBounds_toArray, List.set_cons_zero, List.set_cons_succ]
        refine held_take 9 76 (v := .bool false) rfl rfl (by kernel_rfl) (by kernel_rfl) (by kernel_rfl) (fun _ _ _ h => h) (by rfl) ?hya9 hHeld ?resta9
        case hya9 => (intro w hSw; clear hSw; go_simp; try with_reducible rfl)
        try simp only [Act.put, List.setIfInBounds_toArray, List.set_cons_zero, List.set_cons_succ]
        refine held_take 10 77 (v := ?va10) rfl rfl (by kernel_rfl) (by kernel_rfl) (by kernel_rfl) (fun _ _ _ h => h) (by rfl) ?hya10 hHeld ?resta10
        case hya10 => (intro w hSw; clear hSw; go_simp; try with_reducible rfl)
        try simp only [Act.put, List.setIfInBounds_toArray, List.set_cons_zero, List.set_cons_succ]
        refine held_take 11 78 (v := ?va11) rfl rfl (by kernel_rfl) (by kernel_rfl) (by kernel_rfl) (fun _ _ _ h => h) (by rfl) ?hya11 hHeld ?resta11
        case hya11 => (intro w hSw; clear hSw; go_simp; try with_reducible rfl)
        try simp only [Act.put, List.setIfInBounds_toArray, List.set_cons_zero, List.set_cons_succ]
        refine held_take 13 80 (v := ?va13) rfl rfl (by kernel_rfl) (by kernel_rfl) (by kernel_rfl) (fun _ _ _ h => h) (by rfl) ?hya13 hHeld ?resta13
        case hya13 => (intro w hSw; clear hSw; go_simp; try with_reducible rfl)
        try simp only [Act.put, List.setIfInBounds_toArray, List.set_cons_zero, List.set_cons_succ]
        refine held_take 14 81 (v := ?va14) rfl rfl (by kernel_rfl) (by kernel_rfl) (by kernel_rfl) (fun _ _ _ h => h) (by rfl) ?hya14 hHeld ?resta14
        case hya14 => (intro w hSw; have l0 := hSw.2.c0; have l1 := hSw.2.c1; have l2 := hSw.2.c2; have l3 := hSw.2.c3; clear hSw; go_simp; try with_reducible rfl)
        try simp only [Act.put, List.setIfInBounds_toArray, List.set_cons_zero, List.set_cons_succ]
        refine wpAnyH_ready (rs := [12]) (by kernel_rfl) (by simp) ?_
        refine AllReadyH.cons rfl (fun K hK => ?_) AllReadyH.nil
        go_simp
        refine (taken_any b O u1 k1 t1 _ hHeld.1).mono ?_
        rintro e z1 ⟨rfl, bb⟩
        have nn := Two.bel hHeld bb
        have R1 := Lib.hid (below_then R0.out bb)
        clear bb hHeld
        refine hK.out _ _ nn (fun hHeld => ?_)
        clear hK K nn
        try simp only [Act.put, List.setIfInBounds_toArray, List.set_cons_zero, List.set_cons_succ]
        refine held_take 15 82 (v := .bool false) rfl rfl (by kernel_rfl) (by kernel_rfl) (by kernel_rfl) (fun _ _ _ h => h) (by rfl) ?hya15 hHeld ?resta15
        case hya15 => (intro w hSw; clear hSw; go_simp; try with_reducible rfl)
        try simp only [Act.put, List.setIfInBounds_toArray, List.set_cons_zero, List.set_cons_succ]
        refine held_take 16 83 (v := .bool false) rfl rfl (by kernel_rfl) (by kernel_rfl) (by kernel_rfl) (fun _ _ _ h => h) (by rfl) ?hya16 hHeld ?resta16
        case hya16 => (intro w hSw; clear hSw; go_simp; try with_reducible rfl)
        try simp only [Act.put, List.setIfInBounds_toArray, List.set_cons_zero, List.set_cons_succ]
        refine held_take 17 84 (v := ?va17) rfl rfl (by kernel_rfl) (by kernel_rfl) (by kernel_rfl) (fun _ _ _ h => h) (by rfl) ?hya17 hHeld ?resta17
        case hya17 => (intro w hSw; clear hSw; go_simp; try with_reducible rfl)
        try simp only [Act.put, List.setIfInBounds_toArray, List.set_cons_zero, List.set_cons_succ]
        refine held_take 18 85 (v := ?va18) rfl rfl (by kernel_rfl) (by kernel_rfl) (by kernel_rfl) (fun _ _ _ h => h) (by rfl) ?hya18 hHeld ?resta18
        case hya18 => (intro w hSw; clear hSw; go_simp; try with_reducible rfl)
        try simp only [Act.put, List.setIfInBounds_toArray, List.set_cons_zero, List.set_cons_succ]
        refine held_take 20 87 (v := ?va20) rfl rfl (by kernel_rfl) (by kernel_rfl) (by kernel_rfl) (fun _ _ _ h => h) (by rfl) ?hya20 hHeld ?resta20
        case hya20 => (intro w hSw; clear hSw; go_simp; try with_reducible rfl)
        try simp only [Act.put, List.setIfInBounds_toArray, List.set_cons_zero, List.set_cons_succ]
        refine held_take 21 88 (v := ?va21) rfl rfl (by kernel_rfl) (by kernel_rfl) (by kernel_rfl) (fun _ _ _ h => h) (by rfl) ?hya21 hHeld ?resta21
        case hya21 => (intro w hSw; have l0 := hSw.2.c0; have l1 := hSw.2.c1; have l2 := hSw.2.c2; have l3 := hSw.2.c3; clear hSw; go_simp; try with_reducible rfl)
        try simp only [Act.put, List.setIfInBounds_toArray, List.set_cons_zero, List.set_cons_succ]
        refine wpAnyH_ready (rs := [19]) (by kernel_rfl) (by simp) ?_
        refine AllReadyH.cons rfl (fun K hK => ?_) AllReadyH.nil
        go_simp
        refine (top_any b O u1 k1 t1 _ hHeld.1).mono ?_
        rintro e z2 ⟨rfl, bb⟩
        have nn := Two.bel hHeld bb
        have R2 := Lib.hid (below_then R1.out bb)
        clear bb hHeld
        refine hK.out _ _ nn (fun hHeld => ?_)
        clear hK K nn
        try simp only [Act.put, List.setIfInBounds_toArray, List.set_cons_zero, List.set_cons_succ]
        refine held_take 22 89 (v := .bool false) rfl rfl (by kernel_rfl) (by kernel_rfl) (by kernel_rfl) (fun _ _ _ h => h) (by rfl) ?hya22 hHeld ?resta22
        case hya22 => (intro w hSw; clear hSw; go_simp; try with_reducible rfl)
        try simp only [Act.put, List.setIfInBounds_toArray, List.set_cons_zero, List.set_cons_succ]
        refine held_take 23 90 (v := .bool false) rfl rfl (by kernel_rfl) (by kernel_rfl) (by kernel_rfl) (fun _ _ _ h => h) (by rfl) ?hya23 hHeld ?resta23
        case hya23 => (intro w hSw; clear hSw; go_simp; try with_reducible rfl)
        try simp only [Act.put, List.setIfInBounds_toArray, List.set_cons_zero, List.set_cons_succ]
        refine held_take 24 91 (v := ?va24) rfl rfl (by kernel_rfl) (by kernel_rfl) (by kernel_rfl) (fun _ _ _ h => h) (by rfl) ?hya24 hHeld ?resta24
        case hya24 => (intro w hSw; clear hSw; go_simp; try with_reducible rfl)
        try simp only [Act.put, List.setIfInBounds_toArray, List.set_cons_zero, List.set_cons_succ]
        refine held_take 25 92 (v := ?va25) rfl rfl (by kernel_rfl) (by kernel_rfl) (by kernel_rfl) (fun _ _ _ h => h) (by rfl) ?hya25 hHeld ?resta25
        case hya25 => (intro w hSw; clear hSw; go_simp; try with_reducible rfl)
        try simp only [Act.put, List.setIfInBounds_toArray, List.set_cons_zero, List.set_cons_succ]
        refine held_take 27 94 (v := ?va27) rfl rfl (by kernel_rfl) (by kernel_rfl) (by kernel_rfl) (fun _ _ _ h => h) (by rfl) ?hya27 hHeld ?resta27
        case hya27 => (intro w hSw; clear hSw; go_simp; try with_reducible rfl)
        try simp only [Act.put, List.setIfInBounds_toArray, List.set_cons_zero, List.set_cons_succ]
        refine held_take 28 95 (v := ?va28) rfl rfl (by kernel_rfl) (by kernel_rfl) (by kernel_rfl) (fun _ _ _ h => h) (by rfl) ?hya28 hHeld ?resta28
        case hya28 => (intro w hSw; have l0 := hSw.2.c0; have l1 := hSw.2.c1; have l2 := hSw.2.c2; have l3 := hSw.2.c3; clear hSw; go_simp; try with_reducible rfl)
        try simp only [Act.put, List.setIfInBounds_toArray, List.set_cons_zero, List.set_cons_succ]
        refine wpAnyH_ready (rs := [26]) (by kernel_rfl) (by simp) ?_
        refine AllReadyH.cons rfl (fun K hK => ?_) AllReadyH.nil
        go_simp
        refine (most_any b O u1 k1 t1 _ hHeld.1).mono ?_
        rintro e z3 ⟨rfl, bb⟩
        have nn := Two.bel hHeld bb
        have R3 := Lib.hid (below_then R2.out bb)
        clear bb hHeld
        refine hK.out _ _ nn (fun hHeld => ?_)
        clear hK K nn
        try simp only [Act.put, List.setIfInBounds_toArray, List.set_cons_zero, List.set_cons_succ]
        refine held_take 29 96 (v := .bool false) rfl rfl (by kernel_rfl) (by kernel_rfl) (by kernel_rfl) (fun _ _ _ h => h) (by rfl) ?hya29 hHeld ?resta29
        case hya29 => (intro w hSw; clear hSw; go_simp; try with_reducible rfl)
        try simp only [Act.put, List.setIfInBounds_toArray, List.set_cons_zero, List.set_cons_succ]
        refine held_take 30 97 (v := .bool false) rfl rfl (by kernel_rfl) (by kernel_rfl) (by kernel_rfl) (fun _ _ _ h => h) (by rfl) ?hya30 hHeld ?resta30
        case hya30 => (intro w hSw; clear hSw; go_simp; try with_reducible rfl)
        try simp only [Act.put, List.setIfInBounds_toArray, List.set_cons_zero, List.set_cons_succ]
        refine held_take 31 98 (v := ?va31) rfl rfl (by kernel_rfl) (by kernel_rfl) (by kernel_rfl) (fun _ _ _ h => h) (by rfl) ?hya31 hHeld ?resta31
        case hya31 => (intro w hSw; clear hSw; go_simp; try with_reducible rfl)
        try simp only [Act.put, List.setIfInBounds_toArray, List.set_cons_zero, List.set_cons_succ]
        refine held_take 32 99 (v := ?va32) rfl rfl (by kernel_rfl) (by kernel_rfl) (by kernel_rfl) (fun _ _ _ h => h) (by rfl) ?hya32 hHeld ?resta32
        case hya32 => (intro w hSw; clear hSw; go_simp; try with_reducible rfl)
        try simp only [Act.put, List.setIfInBounds_toArray, List.set_cons_zero, List.set_cons_succ]
        refine held_take 34 101 (v := ?va34) rfl rfl (by kernel_rfl) (by kernel_rfl) (by kernel_rfl) (fun _ _ _ h => h) (by rfl) ?hya34 hHeld ?resta34
        case hya34 => (intro w hSw; clear hSw; go_simp; try with_reducible rfl)
        try simp only [Act.put, List.setIfInBounds_toArray, List.set_cons_zero, List.set_cons_succ]
        refine wpAnyH_ready (rs := [33]) (by kernel_rfl) (by simp) ?_
        refine AllReadyH.cons rfl (fun K hK => ?_) AllReadyH.nil
        go_simp
        refine (used_any b O u1 k1 t1 _ hHeld.1).mono ?_
        rintro e z4 ⟨rfl, bb⟩
        have nn := Two.bel hHeld bb
        have R4 := Lib.hid (below_then R3.out bb)
        clear bb hHeld
        refine hK.out _ _ nn (fun hHeld => ?_)
        clear hK K nn
        try simp only [Act.put, List.setIfInBounds_toArray, List.set_cons_zero, List.set_cons_succ]
        refine wpAnyH_ready (rs := [35]) (by kernel_rfl) (by simp) ?_
        refine AllReadyH.cons rfl (fun K hK => ?_) AllReadyH.nil
        go_simp
        refine (most_any b O u1 k1 t1 _ hHeld.1).mono ?_
        rintro e z5 ⟨rfl, bb⟩
        have nn := Two.bel hHeld bb
        have R5 := Lib.hid (below_then R4.out bb)
        clear bb hHeld
        refine hK.out _ _ nn (fun hHeld => ?_)
        clear hK K nn
        try simp only [Act.put, List.setIfInBounds_toArray, List.set_cons_zero, List.set_cons_succ]
        refine held_take 36 103 (v := .bool false) rfl rfl (by kernel_rfl) (by kernel_rfl) (by kernel_rfl) (fun _ _ _ h => h) (by rfl) ?hya36 hHeld ?resta36
        case hya36 => (intro w hSw; clear hSw; go_simp; try with_reducible rfl)
        try simp only [Act.put, List.setIfInBounds_toArray, List.set_cons_zero, List.set_cons_succ]
        refine held_take 37 104 (v := .bool false) rfl rfl (by kernel_rfl) (by kernel_rfl) (by kernel_rfl) (fun _ _ _ h => h) (by rfl) ?hya37 hHeld ?resta37
        case hya37 => (intro w hSw; clear hSw; go_simp; try with_reducible rfl)
        try simp only [Act.put, List.setIfInBounds_toArray, List.set_cons_zero, List.set_cons_succ]
        refine held_take 38 105 (v := ?va38) rfl rfl (by kernel_rfl) (by kernel_rfl) (by kernel_rfl) (fun _ _ _ h => h) (by rfl) ?hya38 hHeld ?resta38
        case hya38 => (intro w hSw; clear hSw; go_simp; try with_reducible rfl)
        try simp only [Act.put, List.setIfInBounds_toArray, List.set_cons_zero, List.set_cons_succ]
        refine held_take 39 106 (v := ?va39) rfl rfl (by kernel_rfl) (by kernel_rfl) (by kernel_rfl) (fun _ _ _ h => h) (by rfl) ?hya39 hHeld ?resta39
        case hya39 => (intro w hSw; clear hSw; go_simp; try with_reducible rfl)
        try simp only [Act.put, List.setIfInBounds_toArray, List.set_cons_zero, List.set_cons_succ]
        refine held_take 41 108 (v := ?va41) rfl rfl (by kernel_rfl) (by kernel_rfl) (by kernel_rfl) (fun _ _ _ h => h) (by rfl) ?hya41 hHeld ?resta41
        case hya41 => (intro w hSw; clear hSw; go_simp; try with_reducible rfl)
        try simp only [Act.put, List.setIfInBounds_toArray, List.set_cons_zero, List.set_cons_succ]
        refine wpAnyH_ready (rs := [40]) (by kernel_rfl) (by simp) ?_
        refine AllReadyH.cons rfl (fun K hK => ?_) AllReadyH.nil
        go_simp
        refine (top_any b O u1 k1 t1 _ hHeld.1).mono ?_
        rintro e z6 ⟨rfl, bb⟩
        have nn := Two.bel hHeld bb
        have R6 := Lib.hid (below_then R5.out bb)
        clear bb hHeld
        refine hK.out _ _ nn (fun hHeld => ?_)
        clear hK K nn
        try simp only [Act.put, List.setIfInBounds_toArray, List.set_cons_zero, List.set_cons_succ]
        refine wpAnyH_ready (rs := [42]) (by kernel_rfl) (by simp) ?_
        refine AllReadyH.cons rfl (fun K hK => ?_) AllReadyH.nil
        go_simp
        refine (used_any b O u1 k1 t1 _ hHeld.1).mono ?_
        rintro e z7 ⟨rfl, bb⟩
        have nn := Two.bel hHeld bb
        have R7 := Lib.hid (below_then R6.out bb)
        clear bb hHeld
        refine hK.out _ _ nn (fun hHeld => ?_)
        clear hK K nn
        try simp only [Act.put, List.setIfInBounds_toArray, List.set_cons_zero, List.set_cons_succ]
        refine held_take 43 110 (v := .bool false) rfl rfl (by kernel_rfl) (by kernel_rfl) (by kernel_rfl) (fun _ _ _ h => h) (by rfl) ?hya43 hHeld ?resta43
        case hya43 => (intro w hSw; clear hSw; go_simp; try with_reducible rfl)
        try simp only [Act.put, List.setIfInBounds_toArray, List.set_cons_zero, List.set_cons_succ]
        refine held_take 44 111 (v := .bool false) rfl rfl (by kernel_rfl) (by kernel_rfl) (by kernel_rfl) (fun _ _ _ h => h) (by rfl) ?hya44 hHeld ?resta44
        case hya44 => (intro w hSw; clear hSw; go_simp; try with_reducible rfl)
        try simp only [Act.put, List.setIfInBounds_toArray, List.set_cons_zero, List.set_cons_succ]
        refine held_take 45 112 (v := ?va45) rfl rfl (by kernel_rfl) (by kernel_rfl) (by kernel_rfl) (fun _ _ _ h => h) (by rfl) ?hya45 hHeld ?resta45
        case hya45 => (intro w hSw; clear hSw; go_simp; try with_reducible rfl)
        try simp only [Act.put, List.setIfInBounds_toArray, List.set_cons_zero, List.set_cons_succ]
        refine held_take 46 113 (v := ?va46) rfl rfl (by kernel_rfl) (by kernel_rfl) (by kernel_rfl) (fun _ _ _ h => h) (by rfl) ?hya46 hHeld ?resta46
        case hya46 => (intro w hSw; clear hSw; go_simp; try with_reducible rfl)
        try simp only [Act.put, List.setIfInBounds_toArray, List.set_cons_zero, List.set_cons_succ]
        refine held_take 48 115 (v := ?va48) rfl rfl (by kernel_rfl) (by kernel_rfl) (by kernel_rfl) (fun _ _ _ h => h) (by rfl) ?hya48 hHeld ?resta48
        case hya48 => (intro w hSw; clear hSw; go_simp; try with_reducible rfl)
        try simp only [Act.put, List.setIfInBounds_toArray, List.set_cons_zero, List.set_cons_succ]
        refine wpAnyH_ready (rs := [47]) (by kernel_rfl) (by simp) ?_
        refine AllReadyH.cons rfl (fun K hK => ?_) AllReadyH.nil
        go_simp
        refine (top_any b O u1 k1 t1 _ hHeld.1).mono ?_
        rintro e z8 ⟨rfl, bb⟩
        have nn := Two.bel hHeld bb
        have R8 := Lib.hid (below_then R7.out bb)
        clear bb hHeld
        refine hK.out _ _ nn (fun hHeld => ?_)
        clear hK K nn
        try simp only [Act.put, List.setIfInBounds_toArray, List.set_cons_zero, List.set_cons_succ]
        refine wpAnyH_ready (rs := [49]) (by kernel_rfl) (by simp) ?_
        refine AllReadyH.cons rfl (fun K hK => ?_) AllReadyH.nil
        go_simp
        refine (most_any b O u1 k1 t1 _ hHeld.1).mono ?_
        rintro e z9 ⟨rfl, bb⟩
        have nn := Two.bel hHeld bb
        have R9 := Lib.hid (below_then R8.out bb)
        clear bb hHeld
        refine hK.out _ _ nn (fun hHeld => ?_)
        clear hK K nn
        try simp only [Act.put, List.setIfInBounds_toArray, List.set_cons_zero, List.set_cons_succ]
        refine held_take 50 117 (v := .bool false) rfl rfl (by kernel_rfl) (by kernel_rfl) (by kernel_rfl) (fun _ _ _ h => h) (by rfl) ?hya50 hHeld ?resta50
        case hya50 => (intro w hSw; clear hSw; go_simp; try with_reducible rfl)
        try simp only [Act.put, List.setIfInBounds_toArray, List.set_cons_zero, List.set_cons_succ]
        refine held_take 51 118 (v := .bool false) rfl rfl (by kernel_rfl) (by kernel_rfl) (by kernel_rfl) (fun _ _ _ h => h) (by rfl) ?hya51 hHeld ?resta51
        case hya51 => (intro w hSw; clear hSw; go_simp; try with_reducible rfl)
        try simp only [Act.put, List.setIfInBounds_toArray, List.set_cons_zero, List.set_cons_succ]
        refine wpAnyH_done (by kernel_rfl) ?_ _
        have Q := Lib.hid hHeld
        clear hHeld q1 q2 q3 n1 n2 n3 n4 n5
        go_wp2
        exact ⟨⟨i + 1, u1, k1, t1, by omega, by go_num, HOK1.out, Q.out, Fr.then_ S7.out.2 (T := fun _ => False) ⟨R9.out.os, R9.out.tape, R9.out.output, R9.out.size, fun j hj _ => R9.out.block j hj⟩ (fun _ _ h => h.elim)⟩, by simp [intOf]; omega⟩
      by_cases h3 : kk % 4 = 3
      · go_wp2_with fail
        obtain ⟨pa, hpa⟩ : ∃ pa, pa = wr.heap.size := ⟨_, rfl⟩
        obtain ⟨W3, hW3⟩ : ∃ W3, W3 = (wr.alloc (.cells #[.int .u8 kk, .int .i64 n] 30)).alloc (.cells #[.int .i64 O, .int .i64 u, .int .i64 k, .int .i64 t] 27) := ⟨_, rfl⟩
        have A3 : W3.heap[pa]? = some (.cells #[.int .u8 kk, .int .i64 n] 30 (0, 0)) := by
          rw [hW3, hpa]; exact (Below.heap_alloc _ _ _ (by simp)).trans (heap_alloc_new wr _)
        have Y3 : Dm W3 (pa + 1) O u k t := by
          rw [hW3, hpa]
          have := Dm.made (wr.alloc (.cells #[.int .u8 kk, .int .i64 n] 30)) O u k t
          simpa using this
        have T3 : Two b c O u k t W3 := by
          rw [hW3]; exact ⟨(RM.out.2.1.1.alloc _).alloc _, (RM.out.2.1.2.alloc _).alloc _⟩
        have F3 : Fr (fun j => b ≤ j) w1 W3 := by rw [hW3]; exact (RM.out.2.2.alloc _).alloc _
        have hlt3 : b < c ∧ c < pa := ⟨HBC.out, by rw [hpa]; exact hlc⟩
        have HOK := Lib.hid RM.out.1
        rw [← hW3]
        rw [← hpa]
        have S3 := Lib.hid (And.intro A3 (And.intro Y3 (And.intro T3 F3)))
        clear hW3 hpa A3 Y3 T3 F3 cx cy e0 e1 e2 e3 hlc hlb RM
        refine (clear_any b O u k t W3 S3.out.2.2.1.1).mono ?_
        rintro e w4 ⟨rfl, m4, f4⟩
        have A4 : w4.heap[pa]? = some (.cells #[.int .u8 kk, .int .i64 n] 30 (0, 0)) := (f4.block pa (lt_of_block S3.out.1) (by omega)).trans S3.out.1
        have Y4 : Dm w4 (pa + 1) O u k t := S3.out.2.1.keep (f4.block _ S3.out.2.1.lt (by omega))
        have X4 : Dm w4 c O u k t := S3.out.2.2.1.2.keep (f4.block _ S3.out.2.2.1.2.lt (by omega))
        have F4 : Fr (fun j => b ≤ j) w1 w4 := S3.out.2.2.2.then_ f4 (fun j _ h => by rw [h]; exact Nat.le_refl _)
        have e0 := X4.c0
        have e1 := X4.c1
        have e2 := X4.c2
        have e3 := X4.c3
        have a1 : w4.cell? ⟨pa, 1, none⟩ = some (.int .i64 n) := by simp [World.cell?, A4]
        have S4 := Lib.hid (And.intro m4 (And.intro A4 (And.intro Y4 (And.intro X4 F4))))
        clear m4 A4 Y4 X4 F4 f4 S3
        go_wp2_with fail
        refine (refClear_any O u k t w4).mono ?_
        rintro e w5 ⟨rfl, b5⟩
        have M5 : Mt w5 b O u 0 u := S4.out.1.keep (b5.block _ S4.out.1.lt)
        have A5 : w5.heap[pa]? = some (.cells #[.int .u8 kk, .int .i64 n] 30 (0, 0)) := (b5.block pa (lt_of_block S4.out.2.1)).trans S4.out.2.1
        have Y5 : Dm w5 (pa + 1) O u k t := S4.out.2.2.1.keep (b5.block _ S4.out.2.2.1.lt)
        have X5 : Dm w5 c O u k t := S4.out.2.2.2.1.keep (b5.block _ S4.out.2.2.2.1.lt)
        have F5 : Fr (fun j => b ≤ j) w1 w5 := S4.out.2.2.2.2.then_ (T := fun _ => False) ⟨b5.os, b5.tape, b5.output, b5.size, fun j hj _ => b5.block j hj⟩ (fun _ _ h => h.elim)
        have y0 := Y5.c0
        have y1 := Y5.c1
        have y2 := Y5.c2
        have y3 := Y5.c3
        have yf0 := Y5.free 0
        have yf1 := Y5.free 1
        have yf2 := Y5.free 2
        have yf3 := Y5.free 3
        have S5 := Lib.hid (And.intro M5 (And.intro A5 (And.intro Y5 (And.intro X5 F5))))
        clear M5 A5 Y5 X5 F5 b5 S4 e0 e1 e2 e3 a1
        go_upto_region 21 with fail
        obtain ⟨w6, hw6⟩ : ∃ w6, w6 = put4 w5 (pa + 1) O u 0 u := ⟨_, rfl⟩
        have hw7 := hw6
        unfold put4 at hw7
        rw [← hw7]
        clear hw7
        have f6 := put4_fr w5 (pa + 1) O u 0 u
        rw [← hw6] at f6
        have Y6 : Dm w6 (pa + 1) O u 0 u := by rw [hw6]; exact S5.out.2.2.1.put O u 0 u
        have M6 : Mt w6 b O u 0 u := S5.out.1.keep (f6.block _ S5.out.1.lt (by omega))
        have X6 : Dm w6 c O u k t := S5.out.2.2.2.1.keep (f6.block _ S5.out.2.2.2.1.lt (by omega))
        have F6 : Fr (fun j => b ≤ j) w1 w6 := S5.out.2.2.2.2.then_ f6 (fun j _ h => by rw [h]; omega)
        have x0 := X6.c0
        have x1 := X6.c1
        have x2 := X6.c2
        have x3 := X6.c3
        have xf0 := X6.free 0
        have xf1 := X6.free 1
        have xf2 := X6.free 2
        have xf3 := X6.free 3
        have z0 := Y6.c0
        have z1 := Y6.c1
        have z2 := Y6.c2
        have z3 := Y6.c3
        have S6 := Lib.hid (And.intro M6 (And.intro X6 F6))
        clear hw6 f6 Y6 M6 X6 F6 S5 y0 y1 y2 y3 yf0 yf1 yf2 yf3
        go_upto_region 22 with fail
        obtain ⟨w7, hw7⟩ : ∃ w7, w7 = put4 w6 c O u 0 u := ⟨_, rfl⟩
        have hw8 := hw7
        unfold put4 at hw8
        rw [← hw8]
        clear hw8
        have f7 := put4_fr w6 c O u 0 u
        rw [← hw7] at f7
        have X7 : Dm w7 c O u 0 u := by rw [hw7]; exact S6.out.2.1.put O u 0 u
        have M7 : Mt w7 b O u 0 u := S6.out.1.keep (f7.block _ S6.out.1.lt (by omega))
        have F7 : Fr (fun j => b ≤ j) w1 w7 := S6.out.2.2.then_ f7 (fun j _ h => by rw [h]; omega)
        have HOK1 := Lib.hid (show Ok O u 0 u from by have := ok_clear HOK.out; exact this)
        have T7 : Two b c O u 0 u w7 := ⟨M7, X7⟩
        have S7 := Lib.hid (And.intro T7 F7)
        clear hw7 f7 X7 M7 F7 T7 S6 x0 x1 x2 x3 xf0 xf1 xf2 xf3 z0 z1 z2 z3 HOK
        have hHeld := (show Two b c O u 0 u w7.drew from S7.out.1)
        have BE := Lib.hid ((Below.refl w7.heap.size w7).drew)
        have q1 : decide (O < u) = false := by have := HOK1.out; unfold Ok at this; simp <;> omega
        have q2 : decide (u < u) = false := by have := HOK1.out; unfold Ok at this; simp <;> omega
        have q3 : decide (O < u) = false := by have := HOK1.out; unfold Ok at this; simp <;> omega
        have n1 : ((0 : Int) != 0) = false := by simp
        have n2 : (u != u) = false := by simp
        have n3 : ((0 : Int) != 0) = false := by simp
        have n4 : (u != u) = false := by simp
        have n5 : (O != O) = false := by simp
        refine wp_region_held_drew (S := Two b c O u 0 u) (by kernel_rfl) hHeld (fun hHeld => ?_)
        refine held_take 0 67 (v := ?vb0) rfl rfl (by kernel_rfl) (by kernel_rfl) (by kernel_rfl) (fun _ _ _ h => h) (by rfl) ?hyb0 hHeld ?restb0
        case hyb0 => (intro w hSw; clear hSw; go_simp; try with_reducible rfl)
        try simp only [Act.put, List.setIfInBounds_toArray, List.set_cons_zero, List.set_cons_succ]
        refine held_take 1 68 (v := ?vb1) rfl rfl (by kernel_rfl) (by kernel_rfl) (by kernel_rfl) (fun _ _ _ h => h) (by rfl) ?hyb1 hHeld ?restb1
        case hyb1 => (intro w hSw; clear hSw; go_simp; try with_reducible rfl)
        try simp only [Act.put, List.setIfInBounds_toArray, List.set_cons_zero, List.set_cons_succ]
        refine held_take 2 69 (v := .bool false) rfl rfl (by kernel_rfl) (by kernel_rfl) (by kernel_rfl) (fun _ _ _ h => h) (by rfl) ?hyb2 hHeld ?restb2
        case hyb2 => (intro w hSw; clear hSw; go_simp; try with_reducible rfl)
        try simp only [Act.put, List.setIfInBounds_toArray, List.set_cons_zero, List.set_cons_succ]
        refine held_take 3 70 (v := ?vb3) rfl rfl (by kernel_rfl) (by kernel_rfl) (by kernel_rfl) (fun _ _ _ h => h) (by rfl) ?hyb3 hHeld ?restb3
        case hyb3 => (intro w hSw; clear hSw; go_simp; try with_reducible rfl)
        try simp only [Act.put, List.setIfInBounds_toArray, List.set_cons_zero, List.set_cons_succ]
        refine held_take 4 71 (v := ?vb4) rfl rfl (by kernel_rfl) (by kernel_rfl) (by kernel_rfl) (fun _ _ _ h => h) (by rfl) ?hyb4 hHeld ?restb4
        case hyb4 => (intro w hSw; clear hSw; go_simp; try with_reducible rfl)
        try simp only [Act.put, List.setIfInBounds_toArray, List.set_cons_zero, List.set_cons_succ]
        refine held_take 6 73 (v := ?vb6) rfl rfl (by kernel_rfl) (by kernel_rfl) (by kernel_rfl) (fun _ _ _ h => h) (by rfl) ?hyb6 hHeld ?restb6
        case hyb6 => (intro w hSw; clear hSw; go_simp; try with_reducible rfl)
        try simp only [Act.put, List.setIfInBounds_toArray, List.set_cons_zero, List.set_cons_succ]
        refine held_take 7 74 (v := ?vb7) rfl rfl (by kernel_rfl) (by kernel_rfl) (by kernel_rfl) (fun _ _ _ h => h) (by rfl) ?hyb7 hHeld ?restb7
        case hyb7 => (intro w hSw; have l0 := hSw.2.c0; have l1 := hSw.2.c1; have l2 := hSw.2.c2; have l3 := hSw.2.c3; clear hSw; go_simp; try with_reducible rfl)
        try simp only [Act.put, List.setIfInBounds_toArray, List.set_cons_zero, List.set_cons_succ]
        refine wpAnyH_ready (rs := [5]) (by kernel_rfl) (by simp) ?_
        refine AllReadyH.cons rfl (fun K hK => ?_) AllReadyH.nil
        go_simp
        refine (used_any b O u 0 u _ hHeld.1).mono ?_
        rintro e z0 ⟨rfl, bb⟩
        have nn := Two.bel hHeld bb
        have R0 := Lib.hid (below_then BE.out bb)
        clear bb hHeld
        refine hK.out _ _ nn (fun hHeld => ?_)
        clear hK K nn
        try simp only [Act.put, List.setIfInBounds_toArray, List.set_cons_zero, List.set_cons_succ]
        refine held_take 8 75 (v := .bool false) rfl rfl (by kernel_rfl) (by kernel_rfl) (by kernel_rfl) (fun _ _ _ h => h) (by rfl) ?hyb8 hHeld ?restb8
        case hyb8 => (intro w hSw; clear hSw; go_simp; try with_reducible rfl)
        try simp only [Act.put, List.setIfInBounds_toArray, List.set_cons_zero, List.set_cons_succ]
        refine held_take 9 76 (v := .bool false) rfl rfl (by kernel_rfl) (by kernel_rfl) (by kernel_rfl) (fun _ _ _ h => h) (by rfl) ?hyb9 hHeld ?restb9
        case hyb9 => (intro w hSw; clear hSw; go_simp; try with_reducible rfl)
        try simp only [Act.put, List.setIfInBounds_toArray, List.set_cons_zero, List.set_cons_succ]
        refine held_take 10 77 (v := ?vb10) rfl rfl (by kernel_rfl) (by kernel_rfl) (by kernel_rfl) (fun _ _ _ h => h) (by rfl) ?hyb10 hHeld ?restb10
        case hyb10 => (intro w hSw; clear hSw; go_simp; try with_reducible rfl)
        try simp only [Act.put, List.setIfInBounds_toArray, List.set_cons_zero, List.set_cons_succ]
        refine held_take 11 78 (v := ?vb11) rfl rfl (by kernel_rfl) (by kernel_rfl) (by kernel_rfl) (fun _ _ _ h => h) (by rfl) ?hyb11 hHeld ?restb11
        case hyb11 => (intro w hSw; clear hSw; go_simp; try with_reducible rfl)
        try simp only [Act.put, List.setIfInBounds_toArray, List.set_cons_zero, List.set_cons_succ]
        refine held_take 13 80 (v := ?vb13) rfl rfl (by kernel_rfl) (by kernel_rfl) (by kernel_rfl) (fun _ _ _ h => h) (by rfl) ?hyb13 hHeld ?restb13
        case hyb13 => (intro w hSw; clear hSw; go_simp; try with_reducible rfl)
        try simp only [Act.put, List.setIfInBounds_toArray, List.set_cons_zero, List.set_cons_succ]
        refine held_take 14 81 (v := ?vb14) rfl rfl (by kernel_rfl) (by kernel_rfl) (by kernel_rfl) (fun _ _ _ h => h) (by rfl) ?hyb14 hHeld ?restb14
        case hyb14 => (intro w hSw; have l0 := hSw.2.c0; have l1 := hSw.2.c1; have l2 := hSw.2.c2; have l3 := hSw.2.c3; clear hSw; go_simp; try with_reducible rfl)
        try simp only [Act.put, List.setIfInBounds_toArray, List.set_cons_zero, List.set_cons_succ]
        refine wpAnyH_ready (rs := [12]) (by kernel_rfl) (by simp) ?_
        refine AllReadyH.cons rfl (fun K hK => ?_) AllReadyH.nil
        go_simp
        refine (taken_any b O u 0 u _ hHeld.1).mono ?_
        rintro e z1 ⟨rfl, bb⟩
        have nn := Two.bel hHeld bb
        have R1 := Lib.hid (below_then R0.out bb)
        clear bb hHeld
        refine hK.out _ _ nn (fun hHeld => ?_)
        clear hK K nn
        try simp only [Act.put, List.setIfInBounds_toArray, List.set_cons_zero, List.set_cons_succ]
        refine held_take 15 82 (v := .bool false) rfl rfl (by kernel_rfl) (by kernel_rfl) (by kernel_rfl) (fun _ _ _ h => h) (by rfl) ?hyb15 hHeld ?restb15
        case hyb15 => (intro w hSw; clear hSw; go_simp; try with_reducible rfl)
        try simp only [Act.put, List.setIfInBounds_toArray, List.set_cons_zero, List.set_cons_succ]
        refine held_take 16 83 (v := .bool false) rfl rfl (by kernel_rfl) (by kernel_rfl) (by kernel_rfl) (fun _ _ _ h => h) (by rfl) ?hyb16 hHeld ?restb16
        case hyb16 => (intro w hSw; clear hSw; go_simp; try with_reducible rfl)
        try simp only [Act.put, List.setIfInBounds_toArray, List.set_cons_zero, List.set_cons_succ]
        refine held_take 17 84 (v := ?vb17) rfl rfl (by kernel_rfl) (by kernel_rfl) (by kernel_rfl) (fun _ _ _ h => h) (by rfl) ?hyb17 hHeld ?restb17
        case hyb17 => (intro w hSw; clear hSw; go_simp; try with_reducible rfl)
        try simp only [Act.put, List.setIfInBounds_toArray, List.set_cons_zero, List.set_cons_succ]
        refine held_take 18 85 (v := ?vb18) rfl rfl (by kernel_rfl) (by kernel_rfl) (by kernel_rfl) (fun _ _ _ h => h) (by rfl) ?hyb18 hHeld ?restb18
        case hyb18 => (intro w hSw; clear hSw; go_simp; try with_reducible rfl)
        try simp only [Act.put, List.setIfInBounds_toArray, List.set_cons_zero, List.set_cons_succ]
        refine held_take 20 87 (v := ?vb20) rfl rfl (by kernel_rfl) (by kernel_rfl) (by kernel_rfl) (fun _ _ _ h => h) (by rfl) ?hyb20 hHeld ?restb20
        case hyb20 => (intro w hSw; clear hSw; go_simp; try with_reducible rfl)
        try simp only [Act.put, List.setIfInBounds_toArray, List.set_cons_zero, List.set_cons_succ]
        refine held_take 21 88 (v := ?vb21) rfl rfl (by kernel_rfl) (by kernel_rfl) (by kernel_rfl) (fun _ _ _ h => h) (by rfl) ?hyb21 hHeld ?restb21
        case hyb21 => (intro w hSw; have l0 := hSw.2.c0; have l1 := hSw.2.c1; have l2 := hSw.2.c2; have l3 := hSw.2.c3; clear hSw; go_simp; try with_reducible rfl)
        try simp only [Act.put, List.setIfInBounds_toArray, List.set_cons_zero, List.set_cons_succ]
        refine wpAnyH_ready (rs := [19]) (by kernel_rfl) (by simp) ?_
        refine AllReadyH.cons rfl (fun K hK => ?_) AllReadyH.nil
        go_simp
        refine (top_any b O u 0 u _ hHeld.1).mono ?_
        rintro e z2 ⟨rfl, bb⟩
        have nn := Two.bel hHeld bb
        have R2 := Lib.hid (below_then R1.out bb)
        clear bb hHeld
        refine hK.out _ _ nn (fun hHeld => ?_)
        clear hK K nn
        try simp only [Act.put, List.setIfInBounds_toArray, List.set_cons_zero, List.set_cons_succ]
        refine held_take 22 89 (v := .bool false) rfl rfl (by kernel_rfl) (by kernel_rfl) (by kernel_rfl) (fun _ _ _ h => h) (by rfl) ?hyb22 hHeld ?restb22
        case hyb22 => (intro w hSw; clear hSw; go_simp; try with_reducible rfl)
        try simp only [Act.put, List.setIfInBounds_toArray, List.set_cons_zero, List.set_cons_succ]
        refine held_take 23 90 (v := .bool false) rfl rfl (by kernel_rfl) (by kernel_rfl) (by kernel_rfl) (fun _ _ _ h => h) (by rfl) ?hyb23 hHeld ?restb23
        case hyb23 => (intro w hSw; clear hSw; go_simp; try with_reducible rfl)
        try simp only [Act.put, List.setIfInBounds_toArray, List.set_cons_zero, List.set_cons_succ]
        refine held_take 24 91 (v := ?vb24) rfl rfl (by kernel_rfl) (by kernel_rfl) (by kernel_rfl) (fun _ _ _ h => h) (by rfl) ?hyb24 hHeld ?restb24
        case hyb24 => (intro w hSw; clear hSw; go_simp; try with_reducible rfl)
        try simp only [Act.put, List.setIfInBounds_toArray, List.set_cons_zero, List.set_cons_succ]
        refine held_take 25 92 (v := ?vb25) rfl rfl (by kernel_rfl) (by kernel_rfl) (by kernel_rfl) (fun _ _ _ h => h) (by rfl) ?hyb25 hHeld ?restb25
        case hyb25 => (intro w hSw; clear hSw; go_simp; try with_reducible rfl)
        try simp only [Act.put, List.setIfInBounds_toArray, List.set_cons_zero, List.set_cons_succ]
        refine held_take 27 94 (v := ?vb27) rfl rfl (by kernel_rfl) (by kernel_rfl) (by kernel_rfl) (fun _ _ _ h => h) (by rfl) ?hyb27 hHeld ?restb27
        case hyb27 => (intro w hSw; clear hSw; go_simp; try with_reducible rfl)
        try simp only [Act.put, List.setIfInBounds_toArray, List.set_cons_zero, List.set_cons_succ]
        refine held_take 28 95 (v := ?vb28) rfl rfl (by kernel_rfl) (by kernel_rfl) (by kernel_rfl) (fun _ _ _ h => h) (by rfl) ?hyb28 hHeld ?restb28
        case hyb28 => (intro w hSw; have l0 := hSw.2.c0; have l1 := hSw.2.c1; have l2 := hSw.2.c2; have l3 := hSw.2.c3; clear hSw; go_simp; try with_reducible rfl)
        try simp only [Act.put, List.setIfInBounds_toArray, List.set_cons_zero, List.set_cons_succ]
        refine wpAnyH_ready (rs := [26]) (by kernel_rfl) (by simp) ?_
        refine AllReadyH.cons rfl (fun K hK => ?_) AllReadyH.nil
        go_simp
        refine (most_any b O u 0 u _ hHeld.1).mono ?_
        rintro e z3 ⟨rfl, bb⟩
        have nn := Two.bel hHeld bb
        have R3 := Lib.hid (below_then R2.out bb)
        clear bb hHeld
        refine hK.out _ _ nn (fun hHeld => ?_)
        clear hK K nn
        try simp only [Act.put, List.setIfInBounds_toArray, List.set_cons_zero, List.set_cons_succ]
        refine held_take 29 96 (v := .bool false) rfl rfl (by kernel_rfl) (by kernel_rfl) (by kernel_rfl) (fun _ _ _ h => h) (by rfl) ?hyb29 hHeld ?restb29
        case hyb29 => (intro w hSw; clear hSw; go_simp; try with_reducible rfl)
        try simp only [Act.put, List.setIfInBounds_toArray, List.set_cons_zero, List.set_cons_succ]
        refine held_take 30 97 (v := .bool false) rfl rfl (by kernel_rfl) (by kernel_rfl) (by kernel_rfl) (fun _ _ _ h => h) (by rfl) ?hyb30 hHeld ?restb30
        case hyb30 => (intro w hSw; clear hSw; go_simp; try with_reducible rfl)
        try simp only [Act.put, List.setIfInBounds_toArray, List.set_cons_zero, List.set_cons_succ]
        refine held_take 31 98 (v := ?vb31) rfl rfl (by kernel_rfl) (by kernel_rfl) (by kernel_rfl) (fun _ _ _ h => h) (by rfl) ?hyb31 hHeld ?restb31
        case hyb31 => (intro w hSw; clear hSw; go_simp; try with_reducible rfl)
        try simp only [Act.put, List.setIfInBounds_toArray, List.set_cons_zero, List.set_cons_succ]
        refine held_take 32 99 (v := ?vb32) rfl rfl (by kernel_rfl) (by kernel_rfl) (by kernel_rfl) (fun _ _ _ h => h) (by rfl) ?hyb32 hHeld ?restb32
        case hyb32 => (intro w hSw; clear hSw; go_simp; try with_reducible rfl)
        try simp only [Act.put, List.setIfInBounds_toArray, List.set_cons_zero, List.set_cons_succ]
        refine held_take 34 101 (v := ?vb34) rfl rfl (by kernel_rfl) (by kernel_rfl) (by kernel_rfl) (fun _ _ _ h => h) (by rfl) ?hyb34 hHeld ?restb34
        case hyb34 => (intro w hSw; clear hSw; go_simp; try with_reducible rfl)
        try simp only [Act.put, List.setIfInBounds_toArray, List.set_cons_zero, List.set_cons_succ]
        refine wpAnyH_ready (rs := [33]) (by kernel_rfl) (by simp) ?_
        refine AllReadyH.cons rfl (fun K hK => ?_) AllReadyH.nil
        go_simp
        refine (used_any b O u 0 u _ hHeld.1).mono ?_
        rintro e z4 ⟨rfl, bb⟩
        have nn := Two.bel hHeld bb
        have R4 := Lib.hid (below_then R3.out bb)
        clear bb hHeld
        refine hK.out _ _ nn (fun hHeld => ?_)
        clear hK K nn
        try simp only [Act.put, List.setIfInBounds_toArray, List.set_cons_zero, List.set_cons_succ]
        refine wpAnyH_ready (rs := [35]) (by kernel_rfl) (by simp) ?_
        refine AllReadyH.cons rfl (fun K hK => ?_) AllReadyH.nil
        go_simp
        refine (most_any b O u 0 u _ hHeld.1).mono ?_
        rintro e z5 ⟨rfl, bb⟩
        have nn := Two.bel hHeld bb
        have R5 := Lib.hid (below_then R4.out bb)
        clear bb hHeld
        refine hK.out _ _ nn (fun hHeld => ?_)
        clear hK K nn
        try simp only [Act.put, List.setIfInBounds_toArray, List.set_cons_zero, List.set_cons_succ]
        refine held_take 36 103 (v := .bool false) rfl rfl (by kernel_rfl) (by kernel_rfl) (by kernel_rfl) (fun _ _ _ h => h) (by rfl) ?hyb36 hHeld ?restb36
        case hyb36 => (intro w hSw; clear hSw; go_simp; try with_reducible rfl)
        try simp only [Act.put, List.setIfInBounds_toArray, List.set_cons_zero, List.set_cons_succ]
        refine held_take 37 104 (v := .bool false) rfl rfl (by kernel_rfl) (by kernel_rfl) (by kernel_rfl) (fun _ _ _ h => h) (by rfl) ?hyb37 hHeld ?restb37
        case hyb37 => (intro w hSw; clear hSw; go_simp; try with_reducible rfl)
        try simp only [Act.put, List.setIfInBounds_toArray, List.set_cons_zero, List.set_cons_succ]
        refine held_take 38 105 (v := ?vb38) rfl rfl (by kernel_rfl) (by kernel_rfl) (by kernel_rfl) (fun _ _ _ h => h) (by rfl) ?hyb38 hHeld ?restb38
        case hyb38 => (intro w hSw; clear hSw; go_simp; try with_reducible rfl)
        try simp only [Act.put, List.setIfInBounds_toArray, List.set_cons_zero, List.set_cons_succ]
        refine held_take 39 106 (v := ?vb39) rfl rfl (by kernel_rfl) (by kernel_rfl) (by kernel_rfl) (fun _ _ _ h => h) (by rfl) ?hyb39 hHeld ?restb39
        case hyb39 => (intro w hSw; clear hSw; go_simp; try with_reducible rfl)
        try simp only [Act.put, List.setIfInBounds_toArray, List.set_cons_zero, List.set_cons_succ]
        refine held_take 41 108 (v := ?vb41) rfl rfl (by kernel_rfl) (by kernel_rfl) (by kernel_rfl) (fun _ _ _ h => h) (by rfl) ?hyb41 hHeld ?restb41
        case hyb41 => (intro w hSw; clear hSw; go_simp; try with_reducible rfl)
        try simp only [Act.put, List.setIfInBounds_toArray, List.set_cons_zero, List.set_cons_succ]
        refine wpAnyH_ready (rs := [40]) (by kernel_rfl) (by simp) ?_
        refine AllReadyH.cons rfl (fun K hK => ?_) AllReadyH.nil
        go_simp
        refine (top_any b O u 0 u _ hHeld.1).mono ?_
        rintro e z6 ⟨rfl, bb⟩
        have nn := Two.bel hHeld bb
        have R6 := Lib.hid (below_then R5.out bb)
        clear bb hHeld
        refine hK.out _ _ nn (fun hHeld => ?_)
        clear hK K nn
        try simp only [Act.put, List.setIfInBounds_toArray, List.set_cons_zero, List.set_cons_succ]
        refine wpAnyH_ready (rs := [42]) (by kernel_rfl) (by simp) ?_
        refine AllReadyH.cons rfl (fun K hK => ?_) AllReadyH.nil
        go_simp
        refine (used_any b O u 0 u _ hHeld.1).mono ?_
        rintro e z7 ⟨rfl, bb⟩
        have nn := Two.bel hHeld bb
        have R7 := Lib.hid (below_then R6.out bb)
        clear bb hHeld
        refine hK.out _ _ nn (fun hHeld => ?_)
        clear hK K nn
        try simp only [Act.put, List.setIfInBounds_toArray, List.set_cons_zero, List.set_cons_succ]
        refine held_take 43 110 (v := .bool false) rfl rfl (by kernel_rfl) (by kernel_rfl) (by kernel_rfl) (fun _ _ _ h => h) (by rfl) ?hyb43 hHeld ?restb43
        case hyb43 => (intro w hSw; clear hSw; go_simp; try with_reducible rfl)
        try simp only [Act.put, List.setIfInBounds_toArray, List.set_cons_zero, List.set_cons_succ]
        refine held_take 44 111 (v := .bool false) rfl rfl (by kernel_rfl) (by kernel_rfl) (by kernel_rfl) (fun _ _ _ h => h) (by rfl) ?hyb44 hHeld ?restb44
        case hyb44 => (intro w hSw; clear hSw; go_simp; try with_reducible rfl)
        try simp only [Act.put, List.setIfInBounds_toArray, List.set_cons_zero, List.set_cons_succ]
        refine held_take 45 112 (v := ?vb45) rfl rfl (by kernel_rfl) (by kernel_rfl) (by kernel_rfl) (fun _ _ _ h => h) (by rfl) ?hyb45 hHeld ?restb45
        case hyb45 => (intro w hSw; clear hSw; go_simp; try with_reducible rfl)
        try simp only [Act.put, List.setIfInBounds_toArray, List.set_cons_zero, List.set_cons_succ]
        refine held_take 46 113 (v := ?vb46) rfl rfl (by kernel_rfl) (by kernel_rfl) (by kernel_rfl) (fun _ _ _ h => h) (by rfl) ?hyb46 hHeld ?restb46
        case hyb46 => (intro w hSw; clear hSw; go_simp; try with_reducible rfl)
        try simp only [Act.put, List.setIfInBounds_toArray, List.set_cons_zero, List.set_cons_succ]
        refine held_take 48 115 (v := ?vb48) rfl rfl (by kernel_rfl) (by kernel_rfl) (by kernel_rfl) (fun _ _ _ h => h) (by rfl) ?hyb48 hHeld ?restb48
        case hyb48 => (intro w hSw; clear hSw; go_simp; try with_reducible rfl)
        try simp only [Act.put, List.setIfInBounds_toArray, List.set_cons_zero, List.set_cons_succ]
        refine wpAnyH_ready (rs := [47]) (by kernel_rfl) (by simp) ?_
        refine AllReadyH.cons rfl (fun K hK => ?_) AllReadyH.nil
        go_simp
        refine (top_any b O u 0 u _ hHeld.1).mono ?_
        rintro e z8 ⟨rfl, bb⟩
        have nn := Two.bel hHeld bb
        have R8 := Lib.hid (below_then R7.out bb)
        clear bb hHeld
        refine hK.out _ _ nn (fun hHeld => ?_)
        clear hK K nn
        try simp only [Act.put, List.setIfInBounds_toArray, List.set_cons_zero, List.set_cons_succ]
        refine wpAnyH_ready (rs := [49]) (by kernel_rfl) (by simp) ?_
        refine AllReadyH.cons rfl (fun K hK => ?_) AllReadyH.nil
        go_simp
        refine (most_any b O u 0 u _ hHeld.1).mono ?_
        rintro e z9 ⟨rfl, bb⟩
        have nn := Two.bel hHeld bb
        have R9 := Lib.hid (below_then R8.out bb)
        clear bb hHeld
        refine hK.out _ _ nn (fun hHeld => ?_)
        clear hK K nn
        try simp only [Act.put, List.setIfInBounds_toArray, List.set_cons_zero, List.set_cons_succ]
        refine held_take 50 117 (v := .bool false) rfl rfl (by kernel_rfl) (by kernel_rfl) (by kernel_rfl) (fun _ _ _ h => h) (by rfl) ?hyb50 hHeld ?restb50
        case hyb50 => (intro w hSw; clear hSw; go_simp; try with_reducible rfl)
        try simp only [Act.put, List.setIfInBounds_toArray, List.set_cons_zero, List.set_cons_succ]
        refine held_take 51 118 (v := .bool false) rfl rfl (by kernel_rfl) (by kernel_rfl) (by kernel_rfl) (fun _ _ _ h => h) (by rfl) ?hyb51 hHeld ?restb51
        case hyb51 => (intro w hSw; clear hSw; go_simp; try with_reducible rfl)
        try simp only [Act.put, List.setIfInBounds_toArray, List.set_cons_zero, List.set_cons_succ]
        refine wpAnyH_done (by kernel_rfl) ?_ _
        have Q := Lib.hid hHeld
        clear hHeld q1 q2 q3 n1 n2 n3 n4 n5
        go_wp2
        exact ⟨⟨i + 1, u, 0, u, by omega, by go_num, HOK1.out, Q.out, Fr.then_ S7.out.2 (T := fun _ => False) ⟨R9.out.os, R9.out.tape, R9.out.output, R9.out.size, fun j hj _ => R9.out.block j hj⟩ (fun _ _ h => h.elim)⟩, by simp [intOf]; omega⟩
      go_wp2_with fail
      obtain ⟨pa, hpa⟩ : ∃ pa, pa = wr.heap.size := ⟨_, rfl⟩
      obtain ⟨W3, hW3⟩ : ∃ W3, W3 = (wr.alloc (.cells #[.int .u8 kk, .int .i64 n] 30)).alloc (.cells #[.int .i64 O, .int .i64 u, .int .i64 k, .int .i64 t] 27) := ⟨_, rfl⟩
      have A3 : W3.heap[pa]? = some (.cells #[.int .u8 kk, .int .i64 n] 30 (0, 0)) := by
        rw [hW3, hpa]; exact (Below.heap_alloc _ _ _ (by simp)).trans (heap_alloc_new wr _)
      have Y3 : Dm W3 (pa + 1) O u k t := by
        rw [hW3, hpa]
        have := Dm.made (wr.alloc (.cells #[.int .u8 kk, .int .i64 n] 30)) O u k t
        simpa using this
      have T3 : Two b c O u k t W3 := by
        rw [hW3]; exact ⟨(RM.out.2.1.1.alloc _).alloc _, (RM.out.2.1.2.alloc _).alloc _⟩
      have F3 : Fr (fun j => b ≤ j) w1 W3 := by rw [hW3]; exact (RM.out.2.2.alloc _).alloc _
      have hlt3 : b < c ∧ c < pa := ⟨HBC.out, by rw [hpa]; exact hlc⟩
      have HOK := Lib.hid RM.out.1
      rw [← hW3]
      rw [← hpa]
      have S3 := Lib.hid (And.intro A3 (And.intro Y3 (And.intro T3 F3)))
      clear hW3 hpa A3 Y3 T3 F3 cx cy e0 e1 e2 e3 hlc hlb RM
      obtain ⟨G, hG⟩ : ∃ G, tk O u k t n = G := ⟨_, rfl⟩
      obtain ⟨E, u1, k1, t1⟩ := G
      have c1 := take_any b O u k t n W3 S3.out.2.2.1.1 HOK.out.1 (by have := HOK.out; unfold Ok at this; omega) hO2 HOK.out.2.2.2.1 HOK.out.2.2.2.2
      rw [hG] at c1
      dsimp only at c1
      refine c1.mono ?_
      clear c1
      rintro e w4 ⟨rfl, m4, f4⟩
      have A4 : w4.heap[pa]? = some (.cells #[.int .u8 kk, .int .i64 n] 30 (0, 0)) := (f4.block pa (lt_of_block S3.out.1) (by omega)).trans S3.out.1
      have Y4 : Dm w4 (pa + 1) O u k t := S3.out.2.1.keep (f4.block _ S3.out.2.1.lt (by omega))
      have X4 : Dm w4 c O u k t := S3.out.2.2.1.2.keep (f4.block _ S3.out.2.2.1.2.lt (by omega))
      have F4 : Fr (fun j => b ≤ j) w1 w4 := S3.out.2.2.2.then_ f4 (fun j _ h => by rw [h]; exact Nat.le_refl _)
      have e0 := X4.c0
      have e1 := X4.c1
      have e2 := X4.c2
      have e3 := X4.c3
      have a1 : w4.cell? ⟨pa, 1, none⟩ = some (.int .i64 n) := by simp [World.cell?, A4]
      have S4 := Lib.hid (And.intro m4 (And.intro A4 (And.intro Y4 (And.intro X4 F4))))
      clear m4 A4 Y4 X4 F4 f4 S3
      go_wp2_with fail
      have c1 := refTake_any O u k t n w4 hn HOK.out.1 (by have := HOK.out; unfold Ok at this; omega) hO2 HOK.out.2.2.2.1 HOK.out.2.2.2.2
      rw [hG] at c1
      dsimp only at c1
      refine c1.mono ?_
      clear c1
      rintro e w5 ⟨rfl, b5⟩
      have M5 : Mt w5 b O u1 k1 t1 := S4.out.1.keep (b5.block _ S4.out.1.lt)
      have A5 : w5.heap[pa]? = some (.cells #[.int .u8 kk, .int .i64 n] 30 (0, 0)) := (b5.block pa (lt_of_block S4.out.2.1)).trans S4.out.2.1
      have Y5 : Dm w5 (pa + 1) O u k t := S4.out.2.2.1.keep (b5.block _ S4.out.2.2.1.lt)
      have X5 : Dm w5 c O u k t := S4.out.2.2.2.1.keep (b5.block _ S4.out.2.2.2.1.lt)
      have F5 : Fr (fun j => b ≤ j) w1 w5 := S4.out.2.2.2.2.then_ (T := fun _ => False) ⟨b5.os, b5.tape, b5.output, b5.size, fun j hj _ => b5.block j hj⟩ (fun _ _ h => h.elim)
      have y0 := Y5.c0
      have y1 := Y5.c1
      have y2 := Y5.c2
      have y3 := Y5.c3
      have yf0 := Y5.free 0
      have yf1 := Y5.free 1
      have yf2 := Y5.free 2
      have yf3 := Y5.free 3
      have S5 := Lib.hid (And.intro M5 (And.intro A5 (And.intro Y5 (And.intro X5 F5))))
      clear M5 A5 Y5 X5 F5 b5 S4 e0 e1 e2 e3 a1
      go_upto_region 21 with fail
      obtain ⟨w6, hw6⟩ : ∃ w6, w6 = put4 w5 (pa + 1) O u1 k1 t1 := ⟨_, rfl⟩
      have hw7 := hw6
      unfold put4 at hw7
      rw [← hw7]
      clear hw7
      have f6 := put4_fr w5 (pa + 1) O u1 k1 t1
      rw [← hw6] at f6
      have Y6 : Dm w6 (pa + 1) O u1 k1 t1 := by rw [hw6]; exact S5.out.2.2.1.put O u1 k1 t1
      have M6 : Mt w6 b O u1 k1 t1 := S5.out.1.keep (f6.block _ S5.out.1.lt (by omega))
      have X6 : Dm w6 c O u k t := S5.out.2.2.2.1.keep (f6.block _ S5.out.2.2.2.1.lt (by omega))
      have F6 : Fr (fun j => b ≤ j) w1 w6 := S5.out.2.2.2.2.then_ f6 (fun j _ h => by rw [h]; omega)
      have x0 := X6.c0
      have x1 := X6.c1
      have x2 := X6.c2
      have x3 := X6.c3
      have xf0 := X6.free 0
      have xf1 := X6.free 1
      have xf2 := X6.free 2
      have xf3 := X6.free 3
      have z0 := Y6.c0
      have z1 := Y6.c1
      have z2 := Y6.c2
      have z3 := Y6.c3
      have S6 := Lib.hid (And.intro M6 (And.intro X6 F6))
      clear hw6 f6 Y6 M6 X6 F6 S5 y0 y1 y2 y3 yf0 yf1 yf2 yf3
      go_upto_region 22 with fail
      obtain ⟨w7, hw7⟩ : ∃ w7, w7 = put4 w6 c O u1 k1 t1 := ⟨_, rfl⟩
      have hw8 := hw7
      unfold put4 at hw8
      rw [← hw8]
      clear hw8
      have f7 := put4_fr w6 c O u1 k1 t1
      rw [← hw7] at f7
      have X7 : Dm w7 c O u1 k1 t1 := by rw [hw7]; exact S6.out.2.1.put O u1 k1 t1
      have M7 : Mt w7 b O u1 k1 t1 := S6.out.1.keep (f7.block _ S6.out.1.lt (by omega))
      have F7 : Fr (fun j => b ≤ j) w1 w7 := S6.out.2.2.then_ f7 (fun j _ h => by rw [h]; omega)
      have HOK1 := Lib.hid (show Ok O u1 k1 t1 from by have := ok_tk n HOK.out hO2; rw [hG] at this; exact this)
      have T7 : Two b c O u1 k1 t1 w7 := ⟨M7, X7⟩
      have S7 := Lib.hid (And.intro T7 F7)
      clear hw7 f7 X7 M7 F7 T7 S6 x0 x1 x2 x3 xf0 xf1 xf2 xf3 z0 z1 z2 z3 hG HOK
      have hHeld := (show Two b c O u1 k1 t1 w7.drew from S7.out.1)
      have BE := Lib.hid ((Below.refl w7.heap.size w7).drew)
      have q1 : decide (O < u1) = false := by have := HOK1.out; unfold Ok at this; simp <;> omega
      have q2 : decide (t1 < u1) = false := by have := HOK1.out; unfold Ok at this; simp <;> omega
      have q3 : decide (O < t1) = false := by have := HOK1.out; unfold Ok at this; simp <;> omega
      have n1 : (E != E) = false := by simp
      have n2 : (u1 != u1) = false := by simp
      have n3 : (k1 != k1) = false := by simp
      have n4 : (t1 != t1) = false := by simp
      have n5 : (O != O) = false := by simp
      refine wp_region_held_drew (S := Two b c O u1 k1 t1) (by kernel_rfl) hHeld (fun hHeld => ?_)
      refine held_take 0 67 (v := ?vc0) rfl rfl (by kernel_rfl) (by kernel_rfl) (by kernel_rfl) (fun _ _ _ h => h) (by rfl) ?hyc0 hHeld ?restc0
      case hyc0 => (intro w hSw; clear hSw; go_simp; try with_reducible rfl)
      try simp only [Act.put, List.setIfInBounds_toArray, List.set_cons_zero, List.set_cons_succ]
      refine held_take 1 68 (v := ?vc1) rfl rfl (by kernel_rfl) (by kernel_rfl) (by kernel_rfl) (fun _ _ _ h => h) (by rfl) ?hyc1 hHeld ?restc1
      case hyc1 => (intro w hSw; clear hSw; go_simp; try with_reducible rfl)
      try simp only [Act.put, List.setIfInBounds_toArray, List.set_cons_zero, List.set_cons_succ]
      refine held_take 2 69 (v := .bool false) rfl rfl (by kernel_rfl) (by kernel_rfl) (by kernel_rfl) (fun _ _ _ h => h) (by rfl) ?hyc2 hHeld ?restc2
      case hyc2 => (intro w hSw; clear hSw; go_simp; try with_reducible rfl)
      try simp only [Act.put, List.setIfInBounds_toArray, List.set_cons_zero, List.set_cons_succ]
      refine held_take 3 70 (v := ?vc3) rfl rfl (by kernel_rfl) (by kernel_rfl) (by kernel_rfl) (fun _ _ _ h => h) (by rfl) ?hyc3 hHeld ?restc3
      case hyc3 => (intro w hSw; clear hSw; go_simp; try with_reducible rfl)
      try simp only [Act.put, List.setIfInBounds_toArray, List.set_cons_zero, List.set_cons_succ]
      refine held_take 4 71 (v := ?vc4) rfl rfl (by kernel_rfl) (by kernel_rfl) (by kernel_rfl) (fun _ _ _ h => h) (by rfl) ?hyc4 hHeld ?restc4
      case hyc4 => (intro w hSw; clear hSw; go_simp; try with_reducible rfl)
      try simp only [Act.put, List.setIfInBounds_toArray, List.set_cons_zero, List.set_cons_succ]
      refine held_take 6 73 (v := ?vc6) rfl rfl (by kernel_rfl) (by kernel_rfl) (by kernel_rfl) (fun _ _ _ h => h) (by rfl) ?hyc6 hHeld ?restc6
      case hyc6 => (intro w hSw; clear hSw; go_simp; try with_reducible rfl)
      try simp only [Act.put, List.setIfInBounds_toArray, List.set_cons_zero, List.set_cons_succ]
      refine held_take 7 74 (v := ?vc7) rfl rfl (by kernel_rfl) (by kernel_rfl) (by kernel_rfl) (fun _ _ _ h => h) (by rfl) ?hyc7 hHeld ?restc7
      case hyc7 => (intro w hSw; have l0 := hSw.2.c0; have l1 := hSw.2.c1; have l2 := hSw.2.c2; have l3 := hSw.2.c3; clear hSw; go_simp; try with_reducible rfl)
      try simp only [Act.put, List.setIfInBounds_toArray, List.set_cons_zero, List.set_cons_succ]
      refine wpAnyH_ready (rs := [5]) (by kernel_rfl) (by simp) ?_
      refine AllReadyH.cons rfl (fun K hK => ?_) AllReadyH.nil
      go_simp
      refine (used_any b O u1 k1 t1 _ hHeld.1).mono ?_
      rintro e z0 ⟨rfl, bb⟩
      have nn := Two.bel hHeld bb
      have R0 := Lib.hid (below_then BE.out bb)
      clear bb hHeld
      refine hK.out _ _ nn (fun hHeld => ?_)
      clear hK K nn
      try simp only [Act.put, List.setIfInBounds_toArray, List.set_cons_zero, List.set_cons_succ]
      refine held_take 8 75 (v := .bool false) rfl rfl (by kernel_rfl) (by kernel_rfl) (by kernel_rfl) (fun _ _ _ h => h) (by rfl) ?hyc8 hHeld ?restc8
      case hyc8 => (intro w hSw; clear hSw; go_simp; try with_reducible rfl)
      try simp only [Act.put, List.setIfInBounds_toArray, List.set_cons_zero, List.set_cons_succ]
      refine held_take 9 76 (v := .bool false) rfl rfl (by kernel_rfl) (by kernel_rfl) (by kernel_rfl) (fun _ _ _ h => h) (by rfl) ?hyc9 hHeld ?restc9
      case hyc9 => (intro w hSw; clear hSw; go_simp; try with_reducible rfl)
      try simp only [Act.put, List.setIfInBounds_toArray, List.set_cons_zero, List.set_cons_succ]
      refine held_take 10 77 (v := ?vc10) rfl rfl (by kernel_rfl) (by kernel_rfl) (by kernel_rfl) (fun _ _ _ h => h) (by rfl) ?hyc10 hHeld ?restc10
      case hyc10 => (intro w hSw; clear hSw; go_simp; try with_reducible rfl)
      try simp only [Act.put, List.setIfInBounds_toArray, List.set_cons_zero, List.set_cons_succ]
      refine held_take 11 78 (v := ?vc11) rfl rfl (by kernel_rfl) (by kernel_rfl) (by kernel_rfl) (fun _ _ _ h => h) (by rfl) ?hyc11 hHeld ?restc11
      case hyc11 => (intro w hSw; clear hSw; go_simp; try with_reducible rfl)
      try simp only [Act.put, List.setIfInBounds_toArray, List.set_cons_zero, List.set_cons_succ]
      refine held_take 13 80 (v := ?vc13) rfl rfl (by kernel_rfl) (by kernel_rfl) (by kernel_rfl) (fun _ _ _ h => h) (by rfl) ?hyc13 hHeld ?restc13
      case hyc13 => (intro w hSw; clear hSw; go_simp; try with_reducible rfl)
      try simp only [Act.put, List.setIfInBounds_toArray, List.set_cons_zero, List.set_cons_succ]
      refine held_take 14 81 (v := ?vc14) rfl rfl (by kernel_rfl) (by kernel_rfl) (by kernel_rfl) (fun _ _ _ h => h) (by rfl) ?hyc14 hHeld ?restc14
      case hyc14 => (intro w hSw; have l0 := hSw.2.c0; have l1 := hSw.2.c1; have l2 := hSw.2.c2; have l3 := hSw.2.c3; clear hSw; go_simp; try with_reducible rfl)
      try simp only [Act.put, List.setIfInBounds_toArray, List.set_cons_zero, List.set_cons_succ]
      refine wpAnyH_ready (rs := [12]) (by kernel_rfl) (by simp) ?_
      refine AllReadyH.cons rfl (fun K hK => ?_) AllReadyH.nil
      go_simp
      refine (taken_any b O u1 k1 t1 _ hHeld.1).mono ?_
      rintro e z1 ⟨rfl, bb⟩
      have nn := Two.bel hHeld bb
      have R1 := Lib.hid (below_then R0.out bb)
      clear bb hHeld
      refine hK.out _ _ nn (fun hHeld => ?_)
      clear hK K nn
      try simp only [Act.put, List.setIfInBounds_toArray, List.set_cons_zero, List.set_cons_succ]
      refine held_take 15 82 (v := .bool false) rfl rfl (by kernel_rfl) (by kernel_rfl) (by kernel_rfl) (fun _ _ _ h => h) (by rfl) ?hyc15 hHeld ?restc15
      case hyc15 => (intro w hSw; clear hSw; go_simp; try with_reducible rfl)
      try simp only [Act.put, List.setIfInBounds_toArray, List.set_cons_zero, List.set_cons_succ]
      refine held_take 16 83 (v := .bool false) rfl rfl (by kernel_rfl) (by kernel_rfl) (by kernel_rfl) (fun _ _ _ h => h) (by rfl) ?hyc16 hHeld ?restc16
      case hyc16 => (intro w hSw; clear hSw; go_simp; try with_reducible rfl)
      try simp only [Act.put, List.setIfInBounds_toArray, List.set_cons_zero, List.set_cons_succ]
      refine held_take 17 84 (v := ?vc17) rfl rfl (by kernel_rfl) (by kernel_rfl) (by kernel_rfl) (fun _ _ _ h => h) (by rfl) ?hyc17 hHeld ?restc17
      case hyc17 => (intro w hSw; clear hSw; go_simp; try with_reducible rfl)
      try simp only [Act.put, List.setIfInBounds_toArray, List.set_cons_zero, List.set_cons_succ]
      refine held_take 18 85 (v := ?vc18) rfl rfl (by kernel_rfl) (by kernel_rfl) (by kernel_rfl) (fun _ _ _ h => h) (by rfl) ?hyc18 hHeld ?restc18
      case hyc18 => (intro w hSw; clear hSw; go_simp; try with_reducible rfl)
      try simp only [Act.put, List.setIfInBounds_toArray, List.set_cons_zero, List.set_cons_succ]
      refine held_take 20 87 (v := ?vc20) rfl rfl (by kernel_rfl) (by kernel_rfl) (by kernel_rfl) (fun _ _ _ h => h) (by rfl) ?hyc20 hHeld ?restc20
      case hyc20 => (intro w hSw; clear hSw; go_simp; try with_reducible rfl)
      try simp only [Act.put, List.setIfInBounds_toArray, List.set_cons_zero, List.set_cons_succ]
      refine held_take 21 88 (v := ?vc21) rfl rfl (by kernel_rfl) (by kernel_rfl) (by kernel_rfl) (fun _ _ _ h => h) (by rfl) ?hyc21 hHeld ?restc21
      case hyc21 => (intro w hSw; have l0 := hSw.2.c0; have l1 := hSw.2.c1; have l2 := hSw.2.c2; have l3 := hSw.2.c3; clear hSw; go_simp; try with_reducible rfl)
      try simp only [Act.put, List.setIfInBounds_toArray, List.set_cons_zero, List.set_cons_succ]
      refine wpAnyH_ready (rs := [19]) (by kernel_rfl) (by simp) ?_
      refine AllReadyH.cons rfl (fun K hK => ?_) AllReadyH.nil
      go_simp
      refine (top_any b O u1 k1 t1 _ hHeld.1).mono ?_
      rintro e z2 ⟨rfl, bb⟩
      have nn := Two.bel hHeld bb
      have R2 := Lib.hid (below_then R1.out bb)
      clear bb hHeld
      refine hK.out _ _ nn (fun hHeld => ?_)
      clear hK K nn
      try simp only [Act.put, List.setIfInBounds_toArray, List.set_cons_zero, List.set_cons_succ]
      refine held_take 22 89 (v := .bool false) rfl rfl (by kernel_rfl) (by kernel_rfl) (by kernel_rfl) (fun _ _ _ h => h) (by rfl) ?hyc22 hHeld ?restc22
      case hyc22 => (intro w hSw; clear hSw; go_simp; try with_reducible rfl)
      try simp only [Act.put, List.setIfInBounds_toArray, List.set_cons_zero, List.set_cons_succ]
      refine held_take 23 90 (v := .bool false) rfl rfl (by kernel_rfl) (by kernel_rfl) (by kernel_rfl) (fun _ _ _ h => h) (by rfl) ?hyc23 hHeld ?restc23
      case hyc23 => (intro w hSw; clear hSw; go_simp; try with_reducible rfl)
      try simp only [Act.put, List.setIfInBounds_toArray, List.set_cons_zero, List.set_cons_succ]
      refine held_take 24 91 (v := ?vc24) rfl rfl (by kernel_rfl) (by kernel_rfl) (by kernel_rfl) (fun _ _ _ h => h) (by rfl) ?hyc24 hHeld ?restc24
      case hyc24 => (intro w hSw; clear hSw; go_simp; try with_reducible rfl)
      try simp only [Act.put, List.setIfInBounds_toArray, List.set_cons_zero, List.set_cons_succ]
      refine held_take 25 92 (v := ?vc25) rfl rfl (by kernel_rfl) (by kernel_rfl) (by kernel_rfl) (fun _ _ _ h => h) (by rfl) ?hyc25 hHeld ?restc25
      case hyc25 => (intro w hSw; clear hSw; go_simp; try with_reducible rfl)
      try simp only [Act.put, List.setIfInBounds_toArray, List.set_cons_zero, List.set_cons_succ]
      refine held_take 27 94 (v := ?vc27) rfl rfl (by kernel_rfl) (by kernel_rfl) (by kernel_rfl) (fun _ _ _ h => h) (by rfl) ?hyc27 hHeld ?restc27
      case hyc27 => (intro w hSw; clear hSw; go_simp; try with_reducible rfl)
      try simp only [Act.put, List.setIfInBounds_toArray, List.set_cons_zero, List.set_cons_succ]
      refine held_take 28 95 (v := ?vc28) rfl rfl (by kernel_rfl) (by kernel_rfl) (by kernel_rfl) (fun _ _ _ h => h) (by rfl) ?hyc28 hHeld ?restc28
      case hyc28 => (intro w hSw; have l0 := hSw.2.c0; have l1 := hSw.2.c1; have l2 := hSw.2.c2; have l3 := hSw.2.c3; clear hSw; go_simp; try with_reducible rfl)
      try simp only [Act.put, List.setIfInBounds_toArray, List.set_cons_zero, List.set_cons_succ]
      refine wpAnyH_ready (rs := [26]) (by kernel_rfl) (by simp) ?_
      refine AllReadyH.cons rfl (fun K hK => ?_) AllReadyH.nil
      go_simp
      refine (most_any b O u1 k1 t1 _ hHeld.1).mono ?_
      rintro e z3 ⟨rfl, bb⟩
      have nn := Two.bel hHeld bb
      have R3 := Lib.hid (below_then R2.out bb)
      clear bb hHeld
      refine hK.out _ _ nn (fun hHeld => ?_)
      clear hK K nn
      try simp only [Act.put, List.setIfInBounds_toArray, List.set_cons_zero, List.set_cons_succ]
      refine held_take 29 96 (v := .bool false) rfl rfl (by kernel_rfl) (by kernel_rfl) (by kernel_rfl) (fun _ _ _ h => h) (by rfl) ?hyc29 hHeld ?restc29
      case hyc29 => (intro w hSw; clear hSw; go_simp; try with_reducible rfl)
      try simp only [Act.put, List.setIfInBounds_toArray, List.set_cons_zero, List.set_cons_succ]
      refine held_take 30 97 (v := .bool false) rfl rfl (by kernel_rfl) (by kernel_rfl) (by kernel_rfl) (fun _ _ _ h => h) (by rfl) ?hyc30 hHeld ?restc30
      case hyc30 => (intro w hSw; clear hSw; go_simp; try with_reducible rfl)
      try simp only [Act.put, List.setIfInBounds_toArray, List.set_cons_zero, List.set_cons_succ]
      refine held_take 31 98 (v := ?vc31) rfl rfl (by kernel_rfl) (by kernel_rfl) (by kernel_rfl) (fun _ _ _ h => h) (by rfl) ?hyc31 hHeld ?restc31
      case hyc31 => (intro w hSw; clear hSw; go_simp; try with_reducible rfl)
      try simp only [Act.put, List.setIfInBounds_toArray, List.set_cons_zero, List.set_cons_succ]
      refine held_take 32 99 (v := ?vc32) rfl rfl (by kernel_rfl) (by kernel_rfl) (by kernel_rfl) (fun _ _ _ h => h) (by rfl) ?hyc32 hHeld ?restc32
      case hyc32 => (intro w hSw; clear hSw; go_simp; try with_reducible rfl)
      try simp only [Act.put, List.setIfInBounds_toArray, List.set_cons_zero, List.set_cons_succ]
      refine held_take 34 101 (v := ?vc34) rfl rfl (by kernel_rfl) (by kernel_rfl) (by kernel_rfl) (fun _ _ _ h => h) (by rfl) ?hyc34 hHeld ?restc34
      case hyc34 => (intro w hSw; clear hSw; go_simp; try with_reducible rfl)
      try simp only [Act.put, List.setIfInBounds_toArray, List.set_cons_zero, List.set_cons_succ]
      refine wpAnyH_ready (rs := [33]) (by kernel_rfl) (by simp) ?_
      refine AllReadyH.cons rfl (fun K hK => ?_) AllReadyH.nil
      go_simp
      refine (used_any b O u1 k1 t1 _ hHeld.1).mono ?_
      rintro e z4 ⟨rfl, bb⟩
      have nn := Two.bel hHeld bb
      have R4 := Lib.hid (below_then R3.out bb)
      clear bb hHeld
      refine hK.out _ _ nn (fun hHeld => ?_)
      clear hK K nn
      try simp only [Act.put, List.setIfInBounds_toArray, List.set_cons_zero, List.set_cons_succ]
      refine wpAnyH_ready (rs := [35]) (by kernel_rfl) (by simp) ?_
      refine AllReadyH.cons rfl (fun K hK => ?_) AllReadyH.nil
      go_simp
      refine (most_any b O u1 k1 t1 _ hHeld.1).mono ?_
      rintro e z5 ⟨rfl, bb⟩
      have nn := Two.bel hHeld bb
      have R5 := Lib.hid (below_then R4.out bb)
      clear bb hHeld
      refine hK.out _ _ nn (fun hHeld => ?_)
      clear hK K nn
      try simp only [Act.put, List.setIfInBounds_toArray, List.set_cons_zero, List.set_cons_succ]
      refine held_take 36 103 (v := .bool false) rfl rfl (by kernel_rfl) (by kernel_rfl) (by kernel_rfl) (fun _ _ _ h => h) (by rfl) ?hyc36 hHeld ?restc36
      case hyc36 => (intro w hSw; clear hSw; go_simp; try with_reducible rfl)
      try simp only [Act.put, List.setIfInBounds_toArray, List.set_cons_zero, List.set_cons_succ]
      refine held_take 37 104 (v := .bool false) rfl rfl (by kernel_rfl) (by kernel_rfl) (by kernel_rfl) (fun _ _ _ h => h) (by rfl) ?hyc37 hHeld ?restc37
      case hyc37 => (intro w hSw; clear hSw; go_simp; try with_reducible rfl)
      try simp only [Act.put, List.setIfInBounds_toArray, List.set_cons_zero, List.set_cons_succ]
      refine held_take 38 105 (v := ?vc38) rfl rfl (by kernel_rfl) (by kernel_rfl) (by kernel_rfl) (fun _ _ _ h => h) (by rfl) ?hyc38 hHeld ?restc38
      case hyc38 => (intro w hSw; clear hSw; go_simp; try with_reducible rfl)
      try simp only [Act.put, List.setIfInBounds_toArray, List.set_cons_zero, List.set_cons_succ]
      refine held_take 39 106 (v := ?vc39) rfl rfl (by kernel_rfl) (by kernel_rfl) (by kernel_rfl) (fun _ _ _ h => h) (by rfl) ?hyc39 hHeld ?restc39
      case hyc39 => (intro w hSw; clear hSw; go_simp; try with_reducible rfl)
      try simp only [Act.put, List.setIfInBounds_toArray, List.set_cons_zero, List.set_cons_succ]
      refine held_take 41 108 (v := ?vc41) rfl rfl (by kernel_rfl) (by kernel_rfl) (by kernel_rfl) (fun _ _ _ h => h) (by rfl) ?hyc41 hHeld ?restc41
      case hyc41 => (intro w hSw; clear hSw; go_simp; try with_reducible rfl)
      try simp only [Act.put, List.setIfInBounds_toArray, List.set_cons_zero, List.set_cons_succ]
      refine wpAnyH_ready (rs := [40]) (by kernel_rfl) (by simp) ?_
      refine AllReadyH.cons rfl (fun K hK => ?_) AllReadyH.nil
      go_simp
      refine (top_any b O u1 k1 t1 _ hHeld.1).mono ?_
      rintro e z6 ⟨rfl, bb⟩
      have nn := Two.bel hHeld bb
      have R6 := Lib.hid (below_then R5.out bb)
      clear bb hHeld
      refine hK.out _ _ nn (fun hHeld => ?_)
      clear hK K nn
      try simp only [Act.put, List.setIfInBounds_toArray, List.set_cons_zero, List.set_cons_succ]
      refine wpAnyH_ready (rs := [42]) (by kernel_rfl) (by simp) ?_
      refine AllReadyH.cons rfl (fun K hK => ?_) AllReadyH.nil
      go_simp
      refine (used_any b O u1 k1 t1 _ hHeld.1).mono ?_
      rintro e z7 ⟨rfl, bb⟩
      have nn := Two.bel hHeld bb
      have R7 := Lib.hid (below_then R6.out bb)
      clear bb hHeld
      refine hK.out _ _ nn (fun hHeld => ?_)
      clear hK K nn
      try simp only [Act.put, List.setIfInBounds_toArray, List.set_cons_zero, List.set_cons_succ]
      refine held_take 43 110 (v := .bool false) rfl rfl (by kernel_rfl) (by kernel_rfl) (by kernel_rfl) (fun _ _ _ h => h) (by rfl) ?hyc43 hHeld ?restc43
      case hyc43 => (intro w hSw; clear hSw; go_simp; try with_reducible rfl)
      try simp only [Act.put, List.setIfInBounds_toArray, List.set_cons_zero, List.set_cons_succ]
      refine held_take 44 111 (v := .bool false) rfl rfl (by kernel_rfl) (by kernel_rfl) (by kernel_rfl) (fun _ _ _ h => h) (by rfl) ?hyc44 hHeld ?restc44
      case hyc44 => (intro w hSw; clear hSw; go_simp; try with_reducible rfl)
      try simp only [Act.put, List.setIfInBounds_toArray, List.set_cons_zero, List.set_cons_succ]
      refine held_take 45 112 (v := ?vc45) rfl rfl (by kernel_rfl) (by kernel_rfl) (by kernel_rfl) (fun _ _ _ h => h) (by rfl) ?hyc45 hHeld ?restc45
      case hyc45 => (intro w hSw; clear hSw; go_simp; try with_reducible rfl)
      try simp only [Act.put, List.setIfInBounds_toArray, List.set_cons_zero, List.set_cons_succ]
      refine held_take 46 113 (v := ?vc46) rfl rfl (by kernel_rfl) (by kernel_rfl) (by kernel_rfl) (fun _ _ _ h => h) (by rfl) ?hyc46 hHeld ?restc46
      case hyc46 => (intro w hSw; clear hSw; go_simp; try with_reducible rfl)
      try simp only [Act.put, List.setIfInBounds_toArray, List.set_cons_zero, List.set_cons_succ]
      refine held_take 48 115 (v := ?vc48) rfl rfl (by kernel_rfl) (by kernel_rfl) (by kernel_rfl) (fun _ _ _ h => h) (by rfl) ?hyc48 hHeld ?restc48
      case hyc48 => (intro w hSw; clear hSw; go_simp; try with_reducible rfl)
      try simp only [Act.put, List.setIfInBounds_toArray, List.set_cons_zero, List.set_cons_succ]
      refine wpAnyH_ready (rs := [47]) (by kernel_rfl) (by simp) ?_
      refine AllReadyH.cons rfl (fun K hK => ?_) AllReadyH.nil
      go_simp
      refine (top_any b O u1 k1 t1 _ hHeld.1).mono ?_
      rintro e z8 ⟨rfl, bb⟩
      have nn := Two.bel hHeld bb
      have R8 := Lib.hid (below_then R7.out bb)
      clear bb hHeld
      refine hK.out _ _ nn (fun hHeld => ?_)
      clear hK K nn
      try simp only [Act.put, List.setIfInBounds_toArray, List.set_cons_zero, List.set_cons_succ]
      refine wpAnyH_ready (rs := [49]) (by kernel_rfl) (by simp) ?_
      refine AllReadyH.cons rfl (fun K hK => ?_) AllReadyH.nil
      go_simp
      refine (most_any b O u1 k1 t1 _ hHeld.1).mono ?_
      rintro e z9 ⟨rfl, bb⟩
      have nn := Two.bel hHeld bb
      have R9 := Lib.hid (below_then R8.out bb)
      clear bb hHeld
      refine hK.out _ _ nn (fun hHeld => ?_)
      clear hK K nn
      try simp only [Act.put, List.setIfInBounds_toArray, List.set_cons_zero, List.set_cons_succ]
      refine held_take 50 117 (v := .bool false) rfl rfl (by kernel_rfl) (by kernel_rfl) (by kernel_rfl) (fun _ _ _ h => h) (by rfl) ?hyc50 hHeld ?restc50
      case hyc50 => (intro w hSw; clear hSw; go_simp; try with_reducible rfl)
      try simp only [Act.put, List.setIfInBounds_toArray, List.set_cons_zero, List.set_cons_succ]
      refine held_take 51 118 (v := .bool false) rfl rfl (by kernel_rfl) (by kernel_rfl) (by kernel_rfl) (fun _ _ _ h => h) (by rfl) ?hyc51 hHeld ?restc51
      case hyc51 => (intro w hSw; clear hSw; go_simp; try with_reducible rfl)
      try simp only [Act.put, List.setIfInBounds_toArray, List.set_cons_zero, List.set_cons_succ]
      refine wpAnyH_done (by kernel_rfl) ?_ _
      have Q := Lib.hid hHeld
      clear hHeld q1 q2 q3 n1 n2 n3 n4 n5
      go_wp2
      exact ⟨⟨i + 1, u1, k1, t1, by omega, by go_num, HOK1.out, Q.out, Fr.then_ S7.out.2 (T := fun _ => False) ⟨R9.out.os, R9.out.tape, R9.out.output, R9.out.size, fun j hj _ => R9.out.block j hj⟩ (fun _ _ h => h.elim)⟩, by simp [intOf]; omega⟩
    · go_wp2_with fail
      refine (clear_nil _).mono ?_
      rintro e w3 ⟨rfl, rfl⟩
      go_wp2_with fail
      have R3 := Lib.hid RM.out.2.2
      refine (take_nil 1 wr).mono ?_
      rintro e w4 ⟨rfl, b4⟩
      have N4 := Lib.hid b4
      clear b4
      go_wp2_with fail
      refine (give_nil 0 w4).mono ?_
      rintro e w5 ⟨rfl, b4⟩
      have N5 := Lib.hid (below_then N4.out b4)
      clear b4
      go_wp2_with fail
      refine (used_nil w5).mono ?_
      rintro e w6 ⟨rfl, b4⟩
      have N6 := Lib.hid (below_then N5.out b4)
      clear b4
      go_wp2_with fail
      refine (taken_nil w6).mono ?_
      rintro e w7 ⟨rfl, b4⟩
      have N7 := Lib.hid (below_then N6.out b4)
      clear b4
      go_wp2_with fail
      refine (top_nil w7).mono ?_
      rintro e w8 ⟨rfl, b4⟩
      have N8 := Lib.hid (below_then N7.out b4)
      clear b4
      go_wp2_with fail
      refine (most_nil w8).mono ?_
      rintro e w9 ⟨rfl, b4⟩
      have N9 := Lib.hid (below_then N8.out b4)
      clear b4
      go_wp2
      go_ret
      have G := RM.out.2.2.then_ (T := fun _ => False) ⟨N9.out.os, N9.out.tape, N9.out.output, N9.out.size, fun j hj _ => N9.out.block j hj⟩ (fun _ _ h => h.elim)
      exact ⟨rfl, HB.out.trans ((Fr.below G (Nat.le_of_eq HW.out) fun _ h => h).mono (by have := HW.out; have := HB.out.size; omega))⟩

theorem meterPlays_any (o : Int) (a : Option Addr) (len cap : Nat) (w : World) (ho : (Lit.int .i64 o).wf = true) (hlm : len ≤ maxLen)
    (hc : ∀ k, k < len → ∃ x kd n, a = some x ∧ w.cell? (x.add (k * 2)) = some (.int .u8 kd) ∧ w.cell? (x.add (k * 2 + 1)) = some (.int .i64 n) ∧ (Lit.int .u8 kd).wf = true ∧ (Lit.int .i64 n).wf = true) :
    Calls Try.prog 3 #[.int .i64 o, .slice a len cap] w fun e w' => e = .returned (.bool true) ∧ Below w.heap.size w w' := by
  by_cases hl : 100 < len
  · exact meterPlays_many o a len cap w hl hlm
  · have hx : ∀ k, k < len → ∃ b off, a = some ⟨b, off, none⟩ := by
      intro k hk
      obtain ⟨x, kd, n, rfl, h1, h2, _, _⟩ := hc 0 (by omega)
      obtain ⟨b, off, spot⟩ := x
      have hspot : spot = none := by simpa [Addr.add] using World.cell?_spot h1
      subst hspot
      exact ⟨b, off, rfl⟩
    refine meterPlays_few o _ a len cap (fun k => match a with | some x => (match w.cell? (x.add (k * 2)) with | some (.int _ z) => z | _ => 0) | none => 0) (fun k => match a with | some x => (match w.cell? (x.add (k * 2 + 1)) with | some (.int _ z) => z | _ => 0) | none => 0) w (by omega) rfl (bounds_i64 ho).2 fun k hk => ?_
    obtain ⟨x, kd, n, rfl, h1, h2, h3, h4⟩ := hc k hk
    obtain ⟨b, off, he⟩ := hx k hk
    obtain rfl : x = ⟨b, off, none⟩ := by simpa using he
    have g1 : w.cell? ⟨b, off + k * 2, none⟩ = some (.int .u8 kd) := by
      by_cases h0 : k * 2 = 0
      · simpa [Addr.add, h0] using h1
      · simpa [Addr.add, h0] using h1
    have g2 : w.cell? ⟨b, off + k * 2 + 1, none⟩ = some (.int .i64 n) := by
      simpa [Addr.add, Nat.add_assoc] using h2
    have q1 := bounds_u8 h3
    have q2 := bounds_i64 h4
    dsimp only
    rw [h1, h2]
    exact ⟨b, off, rfl, lt_of_cell g1, g1, g2, q1.1, q1.2, q2.2⟩
end Go.Proofs.Ytgkiippokkofnaa
