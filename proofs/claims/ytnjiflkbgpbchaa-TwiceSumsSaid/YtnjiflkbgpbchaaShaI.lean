/-
  The contract of sha's iterator over the words that a block spreads to (layer 5): it tells sixty-four of them, in order, and which. Conditions: a block of 64 bytes.
-/
import Derived.Test.YtnjiflkbgpbchaaShaU
import Derived.Test.YtnjiflkbgpbchaaRfn
import Derived.Test.YtnjiflkbgpbchaaQuit
import Derived.OwnWalkIn
import Derived.TacticsInMore
import Derived.LoopNIn
import Derived.LoopIn
namespace Go.Proofs.Ytnjiflkbgpbchaa
open Go.RowKit Go.Sort

/-- The ring behind n words: word j lies at place j % 16. -/
def rg (b : List UInt8) : Nat → List Nat
  | 0 => List.replicate 16 0
  | n + 1 => (rg b n).set (n % 16) ((spr b 64).getD n 0)
theorem rg_length (b : List UInt8) : ∀ n, (rg b n).length = 16
  | 0 => rfl
  | n + 1 => by rw [rg, List.length_set, rg_length b n]
theorem rg_get (b : List UInt8) : ∀ n j, j < n → n ≤ j + 16 → (rg b n).getD (j % 16) 0 = (spr b 64).getD j 0
  | 0, _, h, _ => by omega
  | n + 1, j, h, h2 => by
    have hl := rg_length b n
    have hn := Nat.mod_lt n (show 0 < 16 by decide)
    have hj := Nat.mod_lt j (show 0 < 16 by decide)
    rw [rg]
    by_cases e : j = n
    · subst e
      simp [List.getD, hl, hj]
    · have ih := rg_get b n j (by omega) (by omega)
      rw [← ih]
      simp only [List.getD]
      rw [List.getElem?_set_ne (by omega)]
theorem rg_w32 (b : List UInt8) : ∀ n, W32 (rg b n)
  | 0 => by intro d hd; rw [rg, List.mem_replicate] at hd; omega
  | n + 1 => by
    intro d hd
    rw [rg] at hd
    rcases List.mem_or_eq_of_mem_set hd with h | h
    · exact rg_w32 b n d h
    · rw [h]; exact (spr_w32 b 64).getD n
theorem spr_get (b : List UInt8) (i : Nat) : ∀ n, i < n → (spr b n).getD i 0 = if i < 16 then wd b i else nxw (spr b i) i
  | 0, h => by omega
  | n + 1, h => by
    rw [spr]
    by_cases e : i = n
    · subst e
      have hl := spr_length b i
      simp only [List.getD, List.getElem?_append_right (show (spr b i).length ≤ i by omega), hl, Nat.sub_self]
      rfl
    · rw [← spr_get b i n (by omega)]
      simp only [List.getD, List.getElem?_append_left (show i < (spr b n).length by rw [spr_length]; omega)]
theorem spr_pre (b : List UInt8) (i j m : Nat) (hi : i < j) (hj : j ≤ m) : (spr b j).getD i 0 = (spr b m).getD i 0 := by
  rw [spr_get b i j hi, spr_get b i m (by omega)]

theorem ring_info : (Try.prog.info? 59).map (fun i => (i.zero, i.size)) = some (some (.agg (Array.replicate 16 (.int .u32 0))), 16) := by kernel_rfl

/-- What comes i-th. -/
def tells (s : ByteArray) (i : Nat) : Array Value := #[.int .i64 i, .int .u32 ((spr s.data.toList 64).getD i 0 : Nat)]

set_option maxRecDepth 100000 in
set_option maxHeartbeats 2000000 in
theorem spread_told (s : ByteArray) (bi : Nat) (w : World) (hc : w.cell? ⟨bi, 0, none⟩ = some (.string s)) (hs : s.size = 64) :
    Told Try.prog 29 #[.pointer (some ⟨bi, 0, none⟩)] 64 (tells s) w := by
  intro l J W0 hB _ hJ hY h0
  have hcb := (hB.cell (p := ⟨bi, 0, none⟩) (World.block_lt_of_cell? _ _ hc)).trans hc
  obtain ⟨hz16, hs16⟩ := zero_of_info ring_info
  show Calls Try.prog 29 #[.func (.yield l) #[] #[], .pointer (some ⟨bi, 0, none⟩)] W0 _
  have HJ := Lib.hid hJ
  have HY := Lib.hid hY
  have H0 := Lib.hid h0
  have HS := Lib.hid hs
  clear hJ hY h0 hs hc hB hs16
  refine (callsIn_wide (n := 2)).1 (callsIn_of_wp Try.func29 rfl trivial ?_ rfl)
  simp only [Try.ntmps29, List.size_toArray, List.length_cons, List.length_nil, Nat.reduceAdd, Nat.reduceSub, Array.replicate_succ, Array.replicate_zero, List.push_toArray, List.append_toArray, List.nil_append, List.cons_append]
  gi_wp2_with fail
  refine ⟨trivial, callsIn_wide.2 ((words_any s _).mono ?_)⟩
  rintro e w1 ⟨rfl, rfl⟩
  gi_wp2_with fail
  obtain ⟨g, hg⟩ : ∃ g, g = W0.heap.size := ⟨_, rfl⟩
  rw [← hg] at HJ HY
  rw [← hg]
  have z1 : (W0.alloc (.cells #[.string s] 9)).heap.size = g + 1 := by rw [hg]; simp
  have N1 := Nums.zeros .u32 59 (W0.alloc (.cells #[.string s] 9)) 16
  rw [z1] at N1
  have C1 : ((W0.alloc (.cells #[.string s] 9)).alloc (.cells (Array.replicate 16 (.int .u32 0)) 59)).cell? ⟨g, 0, none⟩ = some (.string s) := by
    have hb := heap_alloc_new W0 (.cells #[.string s] 9)
    rw [World.cell?_alloc_lt _ _ _ (by show g < _; rw [z1]; exact Nat.lt_succ_self _), hg]
    simp only [World.cell?]
    rw [hb]
    rfl
  have F1 : Fr (fun j => g ≤ j) W0 ((W0.alloc (.cells #[.string s] 9)).alloc (.cells (Array.replicate 16 (.int .u32 0)) 59)) := ((Fr.refl _ W0).alloc _).alloc _
  obtain ⟨W1, hW1⟩ : ∃ W1, W1 = (W0.alloc (.cells #[.string s] 9)).alloc (.cells (Array.replicate 16 (.int .u32 0)) 59) := ⟨_, rfl⟩
  rw [← hW1] at N1 C1 F1
  rw [← hW1]
  have R1 := Lib.hid (And.intro N1 (And.intro C1 (HJ.out 0 W0 W1 H0.out F1)))
  clear N1 C1 F1 z1 hW1 H0 hg hz16 hcb
  gi_loopw [9] (fun v9 wr => ∃ i : Nat, v9 = .int .i64 i ∧ i ≤ 64 ∧ Nums .u32 59 wr (g + 1) (rg s.data.toList i) ∧ wr.cell? ⟨g, 0, none⟩ = some (.string s) ∧ J i wr) (fun i _ => 64 - (intOf i).toNat)
  case atStart => exact ⟨0, rfl, by omega, R1.out.1, R1.out.2.1, R1.out.2.2⟩
  case round =>
    clear R1
    obtain ⟨i, rfl, hi, hN, hC, hJi⟩ := hrel
    have hlr := hN.lt
    by_cases hlt : i < 64
    · have hrl := rg_length s.data.toList i
      have hset : (rg s.data.toList i).set (i % 16) ((spr s.data.toList 64).getD i 0) = rg s.data.toList (i + 1) := by rw [rg]
      have cf := hN.free (i % 16)
      have cr := hN.cellD (i % 16) (by omega)
      obtain ⟨p, hp⟩ : ∃ p, p = i % 16 := ⟨_, rfl⟩
      rw [← hp] at cf cr hset
      have hp1 : (i : Int) % 16 = (p : Int) := by omega
      have hp2 : p < 16 := by omega
      have hsp := spr_get s.data.toList i 64 hlt
      have bx := (spr_w32 s.data.toList 64).getD i
      have HYi := HY.out i
      rw [tells] at HYi
      obtain ⟨x, hx⟩ : ∃ x, x = (spr s.data.toList 64).getD i 0 := ⟨_, rfl⟩
      rw [← hx] at hsp bx hset HYi
      obtain ⟨row, hrow⟩ : ∃ row, row = rg s.data.toList i := ⟨_, rfl⟩
      have hrg := rg_get s.data.toList i
      have hrw := rg_w32 s.data.toList i
      rw [← hrow] at hN hrl hset cr hrg hrw
      have HP := Lib.hid hp
      by_cases h16 : i < 16
      · rw [if_pos h16] at hsp
        have hz := HS.out
        have HW := Lib.hid (fun W (h : W.cell? ⟨g, 0, none⟩ = some (.string s)) => word_any s i g W h (by omega) (by omega))
        rw [← hsp] at HW
        have R := Lib.hid (And.intro hN (And.intro hC (And.intro hJi (And.intro hset (And.intro hrl HYi)))))
        clear hN hC hJi hset hrl HYi hsp hx hrow hrg hrw hp
        clear hz
        gi_wp2_with fail
        refine ⟨trivial, callsIn_wide.2 ((HW.out _ R.out.2.1).mono ?_)⟩
        rintro e w2 ⟨rfl, q, hw2⟩
        replace cf : w2.frozen? ⟨g + 1, p, none⟩ = false := by rw [hw2]; exact cf
        replace cr : w2.cell? ⟨g + 1, p, none⟩ = some (.int .u32 (row.getD p 0 : Nat)) := by rw [hw2]; exact cr
        have R2 := Lib.hid (show Nums .u32 59 w2 (g + 1) row ∧ w2.cell? ⟨g, 0, none⟩ = some (.string s) ∧ J i w2 from by
          rw [hw2]
          exact ⟨R.out.1.drewN q, R.out.2.1, HJ.out i wr _ R.out.2.2.1 ((Fr.refl _ wr).drewN q)⟩)
        clear hw2
        obtain ⟨fn, tmps, assign, body, hy, hR⟩ := R.out.2.2.2.2.2 (w2.setCell ⟨g + 1, p, none⟩ (.int .u32 x)) (by omega) (HJ.out i w2 _ R2.out.2.2 ((Fr.refl _ w2).setCell (p := ⟨g + 1, p, none⟩) (.inl (Nat.le_succ g)) _))
        gi_wp2_with fail
        refine hR.mono ?_
        rintro e w4 ⟨rfl, hJ4, f4⟩
        have hz2 := R2.out.1.lt
        have N4 := (R2.out.1.set p x).frame f4 (by show ¬ g + 1 < g; omega)
        rw [R.out.2.2.2.1] at N4
        have C4 : w4.cell? ⟨g, 0, none⟩ = some (.string s) := by
          rw [f4.cell (p := ⟨g, 0, none⟩) (by simp [World.setCell]; omega) (Nat.lt_irrefl g), World.cell?_setCell_far _ _ _ _ (by show g + 1 ≠ g; omega)]
          exact R2.out.2.1
        have R4 := Lib.hid (And.intro N4 (And.intro C4 hJ4))
        clear hy hR hJ4 f4 hz2 N4 C4 cf cr
        gi_wp2
        go_roundw
        case rel => exact ⟨i + 1, by go_num, by omega, R4.out.1, R4.out.2.1, R4.out.2.2⟩
        case measure => (simp [intOf]) <;> omega
      · rw [if_neg h16] at hsp
        have q16 := hrg (i - 16) (by omega) (by omega)
        have q15 := hrg (i - 15) (by omega) (by omega)
        have q7 := hrg (i - 7) (by omega) (by omega)
        have q2 := hrg (i - 2) (by omega) (by omega)
        have ep : (i - 16) % 16 = p := by omega
        rw [ep] at q16
        have hpre := spr_pre s.data.toList
        rw [nxw, hpre (i - 16) i 64 (by omega) (by omega), hpre (i - 15) i 64 (by omega) (by omega), hpre (i - 7) i 64 (by omega) (by omega), hpre (i - 2) i 64 (by omega) (by omega), ← q16, ← q15, ← q7, ← q2] at hsp
        obtain ⟨j15, hj15⟩ : ∃ j, j = i - 15 := ⟨_, rfl⟩
        obtain ⟨j7, hj7⟩ : ∃ j, j = i - 7 := ⟨_, rfl⟩
        obtain ⟨j2, hj2⟩ : ∃ j, j = i - 2 := ⟨_, rfl⟩
        rw [← hj15, ← hj7, ← hj2] at hsp
        have c15 := hN.cellD (j15 % 16) (by omega)
        have c7 := hN.cellD (j7 % 16) (by omega)
        have c2 := hN.cellD (j2 % 16) (by omega)
        have b16 := hrw.getD p
        have b15 := hrw.getD (j15 % 16)
        have b7 := hrw.getD (j7 % 16)
        have b2 := hrw.getD (j2 % 16)
        obtain ⟨p15, hp15⟩ : ∃ j, j = j15 % 16 := ⟨_, rfl⟩
        obtain ⟨p7, hp7⟩ : ∃ j, j = j7 % 16 := ⟨_, rfl⟩
        obtain ⟨p2, hp2'⟩ : ∃ j, j = j2 % 16 := ⟨_, rfl⟩
        rw [← hp15] at c15 b15 hsp
        rw [← hp7] at c7 b7 hsp
        rw [← hp2'] at c2 b2 hsp
        obtain ⟨x16, e16⟩ : ∃ x, x = row.getD p 0 := ⟨_, rfl⟩
        obtain ⟨x15, e15⟩ : ∃ x, x = row.getD p15 0 := ⟨_, rfl⟩
        obtain ⟨x7, e7⟩ : ∃ x, x = row.getD p7 0 := ⟨_, rfl⟩
        obtain ⟨x2, e2⟩ : ∃ x, x = row.getD p2 0 := ⟨_, rfl⟩
        rw [← e16] at cr b16 hsp
        rw [← e15] at c15 b15 hsp
        rw [← e7] at c7 b7 hsp
        rw [← e2] at c2 b2 hsp
        have w15 : IntKind.i64.wrap ((i : Int) - 15) = (j15 : Int) := by rw [IntWalk.i64_in _ (by omega)]; omega
        have w7 : IntKind.i64.wrap ((i : Int) - 7) = (j7 : Int) := by rw [IntWalk.i64_in _ (by omega)]; omega
        have w2' : IntKind.i64.wrap ((i : Int) - 2) = (j2 : Int) := by rw [IntWalk.i64_in _ (by omega)]; omega
        have m15 : Int.tmod (j15 : Int) 16 = (p15 : Int) := by rw [Int.tmod_eq_emod_of_nonneg (by omega)]; omega
        have m7 : Int.tmod (j7 : Int) 16 = (p7 : Int) := by rw [Int.tmod_eq_emod_of_nonneg (by omega)]; omega
        have m2 : Int.tmod (j2 : Int) 16 = (p2 : Int) := by rw [Int.tmod_eq_emod_of_nonneg (by omega)]; omega
        have l15 : (p15 : Int) < 16 := by omega
        have l7 : (p7 : Int) < 16 := by omega
        have l2 : (p2 : Int) < 16 := by omega
        have S0 := Lib.hid (fun W => show Calls Try.prog 30 #[.int .u32 x15, .int .i64 7, .int .i64 18, .int .i64 3] W fun e w' => e = .returned (.int .u32 (sm0 x15)) ∧ ∃ q, w' = W.drewN q from smix_any x15 7 18 3 W b15 (by omega) (by omega) (by omega))
        have S1 := Lib.hid (fun W => show Calls Try.prog 30 #[.int .u32 x2, .int .i64 17, .int .i64 19, .int .i64 10] W fun e w' => e = .returned (.int .u32 (sm1 x2)) ∧ ∃ q, w' = W.drewN q from smix_any x2 17 19 10 W b2 (by omega) (by omega) (by omega))
        have bs0 := sm0_lt b15
        have bs1 := sm1_lt b2
        obtain ⟨s0, hs0⟩ : ∃ x, x = sm0 x15 := ⟨_, rfl⟩
        obtain ⟨s1, hs1⟩ : ∃ x, x = sm1 x2 := ⟨_, rfl⟩
        rw [← hs0] at bs0 hsp S0
        rw [← hs1] at bs1 hsp S1
        obtain ⟨y1, hy1⟩ : ∃ x, x = (s0 + x7) % 4294967296 := ⟨_, rfl⟩
        obtain ⟨y2, hy2⟩ : ∃ x, x = (y1 + s1) % 4294967296 := ⟨_, rfl⟩
        have k1 : IntKind.u32.wrap ((s0 : Int) + (x7 : Int)) = (y1 : Int) := by rw [IntKind.wrap_u32]; omega
        have k2 : IntKind.u32.wrap ((y1 : Int) + (s1 : Int)) = (y2 : Int) := by rw [IntKind.wrap_u32]; omega
        have k3 : IntKind.u32.wrap ((x16 : Int) + (y2 : Int)) = (x : Int) := by rw [IntKind.wrap_u32]; omega
        have t16 : decide ((i : Int) < 16) = false := by simp; omega
        have lp : (p : Int) < 16 := by omega
        have r15 : (15 : Int) ≤ (i : Int) := by omega
        have R := Lib.hid (And.intro hN (And.intro hC (And.intro hJi (And.intro hset (And.intro hrl HYi)))))
        have HE := Lib.hid (And.intro e16 (And.intro cr cf))
        clear hN hC hJi hset hrl HYi hsp hx hrow hrg hrw hp hpre q16 q15 q7 q2 ep hj15 hj7 hj2 hp15 hp7 hp2' e16 e15 e7 e2 hs0 hs1 hy1 hy2 b16 b15 b7 b2 bs0 bs1
        gi_wp2_with fail
        refine wpIn_wide.2 ?_
        refine wp_quiet_tail 23 (by kernel_rfl) (by kernel_rfl) wr rfl ?_
        simp only [List.take_succ_cons, List.take_zero, List.drop_succ_cons, List.drop_zero]
        repeat (go_big_quiet_step ((first
          | (go_at_call 30; with_reducible exact Calls.quiet_of (S0.out _))
          | (go_at_call 30; with_reducible exact Calls.quiet_of (S1.out _)))))
        refine wpQuiet_nil ?_
        intro q
        obtain ⟨w2, hw2⟩ : ∃ w2, w2 = wr.drewN q := ⟨_, rfl⟩
        rw [← hw2]
        replace cf : w2.frozen? ⟨g + 1, p, none⟩ = false := by rw [hw2]; exact cf
        replace cr : w2.cell? ⟨g + 1, p, none⟩ = some (.int .u32 (x16 : Nat)) := by rw [hw2]; exact cr
        have R2 := Lib.hid (show Nums .u32 59 w2 (g + 1) row ∧ w2.cell? ⟨g, 0, none⟩ = some (.string s) ∧ J i w2 from by
          rw [hw2]
          exact ⟨R.out.1.drewN q, R.out.2.1, HJ.out i wr _ R.out.2.2.1 ((Fr.refl _ wr).drewN q)⟩)
        clear hw2 c15 c7 c2
        go_wp2_with fail
        obtain ⟨fn, tmps, assign, body, hy, hR⟩ := R.out.2.2.2.2.2 (w2.setCell ⟨g + 1, p, none⟩ (.int .u32 x)) (by omega) (HJ.out i w2 _ R2.out.2.2 ((Fr.refl _ w2).setCell (p := ⟨g + 1, p, none⟩) (.inl (Nat.le_succ g)) _))
        gi_wp2_with fail
        refine hR.mono ?_
        rintro e w4 ⟨rfl, hJ4, f4⟩
        have hz2 := R2.out.1.lt
        have N4 := (R2.out.1.set p x).frame f4 (by show ¬ g + 1 < g; omega)
        rw [R.out.2.2.2.1] at N4
        have C4 : w4.cell? ⟨g, 0, none⟩ = some (.string s) := by
          rw [f4.cell (p := ⟨g, 0, none⟩) (by simp [World.setCell]; omega) (Nat.lt_irrefl g), World.cell?_setCell_far _ _ _ _ (by show g + 1 ≠ g; omega)]
          exact R2.out.2.1
        have R4 := Lib.hid (And.intro N4 (And.intro C4 hJ4))
        clear hy hR hJ4 f4 hz2 N4 C4 cf cr
        gi_wp2
        go_roundw
        case rel => exact ⟨i + 1, by go_num, by omega, R4.out.1, R4.out.2.1, R4.out.2.2⟩
        case measure => (simp [intOf]) <;> omega
    · obtain rfl : i = 64 := by omega
      have R := Lib.hid hJi
      clear hN hC hJi
      gi_wp2
      go_end0
      exact ⟨⟨_, rfl⟩, R.out⟩
end Go.Proofs.Ytnjiflkbgpbchaa
