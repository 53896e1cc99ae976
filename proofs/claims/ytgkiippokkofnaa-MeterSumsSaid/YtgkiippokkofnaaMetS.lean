/-
  For every most and every row of parts MeterSums answers true over this seat's translation. Conditions: the row holds uint16s.
-/
import Derived.Test.YtgkiippokkofnaaMetL
import Derived.OpenShut
namespace Go.Proofs.Ytgkiippokkofnaa
open Go.RowKit

theorem meterSums_many (o : Int) (a : Option Addr) (len cap : Nat) (w : World) (hl : 100 < len) (hm : len ≤ maxLen) :
    Calls Try.prog 4 #[.int .i64 o, .slice a len cap] w fun e w' => e = .returned (.bool true) ∧ Below w.heap.size w w' := by
  unfold maxLen at hm
  have t3 : decide ((100 : Int) < (len : Int)) = true := by simp; omega
  go_enter Try.func4, Try.ntmps4
  go_wp2_with fail
  refine (alive_any _).mono ?_
  rintro e w1 ⟨rfl, b1⟩
  have B1 := Lib.hid b1
  clear b1
  go_wp2
  go_ret
  exact ⟨rfl, B1.out⟩

theorem tk_in (O a n : Int) (h0 : 0 ≤ n) (_ha : 0 ≤ a) (hO : O ≤ 9223372036854775807) (h : a + n ≤ O) : tk O a a a n = (0, a + n, a + n, a + n) := by
  rw [tk, if_neg (by omega), mv, if_neg (by omega), if_neg (by omega)]
  split
  · rfl
  · have : n = 0 := by omega
    subst this
    simp
theorem tk_out (O a n : Int) (h0 : 0 ≤ n) (hO : O ≤ 9223372036854775807) (h : O < a + n) : tk O a a a n = (5, a, a, a) := by
  rw [tk, if_neg (by omega), mv, if_neg (by omega), if_pos (by omega)]

set_option maxHeartbeats 1000000 in
theorem meterSums_few (o O : Int) (a : Option Addr) (len cap : Nat) (zs : List Int) (w : World) (hl : len ≤ 100) (hO : max o 0 = O) (ho : o ≤ 9223372036854775807)
    (hc : ∀ k, k < len → ∃ b off, a = some ⟨b, off, none⟩ ∧ b < w.heap.size ∧ w.cell? ⟨b, off + k, none⟩ = some (.int .u16 (zs.getD k 0)) ∧ 0 ≤ zs.getD k 0 ∧ zs.getD k 0 ≤ 65535) :
    Calls Try.prog 4 #[.int .i64 o, .slice a len cap] w fun e w' => e = .returned (.bool true) ∧ Below w.heap.size w w' := by
  have t3 : decide ((100 : Int) < (len : Int)) = false := by simp; omega
  have hO2 : O ≤ 9223372036854775807 := by omega
  have hO1 : 0 ≤ O := by omega
  have hI : (if o < 0 then 0 else o) = O := by split <;> omega
  have HO := Lib.hid hO
  have HC := Lib.hid hc
  clear hc hO ho
  go_enter Try.func4, Try.ntmps4
  go_wp2_with fail
  refine (alive_any _).mono ?_
  rintro e w1 ⟨rfl, hb⟩
  have HB := Lib.hid hb
  clear hb
  go_wp2_with fail
  refine (new_any _ _).mono ?_
  rintro e w2 ⟨rfl, rfl⟩
  rw [HO.out]
  have M0 := Mt.new w1 O
  have F0 : Fr (fun j => w1.heap.size ≤ j) w1 (w1.alloc (.cells #[.int .i64 O, .int .i64 0, .int .i64 0, .int .i64 0] 42)) := (Fr.refl _ w1).alloc _
  obtain ⟨b, hb⟩ : ∃ b, b = w1.heap.size := ⟨_, rfl⟩
  rw [← hb] at M0 F0
  rw [← hb]
  generalize w1.alloc (.cells #[.int .i64 O, .int .i64 0, .int .i64 0, .int .i64 0] 42) = W at *
  have HW := Lib.hid hb
  have F := Lib.hid F0
  have M := Lib.hid M0
  clear F0 M0 hb t3
  go_wp2_with fail
  go_loopw [6, 7] (fun v6 v7 wr => ∃ (k : Nat) (c : Int), k ≤ len ∧ 0 ≤ c ∧ c ≤ O ∧ c ≤ 65535 * k ∧ v6 = .int .i64 c ∧ v7 = .int .i64 k ∧ Mt wr b O c c c ∧ Fr (fun j => b ≤ j) w1 wr)
    (fun _ i _ => len - (intOf i).toNat)
  case atStart =>
    exact ⟨0, 0, Nat.zero_le _, Int.le_refl _, hO1, by omega, rfl, rfl, M.out, F.out⟩
  case round =>
    obtain ⟨k, c, hk, hc0, hcO, hck, rfl, rfl, hm, hf⟩ := hrel
    have RM := Lib.hid hm
    have RF := Lib.hid hf
    clear hm hf
    by_cases hlt : k < len
    · obtain ⟨bx, off, rfl, hbx, hcell, h0, h255⟩ := HC.out k hlt
      have cx := (RF.out.cell (p := ⟨bx, off + k, none⟩) (Nat.lt_of_lt_of_le hbx HB.out.size) (by show ¬ b ≤ bx; have := HW.out; have := HB.out.size; omega)).trans ((HB.out.cell (p := ⟨bx, off + k, none⟩) hbx).trans hcell)
      clear hcell
      obtain ⟨n, hcz⟩ : ∃ n : Nat, zs.getD k 0 = (n : Int) := ⟨(zs.getD k 0).toNat, by omega⟩
      rw [hcz] at cx h255
      clear hcz h0
      have i1 : IntKind.i64.wrap (c + n) = c + n := IntWalk.i64_in _ (by omega)
      by_cases hin : c + n ≤ O
      · have z1 : decide (c + n ≤ O) = true := by simp [hin]
        go_wp2_with fail
        refine (take_any b O c c c n _ RM.out hc0 hcO hO2 hc0 (by omega)).mono ?_
        rw [tk_in O c n (by omega) hc0 hO2 hin]
        rintro e w3 ⟨rfl, m3, f3⟩
        have M3 := Lib.hid (And.intro m3 (RF.out.then_ f3 (fun j _ h => by rw [h]; exact Nat.le_refl _)))
        clear m3 f3
        go_wp2
        exact ⟨⟨k + 1, c + n, by omega, by omega, hin, by omega, rfl, by go_num, M3.out.1, M3.out.2⟩, by simp [intOf]; omega⟩
      · have z1 : decide (c + n ≤ O) = false := by simp; omega
        go_wp2_with fail
        refine (take_any b O c c c n _ RM.out hc0 hcO hO2 hc0 (by omega)).mono ?_
        rw [tk_out O c n (by omega) hO2 (by omega)]
        rintro e w3 ⟨rfl, m3, f3⟩
        have M3 := Lib.hid (And.intro m3 (RF.out.then_ f3 (fun j _ h => by rw [h]; exact Nat.le_refl _)))
        clear m3 f3
        go_wp2
        exact ⟨⟨k + 1, c, by omega, hc0, hcO, by omega, rfl, by go_num, M3.out.1, M3.out.2⟩, by simp [intOf]; omega⟩
    · go_wp2_with fail
      refine (used_any b O c c c _ RM.out).mono ?_
      rintro e w3 ⟨rfl, b3⟩
      have M3 := Lib.hid (And.intro (RM.out.keep (b3.block _ RM.out.lt)) (RF.out.then_ (T := fun _ => False) ⟨b3.os, b3.tape, b3.output, b3.size, fun j hj _ => b3.block j hj⟩ (fun _ _ h => h.elim)))
      clear b3
      go_wp2_with fail
      refine (taken_any b O c c c _ M3.out.1).mono ?_
      rintro e w4 ⟨rfl, b3⟩
      have M4 := Lib.hid (And.intro (M3.out.1.keep (b3.block _ M3.out.1.lt)) (M3.out.2.then_ (T := fun _ => False) ⟨b3.os, b3.tape, b3.output, b3.size, fun j hj _ => b3.block j hj⟩ (fun _ _ h => h.elim)))
      clear b3
      go_wp2_with fail
      refine (top_any b O c c c _ M4.out.1).mono ?_
      rintro e w5 ⟨rfl, b3⟩
      have M5 := Lib.hid (And.intro (M4.out.1.keep (b3.block _ M4.out.1.lt)) (M4.out.2.then_ (T := fun _ => False) ⟨b3.os, b3.tape, b3.output, b3.size, fun j hj _ => b3.block j hj⟩ (fun _ _ h => h.elim)))
      clear b3
      go_wp2_with fail
      refine (give_any b O c c c c _ M5.out.1 hc0 (by omega) hc0 (by omega)).mono ?_
      rw [show gv c c c c = (0, 0, c, c) from by rw [gv, mv, if_neg (by omega), if_neg (by omega), Int.add_right_neg, if_neg (by omega), Int.add_zero]]
      rintro e w6 ⟨rfl, m3, f3⟩
      have M6 := Lib.hid (And.intro m3 (M5.out.2.then_ f3 (fun j _ h => by rw [h]; exact Nat.le_refl _)))
      clear m3 f3
      go_wp2_with fail
      refine (used_any b O 0 c c _ M6.out.1).mono ?_
      rintro e w7 ⟨rfl, b3⟩
      have M7 := Lib.hid (And.intro (M6.out.1.keep (b3.block _ M6.out.1.lt)) (M6.out.2.then_ (T := fun _ => False) ⟨b3.os, b3.tape, b3.output, b3.size, fun j hj _ => b3.block j hj⟩ (fun _ _ h => h.elim)))
      clear b3
      go_wp2_with fail
      refine (top_any b O 0 c c _ M7.out.1).mono ?_
      rintro e w8 ⟨rfl, b3⟩
      have M8 := Lib.hid (And.intro (M7.out.1.keep (b3.block _ M7.out.1.lt)) (M7.out.2.then_ (T := fun _ => False) ⟨b3.os, b3.tape, b3.output, b3.size, fun j hj _ => b3.block j hj⟩ (fun _ _ h => h.elim)))
      clear b3
      go_wp2
      go_ret
      exact ⟨rfl, HB.out.trans ((Fr.below M8.out.2 (Nat.le_of_eq HW.out) fun _ h => h).mono (by have := HW.out; have := HB.out.size; omega))⟩

theorem meterSums_any (o : Int) (a : Option Addr) (len cap : Nat) (zs : List Int) (w : World) (ho : (Lit.int .i64 o).wf = true)
    (hr : (a = none ∧ len = 0 ∧ cap = 0 ∧ zs = []) ∨ ∃ x, a = some x ∧ len ≤ cap ∧ cap ≤ maxLen ∧ zs.length = cap ∧ (∀ i, i < zs.length → w.cell? (x.add i) = some (.int .u16 (zs.getD i 0))) ∧ ∀ n ∈ zs, (Lit.int .u16 n).wf = true) :
    Calls Try.prog 4 #[.int .i64 o, .slice a len cap] w fun e w' => e = .returned (.bool true) ∧ Below w.heap.size w w' := by
  have hlm : len ≤ maxLen := by
    rcases hr with ⟨_, rfl, _⟩ | ⟨_, _, h, h', _⟩
    · exact Nat.zero_le _
    · exact Nat.le_trans h h'
  by_cases hl : 100 < len
  · exact meterSums_many o a len cap w hl hlm
  · refine meterSums_few o _ a len cap zs w (by omega) rfl (bounds_i64 ho).2 fun k hk => ?_
    rcases hr with ⟨_, rfl, _⟩ | ⟨x, rfl, h1, _, h3, h4, h5⟩
    · omega
    · have hc := h4 k (by omega)
      obtain ⟨b, off, spot⟩ := x
      have hspot : spot = none := by simpa [Addr.add] using World.cell?_spot (h4 0 (by omega))
      subst hspot
      have hc2 : w.cell? ⟨b, off + k, none⟩ = some (.int .u16 (zs.getD k 0)) := by
        by_cases h0 : k = 0
        · subst h0; simpa [Addr.add] using hc
        · simpa [Addr.add, h0] using hc
      have hz : zs.getD k 0 ∈ zs := by
        have hkz : k < zs.length := by omega
        have : zs.getD k 0 = zs[k] := by simp [List.getD, List.getElem?_eq_getElem hkz]
        rw [this]
        exact List.getElem_mem _
      have hw := bounds_u16 (h5 _ hz)
      exact ⟨b, off, rfl, lt_of_cell hc2, hc2, hw.1, hw.2⟩
end Go.Proofs.Ytgkiippokkofnaa
