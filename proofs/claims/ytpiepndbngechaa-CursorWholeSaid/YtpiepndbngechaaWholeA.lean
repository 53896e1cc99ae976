/-
  The walks of CursorWhole over this seat's translation, case by case: it answers true. No condition beyond its arguments' kinds.
-/
import Derived.Test.YtpiepndbngechaaCurG
import Derived.OpenShut
namespace Go.Proofs.Ytpiepndbngechaa
open Go.RowKit

theorem extract_none (s : ByteArray) (p : Nat) : s.extract p p = ⟨#[]⟩ := by
  apply ByteArray.ext
  simp
theorem extract_join (s : ByteArray) (p m : Nat) : s.extract 0 p ++ s.extract p (p + m) = s.extract 0 (p + m) := by
  apply ByteArray.ext
  simp [ByteArray.data_extract]
theorem extract_rest (s : ByteArray) (p : Nat) (h : p ≤ s.size) : s.extract 0 p ++ s.extract p s.size = s := by
  obtain ⟨m, hm⟩ : ∃ m, s.size = p + m := ⟨s.size - p, by omega⟩
  rw [hm, extract_join, ← hm]
  apply ByteArray.ext
  simp

theorem whole_long (s : ByteArray) (a : Option Addr) (len cap : Nat) (w : World) (hs : 1000 < s.size) (hm : s.size ≤ maxLen) :
    Calls Try.prog 3 #[.string s, .slice a len cap] w fun e w' => e = .returned (.bool true) ∧ Below w.heap.size w w' := by
  unfold maxLen at hm
  have t0 : (1000 : Int) < (s.size : Int) := by omega
  have t1 : decide ((1000 : Int) < (s.size : Int)) = true := by simpa using t0
  go_enter Try.func3, Try.ntmps3
  go_wp2_with fail
  refine (alive_any _).mono ?_
  rintro e w1 ⟨rfl, hb⟩
  have H := Lib.hid hb
  clear hb
  go_wp2
  go_ret
  exact ⟨rfl, H.out⟩

theorem whole_many (s : ByteArray) (a : Option Addr) (len cap : Nat) (w : World) (hs : s.size ≤ 1000) (hl : 100 < len) (hm : len ≤ maxLen) :
    Calls Try.prog 3 #[.string s, .slice a len cap] w fun e w' => e = .returned (.bool true) ∧ Below w.heap.size w w' := by
  unfold maxLen at hm
  have t0 : ¬ (1000 : Int) < (s.size : Int) := by omega
  have t1 : decide ((1000 : Int) < (s.size : Int)) = false := by simpa using t0
  have t2 : (100 : Int) < (len : Int) := by omega
  have t3 : decide ((100 : Int) < (len : Int)) = true := by simpa using t2
  go_enter Try.func3, Try.ntmps3
  go_wp2_with fail
  refine (alive_any _).mono ?_
  rintro e w1 ⟨rfl, hb⟩
  have H := Lib.hid hb
  clear hb
  go_wp2
  go_ret
  exact ⟨rfl, H.out⟩

set_option maxHeartbeats 1000000 in
theorem whole_few (s : ByteArray) (a : Option Addr) (len cap : Nat) (zs : List Int) (w : World) (hs : s.size ≤ 1000) (hl : len ≤ 100)
    (hc : ∀ k, k < len → ∃ b off, a = some ⟨b, off, none⟩ ∧ b < w.heap.size ∧ w.cell? ⟨b, off + k, none⟩ = some (.int .u8 (zs.getD k 0)) ∧ 0 ≤ zs.getD k 0 ∧ zs.getD k 0 ≤ 255) :
    Calls Try.prog 3 #[.string s, .slice a len cap] w fun e w' => e = .returned (.bool true) ∧ Below w.heap.size w w' := by
  have t0 : ¬ (1000 : Int) < (s.size : Int) := by omega
  have t1 : decide ((1000 : Int) < (s.size : Int)) = false := by simpa using t0
  have t2 : ¬ (100 : Int) < (len : Int) := by omega
  have t3 : decide ((100 : Int) < (len : Int)) = false := by simpa using t2
  have HC := Lib.hid hc
  clear hc
  go_enter Try.func3, Try.ntmps3
  go_wp2_with fail
  refine (alive_any _).mono ?_
  rintro e w1 ⟨rfl, hb⟩
  have HB := Lib.hid hb
  clear hb
  go_wp2_with fail
  refine (read_any _ _).mono ?_
  rintro e w2 ⟨rfl, rfl⟩
  have R0 := Rd.new w1 s
  have F0 : Fr (fun j => w1.heap.size ≤ j) w1 (w1.alloc (.cells #[.string s, .int .i64 0, .int .i64 0] 35)) := (Fr.refl _ w1).alloc _
  obtain ⟨b, hb⟩ : ∃ b, b = w1.heap.size := ⟨_, rfl⟩
  rw [← hb] at R0 F0
  rw [← hb]
  generalize w1.alloc (.cells #[.string s, .int .i64 0, .int .i64 0] 35) = W at *
  have F := Lib.hid F0
  have R := Lib.hid R0
  have HW := Lib.hid hb
  clear F0 R0 hb t1 t3
  go_wp2_with fail
  go_loopw [6, 7] (fun all i wr => ∃ k p : Nat, k ≤ len ∧ p ≤ s.size ∧ i = .int .i64 k ∧ all = .string (s.extract 0 p) ∧ Rd wr b s p 0 ∧ Fr (fun j => b ≤ j) w1 wr)
    (fun _ i _ => len - (intOf i).toNat)
  case atStart =>
    exact ⟨0, 0, Nat.zero_le _, Nat.zero_le _, rfl, by rw [extract_none], R.out, F.out⟩
  case round =>
    obtain ⟨k, p, hk, hp, rfl, rfl, hr, hf⟩ := hrel
    have RR := Lib.hid hr
    have RF := Lib.hid hf
    clear hr hf
    by_cases hlt : k < len
    · obtain ⟨bx, off, rfl, hbx, hcell, h0, h255⟩ := HC.out k hlt
      have cx := (RF.out.cell (p := ⟨bx, off + k, none⟩) (Nat.lt_of_lt_of_le hbx HB.out.size) (by show ¬ b ≤ bx; have := HW.out; have := HB.out.size; omega)).trans ((HB.out.cell (p := ⟨bx, off + k, none⟩) hbx).trans hcell)
      clear hcell
      obtain ⟨c, hcz⟩ : ∃ c : Nat, zs.getD k 0 = (c : Int) := ⟨(zs.getD k 0).toNat, by omega⟩
      rw [hcz] at cx h255
      clear hcz h0
      by_cases hcc : (s.size : Int) - (p : Int) < (c : Int)
      · obtain ⟨m, hm⟩ : ∃ m : Nat, m = s.size - p := ⟨_, rfl⟩
        have HM : Hid ((s.size : Int) - (p : Int) = (m : Int)) := by show (s.size : Int) - (p : Int) = (m : Int); omega
        have hpm : p + m ≤ s.size := by omega
        clear hm
        go_wp2_with fail
        refine (left_any b s p 0 _ RR.out hp (by unfold maxLen; omega)).mono ?_
        rintro e w3 ⟨rfl, m3, rfl⟩
        go_wp2_with fail
        refine (left_any b s p 0 _ (RR.out.drewN m3) hp (by unfold maxLen; omega)).mono ?_
        rintro e w3 ⟨rfl, m4, rfl⟩
        go_wp2_with fail
        rw [HM.out]
        refine (take_ok b s p _ (Rd.drewN RR.out _) (by omega) m (by omega)).mono ?_
        rintro e w4 ⟨rfl, r4, f4⟩
        have R4 := Lib.hid r4
        have F4 := Lib.hid ((RF.out.drewN _).then_ f4 (fun j _ h => by rw [h]; exact Nat.le_refl _))
        clear r4 f4
        have e1 : s.extract 0 p ++ s.extract p (p + m) = s.extract 0 (p + m) := extract_join s p m
        have e2 : (s.extract 0 p).size = p := by rw [ByteArray.size_extract]; omega
        have e3 : (s.extract p (p + m)).size = m := by rw [ByteArray.size_extract]; omega
        have e4 : (s.extract 0 (p + m)).size = p + m := by rw [ByteArray.size_extract]; omega
        have b1 : p + m ≤ 1000 := by omega
        go_wp2_with fail
        refine (at_any b s (p + m) 0 _ R4.out).mono ?_
        rintro e w5 ⟨rfl, rfl⟩
        clear e1 e2 e3
        have e5 : (((p + m : Nat) : Int) != ((p + m : Nat) : Int)) = false := by simp
        go_wp2
        clear e4 e5
        exact ⟨⟨k + 1, p + m, by omega, by omega, by go_num, rfl, R4.out, F4.out⟩, by simp [intOf]; omega⟩
      · have hpm : p + c ≤ s.size := by omega
        go_wp2_with fail
        refine (left_any b s p 0 _ RR.out hp (by unfold maxLen; omega)).mono ?_
        rintro e w3 ⟨rfl, m3, rfl⟩
        go_wp2_with fail
        refine (take_ok b s p _ (Rd.drewN RR.out _) (by omega) c (by omega)).mono ?_
        rintro e w4 ⟨rfl, r4, f4⟩
        have R4 := Lib.hid r4
        have F4 := Lib.hid ((RF.out.drewN _).then_ f4 (fun j _ h => by rw [h]; exact Nat.le_refl _))
        clear r4 f4
        have e1 : s.extract 0 p ++ s.extract p (p + c) = s.extract 0 (p + c) := extract_join s p c
        have e2 : (s.extract 0 p).size = p := by rw [ByteArray.size_extract]; omega
        have e3 : (s.extract p (p + c)).size = c := by rw [ByteArray.size_extract]; omega
        have e4 : (s.extract 0 (p + c)).size = p + c := by rw [ByteArray.size_extract]; omega
        have b1 : p + c ≤ 1000 := by omega
        go_wp2_with fail
        refine (at_any b s (p + c) 0 _ R4.out).mono ?_
        rintro e w5 ⟨rfl, rfl⟩
        clear e1 e2 e3
        have e5 : (((p + c : Nat) : Int) != ((p + c : Nat) : Int)) = false := by simp
        go_wp2
        clear e4 e5
        exact ⟨⟨k + 1, p + c, by omega, by omega, by go_num, rfl, R4.out, F4.out⟩, by simp [intOf]; omega⟩
    · go_wp2_with fail
      refine (all_ok b s p _ RR.out hp (by omega)).mono ?_
      rintro e w4 ⟨rfl, r4, f4⟩
      have R4 := Lib.hid r4
      have F4 := Lib.hid (RF.out.then_ f4 (fun j _ h => by rw [h]; exact Nat.le_refl _))
      clear r4 f4
      have e1 : s.extract 0 p ++ s.extract p s.size = s := extract_rest s p hp
      have e2 : (s.extract 0 p).size = p := by rw [ByteArray.size_extract]; omega
      have e3 : (s.extract p s.size).size = s.size - p := by rw [ByteArray.size_extract]; omega
      have b1 : s.size - p ≤ 1000 := by omega
      have b2 : p ≤ 1000 := by omega
      go_wp2_with fail
      refine (left_any b s s.size 0 _ R4.out (Nat.le_refl _) (by unfold maxLen; omega)).mono ?_
      rintro e w5 ⟨rfl, m5, rfl⟩
      clear e1 e2 e3
      have e4 : ((s.size : Int) - (s.size : Int)) = 0 := by omega
      go_wp2_with fail
      refine (fault_any b s s.size 0 _ (R4.out.drewN _)).mono ?_
      rintro e w6 ⟨rfl, rfl⟩
      clear e4
      go_wp2
      go_ret
      exact ⟨rfl, HB.out.trans (((Fr.below F4.out (Nat.le_of_eq HW.out) fun _ h => h).mono (by have := HW.out; have := HB.out.size; omega)).trans ((Fr.refl (fun _ => False) w4).drewN m5 |>.below (by have := HW.out; have := HB.out.size; have := F4.out.size; omega) (fun _ h => h.elim)))⟩

theorem whole_any (s : ByteArray) (a : Option Addr) (len cap : Nat) (zs : List Int) (w : World) (hm : s.size ≤ maxLen)
    (hr : (a = none ∧ len = 0 ∧ cap = 0 ∧ zs = []) ∨ ∃ x, a = some x ∧ len ≤ cap ∧ cap ≤ maxLen ∧ zs.length = cap ∧ (∀ i, i < zs.length → w.cell? (x.add i) = some (.int .u8 (zs.getD i 0))) ∧ ∀ n ∈ zs, (Lit.int .u8 n).wf = true) :
    Calls Try.prog 3 #[.string s, .slice a len cap] w fun e w' => e = .returned (.bool true) ∧ Below w.heap.size w w' := by
  have hlm : len ≤ maxLen := by
    rcases hr with ⟨_, rfl, _⟩ | ⟨_, _, h, h', _⟩
    · exact Nat.zero_le _
    · exact Nat.le_trans h h'
  by_cases hs : 1000 < s.size
  · exact whole_long s a len cap w hs hm
  · by_cases hl : 100 < len
    · exact whole_many s a len cap w (by omega) hl hlm
    · refine whole_few s a len cap zs w (by omega) (by omega) fun k hk => ?_
      rcases hr with ⟨_, rfl, _⟩ | ⟨x, rfl, h1, _, h3, h4, h5⟩
      · omega
      · have hc := h4 k (by omega)
        obtain ⟨b, off, spot⟩ := x
        have hspot : spot = none := by simpa [Addr.add] using World.cell?_spot (h4 0 (by omega))
        subst hspot
        have hc2 : w.cell? ⟨b, off + k, none⟩ = some (.int .u8 (zs.getD k 0)) := by
          by_cases h0 : k = 0
          · subst h0; simpa [Addr.add] using hc
          · simpa [Addr.add, h0] using hc
        have hb : b < w.heap.size := by
          rcases Nat.lt_or_ge b w.heap.size with h | h
          · exact h
          · simp [World.cell?, Array.getElem?_eq_none h] at hc2
        have hz : zs.getD k 0 ∈ zs := by
          have hkz : k < zs.length := by omega
          have : zs.getD k 0 = zs[k] := by simp [List.getD, List.getElem?_eq_getElem hkz]
          rw [this]
          exact List.getElem_mem _
        have hw := bounds_u8 (h5 _ hz)
        exact ⟨b, off, rfl, hb, hc2, hw.1, hw.2⟩
end Go.Proofs.Ytpiepndbngechaa
