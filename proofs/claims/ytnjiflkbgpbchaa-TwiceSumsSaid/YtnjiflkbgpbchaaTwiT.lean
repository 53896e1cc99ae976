/-
  For every text, place, number and bytes TwiceTurned answers true. Conditions: a text has at most maxLen bytes.
-/
import Derived.Test.YtnjiflkbgpbchaaTwiL
import Derived.Laws.AppendOwn
namespace Go.Proofs.Ytnjiflkbgpbchaa
open Go.RowKit Go.Sort

/-- '[]byte(s)', and that it has room for s. -/
theorem bytes8c (s : ByteArray) (w : World) : ∃ c W, (convert 9 32 (.string s)).run Try.prog w = .ok (.slice (some ⟨w.heap.size, 0, none⟩) s.size c) W ∧
    Row8 W w.heap.size s.data.toList ∧ Below w.heap.size w W ∧ w.heap.size < W.heap.size ∧ s.size ≤ c := by
  obtain ⟨c, W, h, h1, h2, h3⟩ := bytes8 s w
  refine ⟨c, W, h, h1, h2, h3, ?_⟩
  have hr := run_bytes_of_string (P := Try.prog) w 9 32 5 s Try.underlying9 Try.underlying32 Try.underlying5
  rw [h] at hr
  injection hr with h4 h5
  injection h4 with _ _ h6
  rw [h6]
  exact grownCap_ge _ _ _ _
theorem Row8.take {w : World} {g : Nat} {l : List UInt8} (h : Row8 w g l) (n : Nat) : Row8 w g (l.take n) :=
  row8_iff.2 fun i hi => by
    have hi' : i < l.length := by rw [List.length_take] at hi; omega
    rw [List.getElem_take]
    exact ⟨h.cell i hi', h.free i hi'⟩
theorem Row8.set {w : World} {g : Nat} {l : List UInt8} (h : Row8 w g l) (j : Nat) (x : UInt8) : Row8 (w.setCell ⟨g, j, none⟩ (.int .u8 (x.toNat : Int))) g (l.set j x) :=
  row8_iff.2 fun i hi => by
    have hi' : i < l.length := by simpa using hi
    refine ⟨?_, by rw [World.frozen?_setCell]; exact h.free i hi'⟩
    by_cases e : j = i
    · subst e
      rw [World.cell?_setCell_same _ _ _ (h.cell j hi'), List.getElem_set_self]
    · rw [World.cell?_setCell_other _ _ _ _ (fun q => e (congrArg Addr.off q)), List.getElem_set_ne e]
      exact h.cell i hi'

theorem turned_byte (y : UInt8) (b : Nat) : ∃ z : UInt8, ((y.toNat : Int) + 1 + (b : Int) % 255) % 256 = (z.toNat : Int) ∧ z ≠ y := by
  have hy := y.toNat_lt
  refine ⟨UInt8.ofNat (y.toNat + 1 + b % 255), ?_, ?_⟩
  · rw [u8_toNat_ofNat]
    omega
  · intro h
    have := congrArg UInt8.toNat h
    rw [u8_toNat_ofNat] at this
    omega

set_option maxRecDepth 100000 in
theorem twiceTurned_small (s m : ByteArray) (a b : Nat) (ha : a < 256) (hb : b < 256) (w : World) (h1 : s.size ≤ 500) (h2 : m.size ≤ 100) :
    Calls Try.prog 4 #[.string s, .int .u8 a, .int .u8 b, .string m] w fun e w' => e = .returned (.bool true) ∧ Below w.heap.size w w' := by
  have t1 : decide ((500 : Int) < (s.size : Int)) = false := by simp; omega
  have t2 : decide ((100 : Int) < (m.size : Int)) = false := by simp; omega
  have hl := chk_length s
  obtain ⟨L, hL⟩ : ∃ L, L = chk s := ⟨_, rfl⟩
  have h7 := fun w => check_any s w (by omega)
  have h8 := fun t w => fits_any s t w (by omega)
  rw [← hL] at h7 hl h8
  obtain ⟨j, hj⟩ : ∃ j : Nat, (a : Int) % 4 = (j : Int) := ⟨a % 4, by omega⟩
  have hj4 : j < 4 := by omega
  have f1 := h8 (bs (L.take j))
  rw [decide_eq_false (by intro h; have := congrArg List.length (bs_inj h); rw [List.length_take] at this; omega)] at f1
  have H7 := Lib.hid h7
  have H8 := Lib.hid h8
  have F1 := Lib.hid f1
  have HL := Lib.hid hL
  have hLz : (bs L).size = 4 := by rw [bs_size, hl]
  clear h7 hL h8 f1
  go_enter Try.func4, Try.ntmps4
  go_wp2_with fail
  refine (alive_any _).mono ?_
  rintro e w1 ⟨rfl, b1⟩
  have B1 := Lib.hid b1
  clear b1
  go_wp2_with fail
  refine (H7.out _).mono ?_
  rintro e w2 ⟨rfl, b2⟩
  have B2 := Lib.hid (below_then B1.out b2)
  clear b2
  obtain ⟨c, W, hcv, hrow, hfr, hlt, hc⟩ := bytes8c (bs L) w2
  rw [bs_list] at hrow
  rw [hLz] at hcv hc
  have B3 := Lib.hid (below_then B2.out hfr)
  obtain ⟨g, hg⟩ : ∃ g, g = w2.heap.size := ⟨_, rfl⟩
  rw [← hg] at hcv hrow hlt
  have HW := Lib.hid (And.intro hlt (And.intro hrow hg))
  have cv1 := conv8 (hrow.take j) (show (L.take j).length = j by rw [List.length_take]; omega)
  have cv2 := conv8 hrow hl c
  have hjc : (j : Int) ≤ (c : Int) := by omega
  clear hfr hlt hrow hg
  go_wp2_with fail
  refine (F1.out _).mono ?_
  rintro e w4 ⟨rfl, b4⟩
  have R4 := Lib.hid (And.intro (HW.out.2.1.keep (b4.block g HW.out.1)) (below_then B3.out b4))
  have HS := Lib.hid (Nat.le_trans HW.out.1 b4.size)
  clear b4 cv1 cv2 hcv
  have cv3 := conv8 R4.out.1 hl c
  by_cases hm : m.size = 0
  · obtain rfl : m = ByteArray.empty := by rw [← bs_of m]; have : m.data.toList = [] := List.length_eq_zero_iff.1 (by simpa using hm); rw [this]; rfl
    clear cv3
    obtain ⟨y, hy⟩ : ∃ y : UInt8, y = L[j]'(by omega) := ⟨_, rfl⟩
    have hcell : w4.cell? ⟨g, j, none⟩ = some (.int .u8 (y.toNat : Int)) := by rw [hy]; exact R4.out.1.cell j (by omega)
    have hfree : w4.frozen? ⟨g, j, none⟩ = false := R4.out.1.free j (by omega)
    obtain ⟨z, hz, hne⟩ := turned_byte y b
    have hset : L.set j z ≠ L := by
      intro h
      have h2 : (L.set j z)[j]'(by simp; omega) = L[j]'(by omega) := by simp only [h]
      rw [List.getElem_set_self, ← hy] at h2
      exact hne h2
    have f3 := fun w => H8.out (bs (L.set j z)) w
    rw [decide_eq_false (fun h => hset (bs_inj h))] at f3
    have F3 := Lib.hid f3
    have cv5 : (convert 32 9 (.slice (some ⟨g, 0, none⟩) 4 c)).run Try.prog (w4.setCell ⟨g, j, none⟩ (.int .u8 (((y.toNat : Int) + 1 + (b : Int) % 255) % 256))) = .ok (.string (bs (L.set j z))) (w4.setCell ⟨g, j, none⟩ (.int .u8 (((y.toNat : Int) + 1 + (b : Int) % 255) % 256))) := by
      rw [hz]
      exact conv8 (R4.out.1.set j z) (by simp [hl]) c
    have BV := Lib.hid (show Below w.heap.size w (w4.setCell ⟨g, j, none⟩ (.int .u8 (((y.toNat : Int) + 1 + (b : Int) % 255) % 256))) from
      R4.out.2.setCell (p := ⟨g, j, none⟩) (by show w.heap.size ≤ g; rw [HW.out.2.2]; exact B2.out.size) _)
    clear hy hz hne hset f3
    go_wp2_with fail
    refine (F3.out _).mono ?_
    rintro e w6 ⟨rfl, b6⟩
    have R6 := Lib.hid (below_then BV.out b6)
    clear b6 cv5 hcell hfree
    go_wp2
    go_ret
    exact ⟨rfl, R6.out⟩
  · have t3 : (m.toList == []) = false := by
      rw [ByteArray.toList_eq]
      cases hd : m.data.toList with
      | nil => exact absurd (by rw [ByteArray.size, ← Array.length_toList, hd]; rfl) hm
      | cons x l => rfl
    have f2 := fun w => H8.out (bs L ++ m) w
    rw [decide_eq_false (by intro h; have := congrArg ByteArray.size h; rw [ByteArray.size_append] at this; omega)] at f2
    have F2 := Lib.hid f2
    clear f2 hm
    go_wp2_with fail
    refine (F2.out _).mono ?_
    rintro e w5 ⟨rfl, b5⟩
    have R5 := Lib.hid (And.intro (R4.out.1.keep (b5.block g HS.out)) (below_then R4.out.2 b5))
    clear b5
    clear cv3
    obtain ⟨y, hy⟩ : ∃ y : UInt8, y = L[j]'(by omega) := ⟨_, rfl⟩
    have hcell : w5.cell? ⟨g, j, none⟩ = some (.int .u8 (y.toNat : Int)) := by rw [hy]; exact R5.out.1.cell j (by omega)
    have hfree : w5.frozen? ⟨g, j, none⟩ = false := R5.out.1.free j (by omega)
    obtain ⟨z, hz, hne⟩ := turned_byte y b
    have hset : L.set j z ≠ L := by
      intro h
      have h2 : (L.set j z)[j]'(by simp; omega) = L[j]'(by omega) := by simp only [h]
      rw [List.getElem_set_self, ← hy] at h2
      exact hne h2
    have f3 := fun w => H8.out (bs (L.set j z)) w
    rw [decide_eq_false (fun h => hset (bs_inj h))] at f3
    have F3 := Lib.hid f3
    have cv5 : (convert 32 9 (.slice (some ⟨g, 0, none⟩) 4 c)).run Try.prog (w5.setCell ⟨g, j, none⟩ (.int .u8 (((y.toNat : Int) + 1 + (b : Int) % 255) % 256))) = .ok (.string (bs (L.set j z))) (w5.setCell ⟨g, j, none⟩ (.int .u8 (((y.toNat : Int) + 1 + (b : Int) % 255) % 256))) := by
      rw [hz]
      exact conv8 (R5.out.1.set j z) (by simp [hl]) c
    have BV := Lib.hid (show Below w.heap.size w (w5.setCell ⟨g, j, none⟩ (.int .u8 (((y.toNat : Int) + 1 + (b : Int) % 255) % 256))) from
      R5.out.2.setCell (p := ⟨g, j, none⟩) (by show w.heap.size ≤ g; rw [HW.out.2.2]; exact B2.out.size) _)
    clear hy hz hne hset f3
    go_wp2_with fail
    refine (F3.out _).mono ?_
    rintro e w6 ⟨rfl, b6⟩
    have R6 := Lib.hid (below_then BV.out b6)
    clear b6 cv5 hcell hfree
    go_wp2
    go_ret
    exact ⟨rfl, R6.out⟩

theorem twiceTurned_big (s m : ByteArray) (a b : Nat) (w : World) (hs : 500 < s.size ∨ 100 < m.size) (hm : s.size ≤ maxLen) (ho : m.size ≤ maxLen) :
    Calls Try.prog 4 #[.string s, .int .u8 a, .int .u8 b, .string m] w fun e w' => e = .returned (.bool true) ∧ Below w.heap.size w w' := by
  unfold maxLen at hm ho
  by_cases h1 : 500 < s.size
  · have t1 : decide ((500 : Int) < (s.size : Int)) = true := by simp; omega
    clear hs
    go_enter Try.func4, Try.ntmps4
    go_wp2_with fail
    refine (alive_any _).mono ?_
    rintro e w1 ⟨rfl, b1⟩
    have B1 := Lib.hid b1
    clear b1
    go_wp2
    go_ret
    exact ⟨rfl, B1.out⟩
  · have t1 : decide ((500 : Int) < (s.size : Int)) = false := by simp; omega
    have t2 : decide ((100 : Int) < (m.size : Int)) = true := by simp; omega
    clear hs
    go_enter Try.func4, Try.ntmps4
    go_wp2_with fail
    refine (alive_any _).mono ?_
    rintro e w1 ⟨rfl, b1⟩
    have B1 := Lib.hid b1
    clear b1
    go_wp2
    go_ret
    exact ⟨rfl, B1.out⟩

theorem twiceSums_any (s o : ByteArray) (w : World) (hm : s.size ≤ maxLen) (ho : o.size ≤ maxLen) :
    Calls Try.prog 3 #[.string s, .string o] w fun e w' => e = .returned (.bool true) ∧ Below w.heap.size w w' := by
  by_cases h : 500 < s.size ∨ 500 < o.size
  · exact twiceSums_big s o w h hm ho
  · exact twiceSums_small s o w (by omega) (by omega)
theorem twiceTurned_any (s m : ByteArray) (a b : Nat) (ha : a < 256) (hb : b < 256) (w : World) (hm : s.size ≤ maxLen) (ho : m.size ≤ maxLen) :
    Calls Try.prog 4 #[.string s, .int .u8 a, .int .u8 b, .string m] w fun e w' => e = .returned (.bool true) ∧ Below w.heap.size w w' := by
  by_cases h : 500 < s.size ∨ 100 < m.size
  · exact twiceTurned_big s m a b w h hm ho
  · exact twiceTurned_small s m a b ha hb w (by omega) (by omega)
end Go.Proofs.Ytnjiflkbgpbchaa
