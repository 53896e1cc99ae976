/-
  The contracts of package compact's inner functions (first, behind, number) over this seat's translation. Conditions: a number below 2^64; a text that is as long as its first byte says; the table of sizes is in memory as the program's text lays it.
-/
import Derived.Test.YtpneccbeccgfmaaDoorFixC
import Derived.Test.YtpneccbeccgfmaaDoorComM
namespace Go.Proofs.YtpneccbeccgfmaaDoor
open Go.RowKit Go.Sort

/-- The table of sizes is in memory. -/
def Tab (w : World) : Prop := w.cell? ⟨0, 0, none⟩ = some (.int .i64 0) ∧ w.cell? ⟨0, 1, none⟩ = some (.int .i64 2) ∧
  w.cell? ⟨0, 2, none⟩ = some (.int .i64 4) ∧ w.cell? ⟨0, 3, none⟩ = some (.int .i64 8)
theorem Tab.keep {w w' : World} (h : Tab w) (hb : w'.heap[0]? = w.heap[0]?) : Tab w' :=
  ⟨(World.cell?_of_block (w := w) hb).trans h.1, (World.cell?_of_block (w := w) hb).trans h.2.1, (World.cell?_of_block (w := w) hb).trans h.2.2.1, (World.cell?_of_block (w := w) hb).trans h.2.2.2⟩
theorem Tab.lt {w : World} (h : Tab w) : 0 < w.heap.size := by
  rcases Nat.lt_or_ge 0 w.heap.size with hl | hl
  · exact hl
  · have := h.1
    simp [World.cell?, Array.getElem?_eq_none hl] at this
theorem Tab.below {w w' : World} {B : Nat} (h : Tab w) (hb : Below B w w') (hB : 0 < B) : Tab w' := h.keep (hb.block _ hB)
theorem Tab.bel {w w' : World} (h : Tab w) (hb : Below w.heap.size w w') : Tab w' := h.below hb h.lt
theorem Tab.frame {w w' : World} {S : Nat → Prop} (h : Tab w) (hf : Fr S w w') (hs : ¬ S 0) : Tab w' := h.keep (hf.block _ h.lt hs)
theorem Tab.drew {w : World} (h : Tab w) : Tab w.drew := h
theorem Tab.drewN {w : World} (h : Tab w) (n : Nat) : Tab (w.drewN n) := h

theorem first_any (n : Nat) (w : World) (hn : n < 18446744073709551616) :
    Calls Tryd.prog 17 #[.int .u64 n] w fun e w' => e = .returned (.int .u8 (head n)) ∧ w = w' := by
  by_cases h1 : n ≤ 252
  · have hd := Lib.hid (head_small h1)
    go_enter Tryd.func17, Tryd.ntmps17
    go_wp2
    go_ret
    exact ⟨by rw [hd.out]; rfl, rfl⟩
  · by_cases h2 : n ≤ 65535
    · have h0 : head n = 253 := by unfold head; rw [if_neg h1, if_pos h2]
      have hd := Lib.hid h0
      clear h0
      go_enter Tryd.func17, Tryd.ntmps17
      go_wp2
      go_ret
      exact ⟨by rw [hd.out]; rfl, rfl⟩
    · by_cases h3 : n ≤ 4294967295
      · have h0 : head n = 254 := by unfold head; rw [if_neg h1, if_neg h2, if_pos h3]
        have hd := Lib.hid h0
        clear h0
        go_enter Tryd.func17, Tryd.ntmps17
        go_wp2
        go_ret
        exact ⟨by rw [hd.out]; rfl, rfl⟩
      · have h0 : head n = 255 := by unfold head; rw [if_neg h1, if_neg h2, if_neg h3]
        have hd := Lib.hid h0
        clear h0
        go_enter Tryd.func17, Tryd.ntmps17
        go_wp2
        go_ret
        exact ⟨by rw [hd.out]; rfl, rfl⟩

theorem behind_any (x : Nat) (w : World) (hx : x < 256) (h : Tab w) :
    Calls Tryd.prog 19 #[.int .u8 x] w fun e w' => e = .returned (.int .i64 (hind x)) ∧ w = w' := by
  obtain ⟨c0, c1, c2, c3⟩ := h
  by_cases h1 : x ≤ 252
  · have hm : max (x : Int) 252 = 252 := by omega
    have hd := Lib.hid (hind_small h1)
    go_enter Tryd.func19, Tryd.ntmps19
    go_wp2
    go_ret
    exact ⟨by rw [hd.out]; rfl, rfl⟩
  · have h4 : x = 253 ∨ x = 254 ∨ x = 255 := by omega
    clear h1 hx
    have m3 : max (253 : Int) 252 = 253 := rfl
    have m4 : max (254 : Int) 252 = 254 := rfl
    have m5 : max (255 : Int) 252 = 255 := rfl
    rcases h4 with rfl | rfl | rfl
    all_goals
      go_enter Tryd.func19, Tryd.ntmps19
      go_wp2
      go_ret
      exact ⟨rfl, rfl⟩

/-- A text's byte at its head, as the walk spells it. -/
theorem number_small (s : ByteArray) (x : Nat) (w : World) (h0 : 0 < s.size) (hx : s[0].toNat = x) (hs : x ≤ 252) :
    Calls Tryd.prog 20 #[.string s] w fun e w' => e = .returned (.int .u64 x) ∧ Below w.heap.size w w' := by
  go_enter Tryd.func20, Tryd.ntmps20
  go_wp2
  go_ret
  exact ⟨rfl, Below.refl _ _⟩

theorem number_big (s : ByteArray) (x : Nat) (w : World) (h : Tab w) (h0 : 0 < s.size) (hx : s[0].toNat = x) (hs : 252 < x) (hl : hind x + 1 ≤ s.size) :
    Calls Tryd.prog 20 #[.string s] w fun e w' => e = .returned (.int .u64 (num (s.data.toList.tail.take (hind x)))) ∧ Below w.heap.size w w' := by
  have hx8 : x < 256 := by rw [← hx]; exact s[0].toNat_lt
  obtain ⟨k, hk⟩ : ∃ k, k = hind x := ⟨_, rfl⟩
  have h2 : 2 ≤ k := by rw [hk]; exact hind_big hs
  have h8 : k ≤ 8 := by rw [hk]; exact hind_le x
  have hz : (s.extract 1 (1 + k)).size = k := by simp; omega
  have hd : (s.extract 1 (1 + k)).data.toList = s.data.toList.tail.take k := by rw [Lib.extract_data]; simp
  rw [← hk] at hl
  rw [← hk]
  have hb : Calls Tryd.prog 19 #[.int .u8 x] w fun e w' => e = .returned (.int .i64 k) ∧ w = w' := by rw [hk]; exact behind_any x w hx8 h
  have HB := Lib.hid hb
  have HD := Lib.hid hd
  have HZ := Lib.hid hz
  clear hd hz hb hk h
  have i1 : (1 : Int) ≤ 1 + (k : Int) := by omega
  have i2 : 1 + (k : Int) ≤ (s.size : Int) := by omega
  go_enter Tryd.func20, Tryd.ntmps20
  go_wp2_with fail
  refine HB.out.mono ?_
  rintro e w' ⟨rfl, rfl⟩
  go_wp2_with fail
  refine (getLittle_ok _ (s.extract 1 (1 + k)) (by rw [HZ.out]; omega) (by rw [HZ.out]; omega)).mono ?_
  rw [HD.out]
  rintro e w1 ⟨rfl, b1⟩
  have B1 := Lib.hid b1
  clear b1
  go_wp2
  go_ret
  exact ⟨rfl, B1.out⟩

/-- Bytes behind a first one, as a list. -/
theorem data_cons (s : ByteArray) (h0 : 0 < s.size) : s.data.toList = s[0] :: s.data.toList.tail := by
  have h : 0 < s.data.toList.length := by simpa using h0
  have e : s[0] = s.data.toList[0] := rfl
  have g : ∀ (l : List UInt8) (hl : 0 < l.length), l = l[0] :: l.tail := by
    intro l hl
    cases l with
    | nil => simp at hl
    | cons b m => rfl
  rw [e]
  exact g _ h

theorem number_any (s : ByteArray) (x : Nat) (w : World) (h : Tab w) (h0 : 0 < s.size) (hx : s[0].toNat = x) (hl : hind x + 1 ≤ s.size) :
    Calls Tryd.prog 20 #[.string s] w fun e w' => e = .returned (.int .u64 (cnum x s.data.toList.tail)) ∧ Below w.heap.size w w' := by
  unfold cnum
  by_cases hs : x ≤ 252
  · rw [if_pos hs]
    exact number_small s x w h0 hx hs
  · rw [if_neg hs]
    exact number_big s x w h h0 hx (by omega) hl
end Go.Proofs.YtpneccbeccgfmaaDoor
