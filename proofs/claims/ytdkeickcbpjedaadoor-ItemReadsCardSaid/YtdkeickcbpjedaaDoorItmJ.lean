/-
  The contracts of package item's showText, show and Show over this seat's translation. Conditions: an item as it lies in memory, of at most 100,000 bytes and 100,000 items.
-/
import Derived.Test.YtdkeickcbpjedaaDoorItmB
import Derived.Test.YtdkeickcbpjedaaDoorItmP
namespace Go.Proofs.YtdkeickcbpjedaaDoor
open Go.RowKit

theorem dgx (q : Nat) (h : q < 16) : ((⟨#[48, 49, 50, 51, 52, 53, 54, 55, 56, 57, 97, 98, 99, 100, 101, 102]⟩ : ByteArray)[q]'h) = dg q := by
  have : ∀ f : Fin 16, ((⟨#[48, 49, 50, 51, 52, 53, 54, 55, 56, 57, 97, 98, 99, 100, 101, 102]⟩ : ByteArray)[f.1]'f.2) = dg f.1 := by decide
  exact this ⟨q, h⟩

theorem showText_any (B b : Nat) (l : List UInt8) (s : ByteArray) (w : World) (h : Bd B b l w) (hlen : l.length ≤ 10000000) (hs : s.size ≤ 1000000) (hBw : B ≤ w.heap.size) :
    Calls Tryd.prog 28 #[.pointer (some ⟨b, 0, none⟩), .string s] w fun e w' => e = .returned (.tuple #[]) ∧ Bd B b (l ++ (if s.size = 0 then [45] else hexs s.data.toList)) w' ∧ Wr B b w w' := by
  by_cases h0 : s.size = 0
  · rw [if_pos h0]
    obtain rfl : s = ⟨#[]⟩ := ByteArray.size_eq_zero_iff.1 h0
    have HB := Lib.hid h
    clear h h0
    go_enter Tryd.func28, Tryd.ntmps28
    go_wp2_with fail
    refine (writeString_any B b _ _ _ HB.out (by have : (⟨#[45]⟩ : ByteArray).size = 1 := rfl; omega) hBw).mono ?_
    rintro e w1 ⟨rfl, hb1, hw1⟩
    have HB1 := Lib.hid hb1
    have HW1 := Lib.hid hw1
    clear hb1 hw1
    go_wp2
    go_loopw [11] (fun i wr => i = .int .i64 0 ∧ Bd B b (l ++ [45]) wr ∧ Wr B b w wr) (fun i _ => 0)
    case atStart => exact ⟨rfl, HB1.out, HW1.out⟩
    case round =>
      obtain ⟨rfl, hb, hw⟩ := hrel
      have HB := Lib.hid hb
      have HW := Lib.hid hw
      clear hb hw
      go_wp2
      go_end0
      exact ⟨rfl, HB.out, HW.out⟩
  · have e1 : s.toList.isEmpty = false := isEmptyL s (by rintro rfl; exact h0 rfl)
    have HB := Lib.hid h
    clear h
    rw [if_neg h0]
    go_enter Tryd.func28, Tryd.ntmps28
    go_wp2
    go_loopw [11] (fun i wr => ∃ j : Nat, j ≤ s.size ∧ i = .int .i64 j ∧ Bd B b (l ++ hexs (s.data.toList.take j)) wr ∧ Wr B b w wr) (fun i _ => s.size - (intOf i).toNat)
    case atStart => exact ⟨0, Nat.zero_le _, rfl, by simpa [hexs] using HB.out, Wr.refl _ _ _⟩
    case round =>
      obtain ⟨j, hj, rfl, hb, hw⟩ := hrel
      have HB := Lib.hid hb
      have HW := Lib.hid hw
      clear hb hw
      by_cases hlt : j < s.size
      · have hx : s[j].toNat < 256 := UInt8.toNat_lt _
        have h1 : s[j].toNat / 16 < 16 := by omega
        have h2 : s[j].toNat % 16 < 16 := by omega
        go_wp2_with fail
        refine (writeByte_any B b _ _ _ HB.out (by simp [hexs_length]; omega) (by have := HW.out.bel.size; omega)).mono ?_
        rintro e w1 ⟨rfl, hb1, hw1⟩
        have HB1 := Lib.hid hb1
        have HW1 := Lib.hid (HW.out.trans hw1)
        clear hb1 hw1
        go_wp2_with fail
        refine (writeByte_any B b _ _ _ HB1.out (by simp [hexs_length]; omega) (by have := HW1.out.bel.size; omega)).mono ?_
        rintro e w2 ⟨rfl, hb2, hw2⟩
        have e2 : l ++ hexs (s.data.toList.take j) ++ [dg (s[j].toNat / 16)] ++ [dg (s[j].toNat % 16)] = l ++ hexs (s.data.toList.take (j + 1)) := by
          rw [hexs_take _ j (by simpa using hlt)]
          simp only [List.append_assoc, List.cons_append, List.nil_append]
          rfl
        rw [dgx _ h1, dgx _ h2, e2] at hb2
        have HB2 := Lib.hid hb2
        have HW2 := Lib.hid (HW1.out.trans hw2)
        clear hb2 hw2 e2
        go_wp2
        go_roundw
        case rel => exact ⟨j + 1, by omega, by go_num, HB2.out, HW2.out⟩
        case measure => (simp [intOf]) <;> omega
      · obtain rfl : j = s.size := by omega
        go_wp2
        go_end0
        refine ⟨rfl, ?_, HW.out⟩
        have := HB.out
        rwa [List.take_of_length_le (by simp)] at this
theorem Bd.lt {B b : Nat} {l : List UInt8} {w : World} (h : Bd B b l w) : b < w.heap.size := by
  rcases h with h | h <;> exact h.lt

theorem Bd.alloc {B b : Nat} {l : List UInt8} {w : World} (h : Bd B b l w) (o : Obj) : Bd B b l (w.alloc o) := by
  rcases h with ⟨h1, v, h2, h3, h4⟩ | ⟨h1, v, h2, h3, h4⟩
  · exact .inl ⟨h1, v, (Lib.alloc_old w o b (lt_of_block h2)).trans h2, h3.alloc o, h4⟩
  · exact .inr ⟨h1, v, (Lib.alloc_old w o b (lt_of_block h2)).trans h2, h3.alloc o, h4⟩

set_option maxHeartbeats 1000000 in
theorem show_any (w0 : World) (b : Nat) : ∀ (t : T) (v : Value) (w : World) (l : List UInt8), In w0 t v → Below w0.heap.size w0 w → Bd w0.heap.size b l w → l.length + 2 * T.siz t + 3 * T.cnt t ≤ 1000000 →
    Calls Tryd.prog 18 #[.pointer (some ⟨b, 0, none⟩), .agg #[.string t.s, .bool t.l, v]] w fun e w' => e = .returned (.tuple #[]) ∧ Bd w0.heap.size b (l ++ T.shw t) w' ∧ Wr w0.heap.size b w w' := by
  refine T.ind_ ?_
  intro s il ts ih v w l hI hw hb hlen
  obtain ⟨_, hlts, a, c, rfl, hr⟩ := hI
  unfold maxLen at hlts
  have hbl : b < w.heap.size := Bd.lt hb
  have i0 := I3.new w (.string s) (.bool il) (.slice a ts.length c)
  have IH := Lib.hid ih
  have HR := Lib.hid hr
  have HW := Lib.hid hw
  have HL := Lib.hid hlen
  have HB := Lib.hid hb
  have I0 := Lib.hid i0
  have B1 := Lib.hid (Wr.ofBelow (b := b) (bel1 w (.cells #[.string s, .bool il, .slice a ts.length c] 24)) hw.size)
  simp only [T.s, T.l]
  clear ih hr hw hb i0 hlen
  have HK := Lib.hid (HB.out.alloc (.cells #[.string s, .bool il, .slice a ts.length c] 24))
  cases il
  · have e0 : T.shw (.mk s false ts) = if s.size = 0 then [45] else hexs s.data.toList := by simp [T.shw]
    have ST := Lib.hid (showText_any w0.heap.size b l s)
    rw [e0]
    obtain ⟨L, hL⟩ : ∃ L, L = (if s.size = 0 then [45] else hexs s.data.toList) := ⟨_, rfl⟩
    rw [← hL] at ST ⊢
    clear e0 hL
    go_enter Tryd.func18, Tryd.ntmps18
    go_wp2_with fail
    refine (ST.out _ HK.out (by have := HL.out; simp only [T.siz] at this; omega) (by have := HL.out; simp only [T.siz] at this; omega) (by have := HW.out.size; simp; omega)).mono ?_
    rintro e w1 ⟨rfl, hb1, hw1⟩
    have Q := Lib.hid (And.intro hb1 (B1.out.trans hw1))
    clear hb1 hw1
    go_wp2
    refine bodyPost_ret (results_none rfl _ _ _) rfl ?_
    exact ⟨rfl, Q.out⟩
  · have e0 : T.shw (.mk s true ts) = 40 :: ((T.shs ts).tail ++ [41]) := by simp [T.shw]
    rw [e0]
    clear e0
    go_enter Tryd.func18, Tryd.ntmps18
    go_wp2_with fail
    refine (writeString_any w0.heap.size b l _ _ HK.out (by have := HL.out; have : (⟨#[40]⟩ : ByteArray).size = 1 := rfl; omega) (by have := HW.out.size; simp; omega)).mono ?_
    rintro e w1 ⟨rfl, hb1, hw1⟩
    have i1 := hw1.i3 I0.out (by omega)
    have x2 := i1.c2
    have lx := i1.lt
    have HB1 := Lib.hid hb1
    have HW1 := Lib.hid (B1.out.trans hw1)
    clear hb1 hw1 i1
    go_wp2
    go_loopw [18] (fun i wr => ∃ j : Nat, j ≤ ts.length ∧ i = .int .i64 j ∧ Bd w0.heap.size b (l ++ 40 :: (T.shs (ts.take j)).tail) wr ∧ Wr w0.heap.size b w wr) (fun i _ => ts.length - (intOf i).toNat)
    case atStart => exact ⟨0, Nat.zero_le _, rfl, by simpa [T.shs] using HB1.out, HW1.out⟩
    case round =>
      obtain ⟨j, hj, rfl, hb, hwr⟩ := hrel
      have HBr := Lib.hid hb
      have HWr := Lib.hid hwr
      have hbr : b < wr.heap.size := Bd.lt hb
      have LL := HL.out
      simp only [T.siz, T.cnt] at LL
      have z0 := T.shs_length (ts.take j)
      have z1 := T.sizs_take_le ts j
      have z2 := T.cnts_take_le ts j
      have z3 : (T.shs (ts.take j)).tail.length ≤ (T.shs (ts.take j)).length := by simp
      clear hb hwr
      by_cases hlt : j < ts.length
      · have bel0 := HW.out.trans HWr.out.bel
        obtain ⟨bb, o, v', rfl, c0, c1, c2, hi⟩ := Row.at ts 0 j hlt HR.out
        obtain ⟨p, p', rfl⟩ := hi.slice
        rw [Nat.zero_add] at c0 c1 c2
        replace c0 := cells_below bel0 _ _ _ c0
        replace c1 := cells_below bel0 _ _ _ c1
        replace c2 := cells_below bel0 _ _ _ c2
        have hbb := lt_of_cell c0
        have ix := I3.new wr (.string ts[j].s) (.bool ts[j].l) (.slice p ts[j].ts.length p')
        have IX := Lib.hid ix
        have BX := Lib.hid (Wr.ofBelow (b := b) (bel1 wr (.cells #[.string ts[j].s, .bool ts[j].l, .slice p ts[j].ts.length p'] 24)) bel0.size)
        have hmem := List.getElem_mem hlt
        have k1 := T.siz_le_of_mem ts _ hmem
        have k2 := T.sizs_take ts j hlt
        have k3 := T.cnts_take ts j hlt
        have k4 := T.sizs_take_le ts (j + 1)
        have k5 := T.cnts_take_le ts (j + 1)
        have CALL := Lib.hid (fun W L => IH.out ts[j] hmem (.slice p ts[j].ts.length p') W L hi)
        clear hi k1
        by_cases h0 : j = 0
        · subst h0
          rw [Nat.zero_mul, Nat.add_zero] at c0 c1 c2
          have hb0 : Bd w0.heap.size b (l ++ [(40 : UInt8)]) wr := by simpa [T.shs] using HBr.out
          have q1 : l ++ [(40 : UInt8)] ++ T.shw ts[0] = l ++ 40 :: (T.shs (ts.take 1)).tail := by rw [T.shs_first ts hlt]; simp
          have Q1 := Lib.hid q1
          have HB0 := Lib.hid hb0
          clear q1 hb0 HBr
          go_wp2_with fail
          refine (CALL.out _ _ (bel0.trans ((bel1 wr _).mono bel0.size)) (HB0.out.alloc _) (by simp only [List.length_append, List.length_cons, List.length_nil]; omega)).mono ?_
          rintro e w2 ⟨rfl, hb2, hw2⟩
          rw [Q1.out] at hb2
          have R := Lib.hid (And.intro hb2 (HWr.out.trans (BX.out.trans hw2)))
          clear hb2 hw2 Q1 z0 z1 z2 z3 k2 k3 k4 k5 c0 c1 c2 LL
          go_wp2
          go_roundw
          case rel => exact ⟨1, by omega, by go_num, R.out.1, R.out.2⟩
          case measure => (simp [intOf]) <;> omega
        · have q1 : l ++ 40 :: (T.shs (ts.take j)).tail ++ [32] ++ T.shw ts[j] = l ++ 40 :: (T.shs (ts.take (j + 1))).tail := by
            rw [T.shs_next ts j hlt (by omega)]
            simp
          have Q1 := Lib.hid q1
          clear q1
          go_wp2_with fail
          refine (writeString_any w0.heap.size b _ _ _ (HBr.out.alloc _) (by have : (⟨#[32]⟩ : ByteArray).size = 1 := rfl; simp only [List.length_append, List.length_cons]; omega) (by have := bel0.size; simp; omega)).mono ?_
          rintro e w2 ⟨rfl, hb2, hw2⟩
          have i2 := hw2.i3 ix (by omega)
          have x0 := i2.c0
          have x1 := i2.c1
          have x2' := i2.c2
          have lx' := i2.lt
          have HB2 := Lib.hid hb2
          have HW2 := Lib.hid (BX.out.trans hw2)
          clear hb2 hw2 i2 c0 c1 c2
          go_wp2_with fail
          refine (CALL.out _ _ (bel0.trans HW2.out.bel) HB2.out (by simp only [List.length_append, List.length_cons, List.length_nil]; omega)).mono ?_
          rintro e w3 ⟨rfl, hb3, hw3⟩
          rw [Q1.out] at hb3
          have R := Lib.hid (And.intro hb3 (HWr.out.trans (HW2.out.trans hw3)))
          clear hb3 hw3 Q1 z0 z1 z2 z3 k2 k3 k4 k5 LL x0 x1 x2' lx'
          go_wp2
          go_roundw
          case rel => exact ⟨j + 1, by omega, by go_num, R.out.1, R.out.2⟩
          case measure => (simp [intOf]) <;> omega
      · obtain rfl : j = ts.length := by omega
        rw [List.take_length] at HBr
        have z4 := T.shs_length ts
        have z5 : (T.shs ts).tail.length ≤ (T.shs ts).length := by simp
        go_wp2_with fail
        refine (writeString_any w0.heap.size b _ _ _ HBr.out (by have : (⟨#[41]⟩ : ByteArray).size = 1 := rfl; simp only [List.length_append, List.length_cons]; omega) (by have := HW.out.size; have := HWr.out.bel.size; omega)).mono ?_
        rintro e w2 ⟨rfl, hb2, hw2⟩
        have Q := Lib.hid (show Bd w0.heap.size b (l ++ 40 :: ((T.shs ts).tail ++ [41])) w2 ∧ Wr w0.heap.size b w w2 from ⟨by simpa using hb2, HWr.out.trans hw2⟩)
        clear hb2 hw2
        go_wp2
        go_end0
        exact ⟨rfl, Q.out⟩
/-- What Show answers. -/
def showS (t : T) : ByteArray := if T.may t then ⟨(T.shw t).toArray⟩ else ⟨#[]⟩
def showE (t : T) : Int := if T.may t then 0 else 1

theorem show_top (t : T) (v : Value) (w : World) (hI : In w t v) (hz : T.siz t ≤ 100000) :
    Calls Tryd.prog 7 #[.agg #[.string t.s, .bool t.l, v]] w fun e w' => e = .returned (.tuple #[.string (showS t), .int .i64 (showE t)]) ∧ Below w.heap.size w w' := by
  have HI := Lib.hid hI
  obtain ⟨p, p', rfl⟩ := hI.slice
  have HZ := Lib.hid hz
  have MA := Lib.hid (may_any t (.slice p t.ts.length p'))
  have ES := Lib.hid (show showS t = (if T.may t then ⟨(T.shw t).toArray⟩ else ⟨#[]⟩) ∧ showE t = (if T.may t then 0 else 1) from ⟨rfl, rfl⟩)
  obtain ⟨S, hS⟩ : ∃ S, S = showS t := ⟨_, rfl⟩
  obtain ⟨E, hE⟩ : ∃ E, E = showE t := ⟨_, rfl⟩
  obtain ⟨r, hr⟩ : ∃ r, r = T.may t := ⟨_, rfl⟩
  have HC := Lib.hid (show r = true → T.cnt t ≤ 1024 by
    rw [hr]
    simp only [T.may, Bool.and_eq_true, decide_eq_true_eq]
    exact fun h => h.2)
  rw [← hr, ← hS, ← hE] at ES
  rw [← hr] at MA
  rw [← hS, ← hE]
  clear hI hz hr hS hE
  go_enter Tryd.func7, Tryd.ntmps7
  go_wp2_with fail
  refine (MA.out _ (HI.out.bel (bel1 _ _))).mono ?_
  rintro e w1 ⟨rfl, b1⟩
  have i0 := (I3.new w (.string t.s) (.bool t.l) (.slice p t.ts.length p')).bel b1
  have B1 := Lib.hid ((bel1 w _).trans (b1.mono (by simp)))
  have x0 := i0.c0
  have x1 := i0.c1
  have x2 := i0.c2
  have lx := i0.lt
  have I0 := Lib.hid i0
  clear b1 i0
  cases r
  · have e1 : S = ⟨#[]⟩ := ES.out.1
    have e2 : E = 1 := ES.out.2
    subst e1 e2
    clear ES
    go_wp2
    go_ret2
    exact ⟨rfl, B1.out⟩
  · have e1 : S = ⟨(T.shw t).toArray⟩ := ES.out.1
    have e2 : E = 0 := ES.out.2
    subst e2
    have E1 := Lib.hid e1
    clear ES e1
    go_wp2_with fail
    have hcn : T.cnt t ≤ 1024 := by simpa using HC.out
    refine (show_any w1 w1.heap.size t (.slice p t.ts.length p') _ [] (HI.out.bel B1.out) (bel1 _ _) (Lib.fresh_isBuilder _ _ w1) (by have := HZ.out; simp only [List.length_nil]; omega)).mono ?_
    rintro e w2 ⟨rfl, hb2, hw2⟩
    have HB2 := Lib.hid hb2
    have B2 := Lib.hid ((B1.out.trans ((bel1 w1 (.cells #[.pointer none, .slice none 0 0] 42)).mono B1.out.size)).trans (hw2.bel.mono B1.out.size))
    clear hb2 hw2
    go_wp2_with fail
    refine (Tryd.Builder_String_any w1.heap.size w1.heap.size (T.shw t) w2 (by simpa using HB2.out) (by have := B2.out.size; have := HB2.out.lt; omega)).mono ?_
    rintro e w3 ⟨rfl, b3⟩
    rw [← E1.out]
    have B3 := Lib.hid (B2.out.trans (b3.mono B1.out.size))
    clear b3
    go_wp2
    go_ret2
    exact ⟨rfl, B3.out⟩
end Go.Proofs.YtdkeickcbpjedaaDoor
