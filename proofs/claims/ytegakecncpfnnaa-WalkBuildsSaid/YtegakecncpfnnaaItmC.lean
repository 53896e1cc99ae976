/-
  The contracts of what only reads an item (room, size, Great of the law; Count, Deep, right, May, Caps of the document) over this seat's translation. Conditions: an item as it lies in memory, of at most 1,000,000 items.
-/
import Derived.Test.YtegakecncpfnnaaItmW
import Derived.Test.YtegakecncpfnnaaRows
import Derived.WalkKit
import Derived.ProofKit
import Derived.OneCell
import Derived.BigQuiet
import Derived.Deep.QuietTactic
import Derived.Deep.LoopGhost
import Derived.Lib.Hide
namespace Go.Proofs.Ytegakecncpfnnaa
open Go.RowKit

theorem box0 (w : World) (x y z : Value) (n : Nat) : (w.alloc (.cells #[x, y, z] n)).cell? ⟨w.heap.size, 0, none⟩ = some x := World.cell?_alloc_new w _ n 0
theorem box1 (w : World) (x y z : Value) (n : Nat) : (w.alloc (.cells #[x, y, z] n)).cell? ⟨w.heap.size, 1, none⟩ = some y := World.cell?_alloc_new w _ n 1
theorem box2 (w : World) (x y z : Value) (n : Nat) : (w.alloc (.cells #[x, y, z] n)).cell? ⟨w.heap.size, 2, none⟩ = some z := World.cell?_alloc_new w _ n 2

theorem refCount_any : ∀ (t : T) (v : Value) (w : World), In w t v → T.cnt t ≤ 1000000 →
    Calls Try.prog 26 #[.agg #[.string t.s, .bool t.l, v]] w fun e w' => e = .returned (.int .i64 (T.cnt t)) ∧ Below w.heap.size w w' := by
  refine T.ind_ ?_
  intro s l ts ih v w hI hc
  obtain ⟨_, hlen, a, c, rfl, hr⟩ := hI
  unfold maxLen at hlen
  have IH := Lib.hid ih
  have HR := Lib.hid hr
  have HC := Lib.hid hc
  clear ih hr hc
  simp only [T.s, T.l]
  go_enter Try.func26, Try.ntmps26
  go_wp2
  go_loopw [3, 4] (fun n i wr => ∃ j : Nat, j ≤ ts.length ∧ n = .int .i64 (1 + T.cnts (ts.take j) : Nat) ∧ i = .int .i64 j ∧ wr.cell? ⟨w.heap.size, 2, none⟩ = some (.slice a ts.length c) ∧ Below w.heap.size w wr) (fun _ i _ => ts.length - (intOf i).toNat)
  case atStart => exact ⟨0, Nat.zero_le _, by simp [T.cnts], rfl, box2 _ _ _ _ _, (Below.refl _ _).alloc (Nat.le_refl _) _⟩
  case round =>
    obtain ⟨j, hj, rfl, rfl, cb, hb⟩ := hrel
    have B := Lib.hid hb
    clear hb
    by_cases hlt : j < ts.length
    · obtain ⟨b, o, v', rfl, c0, c1, c2, hi⟩ := Row.at ts 0 j hlt (HR.out.bel (B.out))
      rw [Nat.zero_add] at c0 c1 c2
      have hbb := lt_of_cell c0
      have hk := T.cnts_take ts j hlt
      have h1 := T.cnts_take_le ts (j + 1)
      have h2 := HC.out
      rw [T.cnt] at h2
      go_wp2_with fail
      refine (IH.out _ (List.getElem_mem hlt) _ _ hi (by omega)).mono ?_
      rintro e w1 ⟨rfl, b1⟩
      have B1 := Lib.hid (B.out.trans (b1.mono (Nat.le_of_lt (lt_of_cell cb))))
      have cb1 := cells_below b1 _ _ _ cb
      clear b1 cb c0 c1 c2
      go_wp2
      go_roundw
      case rel => exact ⟨j + 1, by omega, by go_num, by go_num, cb1, B1.out⟩
      case measure => (simp [intOf]) <;> omega
    · obtain rfl : j = ts.length := by omega
      go_wp2
      go_ret
      simp only [List.take_length, T.cnt]
      exact ⟨by rw [Nat.add_comm]; rfl, B.out⟩

theorem refDeep_any : ∀ (t : T) (v : Value) (w : World), In w t v → T.cnt t ≤ 1000000 →
    Calls Try.prog 25 #[.agg #[.string t.s, .bool t.l, v]] w fun e w' => e = .returned (.int .i64 (T.dep t)) ∧ Below w.heap.size w w' := by
  refine T.ind_ ?_
  intro s l ts ih v w hI hc
  obtain ⟨_, hlen, a, c, rfl, hr⟩ := hI
  unfold maxLen at hlen
  have IH := Lib.hid ih
  have HR := Lib.hid hr
  have HC := Lib.hid hc
  clear ih hr hc
  simp only [T.s, T.l]
  go_enter Try.func25, Try.ntmps25
  go_wp2
  go_loopw [3, 4] (fun n i wr => ∃ j : Nat, j ≤ ts.length ∧ n = .int .i64 (T.deps (ts.take j)) ∧ i = .int .i64 j ∧ wr.cell? ⟨w.heap.size, 2, none⟩ = some (.slice a ts.length c) ∧ Below w.heap.size w wr) (fun _ i _ => ts.length - (intOf i).toNat)
  case atStart => exact ⟨0, Nat.zero_le _, by simp [T.deps], rfl, box2 _ _ _ _ _, (Below.refl _ _).alloc (Nat.le_refl _) _⟩
  case round =>
    obtain ⟨j, hj, rfl, rfl, cb, hb⟩ := hrel
    have B := Lib.hid hb
    clear hb
    by_cases hlt : j < ts.length
    · obtain ⟨b, o, v', rfl, c0, c1, c2, hi⟩ := Row.at ts 0 j hlt (HR.out.bel (B.out))
      rw [Nat.zero_add] at c0 c1 c2
      have hbb := lt_of_cell c0
      have hk := T.deps_take ts j hlt
      have h1 := T.cnt_le_of_mem ts _ (List.getElem_mem hlt)
      have h2 := HC.out
      rw [T.cnt] at h2
      go_wp2_with fail
      refine (IH.out _ (List.getElem_mem hlt) _ _ hi (by omega)).mono ?_
      rintro e w1 ⟨rfl, b1⟩
      have B1 := Lib.hid (B.out.trans (b1.mono (Nat.le_of_lt (lt_of_cell cb))))
      have cb1 := cells_below b1 _ _ _ cb
      clear b1 cb c0 c1 c2
      by_cases hd : T.deps (ts.take j) < T.dep ts[j]
      all_goals
        go_wp2
        go_roundw
        case rel => exact ⟨j + 1, by omega, by go_num, by go_num, cb1, B1.out⟩
        case measure => (simp [intOf]) <;> omega
    · obtain rfl : j = ts.length := by omega
      have h3 := T.deps_le_cnts ts
      have h2 := HC.out
      rw [T.cnt] at h2
      rw [List.take_length]
      go_wp2
      go_ret
      simp only [T.dep]
      exact ⟨by go_num, B.out⟩

theorem room_any : ∀ (t : T) (v : Value) (w : World) (n : Nat), In w t v → 1 ≤ n → n ≤ 1000000 →
    Calls Try.prog 20 #[.agg #[.string t.s, .bool t.l, v], .int .i64 n] w fun e w' => e = .returned (.int .i64 (n - T.cnt t : Nat)) ∧ Below w.heap.size w w' := by
  refine T.ind_ ?_
  intro s l ts ih v w n hI hn1 hn
  obtain ⟨_, hlen, a, c, rfl, hr⟩ := hI
  unfold maxLen at hlen
  have IH := Lib.hid ih
  have HR := Lib.hid hr
  clear ih hr
  simp only [T.s, T.l]
  go_enter Try.func20, Try.ntmps20
  go_wp2
  go_loopw [1, 5] (fun q i wr => ∃ j : Nat, j ≤ ts.length ∧ q = .int .i64 (n - 1 - T.cnts (ts.take j) : Nat) ∧ i = .int .i64 j ∧ wr.cell? ⟨w.heap.size, 2, none⟩ = some (.slice a ts.length c) ∧ Below w.heap.size w wr) (fun _ i _ => ts.length - (intOf i).toNat)
  case atStart => exact ⟨0, Nat.zero_le _, by simp [T.cnts]; omega, rfl, box2 _ _ _ _ _, (Below.refl _ _).alloc (Nat.le_refl _) _⟩
  case round =>
    obtain ⟨j, hj, rfl, rfl, cb, hb⟩ := hrel
    have B := Lib.hid hb
    clear hb
    have hle := T.cnts_take_le ts j
    obtain ⟨q, hq⟩ : ∃ q, q = n - 1 - T.cnts (ts.take j) := ⟨_, rfl⟩
    have hqm : q ≤ 1000000 := by omega
    rw [← hq]
    by_cases hlt : j < ts.length
    · by_cases hp : 0 < q
      · obtain ⟨b, o, v', rfl, c0, c1, c2, hi⟩ := Row.at ts 0 j hlt (HR.out.bel (B.out))
        rw [Nat.zero_add] at c0 c1 c2
        have hbb := lt_of_cell c0
        have hk := T.cnts_take ts j hlt
        have HQ := Lib.hid hq
        clear hq hle
        go_wp2_with fail
        refine (IH.out _ (List.getElem_mem hlt) _ _ _ hi hp (by omega)).mono ?_
        rintro e w1 ⟨rfl, b1⟩
        have B1 := Lib.hid (B.out.trans (b1.mono (Nat.le_of_lt (lt_of_cell cb))))
        have cb1 := cells_below b1 _ _ _ cb
        clear b1 cb c0 c1 c2
        go_wp2
        go_roundw
        case rel => exact ⟨j + 1, by omega, by have := HQ.out; go_num, by go_num, cb1, B1.out⟩
        case measure => (simp [intOf]) <;> omega
      · obtain rfl : q = 0 := by omega
        have e0 : n - T.cnt (.mk s l ts) = 0 := by simp only [T.cnt]; omega
        have E0 := Lib.hid e0
        clear hq hle e0
        go_wp2
        go_ret
        rw [E0.out]
        exact ⟨rfl, B.out⟩
    · obtain rfl : j = ts.length := by omega
      rw [List.take_length] at hq
      have e0 : n - T.cnt (.mk s l ts) = q := by simp only [T.cnt]; omega
      have E0 := Lib.hid e0
      clear hq hle e0
      go_wp2
      go_ret
      rw [E0.out]
      exact ⟨rfl, B.out⟩

theorem min_step (q p m a b : Nat) (hq : q = min (m + a) 10000) (hp : p = min b 10000) : (if (10000 : Int) < (q : Int) + (p : Int) then (10000 : Int) else (q : Int) + (p : Int)) = ((min (m + (a + b)) 10000 : Nat) : Int) := by
  split <;> omega

theorem size_any : ∀ (t : T) (v : Value) (w : World), In w t v →
    Calls Try.prog 21 #[.agg #[.string t.s, .bool t.l, v]] w fun e w' => e = .returned (.int .i64 (min (T.siz t) 10000 : Nat)) ∧ Below w.heap.size w w' := by
  refine T.ind_ ?_
  intro s l ts ih v w hI
  obtain ⟨hs, hlen, a, c, rfl, hr⟩ := hI
  unfold maxLen at hlen hs
  have IH := Lib.hid ih
  have HR := Lib.hid hr
  clear ih hr
  obtain ⟨m, hm⟩ : ∃ m : Nat, m = min s.size 10000 := ⟨_, rfl⟩
  have hm1 : m ≤ 10000 := by omega
  have e1 : (if (s.size : Int) < 10000 then (s.size : Int) else 10000) = (m : Int) := by split <;> omega
  have e2 : (if 10000 < (s.size : Int) then (10000 : Int) else (s.size : Int)) = (m : Int) := by split <;> omega
  have HM := Lib.hid hm
  clear hm
  simp only [T.s, T.l]
  go_enter Try.func21, Try.ntmps21
  go_wp2
  go_loopw [3, 4] (fun n i wr => ∃ j : Nat, j ≤ ts.length ∧ n = .int .i64 (min (m + T.sizs (ts.take j)) 10000 : Nat) ∧ i = .int .i64 j ∧ wr.cell? ⟨w.heap.size, 2, none⟩ = some (.slice a ts.length c) ∧ Below w.heap.size w wr) (fun _ i _ => ts.length - (intOf i).toNat)
  case atStart => exact ⟨0, Nat.zero_le _, by simp [T.sizs]; omega, rfl, box2 _ _ _ _ _, (Below.refl _ _).alloc (Nat.le_refl _) _⟩
  case round =>
    obtain ⟨j, hj, rfl, rfl, cb, hb⟩ := hrel
    have B := Lib.hid hb
    clear hb
    by_cases hlt : j < ts.length
    · obtain ⟨b, o, v', rfl, c0, c1, c2, hi⟩ := Row.at ts 0 j hlt (HR.out.bel (B.out))
      rw [Nat.zero_add] at c0 c1 c2
      have hbb := lt_of_cell c0
      have hk := T.sizs_take ts j hlt
      obtain ⟨q, hq⟩ : ∃ q, q = min (m + T.sizs (ts.take j)) 10000 := ⟨_, rfl⟩
      have hqm : q ≤ 10000 := by omega
      rw [← hq]
      obtain ⟨p, hp⟩ : ∃ p, p = min (T.siz ts[j]) 10000 := ⟨_, rfl⟩
      have hpm : p ≤ 10000 := by omega
      have HQ := Lib.hid hq
      have HP := Lib.hid hp
      have IJ := Lib.hid (IH.out _ (List.getElem_mem hlt) _ _ hi)
      rw [← hp] at IJ
      clear hq hp
      go_wp2_with fail
      refine IJ.out.mono ?_
      rintro e w1 ⟨rfl, b1⟩
      have B1 := Lib.hid (B.out.trans (b1.mono (Nat.le_of_lt (lt_of_cell cb))))
      have cb1 := cells_below b1 _ _ _ cb
      clear b1 cb c0 c1 c2
      go_wp2
      go_roundw
      case rel => exact ⟨j + 1, by omega, by rw [hk, min_step q p m _ _ HQ.out HP.out], by go_num, cb1, B1.out⟩
      case measure => (simp [intOf]) <;> omega
    · obtain rfl : j = ts.length := by omega
      have hm := HM.out
      have e3 : min (m + T.sizs ts) 10000 = min (T.siz (.mk s l ts)) 10000 := by simp only [T.siz]; omega
      rw [List.take_length, e3]
      clear e3 hm
      go_wp2
      go_ret
      exact ⟨rfl, B.out⟩


/-- More than the law looks at. -/
def great (t : T) : Bool := decide (1200 ≤ T.cnt t) || decide (6000 < T.siz t)

theorem great_any (t : T) (v : Value) (w : World) (hI : In w t v) :
    Calls Try.prog 6 #[.agg #[.string t.s, .bool t.l, v]] w fun e w' => e = .returned (.bool (great t)) ∧ Below w.heap.size w w' := by
  have I := Lib.hid hI
  clear hI
  obtain ⟨q, hq⟩ : ∃ q, q = 1200 - T.cnt t := ⟨_, rfl⟩
  obtain ⟨p, hp⟩ : ∃ p, p = min (T.siz t) 10000 := ⟨_, rfl⟩
  have RO := Lib.hid (fun w h => room_any t v w 1200 h (by omega) (by omega))
  have SI := Lib.hid (size_any t v)
  rw [← hq] at RO
  rw [← hp] at SI
  have E1 := Lib.hid (show q = 0 → great t = true from fun h => by simp only [great, Bool.or_eq_true, decide_eq_true_eq]; omega)
  have E2 := Lib.hid (show great t = ((q : Int) == 0 || decide ((6000 : Int) < p)) from by
    unfold great
    rw [Bool.eq_iff_iff]
    simp only [Bool.or_eq_true, decide_eq_true_eq, beq_iff_eq]
    omega)
  have hp1 : p ≤ 10000 := by omega
  have hq1 : q ≤ 1200 := by omega
  clear hq hp
  go_enter Try.func6, Try.ntmps6
  go_wp2_with fail
  refine (RO.out _ (I.out.bel ((Below.refl _ _).alloc (Nat.le_refl _) _))).mono ?_
  rintro e w1 ⟨rfl, b1⟩
  have cb0 := cells_below b1 _ _ _ (box0 w (.string t.s) (.bool t.l) v 24)
  have cb1 := cells_below b1 _ _ _ (box1 w (.string t.s) (.bool t.l) v 24)
  have cb2 := cells_below b1 _ _ _ (box2 w (.string t.s) (.bool t.l) v 24)
  have hlt := lt_of_cell cb0
  have B1 := Lib.hid (((Below.refl w.heap.size w).alloc (Nat.le_refl _) (.cells #[.string t.s, .bool t.l, v] 24)).trans (b1.mono (Nat.le_of_lt (lt_of_cell (box0 w (.string t.s) (.bool t.l) v 24)))))
  clear b1
  by_cases h0 : q = 0
  · have G := Lib.hid (E1.out h0)
    clear E1 E2
    subst h0
    go_wp2
    go_ret
    rw [G.out]
    exact ⟨rfl, B1.out⟩
  · go_wp2_with fail
    refine (SI.out _ (I.out.bel B1.out)).mono ?_
    rintro e w2 ⟨rfl, b2⟩
    have B2 := Lib.hid (below_then B1.out b2)
    clear b2 cb0 cb1 cb2
    go_wp2
    go_ret
    rw [E2.out]
    exact ⟨rfl, B2.out⟩

theorem refRight_any : ∀ (t : T) (v : Value) (w : World), In w t v →
    Calls Try.prog 24 #[.agg #[.string t.s, .bool t.l, v]] w fun e w' => e = .returned (.bool (T.rgt t)) ∧ Below w.heap.size w w' := by
  refine T.ind_ ?_
  intro s l ts ih v w hI
  obtain ⟨hs, hlen, a, c, rfl, hr⟩ := hI
  unfold maxLen at hlen hs
  have IH := Lib.hid ih
  have HR := Lib.hid hr
  clear ih hr
  simp only [T.s, T.l]
  by_cases ho : T.own s l ts = true
  · have main : Calls Try.prog 24 #[.agg #[.string s, .bool l, .slice a ts.length c]] w fun e w' => e = .returned (.bool (T.rgts ts)) ∧ Below w.heap.size w w' := by
      cases l
      · obtain rfl : ts = [] := by simpa [T.own] using ho
        clear ho IH HR
        simp only [List.length_nil]
        go_enter Try.func24, Try.ntmps24
        go_wp2
        go_loopw [3] (fun i wr => i = .int .i64 0 ∧ wr.cell? ⟨w.heap.size, 2, none⟩ = some (.slice a 0 c) ∧ Below w.heap.size w wr) (fun i _ => 0)
        case atStart => exact ⟨rfl, box2 _ _ _ _ _, (Below.refl _ _).alloc (Nat.le_refl _) _⟩
        case round =>
          obtain ⟨rfl, cb, hb⟩ := hrel
          have B := Lib.hid hb
          clear hb
          go_wp2
          go_ret
          exact ⟨rfl, B.out⟩
      · have e1 : s = ⟨#[]⟩ := by
          have : s.size = 0 := by simpa [T.own] using ho
          exact ByteArray.size_eq_zero_iff.1 this
        subst e1
        go_enter Try.func24, Try.ntmps24
        go_wp2
        go_loopw [3] (fun i wr => ∃ j : Nat, j ≤ ts.length ∧ T.rgts (ts.take j) = true ∧ i = .int .i64 j ∧ wr.cell? ⟨w.heap.size, 2, none⟩ = some (.slice a ts.length c) ∧ Below w.heap.size w wr) (fun i _ => ts.length - (intOf i).toNat)
        case atStart => exact ⟨0, Nat.zero_le _, by simp [T.rgts], rfl, box2 _ _ _ _ _, (Below.refl _ _).alloc (Nat.le_refl _) _⟩
        case round =>
          obtain ⟨j, hj, hg, rfl, cb, hb⟩ := hrel
          have B := Lib.hid hb
          clear hb
          by_cases hlt : j < ts.length
          · obtain ⟨b, o, v', rfl, c0, c1, c2, hi⟩ := Row.at ts 0 j hlt (HR.out.bel (B.out))
            rw [Nat.zero_add] at c0 c1 c2
            have hbb := lt_of_cell c0
            have hk := T.rgts_take ts j hlt
            rw [hg, Bool.true_and] at hk
            have hf := T.rgts_false ts _ (List.getElem_mem hlt)
            go_wp2_with fail
            refine (IH.out _ (List.getElem_mem hlt) _ _ hi).mono ?_
            rintro e w1 ⟨rfl, b1⟩
            have B1 := Lib.hid (B.out.trans (b1.mono (Nat.le_of_lt (lt_of_cell cb))))
            have cb1 := cells_below b1 _ _ _ cb
            clear b1 cb c0 c1 c2
            by_cases hr : T.rgt ts[j] = true
            · rw [hr] at hk ⊢
              clear hf hr
              go_wp2
              go_roundw
              case rel => exact ⟨j + 1, by omega, hk, by go_num, cb1, B1.out⟩
              case measure => (simp [intOf]) <;> omega
            · have hr' : T.rgt ts[j] = false := by simpa using hr
              have HF := Lib.hid (hf hr')
              rw [hr']
              clear hf hr hr' hk
              go_wp2
              go_ret
              rw [HF.out]
              exact ⟨rfl, B1.out⟩
          · obtain rfl : j = ts.length := by omega
            rw [List.take_length] at hg
            have HG := Lib.hid hg
            clear hg
            go_wp2
            go_ret
            rw [HG.out]
            exact ⟨rfl, B.out⟩
    simpa [T.rgt, ho] using main
  · have e0 : T.rgt (.mk s l ts) = false := by simp [T.rgt, ho]
    rw [e0]
    clear e0
    cases l
    · have t0 : 0 < ts.length := by
        rcases ts with _ | ⟨t, r⟩
        · simp [T.own] at ho
        · simp
      clear ho
      go_enter Try.func24, Try.ntmps24
      go_wp2
      go_ret
      exact ⟨rfl, (Below.refl _ _).alloc (Nat.le_refl _) _⟩
    · have e1 : s.toList.isEmpty = false := by
        have h : ¬ s.size = 0 := by simpa [T.own] using ho
        rw [List.isEmpty_eq_false_iff, ← List.length_pos_iff, ByteArray.toList_eq]
        have : s.data.toList.length = s.size := by simp
        omega
      clear ho
      go_enter Try.func24, Try.ntmps24
      go_wp2
      go_ret
      exact ⟨rfl, (Below.refl _ _).alloc (Nat.le_refl _) _⟩


theorem refMay_any (t : T) (v : Value) (w : World) (hI : In w t v) (hc : T.cnt t ≤ 1000000) :
    Calls Try.prog 8 #[.agg #[.string t.s, .bool t.l, v]] w fun e w' => e = .returned (.bool (T.may t)) ∧ Below w.heap.size w w' := by
  have I := Lib.hid hI
  clear hI
  have E := Lib.hid (show T.may t = (T.rgt t && decide (T.dep t ≤ 16) && decide (T.cnt t ≤ 1024)) from rfl)
  have RI := Lib.hid (refRight_any t v)
  have DE := Lib.hid (fun w h => refDeep_any t v w h hc)
  have CO := Lib.hid (fun w h => refCount_any t v w h hc)
  have hd1 := T.dep_le_cnt t
  obtain ⟨r, hr⟩ : ∃ r, r = T.rgt t := ⟨_, rfl⟩
  obtain ⟨d, hd⟩ : ∃ d, d = T.dep t := ⟨_, rfl⟩
  obtain ⟨q, hq⟩ : ∃ q, q = T.cnt t := ⟨_, rfl⟩
  rw [← hr] at RI E
  rw [← hd] at DE E hd1
  rw [← hq] at CO E hd1 hc
  clear hr hd hq
  go_enter Try.func8, Try.ntmps8
  go_wp2_with fail
  refine (RI.out _ (I.out.bel ((Below.refl _ _).alloc (Nat.le_refl _) _))).mono ?_
  rintro e w1 ⟨rfl, b1⟩
  have cb0 := cells_below b1 _ _ _ (box0 w (.string t.s) (.bool t.l) v 24)
  have cb1 := cells_below b1 _ _ _ (box1 w (.string t.s) (.bool t.l) v 24)
  have cb2 := cells_below b1 _ _ _ (box2 w (.string t.s) (.bool t.l) v 24)
  have hlt := lt_of_cell cb0
  have B1 := Lib.hid (((Below.refl w.heap.size w).alloc (Nat.le_refl _) (.cells #[.string t.s, .bool t.l, v] 24)).trans (b1.mono (Nat.le_of_lt (lt_of_cell (box0 w (.string t.s) (.bool t.l) v 24)))))
  clear b1
  cases r
  · have E0 := Lib.hid (show T.may t = false from E.out.trans (by simp))
    clear E
    go_wp2
    go_ret
    rw [E0.out]
    exact ⟨rfl, B1.out⟩
  · go_wp2_with fail
    refine (DE.out _ (I.out.bel B1.out)).mono ?_
    rintro e w2 ⟨rfl, b2⟩
    have B2 := Lib.hid (below_then B1.out b2)
    have cc0 := cells_below b2 _ _ _ cb0
    have cc1 := cells_below b2 _ _ _ cb1
    have cc2 := cells_below b2 _ _ _ cb2
    have hlt2 := lt_of_cell cc0
    clear b2 cb0 cb1 cb2 hlt
    by_cases h16 : d ≤ 16
    · go_wp2_with fail
      refine (CO.out _ (I.out.bel B2.out)).mono ?_
      rintro e w3 ⟨rfl, b3⟩
      have B3 := Lib.hid (below_then B2.out b3)
      clear b3
      have E0 := Lib.hid (show T.may t = decide ((q : Int) ≤ 1024) from E.out.trans (by rw [Bool.eq_iff_iff]; simp [h16]; omega))
      clear E
      go_wp2
      go_ret
      rw [E0.out]
      exact ⟨rfl, B3.out⟩
    · have E0 := Lib.hid (show T.may t = false from E.out.trans (by simp [h16]))
      clear E
      go_wp2
      go_ret
      rw [E0.out]
      exact ⟨rfl, B2.out⟩

end Go.Proofs.Ytegakecncpfnnaa
