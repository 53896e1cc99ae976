/-
  The document's Show over this seat's translation. Conditions: an item as it lies in memory, of at most 100,000 bytes and 100,000 items.
-/
import Derived.Test.YtdkeickcbpjedaaDoorItmJ
namespace Go.Proofs.YtdkeickcbpjedaaDoor
open Go.RowKit

/-- The text of a row of bytes. -/
def sb (l : List UInt8) : ByteArray := ⟨l.toArray⟩
theorem sb_append (a b : List UInt8) : sb a ++ sb b = sb (a ++ b) := by
  apply ByteArray.ext
  simp [sb]
theorem sb_size (l : List UInt8) : (sb l).size = l.length := by simp [sb, ByteArray.size]

theorem run_digit (w : World) : ∀ (h : Nat), h < 16 → (Instr.slice 9 (.string ⟨#[48, 49, 50, 51, 52, 53, 54, 55, 56, 57, 97, 98, 99, 100, 101, 102]⟩) (some (.int .i64 (h : Int))) (some (.int .i64 ((h : Int) + 1))) none).run Tryd.prog w = .ok (.string (sb [dg h])) w
  | 0, _ => by kernel_rfl
  | 1, _ => by kernel_rfl
  | 2, _ => by kernel_rfl
  | 3, _ => by kernel_rfl
  | 4, _ => by kernel_rfl
  | 5, _ => by kernel_rfl
  | 6, _ => by kernel_rfl
  | 7, _ => by kernel_rfl
  | 8, _ => by kernel_rfl
  | 9, _ => by kernel_rfl
  | 10, _ => by kernel_rfl
  | 11, _ => by kernel_rfl
  | 12, _ => by kernel_rfl
  | 13, _ => by kernel_rfl
  | 14, _ => by kernel_rfl
  | 15, _ => by kernel_rfl
  | h + 16, hh => absurd hh (by omega)

set_option maxHeartbeats 1000000 in
theorem refShow_any : ∀ (t : T) (v : Value) (w : World), In w t v → 2 * T.siz t + 3 * T.cnt t ≤ 1000000 →
    Calls Tryd.prog 10 #[.agg #[.string t.s, .bool t.l, v]] w fun e w' => e = .returned (.string (sb (T.shw t))) ∧ Below w.heap.size w w' := by
  refine T.ind_ ?_
  intro s il ts ih v w hI hlen
  obtain ⟨hs, hlts, a, c, rfl, hr⟩ := hI
  unfold maxLen at hlts hs
  have IH := Lib.hid ih
  have HR := Lib.hid hr
  have HL := Lib.hid hlen
  simp only [T.s, T.l]
  clear ih hr hlen
  cases il
  · by_cases h0 : s.size = 0
    · obtain rfl : s = ⟨#[]⟩ := ByteArray.size_eq_zero_iff.1 h0
      have e0 : sb (T.shw (.mk ⟨#[]⟩ false ts)) = ⟨#[45]⟩ := by
        have h : (⟨#[]⟩ : ByteArray).size = 0 := rfl
        simp [T.shw, sb, h]
      rw [e0]
      clear e0 h0
      go_enter Tryd.func10, Tryd.ntmps10
      go_wp2
      go_ret
      exact ⟨rfl, bel1 _ _⟩
    · have e0 : T.shw (.mk s false ts) = hexs s.data.toList := by simp [T.shw, h0]
      have e1 : s.toList.isEmpty = false := isEmptyL s (by rintro rfl; exact h0 rfl)
      rw [e0]
      clear e0
      go_enter Tryd.func10, Tryd.ntmps10
      go_wp2
      go_loopw [5, 6] (fun q i wr => ∃ j : Nat, j ≤ s.size ∧ q = .string (sb (hexs (s.data.toList.take j))) ∧ i = .int .i64 j ∧ I3 wr w.heap.size (.string s) (.bool false) (.slice a ts.length c) ∧ Below w.heap.size w wr) (fun _ i _ => s.size - (intOf i).toNat)
      case atStart => exact ⟨0, Nat.zero_le _, rfl, rfl, I3.new _ _ _ _, bel1 _ _⟩
      case round =>
        obtain ⟨j, hj, rfl, rfl, hi, hb⟩ := hrel
        have c0 := hi.c0
        have lb := hi.lt
        have HI := Lib.hid hi
        have HB := Lib.hid hb
        clear hi hb
        by_cases hlt : j < s.size
        · have hx : s[j].toNat < 256 := UInt8.toNat_lt _
          go_wp2_with fail
          go_region
          obtain ⟨h, hh⟩ : ∃ h, h = s[j].toNat / 16 := ⟨_, rfl⟩
          obtain ⟨m, hm⟩ : ∃ m, m = s[j].toNat % 16 := ⟨_, rfl⟩
          have eh : (s[j].toNat : Int) / 16 = (h : Int) := by omega
          have em : (s[j].toNat : Int) % 16 = (m : Int) := by omega
          have lh : h < 16 := by omega
          have lm : m < 16 := by omega
          have HH := Lib.hid (And.intro hh hm)
          rw [eh, em]
          clear eh em hh hm hx
          obtain ⟨A, hA⟩ : ∃ A, A = hexs (s.data.toList.take j) := ⟨_, rfl⟩
          have z0 : (sb A).size ≤ 1000000 := by
            have := HL.out
            simp only [T.siz] at this
            rw [sb_size, hA, hexs_length, List.length_take, Array.length_toList]
            omega
          have z1 : (sb [dg h]).size ≤ 1 := Nat.le_refl 1
          have z2 : (sb [dg m]).size ≤ 1 := Nat.le_refl 1
          have z3 : (sb A ++ sb [dg h]).size ≤ 1000001 := by rw [ByteArray.size_append]; omega
          rw [← hA]
          have HA := Lib.hid hA
          clear hA
          have r1 : ∀ w, _ := fun w => run_digit w h lh
          have r2 : ∀ w, _ := fun w => run_digit w m lm
          go_wp2_with fail
          go_region
          have e5 : sb A ++ sb [dg h] ++ sb [dg m] = sb (hexs (s.data.toList.take (j + 1))) := by
            rw [hexs_take _ j (by simpa using hlt), sb_append, sb_append, HA.out, HH.out.1, HH.out.2, List.append_assoc]
            rfl
          rw [e5]
          have R := Lib.hid (And.intro HI.out HB.out)
          clear e5 z0 z1 z2 z3 r1 r2 c0 HI HB
          go_wp2
          go_roundw
          case rel => exact ⟨j + 1, by omega, rfl, by go_num, R.out.1, R.out.2.drew.drew⟩
          case measure => (simp [intOf]) <;> omega
        · obtain rfl : j = s.size := by omega
          go_wp2
          go_ret
          refine ⟨?_, HB.out⟩
          rw [List.take_of_length_le (by simp)]
          rfl
  · have e0 : T.shw (.mk s true ts) = 40 :: ((T.shs ts).tail ++ [41]) := by simp [T.shw]
    rw [e0]
    clear e0
    go_enter Tryd.func10, Tryd.ntmps10
    go_wp2
    go_loopw [3, 4] (fun q i wr => ∃ j : Nat, j ≤ ts.length ∧ q = .string (sb (40 :: (T.shs (ts.take j)).tail)) ∧ i = .int .i64 j ∧ I3 wr w.heap.size (.string s) (.bool true) (.slice a ts.length c) ∧ Below w.heap.size w wr) (fun _ i _ => ts.length - (intOf i).toNat)
    case atStart => exact ⟨0, Nat.zero_le _, rfl, rfl, I3.new _ _ _ _, bel1 _ _⟩
    case round =>
      obtain ⟨j, hj, rfl, rfl, hi, hb⟩ := hrel
      have c2 := hi.c2
      have lb := hi.lt
      have HI := Lib.hid hi
      have HB := Lib.hid hb
      have LL := HL.out
      simp only [T.siz, T.cnt] at LL
      have y0 := T.shs_length (ts.take j)
      have y1 := T.sizs_take_le ts j
      have y2 := T.cnts_take_le ts j
      have y3 : (T.shs (ts.take j)).tail.length ≤ (T.shs (ts.take j)).length := by simp
      clear hi hb
      obtain ⟨A, hA⟩ : ∃ A, A = sb (40 :: (T.shs (ts.take j)).tail) := ⟨_, rfl⟩
      have z0 : A.size ≤ 1000000 := by rw [hA, sb_size, List.length_cons]; omega
      rw [← hA]
      by_cases hlt : j < ts.length
      · obtain ⟨bb, o, v', rfl, d0, d1, d2, hi⟩ := Row.at ts 0 j hlt (HR.out.bel HB.out)
        rw [Nat.zero_add] at d0 d1 d2
        have hbb := lt_of_cell d0
        have hmem := List.getElem_mem hlt
        have k1 := T.siz_le_of_mem ts _ hmem
        have k2 := T.cnt_le_of_mem ts _ hmem
        have CALL := Lib.hid (IH.out ts[j] hmem v' wr hi (by omega))
        have y4 := T.shw_length ts[j]
        have z1 : (sb (T.shw ts[j])).size ≤ 1000000 := by rw [sb_size]; omega
        have z2 : (sb [32]).size ≤ 1 := Nat.le_refl 1
        have z3 : (A ++ sb [32]).size ≤ 1000001 := by rw [ByteArray.size_append]; omega
        have E1 := Lib.hid (show A ++ sb (T.shw ts[j]) = sb (40 :: (T.shs (ts.take (j + 1))).tail) ∨ 0 < j by
          by_cases h : 0 < j
          · exact .inr h
          · obtain rfl : j = 0 := by omega
            left
            rw [hA, sb_append, T.shs_first ts hlt]
            simp [T.shs])
        have E2 := Lib.hid (show 0 < j → A ++ sb [32] ++ sb (T.shw ts[j]) = sb (40 :: (T.shs (ts.take (j + 1))).tail) from fun h => by
          rw [hA, sb_append, sb_append, T.shs_next ts j hlt h]
          simp)
        by_cases hp : 0 < j
        · have t1 : decide (0 < j) = true := by simpa using hp
          have E3 := Lib.hid (E2.out hp)
          clear E1 E2 hp hA hi y0 y1 y2 y3 y4 LL k1 k2
          go_wp2_with fail
          refine CALL.out.mono ?_
          rintro e w2 ⟨rfl, b2⟩
          have R := Lib.hid (And.intro (HI.out.bel b2) (below_then HB.out b2))
          clear b2 d0 d1 d2 c2
          have e4 : A ++ ⟨#[32]⟩ ++ sb (T.shw ts[j]) = sb (40 :: (T.shs (ts.take (j + 1))).tail) := E3.out
          have E4 := Lib.hid e4
          clear e4 E3
          go_wp2
          rw [E4.out]
          go_roundw
          case rel => exact ⟨j + 1, by omega, rfl, by go_num, R.out.1, R.out.2⟩
          case measure => (simp [intOf]) <;> omega
        · have t1 : decide (0 < j) = false := by simpa using hp
          have E3 := Lib.hid (E1.out.resolve_right hp)
          clear E1 E2 hp hA hi y0 y1 y2 y3 y4 LL k1 k2
          go_wp2_with fail
          refine CALL.out.mono ?_
          rintro e w2 ⟨rfl, b2⟩
          have R := Lib.hid (And.intro (HI.out.bel b2) (below_then HB.out b2))
          clear b2 d0 d1 d2 c2
          go_wp2
          rw [E3.out]
          go_roundw
          case rel => exact ⟨j + 1, by omega, rfl, by go_num, R.out.1, R.out.2⟩
          case measure => (simp [intOf]) <;> omega
      · obtain rfl : j = ts.length := by omega
        rw [List.take_length] at hA
        have E := Lib.hid (show A ++ sb [41] = sb (40 :: ((T.shs ts).tail ++ [41])) by rw [hA, sb_append]; simp)
        clear hA y0 y1 y2 y3 LL
        go_wp2
        go_ret
        exact ⟨by rw [← E.out]; rfl, HB.out⟩
end Go.Proofs.YtdkeickcbpjedaaDoor
