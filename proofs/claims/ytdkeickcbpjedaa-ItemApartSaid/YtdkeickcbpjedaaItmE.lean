/-
  The contracts of package item's alike, of slices.EqualFunc by it, over this seat's translation. Conditions: items as they lie in memory.
-/
import Derived.Test.YtdkeickcbpjedaaItmS
namespace Go.Proofs.Ytdkeickcbpjedaa
open Go.RowKit

set_option maxHeartbeats 1000000 in
theorem equalFunc_any (ts us : List T) (a a' : Option Addr) (c c' : Nat) (hlen : ts.length ≤ maxLen)
    (ih : ∀ t ∈ ts, ∀ (v : Value) (u : T) (v' : Value) (w : World), In w t v → In w u v' →
      Calls Try.prog 28 #[.agg #[.string t.s, .bool t.l, v], .agg #[.string u.s, .bool u.l, v']] w fun e w' => e = .returned (.bool (same t u)) ∧ Below w.heap.size w w')
    (w : World) (hr : Row w a ts 0) (hr' : Row w a' us 0) :
    Calls Try.prog 36 #[.slice a ts.length c, .slice a' us.length c', .func (Fn.func 28) #[] #[]] w
      fun e w' => ∃ r : Bool, e = .returned (.bool r) ∧ (r = true ↔ ts = us) ∧ Below w.heap.size w w' := by
  unfold maxLen at hlen
  have IH := Lib.hid ih
  have HR := Lib.hid hr
  have HR' := Lib.hid hr'
  clear ih hr hr'
  by_cases hz : us.length = ts.length
  · rw [hz]
    go_enter Try.func36, Try.ntmps36
    go_wp2
    go_loopw [17] (fun i wr => ∃ j : Nat, j ≤ ts.length ∧ ts.take j = us.take j ∧ i = .int .i64 j ∧ Below w.heap.size w wr) (fun i _ => ts.length - (intOf i).toNat)
    case atStart => exact ⟨0, Nat.zero_le _, by simp, rfl, Below.refl _ _⟩
    case round =>
      obtain ⟨j, hj, hg, rfl, hb⟩ := hrel
      have B := Lib.hid hb
      clear hb
      by_cases hlt : j < ts.length
      · obtain ⟨b, o, v', rfl, c0, c1, c2, hi⟩ := Row.at ts 0 j hlt (HR.out.bel (B.out))
        have hlt' : j < us.length := by omega
        obtain ⟨b', o', v'', rfl, d0, d1, d2, hi'⟩ := Row.at us 0 j hlt' (HR'.out.bel (B.out))
        rw [Nat.zero_add] at c0 c1 c2 d0 d1 d2
        have hbb := lt_of_cell c0
        have hbb' := lt_of_cell d0
        obtain ⟨p, q, rfl⟩ := hi.slice
        obtain ⟨p', q', rfl⟩ := hi'.slice
        have IJ := Lib.hid (fun w1 (h : Below wr.heap.size wr w1) => IH.out _ (List.getElem_mem hlt) _ us[j] _ w1 (hi.bel h) (hi'.bel h))
        have EQ := Lib.hid (take_eq_next ts us j hlt hlt' hg)
        have NE := Lib.hid (fun (h : ¬ ts[j] = us[j]) => show ¬ ts = us from fun e => h (by subst e; rfl))
        clear hi hi' hg
        go_wp2_with fail
        refine (IJ.out _ (bel2 _ _ _)).mono ?_
        rintro e w1 ⟨rfl, b1⟩
        have B1 := Lib.hid (B.out.trans (((bel2 wr _ _).trans (b1.mono (by simp; omega))).mono B.out.size))
        clear b1 c0 c1 c2 d0 d1 d2
        by_cases he : ts[j] = us[j]
        · rw [same_eq he]
          have E := Lib.hid (EQ.out he)
          clear EQ NE he
          go_wp2
          go_roundw
          case rel => exact ⟨j + 1, by omega, E.out, by go_num, B1.out⟩
          case measure => (simp [intOf]) <;> omega
        · rw [same_ne he]
          have E := Lib.hid (NE.out he)
          clear EQ NE he
          go_wp2
          go_ret
          exact ⟨false, rfl, ⟨fun h => (by cases h), fun h => absurd h E.out⟩, B1.out⟩
      · obtain rfl : j = ts.length := by omega
        have E := Lib.hid (show ts = us from by rwa [List.take_length, ← hz, List.take_length] at hg)
        clear hg
        go_wp2
        go_ret
        exact ⟨true, rfl, by simp [E.out], B.out⟩
  · have e1 : ((ts.length : Int) != (us.length : Int)) = true := by simp only [bne_iff_ne, ne_eq]; omega
    go_enter Try.func36, Try.ntmps36
    go_wp2
    go_ret
    exact ⟨false, rfl, ⟨fun h => (by cases h), fun h => absurd (congrArg List.length h).symm hz⟩, Below.refl _ _⟩

theorem alike_any : ∀ (t : T) (v : Value) (u : T) (v' : Value) (w : World), In w t v → In w u v' →
    Calls Try.prog 28 #[.agg #[.string t.s, .bool t.l, v], .agg #[.string u.s, .bool u.l, v']] w fun e w' => e = .returned (.bool (same t u)) ∧ Below w.heap.size w w' := by
  refine T.ind_ ?_
  intro s l ts ih v u v' w hI hJ
  obtain ⟨s', l', us⟩ := u
  obtain ⟨_, hlen, a, c, rfl, hr⟩ := hI
  obtain ⟨_, hlen', a', c', rfl, hr'⟩ := hJ
  unfold maxLen at hlen hlen'
  have IH := Lib.hid ih
  have HR := Lib.hid hr
  have HR' := Lib.hid hr'
  clear ih hr hr'
  simp only [T.s, T.l]
  by_cases hl : l = l'
  · subst hl
    by_cases hs : s = s'
    · subst hs
      go_enter Try.func28, Try.ntmps28
      have EF := Lib.hid (fun w1 (h : Below w.heap.size w w1) => equalFunc_any ts us a a' c c' hlen IH.out w1 (HR.out.bel h) (HR'.out.bel h))
      go_wp2_with fail
      refine (EF.out _ (bel2 _ _ _)).mono ?_
      rintro e w1 ⟨r, rfl, hr, b1⟩
      have B1 := Lib.hid ((bel2 w _ _).trans (b1.mono (by simp; omega)))
      have E := Lib.hid (show same (.mk s l ts) (.mk s l us) = r from by
        cases r
        · exact same_ne (by simpa using fun h => absurd (hr.2 h) (by simp))
        · exact same_eq (by rw [hr.1 rfl]))
      clear b1 hr
      go_wp2
      go_ret
      rw [E.out]
      exact ⟨rfl, B1.out⟩
    · have e0 : same (.mk s l ts) (.mk s' l us) = false := same_ne (by simp [hs])
      have e1 : (s.toList == s'.toList) = false := toList_ne hs
      rw [e0]
      clear e0
      go_enter Try.func28, Try.ntmps28
      go_wp2
      go_ret
      exact ⟨rfl, ((Below.refl _ _).alloc (Nat.le_refl _) _).alloc (by simp) _⟩
  · have e0 : same (.mk s l ts) (.mk s' l' us) = false := same_ne (by simp [hl])
    have e1 : (l == l') = false := by simpa using hl
    rw [e0]
    clear e0
    go_enter Try.func28, Try.ntmps28
    go_wp2
    go_ret
    exact ⟨rfl, ((Below.refl _ _).alloc (Nat.le_refl _) _).alloc (by simp) _⟩
end Go.Proofs.Ytdkeickcbpjedaa
