/-
  The document's Same over this seat's translation: whether two items are one. Conditions: items as they lie in memory.
-/
import Derived.Test.YtegakecncpfnnaaItmC
import Derived.StillTailTactics
import Derived.Deep.Cut
import Derived.Deep.CutRange
namespace Go.Proofs.Ytegakecncpfnnaa
open Go.RowKit

open Classical in
/-- Are two items one? -/
noncomputable def same (a b : T) : Bool := decide (a = b)
theorem same_eq {a b : T} (h : a = b) : same a b = true := by simp [same, h]
theorem same_ne {a b : T} (h : ¬ a = b) : same a b = false := by simp [same, h]
theorem same_self (a : T) : same a a = true := same_eq rfl

theorem take_eq_next (ts us : List T) (j : Nat) (h1 : j < ts.length) (h2 : j < us.length) (h : ts.take j = us.take j) (he : ts[j] = us[j]) : ts.take (j + 1) = us.take (j + 1) := by
  rw [T.take_more ts j h1, T.take_more us j h2, h, he]

theorem isEmptyL (s : ByteArray) (h : ¬ s = ⟨#[]⟩) : s.toList.isEmpty = false := by
  rw [List.isEmpty_eq_false_iff, ByteArray.toList_eq]
  intro h2
  exact h (ByteArray.ext (Array.toList_inj.1 h2))

theorem toList_ne {s s' : ByteArray} (h : ¬ s = s') : (s.toList == s'.toList) = false := by
  rw [beq_eq_false_iff_ne]
  intro e
  rw [ByteArray.toList_eq, ByteArray.toList_eq] at e
  exact h (ByteArray.ext (Array.toList_inj.1 e))

theorem size_push (w : World) (o : Obj) : (w.alloc o).heap.size = w.heap.size + 1 := by simp

theorem bel1 (w : World) (o : Obj) : Below w.heap.size w (w.alloc o) := (Below.refl _ _).alloc (Nat.le_refl _) _
theorem bel2 (w : World) (o o' : Obj) : Below w.heap.size w ((w.alloc o).alloc o') := ((Below.refl _ _).alloc (Nat.le_refl _) _).alloc (by simp) _

set_option maxRecDepth 20000 in
theorem refSame_any : ∀ (t : T) (v : Value) (u : T) (v' : Value) (w : World), In w t v → In w u v' →
    Calls Try.prog 15 #[.agg #[.string t.s, .bool t.l, v], .agg #[.string u.s, .bool u.l, v']] w fun e w' => e = .returned (.bool (same t u)) ∧ Below w.heap.size w w' := by
  refine T.ind_ ?_
  intro s l ts ih v u v' w hI hJ
  obtain ⟨s', l', us⟩ := u
  obtain ⟨_, hlen, a, c, rfl, hr⟩ := hI
  obtain ⟨_, hlen', a', c', rfl, hr'⟩ := hJ
  unfold maxLen at hlen hlen'
  have IH := Lib.hid ih
  have HR := Lib.hid hr
  have HR' := Lib.hid hr'
  clear ih hr hr'
  simp only [T.s, T.l]
  by_cases hl : l = l'
  · subst hl
    by_cases hs : s = s'
    · subst hs
      by_cases hz : us.length = ts.length
      · rw [hz] at hlen' ⊢
        go_enter Try.func15, Try.ntmps15
        go_wp2
        go_loopw [5] (fun i wr => ∃ j : Nat, j ≤ ts.length ∧ ts.take j = us.take j ∧ i = .int .i64 j ∧ wr.cell? ⟨w.heap.size, 2, none⟩ = some (.slice a ts.length c) ∧ wr.cell? ⟨w.heap.size + 1, 2, none⟩ = some (.slice a' ts.length c') ∧ Below w.heap.size w wr) (fun i _ => ts.length - (intOf i).toNat)
        case atStart => exact ⟨0, Nat.zero_le _, by simp, rfl, cells_below ((Below.refl _ _).alloc (Nat.le_refl _) _) _ _ _ (box2 _ _ _ _ _), by rw [← size_push w _]; exact box2 _ _ _ _ _, ((Below.refl _ _).alloc (Nat.le_refl _) _).alloc (by simp) _⟩
        case round =>
          obtain ⟨j, hj, hg, rfl, cb, cd, hb⟩ := hrel
          have B := Lib.hid hb
          clear hb
          by_cases hlt : j < ts.length
          · obtain ⟨b, o, v', rfl, c0, c1, c2, hi⟩ := Row.at ts 0 j hlt (HR.out.bel (B.out))
            have hlt' : j < us.length := by omega
            obtain ⟨b', o', v'', rfl, d0, d1, d2, hi'⟩ := Row.at us 0 j hlt' (HR'.out.bel (B.out))
            rw [Nat.zero_add] at c0 c1 c2 d0 d1 d2
            have hbb := lt_of_cell c0
            have hbb' := lt_of_cell d0
            have IJ := Lib.hid (fun w1 (h : Below wr.heap.size wr w1) => IH.out _ (List.getElem_mem hlt) _ us[j] _ w1 (hi.bel h) (hi'.bel h))
            have EQ := Lib.hid (take_eq_next ts us j hlt hlt' hg)
            have NE := Lib.hid (fun (h : ¬ ts[j] = us[j]) => show ¬ ts = us from fun e => h (by subst e; rfl))
            clear hi hi' hg
            go_upto_region 6 with fail
            go_still_tail 10, (by kernel_rfl)
            have HW := Lib.hid ((Below.refl wr.heap.size wr).drew)
            have B0 := Lib.hid (B.out.drew)
            change wpList _ _ _ _ _ wr.drew
            have cb0 := cells_below HW.out _ _ _ cb
            have cd0 := cells_below HW.out _ _ _ cd
            generalize wr.drew = w0 at *
            clear cb cd c0 c1 c2 d0 d1 d2
            go_wp2_with fail
            refine (IJ.out _ HW.out).mono ?_
            rintro e w1 ⟨rfl, b1⟩
            have B1 := Lib.hid (B0.out.trans (b1.mono (Nat.le_of_lt (lt_of_cell cb0))))
            have cb1 := cells_below b1 _ _ _ cb0
            have cd1 := cells_below b1 _ _ _ cd0
            clear b1 cb0 cd0
            by_cases he : ts[j] = us[j]
            · rw [same_eq he]
              have E := Lib.hid (EQ.out he)
              clear EQ NE he
              go_wp2
              go_roundw
              case rel => exact ⟨j + 1, by omega, E.out, by go_num, cb1, cd1, B1.out⟩
              case measure => (simp [intOf]) <;> omega
            · rw [same_ne he]
              have E := Lib.hid (show same (.mk s l ts) (.mk s l us) = false from same_ne (by simpa using NE.out he))
              clear EQ NE he
              go_wp2
              go_ret
              rw [E.out]
              exact ⟨rfl, B1.out⟩
          · obtain rfl : j = ts.length := by omega
            have E := Lib.hid (show same (.mk s l ts) (.mk s l us) = true from same_eq (by rw [List.take_length, ← hz, List.take_length] at hg; rw [hg]))
            clear hg
            go_wp2
            go_ret
            rw [E.out]
            exact ⟨rfl, B.out⟩
      · have e0 : same (.mk s l ts) (.mk s l us) = false := same_ne (by simp only [T.mk.injEq, true_and]; rintro rfl; exact hz rfl)
        have e1 : ((ts.length : Int) != (us.length : Int)) = true := by simp only [bne_iff_ne, ne_eq]; omega
        rw [e0]
        clear e0
        go_enter Try.func15, Try.ntmps15
        go_wp2
        go_ret
        exact ⟨rfl, ((Below.refl _ _).alloc (Nat.le_refl _) _).alloc (by simp) _⟩
    · have e0 : same (.mk s l ts) (.mk s' l us) = false := same_ne (by simp [hs])
      have e1 : (s.toList == s'.toList) = false := toList_ne hs
      rw [e0]
      clear e0
      go_enter Try.func15, Try.ntmps15
      go_wp2
      go_ret
      exact ⟨rfl, ((Below.refl _ _).alloc (Nat.le_refl _) _).alloc (by simp) _⟩
  · have e0 : same (.mk s l ts) (.mk s' l' us) = false := same_ne (by simp [hl])
    have e1 : (l == l') = false := by simpa using hl
    rw [e0]
    clear e0
    go_enter Try.func15, Try.ntmps15
    go_wp2
    go_ret
    exact ⟨rfl, ((Below.refl _ _).alloc (Nat.le_refl _) _).alloc (by simp) _⟩
end Go.Proofs.Ytegakecncpfnnaa
