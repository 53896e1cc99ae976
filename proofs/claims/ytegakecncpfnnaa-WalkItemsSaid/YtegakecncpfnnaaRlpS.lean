/-
  A stack of frames of two cells each, in a row of one's own; what a store, or a frame, leaves of such a row. Plain lemmas about the model's worlds, and the operation append over this seat's translation. No condition.
-/
import Derived.Test.YtegakecncpfnnaaItmUw
import Derived.Laws.OwnMore
namespace Go.Proofs.Ytegakecncpfnnaa
open Go.RowKit

/-- The cells of frames, one behind the other. -/
def flat2 : List (Value × Value) → List Value | [] => [] | p :: r => p.1 :: p.2 :: flat2 r
theorem flat2_append (a b : List (Value × Value)) : flat2 (a ++ b) = flat2 a ++ flat2 b := by
  induction a with
  | nil => rfl
  | cons p r ih => simp [flat2, ih]
theorem flat2_length (a : List (Value × Value)) : (flat2 a).length = a.length * 2 := by
  induction a with
  | nil => rfl
  | cons p r ih => simp only [flat2, List.length_cons, ih]; omega
theorem flat2_rev (p : Value × Value) (r : List (Value × Value)) : flat2 (p :: r).reverse = flat2 r.reverse ++ [p.1, p.2] := by
  rw [List.reverse_cons, flat2_append]; rfl
/-- The slice sv owns these frames (the inmost one first). -/
def Stk (w : World) (B : Nat) (e : TypeId) (sv : Value) (l : List (Value × Value)) : Prop := w.ownsRow B e 2 sv l.length (flat2 l.reverse)

section
variable {w w' : World} {B : Nat} {e : TypeId} {sv : Value} {l r : List (Value × Value)} {x y : Value}
theorem Stk.nil (w : World) (B : Nat) (e : TypeId) : Stk w B e (.slice none 0 0) [] := World.ownsRow_nil _ _ _ _
theorem Stk.slice (h : Stk w B e sv l) : ∃ a c, sv = .slice a l.length c := by
  rcases h.2 with ⟨h, h0⟩ | ⟨g, cap, cur, h, _⟩
  · exact ⟨_, _, by rw [h, h0]⟩
  · exact ⟨_, _, h⟩
theorem Stk.block (h : Stk w B e sv l) : ∀ j, sv.ownBlock = some j → B ≤ j ∧ j < w.heap.size := fun j hj => h.lt j hj
theorem Stk.alloc (h : Stk w B e sv l) (o : Obj) : Stk (w.alloc o) B e sv l := World.ownsRow.alloc h o
theorem Stk.fr (h : Stk w B e sv l) {S : Nat → Prop} (f : Fr S w w') (hs : ∀ j, sv.ownBlock = some j → ¬ S j) : Stk w' B e sv l := by
  refine ⟨h.1, ?_⟩
  rcases h.2 with h | ⟨g, cap, cur, hv, hb, hg, hr⟩
  · exact .inl h
  · exact .inr ⟨g, cap, cur, hv, hb, (f.block g (lt_of_block hg) (hs g (by rw [hv]; rfl))).trans hg, hr⟩
theorem Stk.bel (h : Stk w B e sv l) (f : Below w.heap.size w w') : Stk w' B e sv l := h.fr (S := fun _ => False) (Fr.ofBelow f) (fun _ _ h => h)
theorem Stk.form (h : Stk w B e sv ((x, y) :: r)) : ∃ g c, sv = .slice (some ⟨g, 0, none⟩) (r.length + 1) c ∧ r.length + 1 ≤ c := by
  rcases h.2 with ⟨_, h0⟩ | ⟨g, cap, cur, hv, _, _, hc, _⟩
  · simp at h0
  · exact ⟨g, cap, hv, hc⟩
variable {g c : Nat}
theorem Stk.lt (h : Stk w B e (.slice (some ⟨g, 0, none⟩) (r.length + 1) c) ((x, y) :: r)) : B ≤ g ∧ g < w.heap.size := h.block g rfl
theorem Stk.c0 (h : Stk w B e (.slice (some ⟨g, 0, none⟩) (r.length + 1) c) ((x, y) :: r)) : w.cell? ⟨g, r.length * 2, none⟩ = some x := by
  rw [World.ownsRow.cellAt h (r.length * 2) (by omega), flat2_rev, List.getElem?_append_right (by rw [flat2_length, List.length_reverse]; exact Nat.le_refl _), flat2_length, List.length_reverse, Nat.sub_self]
  rfl
theorem Stk.c1 (h : Stk w B e (.slice (some ⟨g, 0, none⟩) (r.length + 1) c) ((x, y) :: r)) : w.cell? ⟨g, r.length * 2 + 1, none⟩ = some y := by
  rw [World.ownsRow.cellAt h (r.length * 2 + 1) (by omega), flat2_rev, List.getElem?_append_right (by rw [flat2_length, List.length_reverse]; omega), flat2_length, List.length_reverse, Nat.add_sub_cancel_left]
  rfl
theorem Stk.free (h : Stk w B e (.slice (some ⟨g, 0, none⟩) (r.length + 1) c) ((x, y) :: r)) (j : Nat) : w.frozen? ⟨g, j, none⟩ = false := World.ownsRow.frozenAt h j
theorem set_app {α : Type} (a b : List α) (j : Nat) (u : α) : (a ++ b).set (a.length + j) u = a ++ b.set j u := by
  rw [List.set_append_right _ _ (by omega), Nat.add_sub_cancel_left]
theorem Stk.set0 (h : Stk w B e (.slice (some ⟨g, 0, none⟩) (r.length + 1) c) ((x, y) :: r)) (u : Value) : Stk (w.setCell ⟨g, r.length * 2, none⟩ u) B e (.slice (some ⟨g, 0, none⟩) (r.length + 1) c) ((u, y) :: r) := by
  have := (World.ownsRow.stored h (r.length * 2) u).1
  rw [flat2_rev, show r.length * 2 = (flat2 r.reverse).length + 0 by rw [flat2_length, List.length_reverse]; rfl, set_app] at this
  unfold Stk
  rw [flat2_rev]
  rw [show (flat2 r.reverse).length + 0 = r.length * 2 by rw [flat2_length, List.length_reverse]; rfl] at this
  exact this
theorem Stk.set1 (h : Stk w B e (.slice (some ⟨g, 0, none⟩) (r.length + 1) c) ((x, y) :: r)) (u : Value) : Stk (w.setCell ⟨g, r.length * 2 + 1, none⟩ u) B e (.slice (some ⟨g, 0, none⟩) (r.length + 1) c) ((x, u) :: r) := by
  have := (World.ownsRow.stored h (r.length * 2 + 1) u).1
  rw [flat2_rev, show r.length * 2 + 1 = (flat2 r.reverse).length + 1 by rw [flat2_length, List.length_reverse], set_app] at this
  unfold Stk
  rw [flat2_rev]
  rw [show (flat2 r.reverse).length + 1 = r.length * 2 + 1 by rw [flat2_length, List.length_reverse]] at this
  exact this
theorem Stk.pop {p : Value × Value} (h : Stk w B e (.slice (some ⟨g, 0, none⟩) (r.length + 1) c) (p :: r)) : Stk w B e (.slice (some ⟨g, 0, none⟩) r.length c) r := by
  refine ⟨by rw [flat2_length, List.length_reverse], ?_⟩
  rcases h.2 with ⟨h, _⟩ | ⟨g', cap', cur, h', hb, hg, hc, hm, hz, htake⟩
  · cases h
  · injection h' with h1 _ h3
    injection h1 with h1
    injection h1 with h1
    subst h1 h3
    refine .inr ⟨g, c, cur, rfl, hb, hg, by simp only [List.length_cons] at hc; omega, hm, hz, ?_⟩
    have h2 := congrArg (List.take (r.length * 2)) htake
    rw [List.take_take, Nat.min_eq_left (by simp only [List.length_cons]; omega), flat2_rev, List.take_append_of_le_length (by rw [flat2_length, List.length_reverse]; exact Nat.le_refl _), List.take_of_length_le (l := flat2 r.reverse) (by rw [flat2_length, List.length_reverse]; exact Nat.le_refl _)] at h2
    exact h2
end

/-- append of one frame: the row is the old one, or a new block. -/
theorem append_two (w : World) (B : Nat) (t ty e : TypeId) (z : Value) (ht : Try.prog.underlying t = some (.slice e)) (hinfo : (Try.prog.info? e).map (fun i => (i.zero, i.size, i.bytes)) = some (some z, 2, 32)) (hzc : z.cells.size = 2)
    (v : Value) (l : List (Value × Value)) (hown : Stk w B e v l) (a : Nat) (c : Nat) (x y : Value)
    (hx : w.cell? ⟨a, 0, none⟩ = some x) (hy : w.cell? ⟨a, 1, none⟩ = some y) (o1 : ∀ u ∈ [x, y], u.oneCell' = true) (hn : l.length ≤ 100000) (hB : B ≤ w.heap.size) :
    ∃ v' w', (Builtin.append_ #[t, t] ty #[v, .slice (some ⟨a, 0, none⟩) 1 c]).run Try.prog w = .ok v' w' ∧ Stk w' B e v' ((x, y) :: l) ∧ w.grownBy w' v.ownBlock ∧
      (v'.ownBlock = v.ownBlock ∨ v'.ownBlock = some w.heap.size) := by
  obtain ⟨i0, hi, hz0, hz1, hz2⟩ := info_parts hinfo
  have hnews : ∀ j u, [x, y][j]? = some u → w.cell? ((⟨a, 0, none⟩ : Addr).add j) = some u := by
    intro j u h
    match j, h with
    | 0, h => simp at h; subst h; rw [Addr.add_lit]; exact hx
    | 1, h => simp at h; subst h; rw [Addr.add_lit]; exact hy
  obtain ⟨v', w', h1, h2, h3, _⟩ := run_append_own (P := Try.prog) w B t ty e i0 z 2 32 ht hi hz0 hz1 hz2 hzc (by decide) v l.length (flat2 l.reverse) hown ⟨a, 0, none⟩ 1 c [x, y] rfl hnews o1 (by unfold maxLen; omega) (by omega) hB
  refine ⟨v', w', h1, by unfold Stk; rw [flat2_rev]; exact h2, h3, ?_⟩
  rcases hown.2 with ⟨rfl, h0⟩ | ⟨g, cap, cur, rfl, hbg, hg, hnc, hcm, hcs, htake⟩
  · have hr := run_append_nil (P := Try.prog) w t ty e i0 z ht hi hz0 ⟨a, 0, none⟩ 1 c [x, y] (by rw [hz1]; rfl) hnews (by omega) (by omega) (by rw [hz2]; omega)
    rw [h1] at hr
    injection hr with hr _
    right
    rw [hr]
    rfl
  · by_cases hroom : l.length + 1 ≤ cap
    · have hr := run_append_room (P := Try.prog) w t ty e i0 ht hi g l.length cap cur hg ⟨a, 0, none⟩ 1 c [x, y] (by rw [hz1]; rfl) hnews o1 hroom (by rw [hz1, hcs]; simp; omega)
      rw [h1] at hr
      injection hr with hr _
      left
      rw [hr]
      rfl
    · have hr := run_append_grow (P := Try.prog) w t ty e i0 z ht hi hz0 ⟨g, 0, none⟩ l.length cap (flat2 l.reverse) (by rw [hz1]; exact hown.1) (World.ownsRow.cells hown (g := g) rfl) ⟨a, 0, none⟩ 1 c [x, y] (by rw [hz1]; rfl) hnews (by omega) (by omega) (growslice_fits (by omega) (by rw [hz2]; omega))
      rw [h1] at hr
      injection hr with hr _
      right
      rw [hr]
      rfl

theorem own_keep {w w' : World} {B n size : Nat} {e : TypeId} {v : Value} {xs : List Value} (h : w.ownsRow B e size v n xs) {S : Nat → Prop} (f : Fr S w w') (hs : ∀ j, v.ownBlock = some j → ¬ S j) : w'.ownsRow B e size v n xs := by
  refine ⟨h.1, ?_⟩
  rcases h.2 with h | ⟨g, cap, cur, hv, hb, hg, hr⟩
  · exact .inl h
  · exact .inr ⟨g, cap, cur, hv, hb, (f.block g (lt_of_block hg) (hs g (by rw [hv]; rfl))).trans hg, hr⟩
theorem stored3 {w : World} {B n g cap : Nat} {e : TypeId} {xs : List Value} {x y z : Value} (h : w.ownsRow B e 3 (.slice (some ⟨g, 0, none⟩) (n + 1) cap) (n + 1) (xs ++ [x, y, z])) (hl : xs.length = n * 3) (x' y' z' : Value) :
    (((w.setCell ⟨g, n * 3, none⟩ x').setCell ⟨g, n * 3 + 1, none⟩ y').setCell ⟨g, n * 3 + 2, none⟩ z').ownsRow B e 3 (.slice (some ⟨g, 0, none⟩) (n + 1) cap) (n + 1) (xs ++ [x', y', z']) := by
  have h1 := (h.stored (n * 3) x').1
  rw [show n * 3 = xs.length + 0 by omega, set_app] at h1
  have h2 := (h1.stored (n * 3 + 1) y').1
  rw [show n * 3 + 1 = xs.length + 1 by omega, set_app] at h2
  have h3 := (h2.stored (n * 3 + 2) z').1
  rw [show n * 3 + 2 = xs.length + 2 by omega, set_app] at h3
  rw [show n * 3 = xs.length by omega]
  exact h3
/-- Stores into two blocks may change places. -/
theorem setCell_swap {g h i j : Nat} (w : World) (u v : Value) (hn : h ≠ g) : (w.setCell ⟨g, i, none⟩ u).setCell ⟨h, j, none⟩ v = (w.setCell ⟨h, j, none⟩ v).setCell ⟨g, i, none⟩ u := by
  simp only [World.setCell]
  congr 1
  apply Array.ext_getElem?
  intro k
  simp only [Array.getElem?_modify]
  by_cases h1 : h = k
  · subst h1
    rw [if_pos rfl, if_neg (Ne.symm hn), if_neg (Ne.symm hn), if_pos rfl]
  · rw [if_neg h1, if_neg h1]
end Go.Proofs.Ytegakecncpfnnaa
