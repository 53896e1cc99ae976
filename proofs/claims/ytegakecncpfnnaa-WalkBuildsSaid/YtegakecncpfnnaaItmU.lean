/-
  An item whose rows are blocks of a set, and append to a row of items that is one's own. Plain lemmas about the model's worlds, and the operation append over this seat's translation. No condition.
-/
import Derived.Test.YtegakecncpfnnaaItmN
import Derived.Test.YtegakecncpfnnaaItmC
import Derived.Laws.AppendOwn
import Derived.OwnWalk
namespace Go.Proofs.Ytegakecncpfnnaa
open Go.RowKit

mutual
/-- In w, v is the head of the slice of what the item has, in blocks of N. -/
def InP (w : World) (N : Nat → Prop) : T → Value → Prop
  | .mk s _ ts, v => s.size ≤ maxLen ∧ ts.length ≤ maxLen ∧ ∃ a c, v = .slice a ts.length c ∧ RowP w N a ts 0
def RowP (w : World) (N : Nat → Prop) (a : Option Addr) : List T → Nat → Prop
  | [], _ => True
  | t :: r, k => (∃ g v, a = some ⟨g, 0, none⟩ ∧ N g ∧ g < w.heap.size ∧ w.cell? ⟨g, k * 3, none⟩ = some (.string t.s) ∧ w.cell? ⟨g, k * 3 + 1, none⟩ = some (.bool t.l) ∧ w.cell? ⟨g, k * 3 + 2, none⟩ = some v ∧ InP w N t v) ∧ RowP w N a r (k + 1)
end
mutual
theorem InP.in {w : World} {N : Nat → Prop} : ∀ (t : T) (v : Value), InP w N t v → In w t v
  | .mk _ _ ts, _, ⟨h1, h2, a, c, hv, hr⟩ => ⟨h1, h2, a, c, hv, RowP.row a ts 0 hr⟩
theorem RowP.row {w : World} {N : Nat → Prop} (a : Option Addr) : ∀ (ts : List T) (k : Nat), RowP w N a ts k → Row w a ts k
  | [], _, _ => trivial
  | t :: r, k, ⟨⟨g, v, ha, _, _, c0, c1, c2, hi⟩, hr⟩ => ⟨⟨g, 0, v, ha, by rw [Nat.zero_add]; exact c0, by rw [Nat.zero_add]; exact c1, by rw [Nat.zero_add]; exact c2, InP.in t v hi⟩, RowP.row a r (k + 1) hr⟩
end
mutual
theorem InP.keep {w w' : World} {N N' : Nat → Prop} (hs : w.heap.size ≤ w'.heap.size) (h : ∀ g, N g → g < w.heap.size → N' g ∧ w'.heap[g]? = w.heap[g]?) : ∀ (t : T) (v : Value), InP w N t v → InP w' N' t v
  | .mk _ _ ts, _, ⟨h1, h2, a, c, hv, hr⟩ => ⟨h1, h2, a, c, hv, RowP.keep hs h a ts 0 hr⟩
theorem RowP.keep {w w' : World} {N N' : Nat → Prop} (hs : w.heap.size ≤ w'.heap.size) (h : ∀ g, N g → g < w.heap.size → N' g ∧ w'.heap[g]? = w.heap[g]?) (a : Option Addr) : ∀ (ts : List T) (k : Nat), RowP w N a ts k → RowP w' N' a ts k
  | [], _, _ => trivial
  | t :: r, k, ⟨⟨g, v, ha, hn, hl, c0, c1, c2, hi⟩, hr⟩ =>
    ⟨⟨g, v, ha, (h g hn hl).1, Nat.lt_of_lt_of_le hl hs, (World.cell?_of_block (a := ⟨g, k * 3, none⟩) (h g hn hl).2).trans c0, (World.cell?_of_block (a := ⟨g, k * 3 + 1, none⟩) (h g hn hl).2).trans c1,
      (World.cell?_of_block (a := ⟨g, k * 3 + 2, none⟩) (h g hn hl).2).trans c2, InP.keep hs h t v hi⟩, RowP.keep hs h a r (k + 1) hr⟩
end
theorem InP.slice {w : World} {N : Nat → Prop} {t : T} {v : Value} (h : InP w N t v) : ∃ a c, v = .slice a t.ts.length c := (InP.in t v h).slice
theorem InP.fr {w w' : World} {N N' : Nat → Prop} {t : T} {v : Value} (h : InP w N t v) {S : Nat → Prop} (f : Fr S w w') (hn : ∀ g, N g → g < w.heap.size → N' g ∧ ¬ S g) : InP w' N' t v :=
  InP.keep f.size (fun g h1 h2 => ⟨(hn g h1 h2).1, f.block g h2 (hn g h1 h2).2⟩) t v h
theorem RowP.mk {w : World} {N : Nat → Prop} {g : Nat} (hn : N g) (hg : g < w.heap.size) : ∀ (ts : List T) (k : Nat),
    (∀ i (h : i < ts.length), w.cell? ⟨g, (k + i) * 3, none⟩ = some (.string ts[i].s) ∧ w.cell? ⟨g, (k + i) * 3 + 1, none⟩ = some (.bool ts[i].l) ∧ ∃ v, w.cell? ⟨g, (k + i) * 3 + 2, none⟩ = some v ∧ InP w N ts[i] v) → RowP w N (some ⟨g, 0, none⟩) ts k
  | [], _, _ => trivial
  | t :: r, k, h => by
    obtain ⟨c0, c1, v, c2, hi⟩ := h 0 (Nat.succ_pos _)
    refine ⟨⟨g, v, rfl, hn, hg, c0, c1, c2, hi⟩, RowP.mk hn hg r (k + 1) fun i hi' => ?_⟩
    have := h (i + 1) (Nat.succ_lt_succ hi')
    rwa [show k + (i + 1) = k + 1 + i by omega] at this

/-- append of one item to a row of one's own: the row is the old one, or a new block. -/
theorem append_item (w : World) (B n : Nat) (v : Value) (xs : List Value) (hown : w.ownsRow B 24 3 v n xs) (a : Nat) (c : Nat) (x y z : Value)
    (hx : w.cell? ⟨a, 0, none⟩ = some x) (hy : w.cell? ⟨a, 1, none⟩ = some y) (hz : w.cell? ⟨a, 2, none⟩ = some z) (o1 : ∀ u ∈ [x, y, z], u.oneCell' = true) (hn : n ≤ 100000) (hB : B ≤ w.heap.size) (ty : TypeId) :
    ∃ v' w', (Builtin.append_ #[22, 22] ty #[v, .slice (some ⟨a, 0, none⟩) 1 c]).run Try.prog w = .ok v' w' ∧ w'.ownsRow B 24 3 v' (n + 1) (xs ++ [x, y, z]) ∧ w.grownBy w' v.ownBlock ∧
      (v'.ownBlock = v.ownBlock ∨ v'.ownBlock = some w.heap.size) := by
  obtain ⟨i0, hi, hz0, hz1, hz2⟩ := info_parts (show (Try.prog.info? 24).map (fun i => (i.zero, i.size, i.bytes)) = some (some (.agg #[.string ⟨#[]⟩, .bool false, .slice none 0 0]), 3, 48) by kernel_rfl)
  have hnews : ∀ j u, [x, y, z][j]? = some u → w.cell? ((⟨a, 0, none⟩ : Addr).add j) = some u := by
    intro j u h
    match j, h with
    | 0, h => simp at h; subst h; rw [Addr.add_lit]; exact hx
    | 1, h => simp at h; subst h; rw [Addr.add_lit]; exact hy
    | 2, h => simp at h; subst h; rw [Addr.add_lit]; exact hz
  obtain ⟨v', w', h1, h2, h3, _⟩ := run_append_own (P := Try.prog) w B 22 ty 24 i0 _ 3 48 Try.underlying22 hi hz0 hz1 hz2 rfl (by decide) v n xs hown ⟨a, 0, none⟩ 1 c [x, y, z] rfl hnews o1 (by unfold maxLen; omega) (by omega) hB
  refine ⟨v', w', h1, h2, h3, ?_⟩
  rcases hown.2 with ⟨rfl, rfl⟩ | ⟨g, cap, cur, rfl, hbg, hg, hnc, hcm, hcs, htake⟩
  · have hr := run_append_nil (P := Try.prog) w 22 ty 24 i0 _ Try.underlying22 hi hz0 ⟨a, 0, none⟩ 1 c [x, y, z] (by rw [hz1]; rfl) hnews (by omega) (by omega) (by rw [hz2]; omega)
    rw [h1] at hr
    injection hr with hr _
    right
    rw [hr]
    rfl
  · by_cases hroom : n + 1 ≤ cap
    · have hr := run_append_room (P := Try.prog) w 22 ty 24 i0 Try.underlying22 hi g n cap cur hg ⟨a, 0, none⟩ 1 c [x, y, z] (by rw [hz1]; rfl) hnews o1 hroom (by rw [hz1, hcs]; simp; omega)
      rw [h1] at hr
      injection hr with hr _
      left
      rw [hr]
      rfl
    · have hr := run_append_grow (P := Try.prog) w 22 ty 24 i0 _ Try.underlying22 hi hz0 ⟨g, 0, none⟩ n cap xs (by rw [hz1]; exact hown.1) (hown.cells (g := g) rfl) ⟨a, 0, none⟩ 1 c [x, y, z] (by rw [hz1]; rfl) hnews (by omega) (by omega) (growslice_fits (by omega) (by rw [hz2]; omega))
      rw [h1] at hr
      injection hr with hr _
      right
      rw [hr]
      rfl

/-- The items of a row that is being filled. -/
def Got (w : World) (N : Nat → Prop) (ys : List T) (xs : List Value) : Prop := ∀ i (h : i < ys.length), xs[i * 3]? = some (.string ys[i].s) ∧ xs[i * 3 + 1]? = some (.bool ys[i].l) ∧ ∃ v, xs[i * 3 + 2]? = some v ∧ InP w N ys[i] v
theorem Got.nil (w : World) (N : Nat → Prop) : Got w N [] [] := fun i h => absurd h (Nat.not_lt_zero i)
theorem Got.more {w : World} {N : Nat → Prop} {ys : List T} {xs : List Value} (h : Got w N ys xs) (hl : xs.length = ys.length * 3) {y : T} {v : Value} (hv : InP w N y v) : Got w N (ys ++ [y]) (xs ++ [.string y.s, .bool y.l, v]) := by
  intro i hi
  rw [List.length_append, List.length_singleton] at hi
  by_cases he : i < ys.length
  · obtain ⟨h1, h2, u, h3, h4⟩ := h i he
    rw [List.getElem_append_left he]
    exact ⟨by rw [List.getElem?_append_left (by omega)]; exact h1, by rw [List.getElem?_append_left (by omega)]; exact h2, u, by rw [List.getElem?_append_left (by omega)]; exact h3, h4⟩
  · obtain rfl : i = ys.length := by omega
    rw [List.getElem_append_right (by omega)]
    simp only [Nat.sub_self, List.getElem_cons_zero]
    refine ⟨?_, ?_, v, ?_, hv⟩
    · rw [List.getElem?_append_right (by omega), hl, Nat.sub_self]; rfl
    · rw [List.getElem?_append_right (by omega), hl, show ys.length * 3 + 1 - ys.length * 3 = 1 by omega]; rfl
    · rw [List.getElem?_append_right (by omega), hl, show ys.length * 3 + 2 - ys.length * 3 = 2 by omega]; rfl
theorem Got.keep {w w' : World} {N N' : Nat → Prop} {ys : List T} {xs : List Value} (h : Got w N ys xs) (hs : w.heap.size ≤ w'.heap.size) (hk : ∀ g, N g → g < w.heap.size → N' g ∧ w'.heap[g]? = w.heap[g]?) : Got w' N' ys xs := fun i hi => by
  obtain ⟨h1, h2, v, h3, h4⟩ := h i hi
  exact ⟨h1, h2, v, h3, InP.keep hs hk _ _ h4⟩
/-- The list that a filled row is. -/
theorem Got.list {w : World} {N : Nat → Prop} {B : Nat} {ys : List T} {xs : List Value} {v : Value} (h : Got w N ys xs) (hown : w.ownsRow B 24 3 v ys.length xs) (hN : ∀ g, v.ownBlock = some g → N g) (hl : ys.length ≤ maxLen) (s : ByteArray) (hs : s.size ≤ maxLen) (l : Bool) : InP w N (.mk s l ys) v := by
  refine ⟨hs, hl, ?_⟩
  rcases hown.2 with ⟨rfl, h0⟩ | ⟨g, cap, cur, rfl, _, hg, _, _, _, _⟩
  · have : ys = [] := List.eq_nil_of_length_eq_zero h0
    subst this
    exact ⟨none, 0, rfl, trivial⟩
  · have hc := hown.cells (g := g) rfl
    refine ⟨_, cap, rfl, RowP.mk (hN g rfl) (lt_of_block hg) ys 0 fun i hi => ?_⟩
    obtain ⟨h1, h2, v, h3, h4⟩ := h i hi
    rw [Nat.zero_add]
    have d0 := hc _ _ h1
    have d1 := hc _ _ h2
    have d2 := hc _ _ h3
    rw [Addr.add_lit, Nat.zero_add] at d0 d1 d2
    exact ⟨d0, d1, v, d2, h4⟩
end Go.Proofs.Ytegakecncpfnnaa
