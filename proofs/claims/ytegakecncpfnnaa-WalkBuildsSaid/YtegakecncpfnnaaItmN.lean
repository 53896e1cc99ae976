/-
  An item whose rows are all new blocks of one's own. Plain lemmas about the model's worlds, no program. No condition.
-/
import Derived.Test.YtegakecncpfnnaaItmV
namespace Go.Proofs.Ytegakecncpfnnaa
open Go.RowKit

mutual
/-- In w, v is the head of the slice of what the item has, in blocks from B on, none of them frozen. -/
def InN (w : World) (B : Nat) : T → Value → Prop
  | .mk s _ ts, v => s.size ≤ maxLen ∧ ts.length ≤ maxLen ∧ ∃ a c, v = .slice a ts.length c ∧ RowN w B a ts 0
def RowN (w : World) (B : Nat) (a : Option Addr) : List T → Nat → Prop
  | [], _ => True
  | t :: r, k => (∃ g cur v, a = some ⟨g, 0, none⟩ ∧ B ≤ g ∧ w.heap[g]? = some (.cells cur 24 (0, 0)) ∧ cur[k * 3]? = some (.string t.s) ∧ cur[k * 3 + 1]? = some (.bool t.l) ∧ cur[k * 3 + 2]? = some v ∧ InN w B t v) ∧ RowN w B a r (k + 1)
end

theorem cell_cells {w : World} {g i : Nat} {cur : Array Value} {ty : TypeId} {f : Nat × Nat} (h : w.heap[g]? = some (.cells cur ty f)) : w.cell? ⟨g, i, none⟩ = cur[i]? := by simp [World.cell?, h]
theorem free_cells {w : World} {g i : Nat} {cur : Array Value} {ty : TypeId} (h : w.heap[g]? = some (.cells cur ty (0, 0))) : w.frozen? ⟨g, i, none⟩ = false := by simp [World.frozen?, h]
theorem set_cells {w : World} {g i : Nat} {cur : Array Value} {ty : TypeId} {f : Nat × Nat} (h : w.heap[g]? = some (.cells cur ty f)) (u : Value) : (w.setCell ⟨g, i, none⟩ u).heap[g]? = some (.cells (cur.setIfInBounds i u) ty f) := by
  simp [World.setCell, Array.getElem?_modify, h]

mutual
theorem InN.in {w : World} {B : Nat} : ∀ (t : T) (v : Value), InN w B t v → In w t v
  | .mk _ _ ts, _, ⟨h1, h2, a, c, hv, hr⟩ => ⟨h1, h2, a, c, hv, RowN.row a ts 0 hr⟩
theorem RowN.row {w : World} {B : Nat} (a : Option Addr) : ∀ (ts : List T) (k : Nat), RowN w B a ts k → Row w a ts k
  | [], _, _ => trivial
  | t :: r, k, ⟨⟨g, cur, v, ha, _, hg, c0, c1, c2, hi⟩, hr⟩ => ⟨⟨g, 0, v, ha, by rw [cell_cells hg, Nat.zero_add]; exact c0, by rw [cell_cells hg, Nat.zero_add]; exact c1, by rw [cell_cells hg, Nat.zero_add]; exact c2, InN.in t v hi⟩, RowN.row a r (k + 1) hr⟩
end
mutual
theorem InN.keep {w w' : World} {B B' : Nat} (hB : B' ≤ B) (h : ∀ g, B ≤ g → g < w.heap.size → w'.heap[g]? = w.heap[g]?) : ∀ (t : T) (v : Value), InN w B t v → InN w' B' t v
  | .mk _ _ ts, _, ⟨h1, h2, a, c, hv, hr⟩ => ⟨h1, h2, a, c, hv, RowN.keep hB h a ts 0 hr⟩
theorem RowN.keep {w w' : World} {B B' : Nat} (hB : B' ≤ B) (h : ∀ g, B ≤ g → g < w.heap.size → w'.heap[g]? = w.heap[g]?) (a : Option Addr) : ∀ (ts : List T) (k : Nat), RowN w B a ts k → RowN w' B' a ts k
  | [], _, _ => trivial
  | t :: r, k, ⟨⟨g, cur, v, ha, hb, hg, c0, c1, c2, hi⟩, hr⟩ => ⟨⟨g, cur, v, ha, Nat.le_trans hB hb, (h g hb (lt_of_block hg)).trans hg, c0, c1, c2, InN.keep hB h t v hi⟩, RowN.keep hB h a r (k + 1) hr⟩
end
theorem InN.fr {w w' : World} {B : Nat} {t : T} {v : Value} (h : InN w B t v) {S : Nat → Prop} (f : Fr S w w') (hs : ∀ j, S j → j < B) : InN w' B t v :=
  InN.keep (Nat.le_refl _) (fun g hg hl => f.block g hl fun hS => absurd (hs g hS) (Nat.not_lt.2 hg)) t v h
theorem InN.weak {w : World} {B B' : Nat} {t : T} {v : Value} (h : InN w B t v) (hB : B' ≤ B) : InN w B' t v := InN.keep hB (fun _ _ _ => rfl) t v h
theorem InN.slice {w : World} {B : Nat} {t : T} {v : Value} (h : InN w B t v) : ∃ a c, v = .slice a t.ts.length c := (InN.in t v h).slice
theorem RowN.mk {w : World} {B g : Nat} {cur : Array Value} (hg : w.heap[g]? = some (.cells cur 24 (0, 0))) (hb : B ≤ g) : ∀ (ts : List T) (k : Nat),
    (∀ i (h : i < ts.length), cur[(k + i) * 3]? = some (.string ts[i].s) ∧ cur[(k + i) * 3 + 1]? = some (.bool ts[i].l) ∧ ∃ v, cur[(k + i) * 3 + 2]? = some v ∧ InN w B ts[i] v) → RowN w B (some ⟨g, 0, none⟩) ts k
  | [], _, _ => trivial
  | t :: r, k, h => by
    obtain ⟨c0, c1, v, c2, hi⟩ := h 0 (Nat.succ_pos _)
    refine ⟨⟨g, cur, v, rfl, hb, hg, c0, c1, c2, hi⟩, RowN.mk hg hb r (k + 1) fun i hi' => ?_⟩
    have := h (i + 1) (Nat.succ_lt_succ hi')
    rwa [show k + (i + 1) = k + 1 + i by omega] at this
theorem RowN.at {w : World} {B : Nat} {a : Option Addr} : ∀ (ts : List T) (k i : Nat) (h : i < ts.length), RowN w B a ts k → ∃ g cur v, a = some ⟨g, 0, none⟩ ∧ B ≤ g ∧ w.heap[g]? = some (.cells cur 24 (0, 0)) ∧
      cur[(k + i) * 3]? = some (.string ts[i].s) ∧ cur[(k + i) * 3 + 1]? = some (.bool ts[i].l) ∧ cur[(k + i) * 3 + 2]? = some v ∧ InN w B ts[i] v
  | [], _, _, h, _ => absurd h (Nat.not_lt_zero _)
  | _ :: _, _, 0, _, ⟨hx, _⟩ => hx
  | _ :: r, k, i + 1, h, ⟨_, hr⟩ => by
    have := RowN.at r (k + 1) i (Nat.lt_of_succ_lt_succ h) hr
    rwa [show k + 1 + i = k + (i + 1) by omega] at this
end Go.Proofs.Ytegakecncpfnnaa
