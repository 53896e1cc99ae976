/-
  An item as it lies in memory: three cells, the third one a slice's head. Plain lemmas about the model's worlds, no program. No condition.
-/
import Derived.Test.YtegakecncpfnnaaItmM
import Derived.Test.YtegakecncpfnnaaFr
namespace Go.Proofs.Ytegakecncpfnnaa
open Go.RowKit

mutual
/-- In w, v is the head of the slice of what the item has. -/
def In (w : World) : T → Value → Prop
  | .mk s _ ts, v => s.size ≤ maxLen ∧ ts.length ≤ maxLen ∧ ∃ a c, v = .slice a ts.length c ∧ Row w a ts 0
/-- The items of a list lie from place k of a row on. -/
def Row (w : World) (a : Option Addr) : List T → Nat → Prop
  | [], _ => True
  | t :: r, k => (∃ b o v, a = some ⟨b, o, none⟩ ∧ w.cell? ⟨b, o + k * 3, none⟩ = some (.string t.s) ∧ w.cell? ⟨b, o + k * 3 + 1, none⟩ = some (.bool t.l) ∧
      w.cell? ⟨b, o + k * 3 + 2, none⟩ = some v ∧ In w t v) ∧ Row w a r (k + 1)
end

theorem lt_of_cell {w : World} {g i : Nat} {v : Value} (hv : w.cell? ⟨g, i, none⟩ = some v) : g < w.heap.size := by
  rcases Nat.lt_or_ge g w.heap.size with h | h
  · exact h
  · simp [World.cell?, Array.getElem?_eq_none h] at hv

mutual
theorem In.mono {w w' : World} (h : ∀ b i v, w.cell? ⟨b, i, none⟩ = some v → w'.cell? ⟨b, i, none⟩ = some v) : ∀ (t : T) (v : Value), In w t v → In w' t v
  | .mk _ _ ts, _, ⟨h1, h2, a, c, hv, hr⟩ => ⟨h1, h2, a, c, hv, Row.mono h a ts 0 hr⟩
theorem Row.mono {w w' : World} (h : ∀ b i v, w.cell? ⟨b, i, none⟩ = some v → w'.cell? ⟨b, i, none⟩ = some v) (a : Option Addr) : ∀ (ts : List T) (k : Nat), Row w a ts k → Row w' a ts k
  | [], _, _ => trivial
  | t :: r, k, ⟨⟨b, o, v, ha, c0, c1, c2, hi⟩, hr⟩ => ⟨⟨b, o, v, ha, h _ _ _ c0, h _ _ _ c1, h _ _ _ c2, In.mono h t v hi⟩, Row.mono h a r (k + 1) hr⟩
end
theorem cells_below {w w' : World} (h : Below w.heap.size w w') (b i : Nat) (v : Value) (hc : w.cell? ⟨b, i, none⟩ = some v) : w'.cell? ⟨b, i, none⟩ = some v :=
  (h.cell (p := ⟨b, i, none⟩) (lt_of_cell hc)).trans hc
theorem In.bel {w w' : World} {t : T} {v : Value} (h : In w t v) (hb : Below w.heap.size w w') : In w' t v := In.mono (cells_below hb) t v h
theorem Row.bel {w w' : World} {a : Option Addr} {ts : List T} {k : Nat} (h : Row w a ts k) (hb : Below w.heap.size w w') : Row w' a ts k := Row.mono (cells_below hb) a ts k h
theorem Row.at {w : World} {a : Option Addr} : ∀ (ts : List T) (k i : Nat) (h : i < ts.length), Row w a ts k → ∃ b o v, a = some ⟨b, o, none⟩ ∧ w.cell? ⟨b, o + (k + i) * 3, none⟩ = some (.string ts[i].s) ∧
      w.cell? ⟨b, o + (k + i) * 3 + 1, none⟩ = some (.bool ts[i].l) ∧ w.cell? ⟨b, o + (k + i) * 3 + 2, none⟩ = some v ∧ In w ts[i] v
  | [], _, _, h, _ => absurd h (Nat.not_lt_zero _)
  | _ :: _, _, 0, _, ⟨hx, _⟩ => hx
  | _ :: r, k, i + 1, h, ⟨_, hr⟩ => by
    have := Row.at r (k + 1) i (Nat.lt_of_succ_lt_succ h) hr
    rwa [show k + 1 + i = k + (i + 1) by omega] at this
theorem Row.mk {w : World} {a : Option Addr} : ∀ (ts : List T) (k : Nat), (∀ i (h : i < ts.length), ∃ b o v, a = some ⟨b, o, none⟩ ∧ w.cell? ⟨b, o + (k + i) * 3, none⟩ = some (.string ts[i].s) ∧
      w.cell? ⟨b, o + (k + i) * 3 + 1, none⟩ = some (.bool ts[i].l) ∧ w.cell? ⟨b, o + (k + i) * 3 + 2, none⟩ = some v ∧ In w ts[i] v) → Row w a ts k
  | [], _, _ => trivial
  | _ :: r, k, h => ⟨h 0 (Nat.succ_pos _), Row.mk r (k + 1) fun i hi => by
      have := h (i + 1) (Nat.succ_lt_succ hi)
      rwa [show k + (i + 1) = k + 1 + i by omega] at this⟩
theorem In.slice {w : World} : ∀ {t : T} {v : Value}, In w t v → ∃ a c, v = .slice a t.ts.length c
  | .mk _ _ _, _, ⟨_, _, a, c, hv, _⟩ => ⟨a, c, hv⟩
theorem In.short {w : World} : ∀ {t : T} {v : Value}, In w t v → t.s.size ≤ maxLen ∧ t.ts.length ≤ maxLen
  | .mk _ _ _, _, ⟨h1, h2, _⟩ => ⟨h1, h2⟩
theorem In.row {w : World} : ∀ {t : T} {a : Option Addr} {n c : Nat}, In w t (.slice a n c) → n = t.ts.length ∧ Row w a t.ts 0
  | .mk _ _ _, _, _, _, ⟨_, _, _, _, hv, hr⟩ => by
    injection hv with h1 h2 h3
    subst h1 h2
    exact ⟨rfl, hr⟩
end Go.Proofs.Ytegakecncpfnnaa
