/-
  An item as it lies in memory, whose slices all have room for what they hold; and that an argument is one. Plain lemmas about the model's worlds and its reader. No condition.
-/
import Derived.Test.YtegakecncpfnnaaItmO
namespace Go.Proofs.Ytegakecncpfnnaa
open Go.RowKit

mutual
/-- In w, v is the head of the slice of what the item has; no slice's length is above its cap. -/
def InC (w : World) : T → Value → Prop
  | .mk s _ ts, v => s.size ≤ maxLen ∧ ts.length ≤ maxLen ∧ ∃ a c, v = .slice a ts.length c ∧ ts.length ≤ c ∧ RowC w a ts 0
def RowC (w : World) (a : Option Addr) : List T → Nat → Prop
  | [], _ => True
  | t :: r, k => (∃ b o v, a = some ⟨b, o, none⟩ ∧ w.cell? ⟨b, o + k * 3, none⟩ = some (.string t.s) ∧ w.cell? ⟨b, o + k * 3 + 1, none⟩ = some (.bool t.l) ∧
      w.cell? ⟨b, o + k * 3 + 2, none⟩ = some v ∧ InC w t v) ∧ RowC w a r (k + 1)
end
mutual
theorem InC.in {w : World} : ∀ (t : T) (v : Value), InC w t v → In w t v
  | .mk _ _ ts, _, ⟨h1, h2, a, c, hv, _, hr⟩ => ⟨h1, h2, a, c, hv, RowC.row a ts 0 hr⟩
theorem RowC.row {w : World} (a : Option Addr) : ∀ (ts : List T) (k : Nat), RowC w a ts k → Row w a ts k
  | [], _, _ => trivial
  | t :: r, k, ⟨⟨b, o, v, ha, c0, c1, c2, hi⟩, hr⟩ => ⟨⟨b, o, v, ha, c0, c1, c2, InC.in t v hi⟩, RowC.row a r (k + 1) hr⟩
end
mutual
theorem InC.mono {w w' : World} (h : ∀ b i v, w.cell? ⟨b, i, none⟩ = some v → w'.cell? ⟨b, i, none⟩ = some v) : ∀ (t : T) (v : Value), InC w t v → InC w' t v
  | .mk _ _ ts, _, ⟨h1, h2, a, c, hv, hc, hr⟩ => ⟨h1, h2, a, c, hv, hc, RowC.mono h a ts 0 hr⟩
theorem RowC.mono {w w' : World} (h : ∀ b i v, w.cell? ⟨b, i, none⟩ = some v → w'.cell? ⟨b, i, none⟩ = some v) (a : Option Addr) : ∀ (ts : List T) (k : Nat), RowC w a ts k → RowC w' a ts k
  | [], _, _ => trivial
  | t :: r, k, ⟨⟨b, o, v, ha, c0, c1, c2, hi⟩, hr⟩ => ⟨⟨b, o, v, ha, h _ _ _ c0, h _ _ _ c1, h _ _ _ c2, InC.mono h t v hi⟩, RowC.mono h a r (k + 1) hr⟩
end
theorem InC.bel {w w' : World} {t : T} {v : Value} (h : InC w t v) (hb : Below w.heap.size w w') : InC w' t v := InC.mono (cells_below hb) t v h
theorem RowC.at {w : World} {a : Option Addr} : ∀ (ts : List T) (k i : Nat) (h : i < ts.length), RowC w a ts k → ∃ b o v, a = some ⟨b, o, none⟩ ∧ w.cell? ⟨b, o + (k + i) * 3, none⟩ = some (.string ts[i].s) ∧
      w.cell? ⟨b, o + (k + i) * 3 + 1, none⟩ = some (.bool ts[i].l) ∧ w.cell? ⟨b, o + (k + i) * 3 + 2, none⟩ = some v ∧ InC w ts[i] v
  | [], _, _, h, _ => absurd h (Nat.not_lt_zero _)
  | _ :: _, _, 0, _, ⟨hx, _⟩ => hx
  | _ :: r, k, i + 1, h, ⟨_, hr⟩ => by
    have := RowC.at r (k + 1) i (Nat.lt_of_succ_lt_succ h) hr
    rwa [show k + 1 + i = k + (i + 1) by omega] at this
theorem RowC.mk {w : World} {a : Option Addr} : ∀ (ts : List T) (k : Nat), (∀ i (h : i < ts.length), ∃ b o v, a = some ⟨b, o, none⟩ ∧ w.cell? ⟨b, o + (k + i) * 3, none⟩ = some (.string ts[i].s) ∧
      w.cell? ⟨b, o + (k + i) * 3 + 1, none⟩ = some (.bool ts[i].l) ∧ w.cell? ⟨b, o + (k + i) * 3 + 2, none⟩ = some v ∧ InC w ts[i] v) → RowC w a ts k
  | [], _, _ => trivial
  | _ :: r, k, h => ⟨h 0 (Nat.succ_pos _), RowC.mk r (k + 1) fun i hi => by
      have := h (i + 1) (Nat.succ_lt_succ hi)
      rwa [show k + (i + 1) = k + 1 + i by omega] at this⟩
theorem RowC.left {w : World} {a : Option Addr} : ∀ (x y : List T) (k : Nat), RowC w a (x ++ y) k → RowC w a x k
  | [], _, _, _ => trivial
  | _ :: r, y, k, ⟨h, hr⟩ => ⟨h, RowC.left r y (k + 1) hr⟩
theorem InC.slice {w : World} : ∀ {t : T} {v : Value}, InC w t v → ∃ a c, v = .slice a t.ts.length c ∧ t.ts.length ≤ c ∧ t.ts.length ≤ maxLen ∧ RowC w a t.ts 0
  | .mk _ _ _, _, ⟨_, hl, a, c, hv, hc, hr⟩ => ⟨a, c, hv, hc, hl, hr⟩

set_option maxRecDepth 100000 in
theorem open_itemC {H : Type} {enc : TypeId × Value → H} {w : World} {base : Nat} {sp : Nat → Bool} {hd : Bool} : ∀ (fuel : Nat) (cs : List Value) (x : DataW H × List MemPlace),
    DataW.trod enc Try.prog w base sp hd fuel 24 cs = some x → ∃ t v, cs = [.string (T.s t), .bool (T.l t), v] ∧ InC w t v := by
  intro fuel
  induction fuel using Nat.strongRecOn with
  | _ fuel ih =>
    intro cs x h
    obtain ⟨xs, n, rfl, _, hcl, hxl, hf⟩ := DataW.trod_struct Try.underlying24 h
    have c3 : Try.prog.cellsOf 24 = 3 := by kernel_rfl
    have cs1 : Try.prog.cellsOf 9 = 1 := by kernel_rfl
    have cb1 : Try.prog.cellsOf 4 = 1 := by kernel_rfl
    have cl1 : Try.prog.cellsOf 22 = 1 := by kernel_rfl
    rw [c3] at hcl
    match xs, hxl, cs, hcl with
    | [y0, y1, y2], _, [v0, v1, v2], _ =>
      have g0 := hf 0 _ rfl
      have g1 := hf 1 _ rfl
      have g2 := hf 2 _ rfl
      simp [cs1, cb1, cl1] at g0 g1 g2
      obtain ⟨s, e0, _, hs⟩ := DataW.trod_string Try.underlying9 g0
      obtain ⟨l, e1, _⟩ := DataW.trod_bool Try.underlying4 g1
      simp at e0 e1
      subst e0 e1
      rcases DataW.trod_slice Try.underlying22 g2 with ⟨e2, _⟩ | ⟨a, len, cap, elems, rest, m, rfl, e2, _, _, hlc, hcm, hel, hat, _, _⟩
      · simp at e2
        subst e2
        exact ⟨.mk s l [], _, rfl, hs, by simp [maxLen], none, 0, rfl, Nat.le_refl _, trivial⟩
      · simp at e2
        subst e2
        rw [c3] at hat
        have hsp : 0 < len → a.spot = none := by
          intro h0
          have h1 := hat 0 h0
          rw [List.getElem?_eq_getElem (by omega)] at h1
          obtain ⟨cs', h2, h3⟩ := Option.bind_eq_some_iff.1 h1
          obtain ⟨t, v, rfl, _⟩ := ih m (by omega) cs' _ h3
          obtain ⟨_, _, hcell⟩ := World.cells?_some h2
          have d0 := hcell 0 (by omega)
          simp only [List.getElem?_cons_zero] at d0
          simpa [Addr.add] using World.cell?_spot d0
        have each : ∀ i, i < len → ∃ q : T × Value, ∃ b o, a = ⟨b, o, none⟩ ∧ w.cell? ⟨b, o + i * 3, none⟩ = some (.string q.1.s) ∧ w.cell? ⟨b, o + i * 3 + 1, none⟩ = some (.bool q.1.l) ∧ w.cell? ⟨b, o + i * 3 + 2, none⟩ = some q.2 ∧ InC w q.1 q.2 := by
          intro i hi
          have h1 := hat i hi
          rw [List.getElem?_eq_getElem (by omega)] at h1
          obtain ⟨cs', h2, h3⟩ := Option.bind_eq_some_iff.1 h1
          obtain ⟨t, v, rfl, hin⟩ := ih m (by omega) cs' _ h3
          obtain ⟨_, _, hcell⟩ := World.cells?_some h2
          obtain ⟨b, o, spot⟩ := a
          have d0 := hcell 0 (by omega)
          have d1 := hcell 1 (by omega)
          have d2 := hcell 2 (by omega)
          simp only [List.getElem?_cons_zero, List.getElem?_cons_succ] at d0 d1 d2
          have hspot : spot = none := hsp (by omega)
          subst hspot
          rw [Addr.add_lit, Addr.add_lit] at d0 d1 d2
          exact ⟨(t, v), b, o, rfl, by simpa using d0, by simpa using d1, by simpa using d2, hin⟩
        haveI : Inhabited (T × Value) := ⟨(.mk ⟨#[]⟩ false [], .bool false)⟩
        obtain ⟨q, hq⟩ := Go.Deep.choose_lt each
        refine ⟨.mk s l ((List.range len).map fun i => (q i).1), .slice (some a) len cap, rfl, hs, by simp; omega, some a, cap, by simp, by simp; omega, RowC.mk _ 0 fun i hi => ?_⟩
        have hi' : i < len := by simpa using hi
        obtain ⟨b, o, rfl, d0, d1, d2, hin⟩ := hq i hi'
        simp only [List.getElem_map, List.getElem_range, Nat.zero_add]
        exact ⟨b, o, (q i).2, rfl, d0, d1, d2, hin⟩
end Go.Proofs.Ytegakecncpfnnaa
