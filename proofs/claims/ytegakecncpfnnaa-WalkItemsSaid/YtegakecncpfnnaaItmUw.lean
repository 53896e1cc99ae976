/-
  A row of items that is one's own and grows: laws for append, and what it leaves. Plain lemmas about the model's worlds, and the operation append. No condition.
-/
import Derived.Test.YtegakecncpfnnaaItmU
import Derived.Test.YtegakecncpfnnaaItmI3
import Derived.Test.YtegakecncpfnnaaHeld
namespace Go.Proofs.Ytegakecncpfnnaa
open Go.RowKit

/-- A zero item. -/
def ZV : Value := .agg #[.string ⟨#[]⟩, .bool false, .slice none 0 0]
theorem own_fr {w w' : World} {B n size : Nat} {e : TypeId} {v : Value} {xs : List Value} (h : w.ownsRow B e size v n xs) {S : Nat → Prop} (f : Fr S w w') (hs : ∀ j, S j → j < B) : w'.ownsRow B e size v n xs := by
  refine ⟨h.1, ?_⟩
  rcases h.2 with h | ⟨g, cap, cur, hv, hb, hg, hr⟩
  · exact .inl h
  · exact .inr ⟨g, cap, cur, hv, hb, (f.block g (lt_of_block hg) (fun hS => absurd (hs g hS) (Nat.not_lt.2 hb))).trans hg, hr⟩
theorem wpList_append_run {P : Program} {w : World} {ops : Array Oper} {rest : List Oper} {o : Oper} {a : Act} {Q : Exit → Act → World → Prop} (hgd : o.guard = none) (s x : Operand) (t : TypeId)
    (ho : o.op = .call { callee := .builtin .append, args := #[s, x], argTypes := #[t, t] }) (vs vx : Value) (hs : a.eval s = vs) (hx : a.eval x = vx) (v' : Value) (w' : World)
    (hr : (Builtin.append_ #[t, t] o.type #[vs, vx]).run P w = .ok v' w') (h : wpList P ops Q rest (a.put o.dst v') w') : wpList P ops Q (o :: rest) a w :=
  wpList_plain hgd fun K hK => by
    unfold Oper.wp execOp
    simp only [ho, resolve, invoke, builtin, Sem.run_bind, Sem.run_pure, Result.andThen_ok, List.map_toArray, List.map_cons, List.map_nil, hs, hx, hr]
    exact hK _ _ h
theorem own_not {w : World} {B n size : Nat} {e : TypeId} {v : Value} {xs : List Value} (h : w.ownsRow B e size v n xs) {j : Nat} (hj : j < B) : v.ownBlock ≠ some j := fun e => by
  have := (h.lt j e).1
  omega
theorem fr_grown {w w' : World} {v : Value} (g : w.grownBy w' v.ownBlock) : Fr (fun j => v.ownBlock = some j) w w' :=
  ⟨g.os, g.tape, g.output, g.size, fun j hj hn => g.block j hj (fun e => hn e.symm)⟩
theorem I3.set2 {w : World} {g : Nat} {x y z : Value} (h : I3 w g x y z) (u : Value) : I3 (w.setCell ⟨g, 2, none⟩ u) g x y u := (set_cells (i := 2) h u).trans rfl

theorem ready_append {P : Program} {w : World} {o : Oper} {a : Act} {K : Act → World → Prop} {Q : Exit → Act → World → Prop} {b : Bool} (hb : b = true) (s x : Operand) (t : TypeId)
    (ho : o.op = .call { callee := .builtin .append, args := #[s, x], argTypes := #[t, t] }) (vs vx : Value) (hs : a.eval s = vs) (hx : a.eval x = vx) (v' : Value) (w' : World)
    (hr : (Builtin.append_ #[t, t] o.type #[vs, vx]).run P w = .ok v' w') (h : K (a.put o.dst v') w') : if b = true then Oper.wp P o a w K Q else K (a.put o.dst undef) w := by
  rw [if_pos hb]
  unfold Oper.wp execOp
  simp only [ho, resolve, invoke, builtin, Sem.run_bind, Sem.run_pure, Result.andThen_ok, List.map_toArray, List.map_cons, List.map_nil, hs, hx, hr]
  exact h
end Go.Proofs.Ytegakecncpfnnaa
