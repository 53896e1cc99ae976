/-
  A block of numbers, loaded whole in a region that draws its order. Plain lemmas, no program. No condition beyond those named.
-/
import Derived.Test.YtnjiflkbgpbchaaNum
import Derived.Test.YtnjiflkbgpbchaaQuit
namespace Go.Proofs.Ytnjiflkbgpbchaa

theorem wpQuiet_load_nums {P : Program} {ops : Array Oper} {rest : List Oper} {o : Oper} {a : Act} {W : World} {L : Act → Prop} {k : IntKind} {t : TypeId} {g : Nat} {l : List Nat} {d : TypeDesc}
    (hgd : o.guard = none) (ty : TypeId) (x : Operand) (ho : o.op = .load ty x) (hx : a.eval x = .pointer (some ⟨g, 0, none⟩)) (hN : Nums k t W g l)
    (hu : P.underlying ty = some d) (hd : (match d with | .struct _ | .array _ _ => true | _ => false) = true) (hi : (P.info? ty).map (·.size) = some l.length) (V : Value) (hV : V = wordsOf k l)
    (h : wpQuiet P ops (fun w' => ∃ q, w' = W.drewN q) L rest (a.put o.dst V)) : wpQuiet P ops (fun w' => ∃ q, w' = W.drewN q) L (o :: rest) a := by
  have hw : Region.wanted o (yielded ops a.tmps) = true := by simp [Region.wanted, hgd]
  show if Region.wanted o (yielded ops a.tmps) then _ else _
  rw [if_pos hw]
  refine ⟨V, ?_, h⟩
  rintro w' ⟨q, rfl⟩
  unfold Oper.quietAt
  rw [exec_load_nums ty x ho hx (hN.drewN q) hu hd hi V hV]
  exact ⟨rfl, rfl⟩
/-- An operation that yields one value in every world of the class. -/
theorem wpQuiet_value {P : Program} {ops : Array Oper} {rest : List Oper} {o : Oper} {a : Act} {W : World} {L : Act → Prop} (hgd : o.guard = none) (V : Value) (hx : ∀ q, (execOp a.eval o).run P (W.drewN q) = .ok (.value V) (W.drewN q))
    (h : wpQuiet P ops (fun w' => ∃ q, w' = W.drewN q) L rest (a.put o.dst V)) : wpQuiet P ops (fun w' => ∃ q, w' = W.drewN q) L (o :: rest) a := by
  have hw : Region.wanted o (yielded ops a.tmps) = true := by simp [Region.wanted, hgd]
  show if Region.wanted o (yielded ops a.tmps) then _ else _
  rw [if_pos hw]
  refine ⟨V, ?_, h⟩
  rintro w' ⟨q, rfl⟩
  unfold Oper.quietAt
  rw [hx q]
  exact ⟨rfl, rfl⟩
end Go.Proofs.Ytnjiflkbgpbchaa
