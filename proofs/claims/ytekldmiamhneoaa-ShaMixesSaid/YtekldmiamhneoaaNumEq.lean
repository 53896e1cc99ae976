/-
  Two arrays of the same numbers are equal: plain lemmas about the model's comparison, no program. No condition.
-/
import Derived.Test.YtekldmiamhneoaaNum
import Derived.ChangeKeysEq
import Derived.Laws.StructEq
namespace Go.Proofs.Ytekldmiamhneoaa

section
variable {P : Program} (w : World) {k : IntKind} {t e : TypeId} {n : Nat} {l : List Nat} {i : TypeInfo}
theorem run_items_same (d : Nat) (he : P.underlying e = some (.int k)) (is : List Nat) (his : ∀ j ∈ is, j < l.length) :
    (Op.eqItems (d + 1) e 1 (l.map fun (n : Nat) => Value.int k (n : Int)).toArray (l.map fun (n : Nat) => Value.int k (n : Int)).toArray is).run P w = .ok true w := by
  induction is with
  | nil => simp [Op.eqItems]
  | cons j is ih =>
    have hj : j < l.length := his j List.mem_cons_self
    have hp : (part e (l.map fun (n : Nat) => Value.int k (n : Int)).toArray (j * 1)).run P w = .ok (.int k (l[j] : Int)) w := by
      simp [part, isAgg, run_underlying he, hj]
    simp only [Op.eqItems, Sem.run_bind, hp, Result.andThen_ok, run_equalIn_int w d e k k _ _ he]
    simpa using ih fun m hm => his m (List.mem_cons_of_mem _ hm)

theorem run_equalIn_same (d : Nat) (hu : P.underlying t = some (.array n e)) (he : P.underlying e = some (.int k)) (hi : P.info? e = some i) (hc : P.cellsOf e = 1) (hl : l.length = n) :
    (Op.equalIn (d + 2) t (wordsOf k l) (wordsOf k l)).run P w = .ok true w := by
  unfold wordsOf
  rw [run_equalIn_array w (d + 1) _ _ hu hi, hc]
  exact run_items_same w d he _ fun j hj => by rw [hl]; exact List.mem_range.1 hj
theorem run_eql_same (hu : P.underlying t = some (.array n e)) (he : P.underlying e = some (.int k)) (hi : P.info? e = some i) (hc : P.cellsOf e = 1) (hl : l.length = n) :
    (binOp .eql t (wordsOf k l) (wordsOf k l)).run P w = .ok (.bool true) w := by
  have := run_equalIn_same w 9998 hu he hi hc hl
  unfold wordsOf at *
  rw [run_eql_struct, this]
  rfl
theorem run_neq_same (hu : P.underlying t = some (.array n e)) (he : P.underlying e = some (.int k)) (hi : P.info? e = some i) (hc : P.cellsOf e = 1) (hl : l.length = n) :
    (binOp .neq t (wordsOf k l) (wordsOf k l)).run P w = .ok (.bool false) w := by
  have := run_equalIn_same w 9998 hu he hi hc hl
  unfold wordsOf at *
  rw [run_neq_struct, this]
  rfl
end
end Go.Proofs.Ytekldmiamhneoaa
