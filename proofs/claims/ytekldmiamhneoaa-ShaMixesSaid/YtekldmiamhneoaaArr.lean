/-
  An array of integers among the arguments, opened: plain lemmas about the forms' readings, no program. No condition.
-/
import Derived.Test.YtekldmiamhneoaaNum
import Derived.Lib.LaidTab
import Derived.OpenShut
import Derived.Below
namespace Go.Proofs.Ytekldmiamhneoaa
open Go.RowKit Go.ChangeShapes

theorem open_nums {H : Type} {enc : TypeId × Value → H} {P : Program} {w : World} {base : Nat} {sp : Nat → Bool} {held : Bool} {fuel : Nat} {t e : TypeId} {n : Nat} {k : IntKind} {cs : List Value} {x : DataW H × List MemPlace}
    (ht : P.underlying t = some (.array n e)) (he : P.underlying e = some (.int k)) (hce : P.cellsOf e = 1) (hct : P.cellsOf t = n) (h : DataW.trod enc P w base sp held fuel t cs = some x) :
    ∃ zs : List Int, zs.length = n ∧ cs = (zs.map fun z => Value.int k z) ∧ ∀ z ∈ zs, (Lit.int k z).wf = true := by
  cases fuel with
  | zero => simp [DataW.trod] at h
  | succ fuel =>
    simp only [DataW.trod, ht, hce, hct, Nat.mul_one] at h
    split at h
    · rename_i hl
      obtain ⟨xs, hm, _⟩ := Option.map_eq_some_iff.1 h
      have hcl : cs.length = n := by simpa using hl
      have hat : ∀ i, i < n → ∃ z, cs[i]? = some (.int k z) ∧ (Lit.int k z).wf = true := by
        intro i hi
        obtain ⟨b, _, hf⟩ := Lib.mapM_at hm i i (by simp [hi])
        obtain ⟨z, hc, _, hw⟩ := DataW.trod_int he hf
        refine ⟨z, ?_, hw⟩
        have := congrArg (·[0]?) hc
        simpa [List.getElem?_take, List.getElem?_drop] using this
      clear hm h hl
      subst hcl
      clear ht hct
      induction cs with
      | nil => exact ⟨[], rfl, rfl, fun _ h => by cases h⟩
      | cons c cs ih =>
        obtain ⟨z, hz, hw⟩ := hat 0 (by simp)
        obtain ⟨zs, h1, h2, h3⟩ := ih (fun i hi => by simpa using hat (i + 1) (by simpa using hi))
        refine ⟨z :: zs, by simp [h1], ?_, ?_⟩
        · simp only [List.getElem?_cons_zero, Option.some.injEq] at hz
          rw [hz, h2]
          rfl
        · intro y hy
          rcases List.mem_cons.1 hy with rfl | hy
          · exact hw
          · exact h3 y hy
    · cases h
end Go.Proofs.Ytekldmiamhneoaa
