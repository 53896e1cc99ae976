/-
  For every row of tokens: WalkBuilds answers true and its argument reads as before. No condition.
-/
import Derived.Test.YtegakecncpfnnaaRows
import Derived.Test.YtegakecncpfnnaaWlkY
import Derived.Test.YtegakecncpfnnaaItmO
import Derived.WalkKit
import Derived.ProofKit
import Derived.OpenShut
import Derived.Deep.SlicePairs
import Derived.ShutString
import Derived.ChangeOld
import Derived.Below
namespace Go.Proofs.Ytegakecncpfnnaa.walkBuilds
open Go.ChangeShapes Go.WideShapes Go.ChangeAt Go.RowKit
open Go.ChangeMaps (open_string shut_string)
set_option linter.unusedVariables false

theorem own : ownKnob Try.prog.godebug = none := by kernel_rfl
theorem laidOut : laidOutB Try.prog = true := by kernel_rfl

set_option maxRecDepth 100000 in
theorem lifted (os : Os) (started : os.Started) (H : Type) (enc : TypeId × Value → H) :
    ReturnsInHanded {} Try.checked os 4 .any (Rows.walkBuildsSpec.pre6 enc Try.prog Try.f4 Rows.walkBuildsRow.domain false) (Rows.walkBuildsSpec.post enc Try.prog Try.f4 false true false false) := by
  refine returnsInHanded_of_change (C := Try.checked) own started (by kernel_rfl) Try.func4
    (ChangeSpec.witness6 (enc := enc) (C := Try.checked) false ⟨#[], #[.slice none 0 0], []⟩ 8 (by kernel_rfl) (by kernel_rfl) (by kernel_rfl) (by kernel_rfl)) ?_
  intro W base args ds gs before hval0 hW hcnd _
  have hval : ∀ (j : Nat) t v, Try.f4.params[j]? = some t → args[j]? = some v → Value.okWide Try.prog W .any base t v := hval0
  have hW' := hW
  obtain ⟨p, q, hA0, hV, rfl, hfz, hnd⟩ := hW
  have hA : DataW.TrodAll enc Try.prog W 0 (fun _ => true) true Try.f4.params.toList args.toList ds p := hA0
  rw [Try.params4] at hA hval
  obtain ⟨v1, vs1, d1, ds1, p1, q1, hargs, rfl, rfl, h1, r1⟩ := trodAll_cons hA
  obtain ⟨rfl, rfl, rfl⟩ := trodAll_nil r1
  obtain rfl : args = #[v1] := by cases args; simp_all
  obtain ⟨rfl, rfl⟩ := trodVars_none hV
  obtain ⟨a1, len1, cap1, rfl⟩ := okWide_slice Try.underlying38 (hval 0 38 v1 rfl rfl)
  have k1 := h1
  have lt1 : ∀ x ∈ p1, x.block < W.heap.size := by obtain ⟨m, hm⟩ := k1; exact DataW.trod_lt m _ _ _ hm
  have w1 : ∃ l : List Tok, TSl W (.slice a1 len1 cap1) l ∧ l.length ≤ maxLen := by
    obtain ⟨fuel, hf⟩ := h1
    rcases Go.Deep.open_slice_pairs Try.underlying38 Try.underlying77 (by kernel_rfl) rfl rfl (by kernel_rfl) (by kernel_rfl) hf with ⟨hcs, _⟩ | ⟨x, l, c, m, g, V0, V1, D0, D1, P0, P1, hcs, _, hl, hm, hmm, _, hcell⟩
    · simp [Value.cells] at hcs
      obtain ⟨rfl, rfl, rfl⟩ := hcs
      exact ⟨[], ⟨none, 0, rfl, Nat.le_refl _, fun i hi => absurd hi (Nat.not_lt_zero i)⟩, Nat.zero_le _⟩
    · simp [Value.cells] at hcs
      obtain ⟨rfl, rfl, rfl⟩ := hcs
      obtain ⟨b, o, spot⟩ := x
      have hspot : 0 < len1 → spot = none := fun h0 => by
        have hkm : 0 < m := by rw [hmm]; split <;> omega
        obtain ⟨c0, _, t0, _⟩ := hcell 0 hkm
        obtain ⟨n, e0, _, _⟩ := DataW.trod_int Try.underlying3 t0
        simp at e0
        rw [e0] at c0
        simpa [Addr.add] using World.cell?_spot c0
      have each : ∀ k, k < len1 → ∃ q : Tok, spot = none ∧ W.cell? ⟨b, o + k * 2, none⟩ = some (.int .i64 q.k) ∧ W.cell? ⟨b, o + k * 2 + 1, none⟩ = some (.string q.t) := by
        intro k hk
        have hkm : k < m := by rw [hmm]; split <;> omega
        obtain ⟨c0, c1, t0, t1⟩ := hcell k hkm
        obtain ⟨n, e0, _, wn⟩ := DataW.trod_int Try.underlying3 t0
        obtain ⟨s, e1, _, _⟩ := DataW.trod_string Try.underlying9 t1
        simp at e0 e1
        rw [e0] at c0
        rw [e1] at c1
        have hs0 : spot = none := hspot (by omega)
        subst hs0
        rw [Addr.add_lit] at c0 c1
        exact ⟨⟨n, s⟩, rfl, c0, by rw [Nat.add_assoc]; exact c1⟩
      haveI : Inhabited Tok := ⟨sht⟩
      obtain ⟨q, hq⟩ := Go.Deep.choose_lt each
      refine ⟨(List.range len1).map q, ⟨some ⟨b, o, spot⟩, cap1, by simp, by simp; omega, fun i hi => ?_⟩, by simp; omega⟩
      have hi' : i < len1 := by simpa using hi
      obtain ⟨hs, c0, c1⟩ := hq i hi'
      subst hs
      refine ⟨b, o, rfl, ?_, ?_⟩ <;> simp only [List.getElem_map, List.getElem_range]
      · exact c0
      · exact c1
  obtain ⟨l, hl, hn⟩ := w1
  clear hA0 hval0
  refine (walkBuilds_any l (.slice a1 len1 cap1) W hl hn).mono fun e W' ⟨he, bel⟩ => ?_
  subst he
  exact ⟨_, rfl, _, _, _, [], _, [], hW', trodAll_mk1 (shut_bool Try.underlying4 _), (trodAll_cons_mk (Below.trod laidOut (by kernel_rfl) (of_decide_eq_true (by kernel_rfl)) k1 bel lt1) trodAll_mk0), rfl, bel.frame _, fun h => by cases h⟩

set_option maxRecDepth 100000 in
theorem over : Rows.walkBuildsRow.holds Try.pinned (OpenSpec.ofChange Rows.walkBuildsSpec) :=
  OpenClaim.holds_of_wide 4 Try.f4 rfl rfl rfl rfl rfl rfl rfl ⟨rfl, rfl, rfl, rfl, rfl⟩ rfl rfl rfl rfl rfl (by kernel_rfl) Try.func4 (by kernel_rfl)
    (of_decide_eq_true (by kernel_rfl)) (by unfold Func.isWrapper; first | (rw [if_pos (by decide +kernel)]; kernel_rfl) | (rw [if_neg (by decide +kernel)]; exact ⟨rfl, rfl⟩))
    (fun os started H enc _ => lifted os started H enc)

end Go.Proofs.Ytegakecncpfnnaa.walkBuilds
namespace Go.Proofs.Ytegakecncpfnnaa
theorem walkBuilds_holds : Rows.WalkBuildsSaid := walkBuilds.over
#print axioms walkBuilds_holds
end Go.Proofs.Ytegakecncpfnnaa
