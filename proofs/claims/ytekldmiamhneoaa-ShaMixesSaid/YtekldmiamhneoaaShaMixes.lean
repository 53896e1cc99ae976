/-
  For every eight words and every text ShaMixes answers true: what they become by it is the document's, or the error; First, too; the arguments read as before. No condition.
-/
import Derived.Test.YtekldmiamhneoaaRows
import Derived.Test.YtekldmiamhneoaaShaX
import Derived.Test.YtekldmiamhneoaaArr
import Derived.WalkKit
import Derived.ProofKit
import Derived.OpenShut
import Derived.ShutString
import Derived.ChangeOld
import Derived.Below
namespace Go.Proofs.Ytekldmiamhneoaa.shaMixes
open Go.ChangeShapes Go.WideShapes Go.ChangeAt Go.RowKit
open Go.ChangeMaps (open_string shut_string)
set_option linter.unusedVariables false

theorem own : ownKnob Try.prog.godebug = none := by kernel_rfl
theorem laidOut : laidOutB Try.prog = true := by kernel_rfl

theorem nats_of : ∀ zs : List Int, (∀ z ∈ zs, (Lit.int .u32 z).wf = true) → ∃ v : List Nat, zs = (v.map fun (n : Nat) => (n : Int)) ∧ W32 v
  | [], _ => ⟨[], rfl, fun _ h => by cases h⟩
  | z :: zs, h => by
    obtain ⟨v, rfl, hv⟩ := nats_of zs fun y hy => h y (List.mem_cons_of_mem _ hy)
    obtain ⟨h0, h1⟩ := bounds_u32 (h z (List.mem_cons_self ..))
    refine ⟨z.toNat :: v, ?_, ?_⟩
    · rw [List.map_cons, Int.toNat_of_nonneg h0]
    · intro d hd
      rcases List.mem_cons.1 hd with rfl | hd
      · omega
      · exact hv d hd

theorem walk (Y : Array Value) (zs : List Int) (a1 : ByteArray) (hY : Y.toList = zs.map fun z => Value.int .u32 z) (hl : zs.length = 8) (hz : ∀ z ∈ zs, (Lit.int .u32 z).wf = true) (w1 : a1.size ≤ maxLen) (w : World) :
    Calls Try.prog 5 #[.agg Y, .string a1] w fun e w' => e = .returned (.bool true) ∧ Below w.heap.size w w' := by
  obtain ⟨v, rfl, hv⟩ := nats_of zs hz
  refine shaMixes_any v a1 Y w (tab_any w) ?_ (by simpa using hl) hv w1
  apply Array.toList_inj.1
  rw [hY, List.map_map]
  rfl

set_option maxRecDepth 100000 in
theorem lifted (os : Os) (started : os.Started) (H : Type) (enc : TypeId × Value → H) :
    ReturnsInHanded {} Try.checked os 5 .any (Rows.shaMixesSpec.pre6 enc Try.prog Try.f5 Rows.shaMixesRow.domain false) (Rows.shaMixesSpec.post enc Try.prog Try.f5 false true false false) := by
  refine returnsInHanded_of_change (C := Try.checked) own started (by kernel_rfl) Try.func5
    (ChangeSpec.witness6 (enc := enc) (C := Try.checked) false ⟨#[], #[.agg #[.int .u32 0, .int .u32 0, .int .u32 0, .int .u32 0, .int .u32 0, .int .u32 0, .int .u32 0, .int .u32 0], .string ByteArray.empty], []⟩ 8 (by kernel_rfl) (by kernel_rfl) (by kernel_rfl) (by kernel_rfl)) ?_
  intro W base args ds gs before hval0 hW hcnd _
  have hval : ∀ (j : Nat) t v, Try.f5.params[j]? = some t → args[j]? = some v → Value.okWide Try.prog W .any base t v := hval0
  have hW' := hW
  obtain ⟨p, q, hA0, hV, rfl, hfz, hnd⟩ := hW
  have hA : DataW.TrodAll enc Try.prog W 0 (fun _ => true) true Try.f5.params.toList args.toList ds p := hA0
  rw [Try.params5] at hA hval
  obtain ⟨v0, vs0, d0, ds0, p0, q0, hargs, rfl, rfl, h0, r0⟩ := trodAll_cons hA
  obtain ⟨v1, vs1, d1, ds1, p1, q1, rfl, rfl, rfl, h1, r1⟩ := trodAll_cons r0
  obtain ⟨rfl, rfl, rfl⟩ := trodAll_nil r1
  obtain rfl : args = #[v0, v1] := by cases args; simp_all
  obtain ⟨rfl, rfl⟩ := trodVars_none hV
  obtain ⟨Y, rfl⟩ : ∃ cs, v0 = .agg cs := by
    have := hval 0 27 v0 rfl rfl
    obtain ⟨cs, h, _⟩ : ∃ cs, v0 = .agg cs ∧ cs.size = Try.prog.cellsOf 27 ∧ Row.okWide Try.prog W .any base 27 cs := by simpa [Value.okWide, Try.underlying27] using this
    exact ⟨cs, h⟩
  obtain ⟨a1, rfl, rfl, rfl, w1⟩ := open_string Try.underlying9 (hval 1 9 v1 rfl rfl) h1
  have k0 := h0
  have lt0 : ∀ x ∈ p0, x.block < W.heap.size := by obtain ⟨m, hm⟩ := k0; exact DataW.trod_lt m _ _ _ hm
  obtain ⟨zs, hl, hY, hz⟩ : ∃ zs : List Int, zs.length = 8 ∧ Y.toList = (zs.map fun z => Value.int .u32 z) ∧ ∀ z ∈ zs, (Lit.int .u32 z).wf = true := by
    obtain ⟨fuel, hf⟩ := h0
    exact open_nums Try.underlying27 Try.underlying25 (by kernel_rfl) (by kernel_rfl) hf
  clear hA0 hval0
  refine (walk Y zs a1 hY hl hz w1 W).mono fun e W' ⟨he, bel⟩ => ?_
  subst he
  exact ⟨_, rfl, _, _, _, [], _, [], hW', trodAll_mk1 (shut_bool Try.underlying4 _), (trodAll_cons_mk (Below.trod laidOut (by kernel_rfl) (of_decide_eq_true (by kernel_rfl)) k0 bel lt0) (trodAll_cons_mk (shut_string Try.underlying9 w1) trodAll_mk0)), rfl, bel.frame _, fun h => by cases h⟩

theorem over : Rows.shaMixesRow.holds Try.pinned (OpenSpec.ofChange Rows.shaMixesSpec) :=
  OpenClaim.holds_of_wide 5 Try.f5 rfl rfl rfl rfl rfl rfl rfl ⟨rfl, rfl, rfl, rfl, rfl⟩ rfl rfl rfl rfl rfl (by kernel_rfl) Try.func5 (by kernel_rfl)
    (of_decide_eq_true (by kernel_rfl)) (by unfold Func.isWrapper; first | (rw [if_pos (by decide +kernel)]; kernel_rfl) | (rw [if_neg (by decide +kernel)]; exact ⟨rfl, rfl⟩))
    (fun os started H enc _ => lifted os started H enc)

end Go.Proofs.Ytekldmiamhneoaa.shaMixes
namespace Go.Proofs.Ytekldmiamhneoaa
theorem shaMixes_holds : Rows.ShaMixesSaid := shaMixes.over
#print axioms shaMixes_holds
end Go.Proofs.Ytekldmiamhneoaa
