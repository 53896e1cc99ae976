/-
  The contract of slices.Reverse at []byte over this seat's translation. No condition beyond the sizes named.
-/
import Derived.Test.YtegakecncpfnnaaRow
import Derived.Test.YtegakecncpfnnaaShelf
namespace Go.Proofs.Ytegakecncpfnnaa
open Go.RowKit Go.Sort

/-- slices.Reverse at []byte. -/
theorem reverse_any (g : Nat) (l : List UInt8) (n c : Nat) (hn : l.length = n) (hl : n ≤ 9223372036854775807) (w : World) (h : Row8 w g l) :
    Calls Try.prog 69 #[.slice (some ⟨g, 0, none⟩) n c] w fun e w' => e = .returned (.tuple #[]) ∧ Row8 w' g l.reverse ∧ Fr (fun j => j = g) w w' := by
  subst hn
  refine (AnyE.slices_Reverse Try.lays69 enc8 (fun _ => rfl) g 0 c l w h hl).mono ?_
  rintro e w' ⟨he, n, rfl⟩
  refine ⟨he, ?_, ?_⟩
  · exact row8_put (w := Sort.ahead w n) (l := l) h (by simp)
  · exact ((Fr.refl _ w).drewN n).trans (fr_putRow (Sort.ahead w n) g _)
end Go.Proofs.Ytegakecncpfnnaa
