/-
  The contract of package fixed's inner function turned over this seat's translation. Conditions: a row of at most 2^63-1 bytes.
-/
import Derived.Test.YtegakecncpfnnaaFixW
import Derived.Test.YtegakecncpfnnaaFixK
namespace Go.Proofs.Ytegakecncpfnnaa
open Go.RowKit Go.Sort

theorem fr_own {g : Nat} {w w' : World} (h : Fr (fun j => j = g) w w') {B : Nat} (hB : B ≤ g) (hz : B ≤ w.heap.size) : Below B w w' := h.below hz fun j hj => by omega
set_option maxRecDepth 100000 in
theorem turned_any (g : Nat) (l : List UInt8) (n c : Nat) (hn : l.length = n) (hl : n ≤ 9223372036854775807) (w : World) (h : Row8 w g l) :
    Calls Try.prog 61 #[.slice (some ⟨g, 0, none⟩) n c] w fun e w' => e = .returned (.slice (some ⟨g, 0, none⟩) n c) ∧ Row8 w' g l.reverse ∧ Fr (fun j => j = g) w w' := by
  have H := Lib.hid h
  have HN := Lib.hid hn
  clear h hn
  go_enter Try.func61, Try.ntmps61
  go_wp2_with fail
  refine (reverse_any g l n c HN.out hl _ H.out).mono ?_
  rintro e w' ⟨rfl, R, F⟩
  have HR := Lib.hid R
  have HF := Lib.hid F
  clear R F
  go_wp2
  go_ret
  exact ⟨rfl, HR.out, HF.out⟩

end Go.Proofs.Ytegakecncpfnnaa
