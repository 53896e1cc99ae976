/-
  A region that draws its order, whose operations read or call quietly ahead of a last one: the world under a name of its own. Plain lemmas about the model's regions, no program. No condition.
-/
import Derived.StillTailTactics
namespace Go.Proofs.Ytnjiflkbgpbchaa
theorem wp_still_named {P : Program} {id : Nat} {Q : Exit → Act → World → Prop} {a : Act} {w : World} {l : List Oper} (n : Nat) (hm : P.follows .mixedOrders = true) (hB : Region.lexTailB .any l.toArray n = true)
    (W : World) (hW : W = w.drew) (h : wpStill P l.toArray W (fun a' => wpList P l.toArray Q (l.drop n) a' W) (l.take n) a) : (Code.region id l.toArray true).wp P Q a w := by
  subst hW
  exact wp_region_still_tail n hm hB h
end Go.Proofs.Ytnjiflkbgpbchaa
