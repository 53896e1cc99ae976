/-
  Bits of bytes, for layer 3. Plain lemmas, no program. No condition.
-/
import Derived.Test.YtacfhjcchoefjaaRow
import Derived.Test.YtacfhjcchoefjaaShelf
import Derived.Test.YtacfhjcchoefjaaLebM
import Derived.Laws.Bits64b
import Derived.Deep.LoopGhost
namespace Go.Proofs.Ytacfhjcchoefjaa
open Go.RowKit Go.Sort

set_option maxRecDepth 100000 in
theorem clear128 : ∀ b : Fin 256, bits BinOp.andNot IntKind.u8 ((b : Nat) : Int) 128 = (((b : Nat) % 128 : Nat) : Int) := by decide
set_option maxRecDepth 100000 in
theorem mark128 : ∀ b : Fin 256, bits BinOp.or IntKind.u8 ((b : Nat) : Int) 128 = (((b : Nat) % 128 + 128 : Nat) : Int) := by decide
theorem u8_clear (b : Nat) (h : b < 256) : bits BinOp.andNot IntKind.u8 (b : Int) 128 = ((b % 128 : Nat) : Int) := clear128 ⟨b, h⟩
theorem u8_mark (b : Nat) (h : b < 256) : bits BinOp.or IntKind.u8 (b : Int) 128 = ((b % 128 + 128 : Nat) : Int) := mark128 ⟨b, h⟩
end Go.Proofs.Ytacfhjcchoefjaa
