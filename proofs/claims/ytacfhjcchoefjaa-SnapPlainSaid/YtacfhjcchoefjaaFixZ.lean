/-
  A text that isn't empty. Plain lemma, no program. No condition.
-/
import Derived.Test.YtacfhjcchoefjaaRow
import Derived.Test.YtacfhjcchoefjaaShelf
import Derived.Test.YtacfhjcchoefjaaFixM
import Derived.Laws.Bits64b
import Derived.Deep.LoopGhost
namespace Go.Proofs.Ytacfhjcchoefjaa
open Go.RowKit Go.Sort

theorem str_ne_of {s : ByteArray} (h : s.size ≠ 0) : s.toList.isEmpty = false := by
  rw [ByteArray.toList_eq]
  cases hd : s.data.toList with
  | nil => exact absurd (by rw [ByteArray.size, ← Array.length_toList, hd]; rfl) h
  | cons b m => rfl
end Go.Proofs.Ytacfhjcchoefjaa
