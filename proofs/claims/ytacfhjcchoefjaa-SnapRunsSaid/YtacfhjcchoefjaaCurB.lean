/-
  The contracts of package cursor's next and of the library's Clone over this seat's translation. Conditions: the reader's own block, a text of at most 2^47 bytes, as many bytes left as are asked for.
-/
import Derived.Test.YtacfhjcchoefjaaCurA
import Derived.Test.YtacfhjcchoefjaaShelf
import Derived.StillTailTactics
import Derived.Deep.RegionHeld3
import Derived.WalkSpells
import Derived.IntWalk
namespace Go.Proofs.Ytacfhjcchoefjaa
open Go.RowKit

theorem clone_any (s : ByteArray) (w : World) (hs : s.size ≤ 140737488355328) :
    Calls Try.prog 46 #[.string s] w fun e w' => e = .returned (.string s) ∧ Below w.heap.size w w' := by
  go_enter Try.func46, Try.ntmps46
  go_wp2_with (go_at_call 50; refine (Try.stringslite_Clone s _ (by omega)).mono ?_; rintro e w' ⟨rfl, hb⟩)
  go_ret
  exact ⟨rfl, hb⟩

theorem next_any (b : Nat) (s : ByteArray) (k n : Nat) (d : Int) (w : World) (h : Rd w b s k d) (hk : k + n ≤ s.size) (hs : s.size ≤ 140737488355328) :
    Calls Try.prog 37 #[.pointer (some ⟨b, 0, none⟩), .int .i64 (n : Int)] w fun e w' => e = .returned (.string (s.extract k (k + n))) ∧ Below w.heap.size w w' := by
  have hc := h.text
  have hp := h.place
  have hb : b < w.heap.size := h.lt
  have hs1 : (s.extract k (k + n)).size ≤ 140737488355328 := by rw [ByteArray.size_extract]; omega
  have i0 : (0 : Int) ≤ (k : Int) := by omega
  have i1 : (k : Int) ≤ (k : Int) + (n : Int) := by omega
  have i2 : (0 : Int) ≤ (k : Int) + (n : Int) := by omega
  have i3 : (k : Int) + (n : Int) ≤ (s.size : Int) := by omega
  have i5 : ((k : Int) + (n : Int)).toNat = k + n := by omega
  have i4 : IntKind.i64.wrap ((k : Int) + (n : Int)) = (k : Int) + (n : Int) := IntWalk.i64_in _ (by omega)
  clear h
  go_enter Try.func37, Try.ntmps37
  go_wp2_with fail
  go_region_held3 (fun w' => w'.cell? ⟨b, 0, none⟩ = some (.string s) ∧ w'.cell? ⟨b, 1, none⟩ = some (.int .i64 k)) (first | go_keep)
    (first | (go_at_call 46; refine (clone_any _ _ hs1).mono ?_; rintro e w1 ⟨rfl, hb1⟩; have g0 : w1.cell? ⟨b, 0, none⟩ = some (.string s) := (hb1.cell (p := ⟨b, 0, none⟩) hb).trans hc; have g1 : w1.cell? ⟨b, 1, none⟩ = some (.int .i64 k) := (hb1.cell (p := ⟨b, 1, none⟩) hb).trans hp))
  go_wp2
  go_ret
  exact ⟨rfl, ⟨hb1.os, hb1.tape, hb1.output, hb1.size, hb1.block⟩⟩
end Go.Proofs.Ytacfhjcchoefjaa
