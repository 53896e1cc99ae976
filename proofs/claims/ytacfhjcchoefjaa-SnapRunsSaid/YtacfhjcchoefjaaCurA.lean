/-
  The contracts of package cursor's small methods (Read, Left, At, Fault) over this seat's translation, and what a reader's block in memory holds. No condition beyond the reader's own block.
-/
import Derived.Test.YtacfhjcchoefjaaRows
import Derived.WalkKit
import Derived.ProofKit
import Derived.OneCell
import Derived.BigQuiet
import Derived.Deep.QuietTactic
import Derived.Lib.Hide
namespace Go.Proofs.Ytacfhjcchoefjaa
open Go.RowKit

/-- The reader in block b: its text, its place, its fault. -/
def Rd (w : World) (b : Nat) (s : ByteArray) (k : Nat) (e : Int) : Prop :=
  w.heap[b]? = some (.cells #[.string s, .int .i64 k, .int .i64 e] 49 (0, 0))

section
variable {w w' : World} {b : Nat} {s : ByteArray} {k : Nat} {e : Int}
theorem Rd.lt (h : Rd w b s k e) : b < w.heap.size := lt_of_block h
theorem Rd.text (h : Rd w b s k e) : w.cell? ⟨b, 0, none⟩ = some (.string s) := by unfold Rd at h; simp [World.cell?, h]
theorem Rd.place (h : Rd w b s k e) : w.cell? ⟨b, 1, none⟩ = some (.int .i64 k) := by unfold Rd at h; simp [World.cell?, h]
theorem Rd.fault (h : Rd w b s k e) : w.cell? ⟨b, 2, none⟩ = some (.int .i64 e) := by unfold Rd at h; simp [World.cell?, h]
theorem Rd.free (h : Rd w b s k e) (i : Nat) : w.frozen? ⟨b, i, none⟩ = false := by unfold Rd at h; simp [World.frozen?, h]
theorem Rd.drewN (h : Rd w b s k e) (n : Nat) : Rd (w.drewN n) b s k e := h
theorem Rd.drew (h : Rd w b s k e) : Rd w.drew b s k e := h
theorem Rd.keep (h : Rd w b s k e) (hb : w'.heap[b]? = w.heap[b]?) : Rd w' b s k e := hb.trans h
theorem Rd.alloc (h : Rd w b s k e) (o : Obj) : Rd (w.alloc o) b s k e := h.keep (Below.heap_alloc w o b h.lt)
theorem Rd.far (h : Rd w b s k e) {p : Addr} (hp : b ≠ p.block) (u : Value) : Rd (w.setCell p u) b s k e := h.keep (Below.heap_setCell w p u b hp)
theorem Rd.setPlace (h : Rd w b s k e) (j : Nat) : Rd (w.setCell ⟨b, 1, none⟩ (.int .i64 j)) b s j e := by
  unfold Rd at h ⊢
  simp [World.setCell, Array.getElem?_modify, h]
theorem Rd.setFault (h : Rd w b s k e) (d : Int) : Rd (w.setCell ⟨b, 2, none⟩ (.int .i64 d)) b s k d := by
  unfold Rd at h ⊢
  simp [World.setCell, Array.getElem?_modify, h]
theorem Rd.grown {row : Option Nat} (h : Rd w b s k e) (hg : w.grownBy w' row) (hr : some b ≠ row) : Rd w' b s k e := h.keep (hg.block b h.lt hr)
theorem Rd.new (w : World) (s : ByteArray) : Rd (w.alloc (.cells #[.string s, .int .i64 0, .int .i64 0] 49)) w.heap.size s 0 0 := heap_alloc_new w _
end

theorem read_any (s : ByteArray) (w : World) :
    Calls Try.prog 15 #[.string s] w fun e w' => e = .returned (.pointer (some ⟨w.heap.size, 0, none⟩)) ∧ w' = w.alloc (.cells #[.string s, .int .i64 0, .int .i64 0] 49) := by
  go_enter Try.func15, Try.ntmps15
  go_wp2
  go_ret
  exact ⟨rfl, rfl⟩

theorem fault_any (b : Nat) (s : ByteArray) (k : Nat) (d : Int) (w : World) (h : Rd w b s k d) :
    Calls Try.prog 18 #[.pointer (some ⟨b, 0, none⟩)] w fun e w' => e = .returned (.int .i64 d) ∧ w = w' := by
  have hc := h.fault
  clear h
  go_enter Try.func18, Try.ntmps18
  go_wp2
  go_ret
  exact ⟨rfl, rfl⟩

theorem at_any (b : Nat) (s : ByteArray) (k : Nat) (d : Int) (w : World) (h : Rd w b s k d) :
    Calls Try.prog 17 #[.pointer (some ⟨b, 0, none⟩)] w fun e w' => e = .returned (.int .i64 k) ∧ w = w' := by
  have hc := h.place
  clear h
  go_enter Try.func17, Try.ntmps17
  go_wp2
  go_ret
  exact ⟨rfl, rfl⟩

theorem left_any (b : Nat) (s : ByteArray) (k : Nat) (d : Int) (w : World) (h : Rd w b s k d) (hk : k ≤ s.size) (hs : s.size ≤ maxLen) :
    Calls Try.prog 30 #[.pointer (some ⟨b, 0, none⟩)] w fun e w' => e = .returned (.int .i64 ((s.size : Int) - k)) ∧ ∃ n, w' = w.drewN n := by
  unfold maxLen at hs
  have hc := h.text
  have hp := h.place
  clear h
  go_enter Try.func30, Try.ntmps30
  go_wp2
  go_quiet (fail)
  go_wp2
  go_ret
  exact ⟨rfl, _, rfl⟩
end Go.Proofs.Ytacfhjcchoefjaa
