/-
  What the document's own reader (layer 1) holds in memory, and the contract of its maker, over this seat's translation. No condition.
-/
import Derived.Test.YtpneccbeccgfmaaDoorCurA
namespace Go.Proofs.YtpneccbeccgfmaaDoor
open Go.RowKit

/-- The document's own reader in block b: its text, its place, its fault. -/
def Xd (w : World) (b : Nat) (s : ByteArray) (k : Nat) (e : Int) : Prop :=
  w.heap[b]? = some (.cells #[.string s, .int .i64 k, .int .i64 e] 39 (0, 0))

section
variable {w w' : World} {b : Nat} {s : ByteArray} {k : Nat} {e : Int}
theorem Xd.lt (h : Xd w b s k e) : b < w.heap.size := lt_of_block h
theorem Xd.text (h : Xd w b s k e) : w.cell? ⟨b, 0, none⟩ = some (.string s) := by unfold Xd at h; simp [World.cell?, h]
theorem Xd.place (h : Xd w b s k e) : w.cell? ⟨b, 1, none⟩ = some (.int .i64 k) := by unfold Xd at h; simp [World.cell?, h]
theorem Xd.fault (h : Xd w b s k e) : w.cell? ⟨b, 2, none⟩ = some (.int .i64 e) := by unfold Xd at h; simp [World.cell?, h]
theorem Xd.free (h : Xd w b s k e) (i : Nat) : w.frozen? ⟨b, i, none⟩ = false := by unfold Xd at h; simp [World.frozen?, h]
theorem Xd.drewN (h : Xd w b s k e) (n : Nat) : Xd (w.drewN n) b s k e := h
theorem Xd.drew (h : Xd w b s k e) : Xd w.drew b s k e := h
theorem Xd.keep (h : Xd w b s k e) (hb : w'.heap[b]? = w.heap[b]?) : Xd w' b s k e := hb.trans h
theorem Xd.alloc (h : Xd w b s k e) (o : Obj) : Xd (w.alloc o) b s k e := h.keep (Below.heap_alloc w o b h.lt)
theorem Xd.far (h : Xd w b s k e) {p : Addr} (hp : b ≠ p.block) (u : Value) : Xd (w.setCell p u) b s k e := h.keep (Below.heap_setCell w p u b hp)
theorem Xd.setPlace (h : Xd w b s k e) (j : Nat) : Xd (w.setCell ⟨b, 1, none⟩ (.int .i64 j)) b s j e := by
  unfold Xd at h ⊢
  simp [World.setCell, Array.getElem?_modify, h]
theorem Xd.setFault (h : Xd w b s k e) (d : Int) : Xd (w.setCell ⟨b, 2, none⟩ (.int .i64 d)) b s k d := by
  unfold Xd at h ⊢
  simp [World.setCell, Array.getElem?_modify, h]
theorem Xd.grown {row : Option Nat} (h : Xd w b s k e) (hg : w.grownBy w' row) (hr : some b ≠ row) : Xd w' b s k e := h.keep (hg.block b h.lt hr)
theorem Xd.new (w : World) (s : ByteArray) : Xd (w.alloc (.cells #[.string s, .int .i64 0, .int .i64 0] 39)) w.heap.size s 0 0 := heap_alloc_new w _
end

theorem of_any (s : ByteArray) (w : World) :
    Calls Tryd.prog 12 #[.string s] w fun e w' => e = .returned (.pointer (some ⟨w.heap.size, 0, none⟩)) ∧ w' = w.alloc (.cells #[.string s, .int .i64 0, .int .i64 0] 39) := by
  go_enter Tryd.func12, Tryd.ntmps12
  go_wp2
  go_ret
  exact ⟨rfl, rfl⟩
end Go.Proofs.YtpneccbeccgfmaaDoor
