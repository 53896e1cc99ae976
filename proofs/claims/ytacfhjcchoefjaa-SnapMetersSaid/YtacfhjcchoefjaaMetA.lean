/-
  The contracts of package meter's small methods (New, counts, Used, Taken, Top, Most, Clear) over this seat's translation, and what a meter's block in memory holds. No condition beyond the meter's own block.
-/
import Derived.Test.YtacfhjcchoefjaaRows
import Derived.Test.YtacfhjcchoefjaaFr
import Derived.WalkKit
import Derived.ProofKit
import Derived.OneCell
import Derived.BigQuiet
import Derived.Deep.QuietTactic
import Derived.Lib.Hide
namespace Go.Proofs.Ytacfhjcchoefjaa
open Go.RowKit

/-- The meter in block b: its most, and its three counts. -/
def Mt (w : World) (b : Nat) (o u k t : Int) : Prop :=
  w.heap[b]? = some (.cells #[.int .i64 o, .int .i64 u, .int .i64 k, .int .i64 t] 46 (0, 0))

section
variable {w w' : World} {b : Nat} {o u k t : Int}
theorem Mt.lt (h : Mt w b o u k t) : b < w.heap.size := lt_of_block h
theorem Mt.c0 (h : Mt w b o u k t) : w.cell? ⟨b, 0, none⟩ = some (.int .i64 o) := by unfold Mt at h; simp [World.cell?, h]
theorem Mt.c1 (h : Mt w b o u k t) : w.cell? ⟨b, 1, none⟩ = some (.int .i64 u) := by unfold Mt at h; simp [World.cell?, h]
theorem Mt.c2 (h : Mt w b o u k t) : w.cell? ⟨b, 2, none⟩ = some (.int .i64 k) := by unfold Mt at h; simp [World.cell?, h]
theorem Mt.c3 (h : Mt w b o u k t) : w.cell? ⟨b, 3, none⟩ = some (.int .i64 t) := by unfold Mt at h; simp [World.cell?, h]
theorem Mt.free (h : Mt w b o u k t) (i : Nat) : w.frozen? ⟨b, i, none⟩ = false := by unfold Mt at h; simp [World.frozen?, h]
theorem Mt.drewN (h : Mt w b o u k t) (n : Nat) : Mt (w.drewN n) b o u k t := h
theorem Mt.drew (h : Mt w b o u k t) : Mt w.drew b o u k t := h
theorem Mt.keep (h : Mt w b o u k t) (hb : w'.heap[b]? = w.heap[b]?) : Mt w' b o u k t := hb.trans h
theorem Mt.alloc (h : Mt w b o u k t) (x : Obj) : Mt (w.alloc x) b o u k t := h.keep (Below.heap_alloc w x b h.lt)
theorem Mt.far (h : Mt w b o u k t) {p : Addr} (hp : b ≠ p.block) (v : Value) : Mt (w.setCell p v) b o u k t := h.keep (Below.heap_setCell w p v b hp)
theorem Mt.set1 (h : Mt w b o u k t) (v : Int) : Mt (w.setCell ⟨b, 1, none⟩ (.int .i64 v)) b o v k t := by
  unfold Mt at h ⊢
  simp [World.setCell, Array.getElem?_modify, h]
theorem Mt.set2 (h : Mt w b o u k t) (v : Int) : Mt (w.setCell ⟨b, 2, none⟩ (.int .i64 v)) b o u v t := by
  unfold Mt at h ⊢
  simp [World.setCell, Array.getElem?_modify, h]
theorem Mt.set3 (h : Mt w b o u k t) (v : Int) : Mt (w.setCell ⟨b, 3, none⟩ (.int .i64 v)) b o u k v := by
  unfold Mt at h ⊢
  simp [World.setCell, Array.getElem?_modify, h]
theorem Mt.made (w : World) (o u k t : Int) : Mt (w.alloc (.cells #[.int .i64 o, .int .i64 u, .int .i64 k, .int .i64 t] 46)) w.heap.size o u k t := heap_alloc_new w _
theorem Mt.new (w : World) (o : Int) : Mt (w.alloc (.cells #[.int .i64 o, .int .i64 0, .int .i64 0, .int .i64 0] 46)) w.heap.size o 0 0 0 := heap_alloc_new w _
end

theorem new_any (o : Int) (w : World) :
    Calls Try.prog 12 #[.int .i64 o] w fun e w' => e = .returned (.pointer (some ⟨w.heap.size, 0, none⟩)) ∧ w' = w.alloc (.cells #[.int .i64 (max o 0), .int .i64 0, .int .i64 0, .int .i64 0] 46) := by
  go_enter Try.func12, Try.ntmps12
  go_wp2
  · go_ret
    exact ⟨rfl, by rw [show max o 0 = 0 by omega]⟩
  · go_ret
    exact ⟨rfl, by rw [show max o 0 = o by omega]⟩

theorem counts_any (b : Nat) (o u k t : Int) (w : World) (h : Mt w b o u k t) :
    Calls Try.prog 23 #[.pointer (some ⟨b, 0, none⟩)] w fun e w' => e = .returned (.agg #[.int .i64 o, .int .i64 u, .int .i64 k, .int .i64 t]) ∧ Below w.heap.size w w' := by
  have c0 := h.c0
  have c1 := h.c1
  have c2 := h.c2
  have c3 := h.c3
  have hlb := h.lt
  clear h
  go_enter Try.func23, Try.ntmps23
  go_wp2
  have M := Mt.made w o u k t
  have d0 := M.c0
  have d1 := M.c1
  have d2 := M.c2
  have d3 := M.c3
  refine bodyPost_ret (v := .agg #[.int .i64 o, .int .i64 u, .int .i64 k, .int .i64 t]) (by simp [results, Try.results23, go_sem, d0, d1, d2, d3]) rfl ?_
  exact ⟨rfl, (Below.refl _ _).alloc (Nat.le_refl _) _⟩
theorem counts_nil (w : World) :
    Calls Try.prog 23 #[.pointer none] w fun e w' => e = .returned (.agg #[.int .i64 0, .int .i64 0, .int .i64 0, .int .i64 0]) ∧ Below w.heap.size w w' := by
  go_enter Try.func23, Try.ntmps23
  go_wp2
  have M := Mt.made w 0 0 0 0
  have d0 := M.c0
  have d1 := M.c1
  have d2 := M.c2
  have d3 := M.c3
  refine bodyPost_ret (v := .agg #[.int .i64 0, .int .i64 0, .int .i64 0, .int .i64 0]) (by simp [results, Try.results23, go_sem, d0, d1, d2, d3]) rfl ?_
  exact ⟨rfl, (Below.refl _ _).alloc (Nat.le_refl _) _⟩

theorem field0 (o u k t : Value) (w : World) : (Instr.field 46 (.agg #[o, u, k, t]) 0).run Try.prog w = .ok o w := by kernel_rfl
theorem field1 (o u k t : Value) (w : World) : (Instr.field 46 (.agg #[o, u, k, t]) 1).run Try.prog w = .ok u w := by kernel_rfl
theorem field2 (o u k t : Value) (w : World) : (Instr.field 46 (.agg #[o, u, k, t]) 2).run Try.prog w = .ok k w := by kernel_rfl
theorem field3 (o u k t : Value) (w : World) : (Instr.field 46 (.agg #[o, u, k, t]) 3).run Try.prog w = .ok t w := by kernel_rfl

theorem used_any (b : Nat) (o u k t : Int) (w : World) (h : Mt w b o u k t) :
    Calls Try.prog 13 #[.pointer (some ⟨b, 0, none⟩)] w fun e w' => e = .returned (.int .i64 u) ∧ Below w.heap.size w w' := by
  have hfd := field1
  go_enter Try.func13, Try.ntmps13
  go_wp2_with fail
  refine (counts_any b o u k t _ h).mono ?_
  rintro e w1 ⟨rfl, b1⟩
  have B1 := Lib.hid b1
  clear b1 h
  go_wp2
  go_ret
  exact ⟨rfl, B1.out⟩
theorem used_nil (w : World) :
    Calls Try.prog 13 #[.pointer none] w fun e w' => e = .returned (.int .i64 0) ∧ Below w.heap.size w w' := by
  have hfd := field1
  go_enter Try.func13, Try.ntmps13
  go_wp2_with fail
  refine (counts_nil _).mono ?_
  rintro e w1 ⟨rfl, b1⟩
  have B1 := Lib.hid b1
  clear b1
  go_wp2
  go_ret
  exact ⟨rfl, B1.out⟩
theorem taken_any (b : Nat) (o u k t : Int) (w : World) (h : Mt w b o u k t) :
    Calls Try.prog 14 #[.pointer (some ⟨b, 0, none⟩)] w fun e w' => e = .returned (.int .i64 k) ∧ Below w.heap.size w w' := by
  have hfd := field2
  go_enter Try.func14, Try.ntmps14
  go_wp2_with fail
  refine (counts_any b o u k t _ h).mono ?_
  rintro e w1 ⟨rfl, b1⟩
  have B1 := Lib.hid b1
  clear b1 h
  go_wp2
  go_ret
  exact ⟨rfl, B1.out⟩
theorem taken_nil (w : World) :
    Calls Try.prog 14 #[.pointer none] w fun e w' => e = .returned (.int .i64 0) ∧ Below w.heap.size w w' := by
  have hfd := field2
  go_enter Try.func14, Try.ntmps14
  go_wp2_with fail
  refine (counts_nil _).mono ?_
  rintro e w1 ⟨rfl, b1⟩
  have B1 := Lib.hid b1
  clear b1
  go_wp2
  go_ret
  exact ⟨rfl, B1.out⟩
end Go.Proofs.Ytacfhjcchoefjaa
