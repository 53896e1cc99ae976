/-
  The contracts of the document's meter (New, Take, Give, Clear) over this seat's translation, and what the block of its variable holds. Conditions: counts that are within their bounds.
-/
import Derived.Test.YtgkiippokkofnaaMetB
namespace Go.Proofs.Ytgkiippokkofnaa
open Go.RowKit

/-- The document's meter in block b: its most, and its three counts. -/
def Dm (w : World) (b : Nat) (o u k t : Int) : Prop :=
  w.heap[b]? = some (.cells #[.int .i64 o, .int .i64 u, .int .i64 k, .int .i64 t] 27 (0, 0))

section
variable {w w' : World} {b : Nat} {o u k t : Int}
theorem Dm.lt (h : Dm w b o u k t) : b < w.heap.size := lt_of_block h
theorem Dm.c0 (h : Dm w b o u k t) : w.cell? ⟨b, 0, none⟩ = some (.int .i64 o) := by unfold Dm at h; simp [World.cell?, h]
theorem Dm.c1 (h : Dm w b o u k t) : w.cell? ⟨b, 1, none⟩ = some (.int .i64 u) := by unfold Dm at h; simp [World.cell?, h]
theorem Dm.c2 (h : Dm w b o u k t) : w.cell? ⟨b, 2, none⟩ = some (.int .i64 k) := by unfold Dm at h; simp [World.cell?, h]
theorem Dm.c3 (h : Dm w b o u k t) : w.cell? ⟨b, 3, none⟩ = some (.int .i64 t) := by unfold Dm at h; simp [World.cell?, h]
theorem Dm.free (h : Dm w b o u k t) (i : Nat) : w.frozen? ⟨b, i, none⟩ = false := by unfold Dm at h; simp [World.frozen?, h]
theorem Dm.drewN (h : Dm w b o u k t) (n : Nat) : Dm (w.drewN n) b o u k t := h
theorem Dm.drew (h : Dm w b o u k t) : Dm w.drew b o u k t := h
theorem Dm.keep (h : Dm w b o u k t) (hb : w'.heap[b]? = w.heap[b]?) : Dm w' b o u k t := hb.trans h
theorem Dm.alloc (h : Dm w b o u k t) (x : Obj) : Dm (w.alloc x) b o u k t := h.keep (Below.heap_alloc w x b h.lt)
theorem Dm.far (h : Dm w b o u k t) {p : Addr} (hp : b ≠ p.block) (v : Value) : Dm (w.setCell p v) b o u k t := h.keep (Below.heap_setCell w p v b hp)
theorem Dm.set1 (h : Dm w b o u k t) (v : Int) : Dm (w.setCell ⟨b, 1, none⟩ (.int .i64 v)) b o v k t := by
  unfold Dm at h ⊢
  simp [World.setCell, Array.getElem?_modify, h]
theorem Dm.set2 (h : Dm w b o u k t) (v : Int) : Dm (w.setCell ⟨b, 2, none⟩ (.int .i64 v)) b o u v t := by
  unfold Dm at h ⊢
  simp [World.setCell, Array.getElem?_modify, h]
theorem Dm.set3 (h : Dm w b o u k t) (v : Int) : Dm (w.setCell ⟨b, 3, none⟩ (.int .i64 v)) b o u k v := by
  unfold Dm at h ⊢
  simp [World.setCell, Array.getElem?_modify, h]
theorem Dm.made (w : World) (o u k t : Int) : Dm (w.alloc (.cells #[.int .i64 o, .int .i64 u, .int .i64 k, .int .i64 t] 27)) w.heap.size o u k t := heap_alloc_new w _
theorem Dm.new (w : World) (o : Int) : Dm (w.alloc (.cells #[.int .i64 o, .int .i64 0, .int .i64 0, .int .i64 0] 27)) w.heap.size o 0 0 0 := heap_alloc_new w _
end


theorem refNew_any (o : Int) (w : World) :
    Calls Try.prog 7 #[.int .i64 o] w fun e w' => e = .returned (.agg #[.int .i64 (max o 0), .int .i64 0, .int .i64 0, .int .i64 0]) ∧ Below w.heap.size w w' := by
  by_cases h : o < 0
  · rw [show max o 0 = 0 by omega]
    go_enter Try.func7, Try.ntmps7
    go_wp2
    have M := Dm.made w 0 0 0 0
    have d0 := M.c0
    have d1 := M.c1
    have d2 := M.c2
    have d3 := M.c3
    refine bodyPost_ret (v := .agg #[.int .i64 0, .int .i64 0, .int .i64 0, .int .i64 0]) (by simp [results, Try.results7, go_sem, d0, d1, d2, d3]) rfl ?_
    exact ⟨rfl, (Below.refl _ _).alloc (Nat.le_refl _) _⟩
  · rw [show max o 0 = o by omega]
    go_enter Try.func7, Try.ntmps7
    go_wp2
    have M := Dm.made w o 0 0 0
    have d0 := M.c0
    have d1 := M.c1
    have d2 := M.c2
    have d3 := M.c3
    refine bodyPost_ret (v := .agg #[.int .i64 o, .int .i64 0, .int .i64 0, .int .i64 0]) (by simp [results, Try.results7, go_sem, d0, d1, d2, d3]) rfl ?_
    exact ⟨rfl, (Below.refl _ _).alloc (Nat.le_refl _) _⟩

theorem two_made (w : World) (x : Obj) (o u k t : Int) : ∃ W, W = (w.alloc x).alloc (.cells #[.int .i64 o, .int .i64 u, .int .i64 k, .int .i64 t] 27) ∧ Dm W (w.heap.size + 1) o u k t ∧ Below w.heap.size w W := by
  refine ⟨_, rfl, ?_, ((Below.refl _ _).alloc (Nat.le_refl _) x).alloc (by simp) _⟩
  have := Dm.made (w.alloc x) o u k t
  simpa using this

theorem refClear_any (o u k t : Int) (w : World) :
    Calls Try.prog 11 #[.agg #[.int .i64 o, .int .i64 u, .int .i64 k, .int .i64 t]] w fun e w' => e = .returned (.agg #[.int .i64 o, .int .i64 u, .int .i64 0, .int .i64 u]) ∧ Below w.heap.size w w' := by
  go_enter Try.func11, Try.ntmps11
  go_wp2
  obtain ⟨W, hW, M, hb⟩ := two_made w _ o u 0 u
  rw [← hW]
  have d0 := M.c0
  have d1 := M.c1
  have d2 := M.c2
  have d3 := M.c3
  refine bodyPost_ret (v := .agg #[.int .i64 o, .int .i64 u, .int .i64 0, .int .i64 u]) (by simp [results, Try.results11, go_sem, d0, d1, d2, d3]) rfl ?_
  exact ⟨rfl, hb⟩

theorem refGive_any (o u k t n : Int) (w : World) (ht : u ≤ t) (hu : 0 ≤ u) (hm : u ≤ 9223372036854775807) :
    Calls Try.prog 9 #[.agg #[.int .i64 o, .int .i64 u, .int .i64 k, .int .i64 t], .int .i64 n] w fun e w' =>
      e = .returned (.tuple #[.agg #[.int .i64 o, .int .i64 (gv u k t n).2.1, .int .i64 (gv u k t n).2.2.1, .int .i64 (gv u k t n).2.2.2], .int .i64 (gv u k t n).1]) ∧ Below w.heap.size w w' := by
  by_cases h0 : n < 0
  · have hg : gv u k t n = (1, u, k, t) := by simp [gv, mv, h0]
    rw [hg]
    clear hg
    go_enter Try.func9, Try.ntmps9
    go_wp2
    obtain ⟨W, hW, M, hb⟩ := two_made w _ o u k t
    rw [← hW]
    have d0 := M.c0
    have d1 := M.c1
    have d2 := M.c2
    have d3 := M.c3
    refine bodyPost_ret (v := .tuple #[.agg #[.int .i64 o, .int .i64 u, .int .i64 k, .int .i64 t], .int .i64 1]) (by simp [results, Try.results9, go_sem, d0, d1, d2, d3]) rfl ?_
    exact ⟨rfl, hb⟩
  · by_cases h1 : u < n
    · have hg : gv u k t n = (1, u, k, t) := by simp [gv, mv, h0, h1]
      rw [hg]
      clear hg
      go_enter Try.func9, Try.ntmps9
      go_wp2
      obtain ⟨W, hW, M, hb⟩ := two_made w _ o u k t
      rw [← hW]
      have d0 := M.c0
      have d1 := M.c1
      have d2 := M.c2
      have d3 := M.c3
      refine bodyPost_ret (v := .tuple #[.agg #[.int .i64 o, .int .i64 u, .int .i64 k, .int .i64 t], .int .i64 1]) (by simp [results, Try.results9, go_sem, d0, d1, d2, d3]) rfl ?_
      exact ⟨rfl, hb⟩
    · have i1 : IntKind.i64.wrap (u - n) = u - n := IntWalk.i64_in _ (by omega)
      have hg : gv u k t n = (0, u - n, k, t) := by rw [gv, mv, if_neg h0, if_neg h1, ← Int.sub_eq_add_neg, if_neg (by omega), Int.add_zero]
      rw [hg]
      clear hg
      go_enter Try.func9, Try.ntmps9
      go_wp2
      obtain ⟨W, hW, M, hb⟩ := two_made w _ o (u - n) k t
      rw [← hW]
      have d0 := M.c0
      have d1 := M.c1
      have d2 := M.c2
      have d3 := M.c3
      refine bodyPost_ret (v := .tuple #[.agg #[.int .i64 o, .int .i64 (u - n), .int .i64 k, .int .i64 t], .int .i64 0]) (by simp [results, Try.results9, go_sem, d0, d1, d2, d3]) rfl ?_
      exact ⟨rfl, hb⟩

theorem refTake_any (o u k t n : Int) (w : World) (hn : n ≤ 9223372036854775807) (hu : 0 ≤ u) (ho : u ≤ o) (hm : o ≤ 9223372036854775807) (hk : 0 ≤ k) (hk2 : k ≤ 9223372036854775807) :
    Calls Try.prog 13 #[.agg #[.int .i64 o, .int .i64 u, .int .i64 k, .int .i64 t], .int .i64 n] w fun e w' =>
      e = .returned (.tuple #[.agg #[.int .i64 o, .int .i64 (tk o u k t n).2.1, .int .i64 (tk o u k t n).2.2.1, .int .i64 (tk o u k t n).2.2.2], .int .i64 (tk o u k t n).1]) ∧ Below w.heap.size w w' := by
  by_cases h0 : n < 0
  · have hg : tk o u k t n = (1, u, k, t) := by simp [tk, mv, h0]
    rw [hg]
    clear hg
    go_enter Try.func13, Try.ntmps13
    go_wp2
    obtain ⟨W, hW, M, hb⟩ := two_made w _ o u k t
    rw [← hW]
    have d0 := M.c0
    have d1 := M.c1
    have d2 := M.c2
    have d3 := M.c3
    refine bodyPost_ret (v := .tuple #[.agg #[.int .i64 o, .int .i64 u, .int .i64 k, .int .i64 t], .int .i64 1]) (by simp [results, Try.results13, go_sem, d0, d1, d2, d3]) rfl ?_
    exact ⟨rfl, hb⟩
  have v1 : IntKind.u64.wrap u = u := IntWalk.u64_in _ (by omega)
  have v2 : IntKind.u64.wrap n = n := IntWalk.u64_in _ (by omega)
  have v3 : IntKind.u64.wrap o = o := IntWalk.u64_in _ (by omega)
  have v4 : IntKind.u64.wrap k = k := IntWalk.u64_in _ (by omega)
  have v5 : IntKind.u64.wrap (u + n) = u + n := IntWalk.u64_in _ (by omega)
  have v6 : IntKind.u64.wrap (k + n) = k + n := IntWalk.u64_in _ (by omega)
  have z0 : ¬ n < 0 := h0
  have hr : (¬ (o < u + n) ∧ ¬ (9223372036854775807 < k + n)) ↔ ¬ (if 9223372036854775807 - k < o - u then 9223372036854775807 - k else o - u) < n := by split <;> omega
  by_cases h1 : o < u + n
  · have hg : tk o u k t n = (5, u, k, t) := by rw [tk, mv, if_neg h0, if_pos (by split <;> omega)]
    have z1 : decide (o < u + n) = true := by simp [h1]
    rw [hg]
    clear hg hr h1
    go_enter Try.func13, Try.ntmps13
    go_wp2
    obtain ⟨W, hW, M, hb⟩ := two_made w _ o u k t
    rw [← hW]
    have d0 := M.c0
    have d1 := M.c1
    have d2 := M.c2
    have d3 := M.c3
    refine bodyPost_ret (v := .tuple #[.agg #[.int .i64 o, .int .i64 u, .int .i64 k, .int .i64 t], .int .i64 5]) (by simp [results, Try.results13, go_sem, d0, d1, d2, d3]) rfl ?_
    exact ⟨rfl, hb⟩
  · have z1 : decide (o < u + n) = false := by simp; omega
    by_cases h2 : 9223372036854775807 < k + n
    · have hg : tk o u k t n = (5, u, k, t) := by rw [tk, mv, if_neg h0, if_pos (by split <;> omega)]
      have z2 : decide (9223372036854775807 < k + n) = true := by simp; omega
      rw [hg]
      clear hg hr h1 h2
      go_enter Try.func13, Try.ntmps13
      go_wp2
      obtain ⟨W, hW, M, hb⟩ := two_made w _ o u k t
      rw [← hW]
      have d0 := M.c0
      have d1 := M.c1
      have d2 := M.c2
      have d3 := M.c3
      refine bodyPost_ret (v := .tuple #[.agg #[.int .i64 o, .int .i64 u, .int .i64 k, .int .i64 t], .int .i64 5]) (by simp [results, Try.results13, go_sem, d0, d1, d2, d3]) rfl ?_
      exact ⟨rfl, hb⟩
    · have z2 : decide (9223372036854775807 < k + n) = false := by simp; omega
      have i1 : IntKind.i64.wrap (u + n) = u + n := IntWalk.i64_in _ (by omega)
      have i2 : IntKind.i64.wrap (k + n) = k + n := IntWalk.i64_in _ (by omega)
      by_cases h3 : t < u + n
      · have hg : tk o u k t n = (0, u + n, k + n, u + n) := by rw [tk, mv, if_neg h0, if_neg (hr.1 ⟨h1, h2⟩), if_pos h3]
        rw [hg]
        clear hg hr h1 h2
        go_enter Try.func13, Try.ntmps13
        go_wp2
        obtain ⟨W, hW, M, hb⟩ := two_made w _ o (u + n) (k + n) (u + n)
        rw [← hW]
        have d0 := M.c0
        have d1 := M.c1
        have d2 := M.c2
        have d3 := M.c3
        refine bodyPost_ret (v := .tuple #[.agg #[.int .i64 o, .int .i64 (u + n), .int .i64 (k + n), .int .i64 (u + n)], .int .i64 0]) (by simp [results, Try.results13, go_sem, d0, d1, d2, d3]) rfl ?_
        exact ⟨rfl, hb⟩
      · have hg : tk o u k t n = (0, u + n, k + n, t) := by rw [tk, mv, if_neg h0, if_neg (hr.1 ⟨h1, h2⟩), if_neg h3]
        rw [hg]
        clear hg hr h1 h2
        go_enter Try.func13, Try.ntmps13
        go_wp2
        obtain ⟨W, hW, M, hb⟩ := two_made w _ o (u + n) (k + n) t
        rw [← hW]
        have d0 := M.c0
        have d1 := M.c1
        have d2 := M.c2
        have d3 := M.c3
        refine bodyPost_ret (v := .tuple #[.agg #[.int .i64 o, .int .i64 (u + n), .int .i64 (k + n), .int .i64 t], .int .i64 0]) (by simp [results, Try.results13, go_sem, d0, d1, d2, d3]) rfl ?_
        exact ⟨rfl, hb⟩
end Go.Proofs.Ytgkiippokkofnaa
