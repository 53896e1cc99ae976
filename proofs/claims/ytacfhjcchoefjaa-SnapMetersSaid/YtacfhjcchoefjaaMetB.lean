/-
  The contracts of package meter's Take and Give over this seat's translation. Conditions: the meter's own block, counts that are within their bounds.
-/
import Derived.Test.YtacfhjcchoefjaaMetA
import Derived.StillTailTactics
import Derived.Deep.RegionHeld3
import Derived.WalkSpells
import Derived.IntWalk
namespace Go.Proofs.Ytacfhjcchoefjaa
open Go.RowKit

theorem lt_of_cell {w : World} {g i : Nat} {v : Value} (hv : w.cell? ⟨g, i, none⟩ = some v) : g < w.heap.size := by
  rcases Nat.lt_or_ge g w.heap.size with h | h
  · exact h
  · simp [World.cell?, Array.getElem?_eq_none h] at hv

theorem moving1_arg (p : Value) (bm br ba bw : Nat) (n : Int) (hp : p = .pointer none ∨ (∃ b, p = .pointer (some ⟨b, 0, none⟩)) ∧ n < 0) (w : World) (cm : w.cell? ⟨bm, 0, none⟩ = some p) :
    Calls Try.prog 40 #[.int .i64 n, .pointer (some ⟨bm, 0, none⟩), .pointer (some ⟨br, 0, none⟩), .pointer (some ⟨ba, 0, none⟩), .pointer (some ⟨bw, 0, none⟩)] w fun e w' => e = .returned (.int .i64 1) ∧ w = w' := by
  rcases hp with rfl | ⟨⟨b, rfl⟩, hn⟩
  · go_enter Try.func40, Try.ntmps40
    go_wp2
    go_ret
    exact ⟨rfl, rfl⟩
  · go_enter Try.func40, Try.ntmps40
    go_wp2
    go_ret
    exact ⟨rfl, rfl⟩

theorem moving1_over (b bm br ba bw : Nat) (n room above : Int) (hn : 0 ≤ n) (hr : room < n) (w : World) (cm : w.cell? ⟨bm, 0, none⟩ = some (.pointer (some ⟨b, 0, none⟩)))
    (cr : w.cell? ⟨br, 0, none⟩ = some (.int .i64 room)) (ca : w.cell? ⟨ba, 0, none⟩ = some (.int .i64 above)) :
    Calls Try.prog 40 #[.int .i64 n, .pointer (some ⟨bm, 0, none⟩), .pointer (some ⟨br, 0, none⟩), .pointer (some ⟨ba, 0, none⟩), .pointer (some ⟨bw, 0, none⟩)] w fun e w' => e = .returned (.int .i64 above) ∧ w = w' := by
  have t0 : ¬ n < 0 := by omega
  go_enter Try.func40, Try.ntmps40
  go_wp2
  go_ret
  exact ⟨rfl, rfl⟩

theorem moving1_ok (b bm br ba bw : Nat) (n room way d g o u k t T : Int) (hn : 0 ≤ n) (hr : n ≤ room) (w : World) (cm : w.cell? ⟨bm, 0, none⟩ = some (.pointer (some ⟨b, 0, none⟩)))
    (cr : w.cell? ⟨br, 0, none⟩ = some (.int .i64 room)) (cw : w.cell? ⟨bw, 0, none⟩ = some (.int .i64 way)) (h : Mt w b o u k t) (hm : bm ≠ b) (hw : bw ≠ b)
    (ht : (if t < u + d then u + d else t) = T) (hd : IntKind.i64.wrap (way * n) = d) (hu : IntKind.i64.wrap (u + d) = u + d) (hg : (if d < 0 then 0 else d) = g) (hk : IntKind.i64.wrap (k + g) = k + g) :
    Calls Try.prog 40 #[.int .i64 n, .pointer (some ⟨bm, 0, none⟩), .pointer (some ⟨br, 0, none⟩), .pointer (some ⟨ba, 0, none⟩), .pointer (some ⟨bw, 0, none⟩)] w fun e w' =>
      e = .returned (.int .i64 0) ∧ Mt w' b o (u + d) (k + g) T ∧ Fr (fun j => j = b) w w' := by
  have t0 : ¬ n < 0 := by omega
  have t1 : ¬ room < n := by omega
  have c1 := h.c1
  have f1 := h.free 1
  have H := Lib.hid h
  clear h
  go_enter Try.func40, Try.ntmps40
  go_wp2_with fail
  go_region
  obtain ⟨w1, hw1⟩ : ∃ w1, w1 = (w.setCell ⟨b, 1, none⟩ (.int .i64 (u + d))).drew := ⟨_, rfl⟩
  rw [← hw1]
  have M1 : Mt w1 b o (u + d) k t := by rw [hw1]; exact (H.out.set1 _).drew
  have F1 : Fr (fun j => j = b) w w1 := by rw [hw1]; exact ((Fr.refl (fun j => j = b) w).setCell (p := ⟨b, 1, none⟩) (.inl rfl) _).drew
  have cm1 := (F1.cell (p := ⟨bm, 0, none⟩) (lt_of_cell cm) hm).trans cm
  have cw1 := (F1.cell (p := ⟨bw, 0, none⟩) (lt_of_cell cw) hw).trans cw
  have c2 := M1.c2
  have f2 := M1.free 2
  have G1 := Lib.hid (And.intro M1 F1)
  clear hw1 M1 F1 cm cw c1 f1 H cr
  go_wp2_with fail
  go_region
  obtain ⟨w2, hw2⟩ : ∃ w2, w2 = (w1.setCell ⟨b, 2, none⟩ (.int .i64 (k + g))).drew := ⟨_, rfl⟩
  rw [← hw2]
  have M2 : Mt w2 b o (u + d) (k + g) t := by rw [hw2]; exact (G1.out.1.set2 _).drew
  have F12 : Fr (fun j => j = b) w1 w2 := by rw [hw2]; exact ((Fr.refl (fun j => j = b) w1).setCell (p := ⟨b, 2, none⟩) (.inl rfl) _).drew
  have cm2 := (F12.cell (p := ⟨bm, 0, none⟩) (lt_of_cell cm1) hm).trans cm1
  have c3 := M2.c3
  have d1 := M2.c1
  have f3 := M2.free 3
  have G2 := Lib.hid (And.intro M2 (G1.out.2.trans F12))
  clear hw2 M2 F12 cm1 cw1 c2 f2 G1
  go_wp2_with fail
  go_region
  have Q2 := Lib.hid (And.intro ((G2.out.1.set3 T).drew) ((G2.out.2.setCell (p := ⟨b, 3, none⟩) (.inl rfl) (.int .i64 T)).drew))
  clear cm2 c3 d1 f3 G2
  go_wp2
  go_ret
  exact ⟨rfl, Q2.out⟩

theorem four_new (w : World) (o1 o2 o3 o4 : Obj) : ∃ W, W = (((w.alloc o1).alloc o2).alloc o3).alloc o4 ∧ W.heap[w.heap.size]? = some o1 ∧ W.heap[w.heap.size + 1]? = some o2 ∧ W.heap[w.heap.size + 1 + 1]? = some o3 ∧
    W.heap[w.heap.size + 1 + 1 + 1]? = some o4 ∧ Below w.heap.size w W := by
  refine ⟨_, rfl, ?_, ?_, ?_, ?_, ((((Below.refl _ _).alloc (Nat.le_refl _) o1).alloc (by simp) o2).alloc (by simp; omega) o3).alloc (by simp; omega) o4⟩
  · exact (Below.heap_alloc _ o4 _ (by simp; omega)).trans ((Below.heap_alloc _ o3 _ (by simp; omega)).trans ((Below.heap_alloc _ o2 _ (by simp)).trans (heap_alloc_new w o1)))
  · exact (Below.heap_alloc _ o4 _ (by simp)).trans ((Below.heap_alloc _ o3 _ (by simp)).trans (by have := heap_alloc_new (w.alloc o1) o2; simpa using this))
  · exact (Below.heap_alloc _ o4 _ (by simp)).trans (by have := heap_alloc_new ((w.alloc o1).alloc o2) o3; simpa using this)
  · have := heap_alloc_new (((w.alloc o1).alloc o2).alloc o3) o4; simpa using this

theorem moving_any (q : Option Addr) (way room above : Int) (w : World) :
    Calls Try.prog 28 #[.pointer q, .int .i64 way, .int .i64 room, .int .i64 above] w fun e w' =>
      ∃ m, e = .returned (.func (.func 40) #[] #[.pointer (some ⟨m, 0, none⟩), .pointer (some ⟨m + 1 + 1, 0, none⟩), .pointer (some ⟨m + 1 + 1 + 1, 0, none⟩), .pointer (some ⟨m + 1, 0, none⟩)]) ∧
      w.heap.size ≤ m ∧ w'.cell? ⟨m, 0, none⟩ = some (.pointer q) ∧ w'.cell? ⟨m + 1, 0, none⟩ = some (.int .i64 way) ∧ w'.cell? ⟨m + 1 + 1, 0, none⟩ = some (.int .i64 room) ∧
      w'.cell? ⟨m + 1 + 1 + 1, 0, none⟩ = some (.int .i64 above) ∧ Below w.heap.size w w' := by
  have hmf : ∀ (fn : Fn) (first cap : Array Value) (w : World), (Instr.makeFunc fn first cap).run Try.prog w = .ok (.func fn first cap) w := fun _ _ _ _ => rfl
  go_enter Try.func28, Try.ntmps28
  go_wp2
  obtain ⟨W, hW, h1, h2, h3, h4, hb⟩ := four_new w (.cells #[.pointer q] 30) (.cells #[.int .i64 way] 3) (.cells #[.int .i64 room] 3) (.cells #[.int .i64 above] 23)
  rw [← hW]
  clear hW
  go_ret
  exact ⟨w.heap.size, rfl, Nat.le_refl _, cell_of_one h1, cell_of_one h2, cell_of_one h3, cell_of_one h4, hb⟩

/-- The counts behind a move: the error, then used, taken, top. -/
def mv (above room d g u k t n : Int) : Int × Int × Int × Int :=
  if n < 0 then (1, u, k, t) else if room < n then (above, u, k, t) else (0, u + d, k + g, if t < u + d then u + d else t)
/-- The counts behind Take: the error, then used, taken, top. -/
def tk (o u k t n : Int) : Int × Int × Int × Int := mv 5 (if 9223372036854775807 - k < o - u then 9223372036854775807 - k else o - u) n n u k t n
theorem moving1_any (b m : Nat) (n room way d g above o u k t : Int) (w : World) (hmb : b < m) (c1 : w.cell? ⟨m, 0, none⟩ = some (.pointer (some ⟨b, 0, none⟩)))
    (c2 : w.cell? ⟨m + 1, 0, none⟩ = some (.int .i64 way)) (c3 : w.cell? ⟨m + 1 + 1, 0, none⟩ = some (.int .i64 room)) (c4 : w.cell? ⟨m + 1 + 1 + 1, 0, none⟩ = some (.int .i64 above)) (h : Mt w b o u k t)
    (hd : way * n = d) (hw : 0 ≤ n → n ≤ room → (if d < 0 then 0 else d) = g ∧ IntKind.i64.wrap d = d ∧ IntKind.i64.wrap (u + d) = u + d ∧ IntKind.i64.wrap (k + g) = k + g) :
    Calls Try.prog 40 #[.int .i64 n, .pointer (some ⟨m, 0, none⟩), .pointer (some ⟨m + 1 + 1, 0, none⟩), .pointer (some ⟨m + 1 + 1 + 1, 0, none⟩), .pointer (some ⟨m + 1, 0, none⟩)] w fun e w' =>
      e = .returned (.int .i64 (mv above room d g u k t n).1) ∧ Mt w' b o (mv above room d g u k t n).2.1 (mv above room d g u k t n).2.2.1 (mv above room d g u k t n).2.2.2 ∧ Fr (fun j => j = b) w w' := by
  by_cases h0 : n < 0
  · refine (moving1_arg _ m (m + 1 + 1) (m + 1 + 1 + 1) (m + 1) n (.inr ⟨⟨b, rfl⟩, h0⟩) w c1).mono ?_
    rintro e w' ⟨rfl, rfl⟩
    simp only [mv, if_pos h0]
    exact ⟨trivial, h, Fr.refl _ _⟩
  · by_cases h1 : room < n
    · refine (moving1_over b m (m + 1 + 1) (m + 1 + 1 + 1) (m + 1) n room above (by omega) h1 w c1 c3 c4).mono ?_
      rintro e w' ⟨rfl, rfl⟩
      simp only [mv, if_neg h0, if_pos h1]
      exact ⟨trivial, h, Fr.refl _ _⟩
    · obtain ⟨hg, q1, q2, q3⟩ := hw (by omega) (by omega)
      refine (moving1_ok b m (m + 1 + 1) (m + 1 + 1 + 1) (m + 1) n room way d g o u k t _ (by omega) (by omega) w c1 c3 c2 h (by omega) (by omega) rfl (by rw [hd]; exact q1) q2 hg q3).mono ?_
      rintro e w' ⟨rfl, h2, h3⟩
      simp only [mv, if_neg h0, if_neg h1]
      exact ⟨trivial, h2, h3⟩

theorem take_any (b : Nat) (o u k t n : Int) (w : World) (h : Mt w b o u k t) (hu : 0 ≤ u) (ho : u ≤ o) (hm : o ≤ 9223372036854775807) (hk : 0 ≤ k) (hk2 : k ≤ 9223372036854775807) :
    Calls Try.prog 20 #[.pointer (some ⟨b, 0, none⟩), .int .i64 n] w fun e w' =>
      e = .returned (.int .i64 (tk o u k t n).1) ∧ Mt w' b o (tk o u k t n).2.1 (tk o u k t n).2.2.1 (tk o u k t n).2.2.2 ∧ Fr (fun j => j = b) w w' := by
  have i1 : IntKind.i64.wrap (o - u) = o - u := IntWalk.i64_in _ (by omega)
  have i2 : IntKind.i64.wrap (9223372036854775807 - k) = 9223372036854775807 - k := IntWalk.i64_in _ (by omega)
  have HB := Lib.hid (And.intro hu (And.intro ho (And.intro hm (And.intro hk hk2))))
  obtain ⟨r, hr⟩ : ∃ r, (if 9223372036854775807 - k < o - u then 9223372036854775807 - k else o - u) = r := ⟨_, rfl⟩
  have HR := Lib.hid hr
  go_enter Try.func20, Try.ntmps20
  go_wp2_with fail
  refine (counts_any b o u k t _ h).mono ?_
  rintro e w1 ⟨rfl, b1⟩
  have M1 := Lib.hid (h.keep (b1.block b h.lt))
  have B1 := Lib.hid b1
  clear b1 h hu ho hm hk hk2
  go_wp2_with fail
  have B2 := Lib.hid (B1.out.alloc B1.out.size (.cells #[.int .i64 o, .int .i64 u, .int .i64 k, .int .i64 t] 46))
  have M2 := Lib.hid (M1.out.alloc (.cells #[.int .i64 o, .int .i64 u, .int .i64 k, .int .i64 t] 46))
  generalize w1.alloc (.cells #[.int .i64 o, .int .i64 u, .int .i64 k, .int .i64 t] 46) = w2 at *
  clear B1 M1
  refine (moving_any (some ⟨b, 0, none⟩) 1 r 5 w2).mono ?_
  rintro e w3 ⟨m, rfl, hlm, c1, c2, c3, c4, b3⟩
  have M3 := Lib.hid (M2.out.keep (b3.block b M2.out.lt))
  have B3 := Lib.hid (below_then B2.out (b3.mono (by exact Nat.le_refl _)))
  have hl := Lib.hid (And.intro hlm M2.out.lt)
  have C := Lib.hid (And.intro c1 (And.intro c2 (And.intro c3 c4)))
  clear b3 hlm c1 c2 c3 c4 M2 B2
  go_wp2_with fail
  refine (moving1_any b m n r 1 n n 5 o u k t w3 (by have := hl.out; omega) C.out.1 C.out.2.1 C.out.2.2.1 C.out.2.2.2 M3.out (by omega) ?_).mono ?_
  · intro h0 h1
    have := HB.out
    have hr2 := HR.out
    split at hr2 <;> exact ⟨by split <;> omega, IntWalk.i64_in _ (by omega), IntWalk.i64_in _ (by omega), IntWalk.i64_in _ (by omega)⟩
  rintro e w4 ⟨rfl, h4, f4⟩
  have Q := Lib.hid (And.intro h4 (Fr.then_ (S := fun j => j = b) ((Fr.refl _ w).then_ (T := fun _ => False) ⟨B3.out.os, B3.out.tape, B3.out.output, B3.out.size, fun j hj _ => B3.out.block j hj⟩ (fun _ _ h => h.elim)) f4 (fun _ _ h => h)))
  clear h4 f4
  go_wp2
  go_ret
  rw [show tk o u k t n = mv 5 r n n u k t n from by rw [← HR.out]; rfl]
  exact ⟨rfl, Q.out⟩

theorem take_nil (n : Int) (w : World) :
    Calls Try.prog 20 #[.pointer none, .int .i64 n] w fun e w' => e = .returned (.int .i64 1) ∧ Below w.heap.size w w' := by
  have i1 : IntKind.i64.wrap ((0 : Int) - 0) = 0 := by decide
  have i2 : IntKind.i64.wrap (9223372036854775807 - 0) = 9223372036854775807 := by decide
  go_enter Try.func20, Try.ntmps20
  go_wp2_with fail
  refine (counts_nil _).mono ?_
  rintro e w1 ⟨rfl, b1⟩
  have B1 := Lib.hid b1
  clear b1
  go_wp2_with fail
  have B2 := Lib.hid (B1.out.alloc B1.out.size (.cells #[.int .i64 0, .int .i64 0, .int .i64 0, .int .i64 0] 46))
  generalize w1.alloc (.cells #[.int .i64 0, .int .i64 0, .int .i64 0, .int .i64 0] 46) = w2 at *
  clear B1
  refine (moving_any none 1 0 5 w2).mono ?_
  rintro e w3 ⟨m, rfl, hlm, c1, c2, c3, c4, b3⟩
  have B3 := Lib.hid (below_then B2.out (b3.mono (by exact Nat.le_refl _)))
  have C := Lib.hid c1
  clear b3 hlm c1 c2 c3 c4 B2
  go_wp2_with fail
  refine (moving1_arg _ m _ _ _ n (.inl rfl) w3 C.out).mono ?_
  rintro e w4 ⟨rfl, rfl⟩
  go_wp2
  go_ret
  exact ⟨rfl, B3.out⟩
end Go.Proofs.Ytacfhjcchoefjaa
