/-
  The contract of package item's Read over this seat's translation. Conditions: a line of at most 100,000 bytes.
-/
import Derived.Test.YtdkeickcbpjedaaDoorItmY
namespace Go.Proofs.YtdkeickcbpjedaaDoor
open Go.RowKit

/-- What Read answers and leaves. -/
def ReadPost (l : List UInt8) (w : World) (e : Ending) (w' : World) : Prop :=
  Below w.heap.size w w' ∧
  ((∃ x v, e = .returned (.tuple #[.agg #[.string (T.s x), .bool (T.l x), v], .int .i64 0]) ∧ T.may x = true ∧ T.shw x = l ∧ In w' x v ∧ ∀ x', T.may x' = true → T.shw x' = l → x' = x) ∨
   (e = .returned (.tuple #[ZV, .int .i64 3]) ∧ ∀ x', T.may x' = true → T.shw x' ≠ l))

theorem may_val {x : T} {l : List UInt8} (hm : T.may x = true) (hs : T.shw x = l) : T.Val 16 1024 l x [] := by
  simp only [T.may, Bool.and_eq_true, decide_eq_true_eq] at hm
  exact ⟨by rw [List.append_nil]; exact hs, hm.1.1, hm.1.2, .inl rfl, hm.2⟩

set_option maxRecDepth 20000 in
set_option maxHeartbeats 4000000 in
theorem read_any (l : List UInt8) (w : World) (hl : l.length ≤ 100000) :
    Calls Tryd.prog 9 #[.string (sb l)] w fun e w' => ReadPost l w e w' := by
  have HL := Lib.hid hl
  have W1 := Lib.hid (show Rg ((w.alloc (.cells #[.string ⟨#[]⟩, .bool false, .slice none 0 0] 24)).alloc (.cells #[.string (sb l), .int .i64 1024] 46)) (w.heap.size + 1) l 1024 ∧
      I3 ((w.alloc (.cells #[.string ⟨#[]⟩, .bool false, .slice none 0 0] 24)).alloc (.cells #[.string (sb l), .int .i64 1024] 46)) w.heap.size (.string ⟨#[]⟩) (.bool false) (.slice none 0 0) from
    ⟨by have := heap_alloc_new (w.alloc (.cells #[.string ⟨#[]⟩, .bool false, .slice none 0 0] 24)) (.cells #[.string (sb l), .int .i64 1024] 46); rw [size_push] at this; exact this, (I3.new w _ _ _).alloc _⟩)
  clear hl
  go_enter Tryd.func9, Tryd.ntmps9
  go_wp2_with fail
  refine (item_rd 16 (by omega) (w.heap.size + 1) 1024 l _ 1 (by omega) W1.out.1 HL.out (by omega)).mono ?_
  rintro e w2 ⟨f2, h2⟩
  have R2 := W1.out.2.fr f2 (by omega)
  have B2 := (bel2 w (.cells #[.string ⟨#[]⟩, .bool false, .slice none 0 0] 24) (.cells #[.string (sb l), .int .i64 1024] 46)).trans (f2.below (B := w.heap.size) (by simp; omega) (fun j h => by omega))
  rcases h2 with ⟨x, v, r, rfl, hs, hcx, hv, hrg, hun⟩ | ⟨rfl, ⟨l', k', hrg⟩, hno⟩
  case inr =>
    have BX := B2.trans ((bel1 w2 (.cells #[.string ⟨#[]⟩, .bool false, .slice none 0 0] 24)).mono B2.size)
    have RX := R2.alloc (.cells #[.string ⟨#[]⟩, .bool false, .slice none 0 0] 24)
    obtain ⟨w3, hw3⟩ : ∃ w3, w3 = w2.alloc (.cells #[.string ⟨#[]⟩, .bool false, .slice none 0 0] 24) := ⟨_, rfl⟩
    rw [← hw3] at BX RX
    have x0 := RX.c0
    have x1 := RX.c1
    have x2 := RX.c2
    have lx := RX.lt
    have p0 := RX.free 0
    have p1 := RX.free 1
    have p2 := RX.free 2
    have Q := Lib.hid (show ReadPost l w (.returned (.tuple #[ZV, .int .i64 3])) _ from ⟨bel_put (g := w.heap.size) BX (Nat.le_refl _) (.string ⟨#[]⟩) (.bool false) (.slice none 0 0), .inr ⟨rfl, fun x' hm he => hno x' [] (may_val hm he)⟩⟩)
    have Z := Lib.hid (RX.put (.string ⟨#[]⟩) (.bool false) (.slice none 0 0))
    clear BX RX R2 B2 hrg hno f2
    unfold ZV
    go_upto_region 4 with fail
    rw [← hw3]
    clear hw3
    go_wp2_with fail
    have z0 := Z.out.c0
    have z1 := Z.out.c1
    have z2 := Z.out.c2
    refine bodyPost_ret (v := .tuple #[ZV, .int .i64 3]) (by simp [results, Tryd.results9, go_sem, z0, z1, z2, ZV]) rfl ?_
    exact Q.out
  case inl =>
    obtain ⟨vp, vq, rfl⟩ := hv.slice
    have BX := B2.trans ((bel1 w2 (.cells #[.string (T.s x), .bool (T.l x), .slice vp x.ts.length vq] 24)).mono B2.size)
    have RX := R2.alloc (.cells #[.string (T.s x), .bool (T.l x), .slice vp x.ts.length vq] 24)
    have GX := hrg.alloc (.cells #[.string (T.s x), .bool (T.l x), .slice vp x.ts.length vq] 24)
    have XX := I3.new w2 (.string (T.s x)) (.bool (T.l x)) (.slice vp x.ts.length vq)
    have VX := InP.fr (N' := fun j => w.heap.size < j) hv ((Fr.refl (fun _ => False) w2).alloc (.cells #[.string (T.s x), .bool (T.l x), .slice vp x.ts.length vq] 24)) (fun g hg _ => ⟨by simp at hg; omega, id⟩)
    have hlt := R2.lt
    obtain ⟨w3, hw3⟩ : ∃ w3, w3 = w2.alloc (.cells #[.string (T.s x), .bool (T.l x), .slice vp x.ts.length vq] 24) := ⟨_, rfl⟩
    rw [← hw3] at BX RX GX XX VX
    have x0 := RX.c0
    have x1 := RX.c1
    have x2 := RX.c2
    have lx := RX.lt
    have p0 := RX.free 0
    have p1 := RX.free 1
    have p2 := RX.free 2
    have g0 := GX.c0
    have lg := GX.lt
    by_cases hr : r = []
    · subst hr
      have hmay : T.may x = true := by
        simp only [T.may, Bool.and_eq_true, decide_eq_true_eq]
        exact ⟨⟨hs.2.1, hs.2.2⟩, hcx⟩
      have hsh : T.shw x = l := by have := hs.1; rwa [List.append_nil] at this
      have te : (sb []).toList.isEmpty = true := by rw [ByteArray.toList_eq]; rfl
      have y0 := XX.c0
      have y1 := XX.c1
      have y2 := XX.c2
      have ly := XX.lt
      have VY := InP.fr (N' := fun _ => True) VX (fr_put (w := w3) (g := w.heap.size) (.string (T.s x)) (.bool (T.l x)) (.slice vp x.ts.length vq)) (fun g hg _ => ⟨trivial, by omega⟩)
      have Q := Lib.hid (show ReadPost l w (.returned (.tuple #[.agg #[.string (T.s x), .bool (T.l x), .slice vp x.ts.length vq], .int .i64 0])) _ from
        ⟨bel_put (g := w.heap.size) BX (Nat.le_refl _) (.string (T.s x)) (.bool (T.l x)) (.slice vp x.ts.length vq), .inl ⟨x, _, rfl, hmay, hsh, InP.in _ _ VY, fun x' hm he => (hun x' [] (may_val hm he)).1⟩⟩)
      have Z := Lib.hid (RX.put (.string (T.s x)) (.bool (T.l x)) (.slice vp x.ts.length vq))
      clear BX RX GX XX VX VY R2 B2 hrg hun f2 hs hv hcx hmay hsh
      go_upto_region 3 with fail
      rw [← hw3]
      clear hw3
      go_wp2_with fail
      have z0 := Z.out.c0
      have z1 := Z.out.c1
      have z2 := Z.out.c2
      refine bodyPost_ret (v := .tuple #[.agg #[.string (T.s x), .bool (T.l x), .slice vp x.ts.length vq], .int .i64 0]) (by simp [results, Tryd.results9, go_sem, z0, z1, z2]) rfl ?_
      exact Q.out
    · have te : (sb r).toList.isEmpty = false := isEmptyL (sb r) (fun e => hr (by
        have h2 := congrArg (fun s : ByteArray => s.data.toList) e
        simpa [sb] using h2))
      have Q := Lib.hid (show ReadPost l w (.returned (.tuple #[ZV, .int .i64 3])) _ from ⟨bel_put (g := w.heap.size) BX (Nat.le_refl _) (.string ⟨#[]⟩) (.bool false) (.slice none 0 0), .inr ⟨rfl, fun x' hm he => hr (hun x' [] (may_val hm he)).2.symm⟩⟩)
      have Z := Lib.hid (RX.put (.string ⟨#[]⟩) (.bool false) (.slice none 0 0))
      clear BX RX GX XX VX R2 B2 hrg hun f2 hs hv hcx hr
      go_upto_region 3 with fail
      rw [← hw3]
      clear hw3
      go_wp2_with fail
      have z0 := Z.out.c0
      have z1 := Z.out.c1
      have z2 := Z.out.c2
      refine bodyPost_ret (v := .tuple #[ZV, .int .i64 3]) (by simp [results, Tryd.results9, go_sem, z0, z1, z2, ZV]) rfl ?_
      exact Q.out
end Go.Proofs.YtdkeickcbpjedaaDoor
