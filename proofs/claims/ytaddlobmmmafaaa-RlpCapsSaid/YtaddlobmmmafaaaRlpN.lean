/-
  The contracts of package rlp's reading: rest and next, over this seat's translation. Conditions: bytes of at most 1,000,000; where the reading stands at an item's bytes.
-/
import Derived.Test.YtaddlobmmmafaaaRlpP
import Derived.Test.YtaddlobmmmafaaaRlpA
namespace Go.Proofs.Ytaddlobmmmafaaa
open Go.RowKit

/-- The top of the stack. -/
theorem Rs.top {B b at_ : Nat} {X : Nat → Prop} {w : World} {s : ByteArray} {depth left : Int} {r : List Fo} {f : Fo} {sv : Value} (h : Rs B X w b s at_ depth left (f :: r) sv) :
    ∃ g c, sv = .slice (some ⟨g, 0, none⟩) (r.length + 1) c ∧ r.length + 1 ≤ c ∧ w.cell? ⟨g, r.length * 2, none⟩ = some (.int .i64 f.e) ∧ w.cell? ⟨g, r.length * 2 + 1, none⟩ = some f.sv ∧ (∀ j, w.frozen? ⟨g, j, none⟩ = false) ∧ B ≤ g ∧ g < w.heap.size := by
  obtain ⟨g, c, rfl, h2⟩ := Stk.form (r := r.map Fo.p) h.own
  have h1 : Stk w B 69 (.slice (some ⟨g, 0, none⟩) ((r.map Fo.p).length + 1) c) (Fo.p f :: r.map Fo.p) := h.own
  have c0 := h1.c0
  have c1 := h1.c1
  rw [List.length_map] at c0 c1 h2 ⊢
  exact ⟨g, c, rfl, h2, c0, c1, h1.free, h1.lt.1, h1.lt.2⟩

theorem fr_three {w : World} {g : Nat} {x y z : Value} : Fr (fun j => j = g) w (((w.setCell ⟨g, 0, none⟩ x).setCell ⟨g, 1, none⟩ y).setCell ⟨g, 2, none⟩ z) := ((fr_set x).trans (fr_set y)).trans (fr_set z)
/-- The result is stored into its variable, and done. -/
theorem Rs.ended {B b at_ : Nat} {X : Nat → Prop} {w w1 : World} {s : ByteArray} {depth left : Int} {F : List Fo} {sv : Value} {S : Nat → Prop} (h : Rs B (fun j => X j ∨ j = w.heap.size) w1 b s at_ depth left F sv) (hb : b < w.heap.size) (f : Fr S w w1) (x y z : Value) :
    Rs B X (((w1.setCell ⟨w.heap.size, 0, none⟩ x).setCell ⟨w.heap.size, 1, none⟩ y).setCell ⟨w.heap.size, 2, none⟩ z) b s at_ depth left F sv ∧ Fr S w (((w1.setCell ⟨w.heap.size, 0, none⟩ x).setCell ⟨w.heap.size, 1, none⟩ y).setCell ⟨w.heap.size, 2, none⟩ z) := by
  have f3 : Fr (fun j => j = w.heap.size) w1 (((w1.setCell ⟨w.heap.size, 0, none⟩ x).setCell ⟨w.heap.size, 1, none⟩ y).setCell ⟨w.heap.size, 2, none⟩ z) := fr_three
  exact ⟨(h.keep f3.size (f3.block b h.r.lt (by omega)) (fun j _ hl hx => f3.block j hl (fun e => hx (.inr e)))).more (fun j _ hx => .inl hx), f.then_ f3 (fun j hj e => by omega)⟩
/-- What rest answers. -/
def restOf (s : ByteArray) (at_ : Nat) : List Fo → ByteArray | [] => s.extract at_ s.size | f :: _ => s.extract at_ f.e

theorem rest_any {B b at_ : Nat} {X : Nat → Prop} {w : World} {s : ByteArray} {depth left : Int} {F : List Fo} {sv : Value} (h : Rs B X w b s at_ depth left F sv) (_hs : s.size ≤ 1000000) (ha : at_ ≤ s.size) (hF : F.length ≤ 50000)
    (he : ∀ f r, F = f :: r → at_ ≤ f.e ∧ f.e ≤ s.size) :
    Calls Try.prog 34 #[.pointer (some ⟨b, 0, none⟩)] w fun e w' => e = .returned (.string (restOf s at_ F)) ∧ Below w.heap.size w w' := by
  have c0 := h.r.c0
  have c1 := h.r.c1
  have c4 := h.r.c4
  have lb := h.r.lt
  rcases F with _ | ⟨f, r⟩
  · obtain ⟨a, c, rfl⟩ := h.own.slice
    simp only [List.map_nil, List.length_nil] at c4
    have i1 : (at_ : Int) ≤ (s.size : Int) := by omega
    have E := Lib.hid (show restOf s at_ [] = s.extract at_ s.size from rfl)
    clear h he
    go_enter Try.func34, Try.ntmps34
    go_upto_region 2 with fail
    go_quiet (fail)
    go_wp2
    go_ret
    rw [E.out]
    exact ⟨rfl, below_drewN (Below.refl _ _) nq⟩
  · obtain ⟨g, c, rfl, h2, g0, g1, gf, gb, gl⟩ := h.top
    have hr : r.length ≤ 50000 := by simp only [List.length_cons] at hF; omega
    obtain ⟨i1, i2⟩ := he f r rfl
    have i3 : (at_ : Int) ≤ (f.e : Int) := by omega
    have i4 : (f.e : Int) ≤ (s.size : Int) := by omega
    have E := Lib.hid (show restOf s at_ (f :: r) = s.extract at_ f.e from rfl)
    clear h he hF gf
    go_enter Try.func34, Try.ntmps34
    go_upto_region 3 with fail
    go_quiet (fail)
    go_wp2
    go_ret
    rw [E.out]
    exact ⟨rfl, below_drewN (Below.refl _ _) nq⟩

theorem bs_ne {q : List UInt8} (h : q ≠ []) : (bs q).toList.isEmpty = false := str_ne_of (by rw [bs_size]; intro e; exact h (List.eq_nil_of_length_eq_zero e))

section
variable {B b at_ : Nat} {X : Nat → Prop} {w : World} {s : ByteArray} {depth left : Int} {F : List Fo} {sv : Value}
/-- What next leaves. -/
def NextPost (B : Nat) (X : Nat → Prop) (b : Nat) (s : ByteArray) (at_ : Nat) (depth left : Int) (F : List Fo) (sv : Value) (v : Value) (w : World) (e : Ending) (w' : World) : Prop :=
  e = .returned v ∧ Rs B X w' b s at_ depth left F sv ∧ Fr (fun j => j = b) w w'

set_option maxRecDepth 20000 in
set_option maxHeartbeats 1000000 in
/-- No byte, too deep, too many. -/
theorem next_early (h : Rs B X w b s at_ depth left F sv) (hs : s.size ≤ 1000000) (ha : at_ ≤ s.size) (hF : F.length ≤ 50000) (he : ∀ f r, F = f :: r → at_ ≤ f.e ∧ f.e ≤ s.size) (q : List UInt8) (hq : restOf s at_ F = bs q)
    (hd : -1000000 ≤ depth ∧ depth ≤ 16) (_hl : left ≤ 1024) (ev : Int) (hev : (q = [] ∧ ev = 2) ∨ (q ≠ [] ∧ depth ≤ (F.length : Int) ∧ ev = 6) ∨ (q ≠ [] ∧ (F.length : Int) < depth ∧ left ≤ 0 ∧ ev = 4)) :
    Calls Try.prog 25 #[.pointer (some ⟨b, 0, none⟩)] w fun e w' => NextPost B X b s at_ depth left F sv (.tuple #[ZH, .int .i64 ev]) w e w' := by
  have HR := Lib.hid h
  have H0 := H3.new w (.bool false) (.int .i64 0) (.int .i64 0)
  have R0 := h.more (Y := fun j => X j ∨ j = w.heap.size) (fun j hj e => e.elim id fun e => by omega)
  have R1 := R0.bel (bel1 w (.cells #[.bool false, .int .i64 0, .int .i64 0] 49))
  obtain ⟨W, hW⟩ : ∃ W, W = w.alloc (.cells #[.bool false, .int .i64 0, .int .i64 0] 49) := ⟨_, rfl⟩
  have bW : Below w.heap.size w W := by rw [hW]; exact bel1 _ _
  rw [← hW] at H0 R1
  have RA := Lib.hid (fun (_ : Unit) => rest_any R1 hs ha hF he)
  rw [hq] at RA
  obtain ⟨sa, sc, rfl⟩ := h.own.slice
  rw [List.length_map] at *
  have hdb := hd
  clear h R0
  go_enter Try.func25, Try.ntmps25
  go_upto_region 1 with fail
  rw [← hW]
  clear hW
  go_wp2_with fail
  refine (RA.out ()).mono ?_
  rintro e w1 ⟨rfl, b1⟩
  have R2 := R1.bel b1
  have H2 := H0.bel b1
  have B2 := Lib.hid (bW.trans (b1.mono bW.size))
  have c2 := R2.r.c2
  have c3 := R2.r.c3
  have c4 := R2.r.c4
  have lb := R2.r.lt
  have q0 := H2.c0
  have q1 := H2.c1
  have q2 := H2.c2
  have k0 := H2.free 0
  have k1 := H2.free 1
  have k2 := H2.free 2
  have kl := H2.lt
  have R2 := Lib.hid R2
  have H2 := Lib.hid H2
  clear b1 R1 H0 bW RA
  rcases hev with ⟨rfl, rfl⟩ | ⟨hne, hdp, rfl⟩ | ⟨hne, hdp, hlf, rfl⟩
  · have t1 : (bs []).toList.isEmpty = true := by rw [ByteArray.toList_eq]; rfl
    have HF := Lib.hid (And.intro (H2.out.put (.bool false) (.int .i64 0) (.int .i64 0)) (R2.out.ended HR.out.r.lt (Fr.ofBelow (S := fun j => j = b) B2.out) (.bool false) (.int .i64 0) (.int .i64 0)))
    go_wp2_with fail
    have z0 := HF.out.1.c0
    have z1 := HF.out.1.c1
    have z2 := HF.out.1.c2
    refine bodyPost_ret (v := .tuple #[ZH, .int .i64 2]) (by simp [results, Try.results25, go_sem, z0, z1, z2, ZH]) rfl ?_
    exact ⟨rfl, HF.out.2.1, HF.out.2.2⟩
  · have t1 := bs_ne hne
    have t2 : decide (depth ≤ (F.length : Int)) = true := by simp; omega
    clear hne
    go_upto_region 4 with fail
    go_quiet (fail)
    have b3 : Below w1.heap.size w1 (w1.drewN nq) := below_drewN (Below.refl _ _) nq
    have R3 := R2.out.bel b3
    have H3' := H2.out.bel b3
    have B3 := Lib.hid (B2.out.trans (b3.mono B2.out.size))
    obtain ⟨w3, hw3⟩ : ∃ w3, w3 = w1.drewN nq := ⟨_, rfl⟩
    rw [← hw3] at R3 H3' B3 ⊢
    clear b3 hw3 c2 c3 c4 lb q0 q1 q2 k0 k1 k2 kl
    have c3 := R3.r.c3
    have lb := R3.r.lt
    have q0 := H3'.c0
    have q1 := H3'.c1
    have q2 := H3'.c2
    have k0 := H3'.free 0
    have k1 := H3'.free 1
    have k2 := H3'.free 2
    have kl := H3'.lt
    have HF := Lib.hid (And.intro (H3'.put (.bool false) (.int .i64 0) (.int .i64 0)) (R3.ended HR.out.r.lt (Fr.ofBelow (S := fun j => j = b) B3.out) (.bool false) (.int .i64 0) (.int .i64 0)))
    clear R3 H3'
    go_wp2_with fail
    have z0 := HF.out.1.c0
    have z1 := HF.out.1.c1
    have z2 := HF.out.1.c2
    refine bodyPost_ret (v := .tuple #[ZH, .int .i64 6]) (by simp [results, Try.results25, go_sem, z0, z1, z2, ZH]) rfl ?_
    exact ⟨rfl, HF.out.2.1, HF.out.2.2⟩
  · have t1 := bs_ne hne
    have t2 : decide (depth ≤ (F.length : Int)) = false := by simp; omega
    have t3 : decide (left ≤ 0) = true := by simp; omega
    clear hne
    go_upto_region 4 with fail
    go_quiet (fail)
    have b3 : Below w1.heap.size w1 (w1.drewN nq) := below_drewN (Below.refl _ _) nq
    have R3 := R2.out.bel b3
    have H3' := H2.out.bel b3
    have B3 := Lib.hid (B2.out.trans (b3.mono B2.out.size))
    obtain ⟨w3, hw3⟩ : ∃ w3, w3 = w1.drewN nq := ⟨_, rfl⟩
    rw [← hw3] at R3 H3' B3 ⊢
    clear b3 hw3 c2 c3 c4 lb q0 q1 q2 k0 k1 k2 kl
    have c3 := R3.r.c3
    have lb := R3.r.lt
    have q0 := H3'.c0
    have q1 := H3'.c1
    have q2 := H3'.c2
    have k0 := H3'.free 0
    have k1 := H3'.free 1
    have k2 := H3'.free 2
    have kl := H3'.lt
    have HF := Lib.hid (And.intro (H3'.put (.bool false) (.int .i64 0) (.int .i64 0)) (R3.ended HR.out.r.lt (Fr.ofBelow (S := fun j => j = b) B3.out) (.bool false) (.int .i64 0) (.int .i64 0)))
    clear R3 H3'
    go_wp2_with fail
    have z0 := HF.out.1.c0
    have z1 := HF.out.1.c1
    have z2 := HF.out.1.c2
    refine bodyPost_ret (v := .tuple #[ZH, .int .i64 4]) (by simp [results, Try.results25, go_sem, z0, z1, z2, ZH]) rfl ?_
    exact ⟨rfl, HF.out.2.1, HF.out.2.2⟩
end
end Go.Proofs.Ytaddlobmmmafaaa
