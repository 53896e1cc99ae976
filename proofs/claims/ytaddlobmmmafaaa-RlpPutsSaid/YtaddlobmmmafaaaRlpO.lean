/-
  The contract of package rlp's next over this seat's translation, where a head is read. Conditions: bytes of at most 1,000,000.
-/
import Derived.Test.YtaddlobmmmafaaaRlpN
namespace Go.Proofs.Ytaddlobmmmafaaa
open Go.RowKit

section
variable {B b at_ : Nat} {X : Nat → Prop} {w : World} {s : ByteArray} {depth left : Int} {F : List Fo} {sv : Value}
set_option maxRecDepth 20000 in
set_option maxHeartbeats 2000000 in
theorem next_short (h : Rs B X w b s at_ depth left F sv) (hs : s.size ≤ 1000000) (ha : at_ ≤ s.size) (hF : F.length ≤ 50000) (he : ∀ f r, F = f :: r → at_ ≤ f.e ∧ f.e ≤ s.size) (q : List UInt8) (hq : restOf s at_ F = bs q) (hne : q ≠ []) (hql : q.length ≤ 1000000)
    (hd : (F.length : Int) < depth ∧ depth ≤ 16) (hl : 0 < left ∧ left ≤ 1024) (h0 : F = []) (hH : ∀ W, Calls Try.prog 35 #[.string (bs q)] W fun e w' => e = .returned (.tuple #[.agg #[.bool false, .int .i64 0, .int .i64 0], .int .i64 2]) ∧ Below W.heap.size W w') :
    Calls Try.prog 25 #[.pointer (some ⟨b, 0, none⟩)] w fun e w' => NextPost B X b s at_ depth (left - 1) F sv (.tuple #[ZH, .int .i64 2]) w e w' := by
  have HR := Lib.hid h
  have H0 := H3.new w (.bool false) (.int .i64 0) (.int .i64 0)
  have R0 := h.more (Y := fun j => X j ∨ j = w.heap.size) (fun j hj e => e.elim id fun e => by omega)
  have R1 := R0.bel (bel1 w (.cells #[.bool false, .int .i64 0, .int .i64 0] 49))
  obtain ⟨W, hW⟩ : ∃ W, W = w.alloc (.cells #[.bool false, .int .i64 0, .int .i64 0] 49) := ⟨_, rfl⟩
  have bW : Below w.heap.size w W := by rw [hW]; exact bel1 _ _
  rw [← hW] at H0 R1
  have RA := Lib.hid (fun (_ : Unit) => rest_any R1 hs ha hF he)
  rw [hq] at RA
  obtain ⟨sa, sc, rfl⟩ := h.own.slice
  rw [List.length_map] at *
  have hdb := hd
  have hll := hl
  have hqb := hql
  have t1 := bs_ne hne
  have t2 : decide (depth ≤ (F.length : Int)) = false := by simp; omega
  have t3 : decide (left ≤ 0) = false := by simp; omega
  have HH := Lib.hid hH
  have zq := bs_size q
  clear h R0 hH hne
  go_enter Try.func25, Try.ntmps25
  go_upto_region 1 with fail
  rw [← hW]
  clear hW
  go_wp2_with fail
  refine (RA.out ()).mono ?_
  rintro e w1 ⟨rfl, b1⟩
  have R2 := R1.bel b1
  have H2 := H0.bel b1
  have B2 := Lib.hid (bW.trans (b1.mono bW.size))
  have c2 := R2.r.c2
  have c3 := R2.r.c3
  have c4 := R2.r.c4
  have lb := R2.r.lt
  have kl := H2.lt
  have R2 := Lib.hid R2
  have H2 := Lib.hid H2
  clear b1 R1 H0 bW RA
  go_upto_region 4 with fail
  go_quiet (fail)
  have b3 : Below w1.heap.size w1 (w1.drewN nq) := below_drewN (Below.refl _ _) nq
  have R3 := R2.out.bel b3
  have H3' := H2.out.bel b3
  have B3 := Lib.hid (B2.out.trans (b3.mono B2.out.size))
  obtain ⟨w3, hw3⟩ : ∃ w3, w3 = w1.drewN nq := ⟨_, rfl⟩
  rw [← hw3] at R3 H3' B3 ⊢
  clear b3 hw3 c2 c3 c4 lb kl
  have c3 := R3.r.c3
  have lb := R3.r.lt
  have c3f := R3.r.free 3
  have f4 : Fr (fun j => j = b) w3 (w3.setCell ⟨b, 3, none⟩ (.int .i64 (left - 1))) := fr_set _
  have R4 := R3.turn (R3.r.set3 (left - 1)) f4
  have H4 := H3'.fr f4 (by have := HR.out.r.lt; omega)
  have F4 := Lib.hid ((Fr.ofBelow (S := fun j => j = b) B3.out).trans f4)
  obtain ⟨w4, hw4⟩ : ∃ w4, w4 = w3.setCell ⟨b, 3, none⟩ (.int .i64 (left - 1)) := ⟨_, rfl⟩
  rw [← hw4] at R4 H4 F4
  have R4 := Lib.hid R4
  have H4 := Lib.hid H4
  clear f4 R3 H3'
  go_upto_region 9 with fail
  rw [← hw4]
  clear hw4 c3 lb c3f
  go_upto_region 9 with fail
  go_wp2_with fail
  refine (HH.out _).mono ?_
  rintro e w5 ⟨rfl, b5⟩
  have R6 := (R4.out.bel b5).bel (bel1 w5 (.cells #[.bool false, .int .i64 0, .int .i64 0] 49))
  have H6 := (H4.out.bel b5).alloc (.cells #[.bool false, .int .i64 0, .int .i64 0] 49)
  have K6 := H3.new w5 (.bool false) (.int .i64 0) (.int .i64 0)
  have F6 := Lib.hid ((F4.out.then_ (Fr.ofBelow (S := fun j => j = b) b5) (fun j _ h => h)).alloc (.cells #[.bool false, .int .i64 0, .int .i64 0] 49))
  obtain ⟨w6, hw6⟩ : ∃ w6, w6 = w5.alloc (.cells #[.bool false, .int .i64 0, .int .i64 0] 49) := ⟨_, rfl⟩
  rw [← hw6] at R6 H6 K6 F6
  clear b5
  go_upto_region 10 with fail
  rw [← hw6]
  clear hw6
  have c4 := R6.r.c4
  have lb := R6.r.lt
  have k0 := K6.c0
  have k1 := K6.c1
  have k2 := K6.c2
  have kl := K6.lt
  have q0 := H6.c0
  have q1 := H6.c1
  have q2 := H6.c2
  have qf0 := H6.free 0
  have qf1 := H6.free 1
  have qf2 := H6.free 2
  have ql := H6.lt
  have h00 : F.length = 0 := by rw [h0]; rfl
  rw [h00] at c4
  have HF := Lib.hid (And.intro (H6.put (.bool false) (.int .i64 0) (.int .i64 0)) (R6.ended HR.out.r.lt F6.out (.bool false) (.int .i64 0) (.int .i64 0)))
  clear R6 H6 K6
  go_wp2_with fail
  have z0 := HF.out.1.c0
  have z1 := HF.out.1.c1
  have z2 := HF.out.1.c2
  refine bodyPost_ret (v := .tuple #[ZH, .int .i64 2]) (by simp [results, Try.results25, go_sem, z0, z1, z2, ZH]) rfl ?_
  exact ⟨rfl, HF.out.2.1, HF.out.2.2⟩
set_option maxRecDepth 20000 in
set_option maxHeartbeats 2000000 in
theorem next_list (h : Rs B X w b s at_ depth left F sv) (hs : s.size ≤ 1000000) (ha : at_ ≤ s.size) (hF : F.length ≤ 50000) (he : ∀ f r, F = f :: r → at_ ≤ f.e ∧ f.e ≤ s.size) (q : List UInt8) (hq : restOf s at_ F = bs q) (hne : q ≠ []) (hql : q.length ≤ 1000000)
    (hd : (F.length : Int) < depth ∧ depth ≤ 16) (hl : 0 < left ∧ left ≤ 1024) (z n : Nat) (hH : ∀ W, Calls Try.prog 35 #[.string (bs q)] W fun e w' => e = .returned (.tuple #[.agg #[.bool true, .int .i64 z, .int .i64 n], .int .i64 0]) ∧ Below W.heap.size W w') :
    Calls Try.prog 25 #[.pointer (some ⟨b, 0, none⟩)] w fun e w' => NextPost B X b s at_ depth (left - 1) F sv (.tuple #[.agg #[.bool true, .int .i64 z, .int .i64 n], .int .i64 0]) w e w' := by
  have HR := Lib.hid h
  have H0 := H3.new w (.bool false) (.int .i64 0) (.int .i64 0)
  have R0 := h.more (Y := fun j => X j ∨ j = w.heap.size) (fun j hj e => e.elim id fun e => by omega)
  have R1 := R0.bel (bel1 w (.cells #[.bool false, .int .i64 0, .int .i64 0] 49))
  obtain ⟨W, hW⟩ : ∃ W, W = w.alloc (.cells #[.bool false, .int .i64 0, .int .i64 0] 49) := ⟨_, rfl⟩
  have bW : Below w.heap.size w W := by rw [hW]; exact bel1 _ _
  rw [← hW] at H0 R1
  have RA := Lib.hid (fun (_ : Unit) => rest_any R1 hs ha hF he)
  rw [hq] at RA
  obtain ⟨sa, sc, rfl⟩ := h.own.slice
  rw [List.length_map] at *
  have hdb := hd
  have hll := hl
  have hqb := hql
  have t1 := bs_ne hne
  have t2 : decide (depth ≤ (F.length : Int)) = false := by simp; omega
  have t3 : decide (left ≤ 0) = false := by simp; omega
  have HH := Lib.hid hH
  have zq := bs_size q
  clear h R0 hH hne
  go_enter Try.func25, Try.ntmps25
  go_upto_region 1 with fail
  rw [← hW]
  clear hW
  go_wp2_with fail
  refine (RA.out ()).mono ?_
  rintro e w1 ⟨rfl, b1⟩
  have R2 := R1.bel b1
  have H2 := H0.bel b1
  have B2 := Lib.hid (bW.trans (b1.mono bW.size))
  have c2 := R2.r.c2
  have c3 := R2.r.c3
  have c4 := R2.r.c4
  have lb := R2.r.lt
  have kl := H2.lt
  have R2 := Lib.hid R2
  have H2 := Lib.hid H2
  clear b1 R1 H0 bW RA
  go_upto_region 4 with fail
  go_quiet (fail)
  have b3 : Below w1.heap.size w1 (w1.drewN nq) := below_drewN (Below.refl _ _) nq
  have R3 := R2.out.bel b3
  have H3' := H2.out.bel b3
  have B3 := Lib.hid (B2.out.trans (b3.mono B2.out.size))
  obtain ⟨w3, hw3⟩ : ∃ w3, w3 = w1.drewN nq := ⟨_, rfl⟩
  rw [← hw3] at R3 H3' B3 ⊢
  clear b3 hw3 c2 c3 c4 lb kl
  have c3 := R3.r.c3
  have lb := R3.r.lt
  have c3f := R3.r.free 3
  have f4 : Fr (fun j => j = b) w3 (w3.setCell ⟨b, 3, none⟩ (.int .i64 (left - 1))) := fr_set _
  have R4 := R3.turn (R3.r.set3 (left - 1)) f4
  have H4 := H3'.fr f4 (by have := HR.out.r.lt; omega)
  have F4 := Lib.hid ((Fr.ofBelow (S := fun j => j = b) B3.out).trans f4)
  obtain ⟨w4, hw4⟩ : ∃ w4, w4 = w3.setCell ⟨b, 3, none⟩ (.int .i64 (left - 1)) := ⟨_, rfl⟩
  rw [← hw4] at R4 H4 F4
  have R4 := Lib.hid R4
  have H4 := Lib.hid H4
  clear f4 R3 H3'
  go_upto_region 9 with fail
  rw [← hw4]
  clear hw4 c3 lb c3f
  go_upto_region 9 with fail
  go_wp2_with fail
  refine (HH.out _).mono ?_
  rintro e w5 ⟨rfl, b5⟩
  have R6 := (R4.out.bel b5).bel (bel1 w5 (.cells #[.bool true, .int .i64 z, .int .i64 n] 49))
  have H6 := (H4.out.bel b5).alloc (.cells #[.bool true, .int .i64 z, .int .i64 n] 49)
  have K6 := H3.new w5 (.bool true) (.int .i64 z) (.int .i64 n)
  have F6 := Lib.hid ((F4.out.then_ (Fr.ofBelow (S := fun j => j = b) b5) (fun j _ h => h)).alloc (.cells #[.bool true, .int .i64 z, .int .i64 n] 49))
  obtain ⟨w6, hw6⟩ : ∃ w6, w6 = w5.alloc (.cells #[.bool true, .int .i64 z, .int .i64 n] 49) := ⟨_, rfl⟩
  rw [← hw6] at R6 H6 K6 F6
  clear b5
  go_upto_region 10 with fail
  rw [← hw6]
  clear hw6
  have c4 := R6.r.c4
  have lb := R6.r.lt
  have k0 := K6.c0
  have k1 := K6.c1
  have k2 := K6.c2
  have kl := K6.lt
  have q0 := H6.c0
  have q1 := H6.c1
  have q2 := H6.c2
  have qf0 := H6.free 0
  have qf1 := H6.free 1
  have qf2 := H6.free 2
  have ql := H6.lt
  have HF := Lib.hid (And.intro (H6.put (.bool true) (.int .i64 z) (.int .i64 n)) (R6.ended HR.out.r.lt F6.out (.bool true) (.int .i64 z) (.int .i64 n)))
  clear R6 H6 K6
  go_wp2_with fail
  have z0 := HF.out.1.c0
  have z1 := HF.out.1.c1
  have z2 := HF.out.1.c2
  refine bodyPost_ret (v := .tuple #[.agg #[.bool true, .int .i64 z, .int .i64 n], .int .i64 0]) (by simp [results, Try.results25, go_sem, z0, z1, z2]) rfl ?_
  exact ⟨rfl, HF.out.2.1, HF.out.2.2⟩
set_option maxRecDepth 20000 in
set_option maxHeartbeats 2000000 in
theorem next_one (h : Rs B X w b s at_ depth left F sv) (hs : s.size ≤ 1000000) (ha : at_ ≤ s.size) (hF : F.length ≤ 50000) (he : ∀ f r, F = f :: r → at_ ≤ f.e ∧ f.e ≤ s.size) (q : List UInt8) (hq : restOf s at_ F = bs q) (hne : q ≠ []) (hql : q.length ≤ 1000000)
    (hd : (F.length : Int) < depth ∧ depth ≤ 16) (hl : 0 < left ∧ left ≤ 1024) (n : Nat) (hH : ∀ W, Calls Try.prog 35 #[.string (bs q)] W fun e w' => e = .returned (.tuple #[.agg #[.bool false, .int .i64 0, .int .i64 n], .int .i64 0]) ∧ Below W.heap.size W w') :
    Calls Try.prog 25 #[.pointer (some ⟨b, 0, none⟩)] w fun e w' => NextPost B X b s at_ depth (left - 1) F sv (.tuple #[.agg #[.bool false, .int .i64 0, .int .i64 n], .int .i64 0]) w e w' := by
  have HR := Lib.hid h
  have H0 := H3.new w (.bool false) (.int .i64 0) (.int .i64 0)
  have R0 := h.more (Y := fun j => X j ∨ j = w.heap.size) (fun j hj e => e.elim id fun e => by omega)
  have R1 := R0.bel (bel1 w (.cells #[.bool false, .int .i64 0, .int .i64 0] 49))
  obtain ⟨W, hW⟩ : ∃ W, W = w.alloc (.cells #[.bool false, .int .i64 0, .int .i64 0] 49) := ⟨_, rfl⟩
  have bW : Below w.heap.size w W := by rw [hW]; exact bel1 _ _
  rw [← hW] at H0 R1
  have RA := Lib.hid (fun (_ : Unit) => rest_any R1 hs ha hF he)
  rw [hq] at RA
  obtain ⟨sa, sc, rfl⟩ := h.own.slice
  rw [List.length_map] at *
  have hdb := hd
  have hll := hl
  have hqb := hql
  have t1 := bs_ne hne
  have t2 : decide (depth ≤ (F.length : Int)) = false := by simp; omega
  have t3 : decide (left ≤ 0) = false := by simp; omega
  have HH := Lib.hid hH
  have zq := bs_size q
  clear h R0 hH hne
  go_enter Try.func25, Try.ntmps25
  go_upto_region 1 with fail
  rw [← hW]
  clear hW
  go_wp2_with fail
  refine (RA.out ()).mono ?_
  rintro e w1 ⟨rfl, b1⟩
  have R2 := R1.bel b1
  have H2 := H0.bel b1
  have B2 := Lib.hid (bW.trans (b1.mono bW.size))
  have c2 := R2.r.c2
  have c3 := R2.r.c3
  have c4 := R2.r.c4
  have lb := R2.r.lt
  have kl := H2.lt
  have R2 := Lib.hid R2
  have H2 := Lib.hid H2
  clear b1 R1 H0 bW RA
  go_upto_region 4 with fail
  go_quiet (fail)
  have b3 : Below w1.heap.size w1 (w1.drewN nq) := below_drewN (Below.refl _ _) nq
  have R3 := R2.out.bel b3
  have H3' := H2.out.bel b3
  have B3 := Lib.hid (B2.out.trans (b3.mono B2.out.size))
  obtain ⟨w3, hw3⟩ : ∃ w3, w3 = w1.drewN nq := ⟨_, rfl⟩
  rw [← hw3] at R3 H3' B3 ⊢
  clear b3 hw3 c2 c3 c4 lb kl
  have c3 := R3.r.c3
  have lb := R3.r.lt
  have c3f := R3.r.free 3
  have f4 : Fr (fun j => j = b) w3 (w3.setCell ⟨b, 3, none⟩ (.int .i64 (left - 1))) := fr_set _
  have R4 := R3.turn (R3.r.set3 (left - 1)) f4
  have H4 := H3'.fr f4 (by have := HR.out.r.lt; omega)
  have F4 := Lib.hid ((Fr.ofBelow (S := fun j => j = b) B3.out).trans f4)
  obtain ⟨w4, hw4⟩ : ∃ w4, w4 = w3.setCell ⟨b, 3, none⟩ (.int .i64 (left - 1)) := ⟨_, rfl⟩
  rw [← hw4] at R4 H4 F4
  have R4 := Lib.hid R4
  have H4 := Lib.hid H4
  clear f4 R3 H3'
  go_upto_region 9 with fail
  rw [← hw4]
  clear hw4 c3 lb c3f
  go_upto_region 9 with fail
  go_wp2_with fail
  refine (HH.out _).mono ?_
  rintro e w5 ⟨rfl, b5⟩
  have R6 := (R4.out.bel b5).bel (bel1 w5 (.cells #[.bool false, .int .i64 0, .int .i64 n] 49))
  have H6 := (H4.out.bel b5).alloc (.cells #[.bool false, .int .i64 0, .int .i64 n] 49)
  have K6 := H3.new w5 (.bool false) (.int .i64 0) (.int .i64 n)
  have F6 := Lib.hid ((F4.out.then_ (Fr.ofBelow (S := fun j => j = b) b5) (fun j _ h => h)).alloc (.cells #[.bool false, .int .i64 0, .int .i64 n] 49))
  obtain ⟨w6, hw6⟩ : ∃ w6, w6 = w5.alloc (.cells #[.bool false, .int .i64 0, .int .i64 n] 49) := ⟨_, rfl⟩
  rw [← hw6] at R6 H6 K6 F6
  clear b5
  go_upto_region 10 with fail
  rw [← hw6]
  clear hw6
  have c4 := R6.r.c4
  have lb := R6.r.lt
  have k0 := K6.c0
  have k1 := K6.c1
  have k2 := K6.c2
  have kl := K6.lt
  have q0 := H6.c0
  have q1 := H6.c1
  have q2 := H6.c2
  have qf0 := H6.free 0
  have qf1 := H6.free 1
  have qf2 := H6.free 2
  have ql := H6.lt
  have HF := Lib.hid (And.intro (H6.put (.bool false) (.int .i64 0) (.int .i64 n)) (R6.ended HR.out.r.lt F6.out (.bool false) (.int .i64 0) (.int .i64 n)))
  clear R6 H6 K6
  go_wp2_with fail
  have z0 := HF.out.1.c0
  have z1 := HF.out.1.c1
  have z2 := HF.out.1.c2
  refine bodyPost_ret (v := .tuple #[.agg #[.bool false, .int .i64 0, .int .i64 n], .int .i64 0]) (by simp [results, Try.results25, go_sem, z0, z1, z2]) rfl ?_
  exact ⟨rfl, HF.out.2.1, HF.out.2.2⟩
/-- What next answers of a text with a head. -/
def txOut (z n : Nat) (p : List UInt8) : Value := if bare p then .tuple #[ZH, .int .i64 3] else .tuple #[.agg #[.bool false, .int .i64 z, .int .i64 n], .int .i64 0]
set_option maxRecDepth 20000 in
set_option maxHeartbeats 2000000 in
theorem next_text (h : Rs B X w b s at_ depth left F sv) (hs : s.size ≤ 1000000) (ha : at_ ≤ s.size) (hF : F.length ≤ 50000) (he : ∀ f r, F = f :: r → at_ ≤ f.e ∧ f.e ≤ s.size) (q : List UInt8) (hq : restOf s at_ F = bs q) (hne : q ≠ []) (hql : q.length ≤ 1000000)
    (hd : (F.length : Int) < depth ∧ depth ≤ 16) (hl : 0 < left ∧ left ≤ 1024) (z n : Nat) (p : List UInt8) (hz0 : 0 < z) (hzn : z + n ≤ q.length) (hex : (bs q).extract z (z + n) = bs p) (hH : ∀ W, Calls Try.prog 35 #[.string (bs q)] W fun e w' => e = .returned (.tuple #[.agg #[.bool false, .int .i64 z, .int .i64 n], .int .i64 0]) ∧ Below W.heap.size W w') :
    Calls Try.prog 25 #[.pointer (some ⟨b, 0, none⟩)] w fun e w' => NextPost B X b s at_ depth (left - 1) F sv (txOut z n p) w e w' := by
  have HR := Lib.hid h
  have H0 := H3.new w (.bool false) (.int .i64 0) (.int .i64 0)
  have R0 := h.more (Y := fun j => X j ∨ j = w.heap.size) (fun j hj e => e.elim id fun e => by omega)
  have R1 := R0.bel (bel1 w (.cells #[.bool false, .int .i64 0, .int .i64 0] 49))
  obtain ⟨W, hW⟩ : ∃ W, W = w.alloc (.cells #[.bool false, .int .i64 0, .int .i64 0] 49) := ⟨_, rfl⟩
  have bW : Below w.heap.size w W := by rw [hW]; exact bel1 _ _
  rw [← hW] at H0 R1
  have RA := Lib.hid (fun (_ : Unit) => rest_any R1 hs ha hF he)
  rw [hq] at RA
  obtain ⟨sa, sc, rfl⟩ := h.own.slice
  rw [List.length_map] at *
  have hdb := hd
  have hll := hl
  have hqb := hql
  have t1 := bs_ne hne
  have t2 : decide (depth ≤ (F.length : Int)) = false := by simp; omega
  have t3 : decide (left ≤ 0) = false := by simp; omega
  have HH := Lib.hid hH
  have zq := bs_size q
  clear h R0 hH hne
  go_enter Try.func25, Try.ntmps25
  go_upto_region 1 with fail
  rw [← hW]
  clear hW
  go_wp2_with fail
  refine (RA.out ()).mono ?_
  rintro e w1 ⟨rfl, b1⟩
  have R2 := R1.bel b1
  have H2 := H0.bel b1
  have B2 := Lib.hid (bW.trans (b1.mono bW.size))
  have c2 := R2.r.c2
  have c3 := R2.r.c3
  have c4 := R2.r.c4
  have lb := R2.r.lt
  have kl := H2.lt
  have R2 := Lib.hid R2
  have H2 := Lib.hid H2
  clear b1 R1 H0 bW RA
  go_upto_region 4 with fail
  go_quiet (fail)
  have b3 : Below w1.heap.size w1 (w1.drewN nq) := below_drewN (Below.refl _ _) nq
  have R3 := R2.out.bel b3
  have H3' := H2.out.bel b3
  have B3 := Lib.hid (B2.out.trans (b3.mono B2.out.size))
  obtain ⟨w3, hw3⟩ : ∃ w3, w3 = w1.drewN nq := ⟨_, rfl⟩
  rw [← hw3] at R3 H3' B3 ⊢
  clear b3 hw3 c2 c3 c4 lb kl
  have c3 := R3.r.c3
  have lb := R3.r.lt
  have c3f := R3.r.free 3
  have f4 : Fr (fun j => j = b) w3 (w3.setCell ⟨b, 3, none⟩ (.int .i64 (left - 1))) := fr_set _
  have R4 := R3.turn (R3.r.set3 (left - 1)) f4
  have H4 := H3'.fr f4 (by have := HR.out.r.lt; omega)
  have F4 := Lib.hid ((Fr.ofBelow (S := fun j => j = b) B3.out).trans f4)
  obtain ⟨w4, hw4⟩ : ∃ w4, w4 = w3.setCell ⟨b, 3, none⟩ (.int .i64 (left - 1)) := ⟨_, rfl⟩
  rw [← hw4] at R4 H4 F4
  have R4 := Lib.hid R4
  have H4 := Lib.hid H4
  clear f4 R3 H3'
  go_upto_region 9 with fail
  rw [← hw4]
  clear hw4 c3 lb c3f
  go_upto_region 9 with fail
  go_wp2_with fail
  refine (HH.out _).mono ?_
  rintro e w5 ⟨rfl, b5⟩
  have R6 := (R4.out.bel b5).bel (bel1 w5 (.cells #[.bool false, .int .i64 z, .int .i64 n] 49))
  have H6 := (H4.out.bel b5).alloc (.cells #[.bool false, .int .i64 z, .int .i64 n] 49)
  have K6 := H3.new w5 (.bool false) (.int .i64 z) (.int .i64 n)
  have F6 := Lib.hid ((F4.out.then_ (Fr.ofBelow (S := fun j => j = b) b5) (fun j _ h => h)).alloc (.cells #[.bool false, .int .i64 z, .int .i64 n] 49))
  obtain ⟨w6, hw6⟩ : ∃ w6, w6 = w5.alloc (.cells #[.bool false, .int .i64 z, .int .i64 n] 49) := ⟨_, rfl⟩
  rw [← hw6] at R6 H6 K6 F6
  clear b5
  go_upto_region 10 with fail
  rw [← hw6]
  clear hw6
  have c4 := R6.r.c4
  have lb := R6.r.lt
  have k0 := K6.c0
  have k1 := K6.c1
  have k2 := K6.c2
  have kl := K6.lt
  have q0 := H6.c0
  have q1 := H6.c1
  have q2 := H6.c2
  have qf0 := H6.free 0
  have qf1 := H6.free 1
  have qf2 := H6.free 2
  have ql := H6.lt
  have t5 : decide ((0 : Int) < (z : Int)) = true := by simp; omega
  have i1 : (z : Int) ≤ (z : Int) + n := by omega
  have i2 : (z : Int) + n ≤ (q.length : Int) := by omega
  have i3 : z + n ≤ 1000000 := by omega
  go_wp2_with fail
  refine (bare_any p _).mono ?_
  rintro e w7 ⟨rfl, rfl⟩
  cases hb : bare p
  · have E := Lib.hid (show txOut z n p = .tuple #[.agg #[.bool false, .int .i64 z, .int .i64 n], .int .i64 0] from by unfold txOut; rw [hb]; rfl)
    clear hb
    have HF := Lib.hid (And.intro (H6.put (.bool false) (.int .i64 z) (.int .i64 n)) (R6.ended HR.out.r.lt F6.out (.bool false) (.int .i64 z) (.int .i64 n)))
    clear R6 H6 K6
    go_wp2_with fail
    have z0 := HF.out.1.c0
    have z1 := HF.out.1.c1
    have z2 := HF.out.1.c2
    refine bodyPost_ret (v := .tuple #[.agg #[.bool false, .int .i64 z, .int .i64 n], .int .i64 0]) (by simp [results, Try.results25, go_sem, z0, z1, z2]) rfl ?_
    exact ⟨by rw [E.out], HF.out.2.1, HF.out.2.2⟩
  · have E := Lib.hid (show txOut z n p = .tuple #[ZH, .int .i64 3] from by unfold txOut; rw [hb]; rfl)
    clear hb
    have HF := Lib.hid (And.intro (H6.put (.bool false) (.int .i64 0) (.int .i64 0)) (R6.ended HR.out.r.lt F6.out (.bool false) (.int .i64 0) (.int .i64 0)))
    clear R6 H6 K6
    go_wp2_with fail
    have z0 := HF.out.1.c0
    have z1 := HF.out.1.c1
    have z2 := HF.out.1.c2
    refine bodyPost_ret (v := .tuple #[ZH, .int .i64 3]) (by simp [results, Try.results25, go_sem, z0, z1, z2, ZH]) rfl ?_
    exact ⟨by rw [E.out], HF.out.2.1, HF.out.2.2⟩
end
end Go.Proofs.Ytaddlobmmmafaaa
