/-
  The contracts of package item's through, measure and May over this seat's translation. Conditions: items as they lie in memory.
-/
import Derived.Test.YtegakecncpfnnaaItmD
namespace Go.Proofs.Ytegakecncpfnnaa
open Go.RowKit

/-- What through answers and leaves. -/
def ThroughPost (bi bd bm D C : Nat) (R : Bool) (w : World) (e : Ending) (w' : World) : Prop :=
  ∃ r : Bool, e = .returned (.bool r) ∧ (r = true ↔ D ≤ 16 ∧ C ≤ 1024) ∧ (∃ n' d' m', Ms w' bi bd bm n' d' m' ∧ (r = true → n' = C ∧ d' = D ∧ m' = R)) ∧ Fr (fun j => j = bi ∨ j = bd ∨ j = bm) w w'

theorem through_any (w0 : World) (bi bd bm : Nat) (hid : bi ≠ bd) (him : bi ≠ bm) (hdm : bd ≠ bm) (hi : w0.heap.size ≤ bi) (hd : w0.heap.size ≤ bd) (hm : w0.heap.size ≤ bm)
    (t : T) (v : Value) (w : World) (hI : In w0 t v) (hw : Below w0.heap.size w0 w) (hms : Ms w bi bd bm 0 0 true) :
    Calls Try.prog 53 #[.agg #[.string t.s, .bool t.l, v], .func (Fn.func 54) #[] #[.pointer (some ⟨bi, 0, none⟩), .pointer (some ⟨bd, 0, none⟩), .pointer (some ⟨bm, 0, none⟩)]] w
      fun e w' => ThroughPost bi bd bm (T.dep t) (T.cnt t) (T.rgt t) w e w' := by
  have HI := Lib.hid hI
  have HW := Lib.hid hw
  have HM := Lib.hid hms
  have l0 := Lib.hid (And.intro hms.i.lt (And.intro hms.d.lt hms.m.lt))
  have HB := Lib.hid (And.intro hi (And.intro hd hm))
  have HD := Lib.hid (And.intro hid (And.intro him hdm))
  have DP := Lib.hid (T.dep_pos t)
  obtain ⟨p, p', rfl⟩ := hI.slice
  clear hI hw hms hi hd hm hid him hdm
  go_enter Try.func53, Try.ntmps53
  go_wp2_with fail
  refine (down_any w0 (w.heap.size + 1) bi bd bm (by have := l0.out; omega) (by have := l0.out; omega) (by have := l0.out; omega) HD.out.1 HD.out.2.1 HD.out.2.2
    (by have := HB.out; have := HW.out.size; rintro j (h | h | h | h) <;> omega) t _ _ 1024 0 0 true 1 HI.out (HW.out.trans ((bel2 w _ _).mono HW.out.size))
    (by have := V.new (w.alloc (.cells #[.string t.s, .bool t.l, .slice p t.ts.length p'] 24)) 3 (.int .i64 1024); rw [size_push] at this; exact this)
    (HM.out.bel (bel2 w _ _)) (by omega) (by omega) (by omega)).mono ?_
  rintro e w1 ⟨r, rfl, hr, ⟨n', d', m', k', m1, _, hh⟩, f1⟩
  have Q := Lib.hid (show ThroughPost bi bd bm (T.dep t) (T.cnt t) (T.rgt t) w (.returned (.bool r)) w1 from
    ⟨r, rfl, hr.trans ⟨fun h => ⟨by omega, h.2⟩, fun h => ⟨by omega, h.2⟩⟩, ⟨n', d', m', m1, fun h => by
      obtain ⟨h1, h2, h3, _⟩ := hh h
      have := DP.out
      exact ⟨by omega, by omega, by simpa using h3⟩⟩, (Fr.ofBelow (bel2 w _ _)).then_ f1 (fun j hj h => by rcases h with h | h | h | h; omega; exact .inl h; exact .inr (.inl h); exact .inr (.inr h))⟩)
  clear hr m1 hh f1
  go_wp2
  go_ret
  exact Q.out

/-- What measure answers. -/
def cntd (t : T) : Nat := if T.dep t ≤ 16 ∧ T.cnt t ≤ 1024 then T.cnt t else 0
def depd (t : T) : Nat := if T.dep t ≤ 16 ∧ T.cnt t ≤ 1024 then T.dep t else 0

theorem three_new (w : World) : Ms (((w.alloc (.cells #[.int .i64 0] 3)).alloc (.cells #[.int .i64 0] 3)).alloc (.cells #[.bool true] 4)) w.heap.size (w.heap.size + 1) (w.heap.size + 1 + 1) 0 0 true := by
  refine ⟨((V.new w _ _).alloc _).alloc _, ?_, ?_⟩
  · have := (V.new (w.alloc (.cells #[.int .i64 0] 3)) 3 (.int .i64 0)).alloc (.cells #[.bool true] 4)
    rw [size_push] at this
    exact this
  · have := (V.new ((w.alloc (.cells #[.int .i64 0] 3)).alloc (.cells #[.int .i64 0] 3)) 4 (.bool true))
    rw [size_push, size_push] at this
    exact this
theorem bel4 (w : World) (a b c d : Obj) : Below w.heap.size w ((((w.alloc a).alloc b).alloc c).alloc d) := (((bel1 w a).alloc (by simp) b).alloc (by simp; omega) c).alloc (by simp; omega) d

theorem Ms.three {w : World} {bi bd bm n d : Nat} {m : Bool} (n2 d2 : Nat) (m2 : Bool) (hid : bi ≠ bd) (him : bi ≠ bm) (hdm : bd ≠ bm) (h : Ms w bi bd bm n d m) :
    Ms (((w.setCell ⟨bi, 0, none⟩ (.int .i64 n2)).setCell ⟨bd, 0, none⟩ (.int .i64 d2)).setCell ⟨bm, 0, none⟩ (.bool m2)) bi bd bm n2 d2 m2 :=
  ⟨((h.i.set _).far hid _).far him _, ((h.d.far (Ne.symm hid) _).set _).far hdm _, (((h.m.far (Ne.symm him) _).far (Ne.symm hdm) _).set _)⟩
theorem bel_three {B : Nat} {w0 w : World} (h : Below B w0 w) {bi bd bm : Nat} (x y z : Value) (hi : B ≤ bi) (hd : B ≤ bd) (hm : B ≤ bm) :
    Below B w0 (((w.setCell ⟨bi, 0, none⟩ x).setCell ⟨bd, 0, none⟩ y).setCell ⟨bm, 0, none⟩ z) := ((h.setCell (p := ⟨bi, 0, none⟩) hi x).setCell (p := ⟨bd, 0, none⟩) hd y).setCell (p := ⟨bm, 0, none⟩) hm z

set_option maxHeartbeats 1000000 in
theorem measure_any (t : T) (v : Value) (w : World) (hI : In w t v) :
    Calls Try.prog 41 #[.agg #[.string t.s, .bool t.l, v]] w
      fun e w' => e = .returned (.tuple #[.int .i64 (cntd t), .int .i64 (depd t), .bool (T.may t)]) ∧ Below w.heap.size w w' := by
  have HI := Lib.hid hI
  obtain ⟨p, p', rfl⟩ := hI.slice
  clear hI
  go_enter Try.func41, Try.ntmps41
  go_wp2_with fail
  have N := three_new (w.alloc (.cells #[.string t.s, .bool t.l, .slice p t.ts.length p'] 24))
  rw [size_push] at N
  refine (through_any w (w.heap.size + 1) (w.heap.size + 1 + 1) (w.heap.size + 1 + 1 + 1) (by omega) (by omega) (by omega) (by omega) (by omega) (by omega) t _ _ HI.out (bel4 _ _ _ _ _) N).mono ?_
  clear N
  rintro e w1 ⟨r, rfl, hr, ⟨n', d', m', m1, hh⟩, f1⟩
  have B1 := Lib.hid ((bel4 w (.cells #[.string t.s, .bool t.l, .slice p t.ts.length p'] 24) (.cells #[.int .i64 0] 3) (.cells #[.int .i64 0] 3) (.cells #[.bool true] 4)).trans (f1.below (by simp; omega) (fun j h => by rcases h with h | h | h <;> omega)))
  obtain ⟨bi, hbi⟩ : ∃ bi, bi = w.heap.size + 1 := ⟨_, rfl⟩
  obtain ⟨bd, hbd⟩ : ∃ bd, bd = w.heap.size + 1 + 1 := ⟨_, rfl⟩
  obtain ⟨bm, hbm⟩ : ∃ bm, bm = w.heap.size + 1 + 1 + 1 := ⟨_, rfl⟩
  have HG := Lib.hid (And.intro (show w.heap.size ≤ bi by omega) (And.intro (show w.heap.size ≤ bd by omega) (show w.heap.size ≤ bm by omega)))
  have hid : bi ≠ bd := by omega
  have him : bi ≠ bm := by omega
  have hdm : bd ≠ bm := by omega
  rw [← hbm, ← hbd, ← hbi] at m1 ⊢
  clear hbi hbd hbm f1
  have c0 := m1.i.cell
  have c1 := m1.d.cell
  have c2 := m1.m.cell
  have f0 := m1.i.free
  have f1 := m1.d.free
  have f2 := m1.m.free
  have l0 := m1.i.lt
  have l1 := m1.d.lt
  have l2 := m1.m.lt
  have HM := Lib.hid m1
  clear m1
  cases r
  · have E := Lib.hid (show cntd t = 0 ∧ depd t = 0 ∧ T.may t = false by
      have h : ¬ (T.dep t ≤ 16 ∧ T.cnt t ≤ 1024) := fun h => by have := hr.2 h; cases this
      refine ⟨if_neg h, if_neg h, ?_⟩
      rw [Bool.eq_false_iff]
      simp only [T.may, ne_eq, Bool.and_eq_true, decide_eq_true_eq]
      exact fun g => h ⟨g.1.2, g.2⟩)
    clear hr hh
    go_wp2_with fail
    have m2 := HM.out.three 0 0 false hid him hdm
    have b2 := Lib.hid (bel_three B1.out (.int .i64 ((0 : Nat) : Int)) (.int .i64 ((0 : Nat) : Int)) (.bool false) HG.out.1 HG.out.2.1 HG.out.2.2)
    have e0 : (((0 : Nat) : Int)) = 0 := rfl
    rw [e0] at m2 b2
    generalize (((w1.setCell ⟨bi, 0, none⟩ (.int .i64 0)).setCell ⟨bd, 0, none⟩ (.int .i64 0)).setCell ⟨bm, 0, none⟩ (.bool false)) = W at *
    have z0 := m2.i.cell
    have z1 := m2.d.cell
    have z2 := m2.m.cell
    rw [E.out.1, E.out.2.1, E.out.2.2]
    refine bodyPost_ret (v := .tuple #[.int .i64 0, .int .i64 0, .bool false]) (by simp [results, Try.results41, go_sem, z0, z1, z2]) rfl ?_
    exact ⟨rfl, b2.out⟩
  · obtain ⟨rfl, rfl, rfl⟩ := hh rfl
    have E := Lib.hid (show T.cnt t = cntd t ∧ T.dep t = depd t ∧ T.rgt t = T.may t by
      have h := hr.1 rfl
      refine ⟨(if_pos h).symm, (if_pos h).symm, ?_⟩
      simp [T.may, h.1, h.2])
    clear hr hh
    go_wp2_with fail
    go_region
    have m2 := HM.out.three (T.cnt t) (T.dep t) (T.rgt t) hid him hdm
    have b2 := bel_three B1.out (.int .i64 (T.cnt t)) (.int .i64 (T.dep t)) (.bool (T.rgt t)) HG.out.1 HG.out.2.1 HG.out.2.2
    generalize (((w1.setCell ⟨bi, 0, none⟩ (.int .i64 (T.cnt t))).setCell ⟨bd, 0, none⟩ (.int .i64 (T.dep t))).setCell ⟨bm, 0, none⟩ (.bool (T.rgt t))) = W at *
    have B2 := Lib.hid b2.drew
    have z0 := m2.i.drew.cell
    have z1 := m2.d.drew.cell
    have z2 := m2.m.drew.cell
    rw [E.out.1, E.out.2.1, E.out.2.2] at *
    clear m2 b2 HM c0 c1 c2 f0 f1 f2 l0 l1 l2
    go_wp2
    refine bodyPost_ret (v := .tuple #[.int .i64 (cntd t), .int .i64 (depd t), .bool (T.may t)]) (by simp [results, Try.results41, go_sem, z0, z1, z2]) rfl ?_
    exact ⟨rfl, B2.out⟩

theorem may_any (t : T) (v : Value) (w : World) (hI : In w t v) :
    Calls Try.prog 22 #[.agg #[.string t.s, .bool t.l, v]] w fun e w' => e = .returned (.bool (T.may t)) ∧ Below w.heap.size w w' := by
  have HI := Lib.hid hI
  obtain ⟨p, p', rfl⟩ := hI.slice
  clear hI
  go_enter Try.func22, Try.ntmps22
  go_wp2_with fail
  refine (measure_any t _ _ (HI.out.bel (bel1 _ _))).mono ?_
  rintro e w1 ⟨rfl, b1⟩
  have B1 := Lib.hid ((bel1 w _).trans (b1.mono (by simp)))
  clear b1
  go_wp2
  go_ret
  exact ⟨rfl, B1.out⟩

end Go.Proofs.Ytegakecncpfnnaa
