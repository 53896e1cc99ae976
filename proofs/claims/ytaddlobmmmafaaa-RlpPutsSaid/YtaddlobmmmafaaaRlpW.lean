/-
  The contracts of package rlp's Get over this seat's translation: an error of Next, more bytes behind, or the item. Conditions: what Next answers.
-/
import Derived.Test.YtaddlobmmmafaaaRlpG
import Derived.Test.YtaddlobmmmafaaaRlpD
namespace Go.Proofs.Ytaddlobmmmafaaa
open Go.RowKit

set_option maxRecDepth 20000 in
set_option maxHeartbeats 2000000 in
theorem getErr_any (s : ByteArray) (depth items : Int) (ev : Nat) (hev : 0 < ev) (w : World)
    (hN : ∀ W, Calls Try.prog 16 #[.string s, .int .i64 depth, .int .i64 items] W fun e w' => e = .returned (.tuple #[ZV, .int .i64 0, .int .i64 (ev : Int)]) ∧ Below W.heap.size W w') :
    Calls Try.prog 11 #[.string s, .int .i64 depth, .int .i64 items] w fun e w' => e = .returned (.tuple #[ZV, .int .i64 (ev : Int)]) ∧ Below w.heap.size w w' := by
  have I0 := I3.new w (.string ⟨#[]⟩) (.bool false) (.slice none 0 0)
  have b0 := bel1 w (.cells #[.string ⟨#[]⟩, .bool false, .slice none 0 0] 24)
  obtain ⟨W, hW⟩ : ∃ W, W = w.alloc (.cells #[.string ⟨#[]⟩, .bool false, .slice none 0 0] 24) := ⟨_, rfl⟩
  have hWz : W.heap.size = w.heap.size + 1 := by rw [hW]; simp
  rw [← hW] at I0 b0
  have HN := Lib.hid hN
  have HI := Lib.hid I0
  have HB := Lib.hid b0
  have tev : ((ev : Int) != 0) = true := by simp; omega
  clear hN I0 b0
  go_enter Try.func11, Try.ntmps11
  go_upto_region 1 with fail
  rw [← hW]
  clear hW
  go_wp2_with fail
  refine (HN.out _).mono ?_
  rintro e w1 ⟨rfl, b1⟩
  unfold ZV
  have I2 := (HI.out.bel b1).alloc (.cells #[.string ⟨#[]⟩, .bool false, .slice none 0 0] 24)
  have J2 := I3.new w1 (.string ⟨#[]⟩) (.bool false) (.slice none 0 0)
  have B2 := (HB.out.trans (b1.mono HB.out.size)).alloc (by have := HB.out.size; have := b1.size; omega) (.cells #[.string ⟨#[]⟩, .bool false, .slice none 0 0] 24)
  obtain ⟨w2, hw2⟩ : ∃ w2, w2 = w1.alloc (.cells #[.string ⟨#[]⟩, .bool false, .slice none 0 0] 24) := ⟨_, rfl⟩
  rw [← hw2] at I2 J2 B2
  have q0 := I2.c0
  have q1 := I2.c1
  have q2 := I2.c2
  have g0 := I2.free 0
  have g1 := I2.free 1
  have g2 := I2.free 2
  have ql := I2.lt
  have j0 := J2.c0
  have j1 := J2.c1
  have j2 := J2.c2
  have jl := J2.lt
  have Q := Lib.hid (And.intro (I2.put (.string ⟨#[]⟩) (.bool false) (.slice none 0 0)) (show Below w.heap.size w (((w2.setCell ⟨w.heap.size, 0, none⟩ (.string ⟨#[]⟩)).setCell ⟨w.heap.size, 1, none⟩ (.bool false)).setCell ⟨w.heap.size, 2, none⟩ (.slice none 0 0)) from bel_put B2 (Nat.le_refl _) _ _ _))
  clear I2 J2 B2 b1
  go_upto_region 2 with fail
  rw [← hw2]
  clear hw2
  go_wp2_with fail
  have z0 := Q.out.1.c0
  have z1 := Q.out.1.c1
  have z2 := Q.out.1.c2
  refine bodyPost_ret (v := .tuple #[ZV, .int .i64 (ev : Int)]) (by simp [results, Try.results11, go_sem, z0, z1, z2, ZV]) rfl ?_
  exact ⟨rfl, Q.out.2⟩

/-- What Get leaves of an item. -/
def GPost (x : T) (w : World) (e : Ending) (w' : World) : Prop := ∃ vX, e = .returned (.tuple #[.agg #[.string x.s, .bool x.l, vX], .int .i64 0]) ∧ InP w' (fun j => w.heap.size ≤ j) x vX ∧ Below w.heap.size w w'
set_option maxRecDepth 20000 in
set_option maxHeartbeats 2000000 in
theorem getMore_any (x : T) (s : ByteArray) (depth items : Int) (w : World) (hs : (T.put x).length < s.size)
    (hN : ∀ W, ∃ k, Calls Try.prog 16 #[.string s, .int .i64 depth, .int .i64 items] W fun e w' => NPost x (.ok k) W e w') :
    Calls Try.prog 11 #[.string s, .int .i64 depth, .int .i64 items] w fun e w' => e = .returned (.tuple #[ZV, .int .i64 3]) ∧ Below w.heap.size w w' := by
  have I0 := I3.new w (.string ⟨#[]⟩) (.bool false) (.slice none 0 0)
  have b0 := bel1 w (.cells #[.string ⟨#[]⟩, .bool false, .slice none 0 0] 24)
  obtain ⟨W, hW⟩ : ∃ W, W = w.alloc (.cells #[.string ⟨#[]⟩, .bool false, .slice none 0 0] 24) := ⟨_, rfl⟩
  have hWz : W.heap.size = w.heap.size + 1 := by rw [hW]; simp
  rw [← hW] at I0 b0
  have HN := Lib.hid hN
  have HI := Lib.hid I0
  have HB := Lib.hid b0
  have t1 : decide ((T.put x).length < s.size) = true := decide_eq_true hs
  clear hs
  clear hN I0 b0
  go_enter Try.func11, Try.ntmps11
  go_upto_region 1 with fail
  rw [← hW]
  clear hW
  go_wp2_with fail
  obtain ⟨kk, hnx⟩ := HN.out W
  refine hnx.mono ?_
  clear hnx
  rintro e w1 ⟨b1, hok, _⟩
  obtain ⟨vX, rfl, hin⟩ := hok kk rfl
  obtain ⟨xa, xc, rfl⟩ := hin.slice
  clear hok
  have I2 := (HI.out.bel b1).alloc (.cells #[.string x.s, .bool x.l, .slice xa x.ts.length xc] 24)
  have J2 := I3.new w1 (.string x.s) (.bool x.l) (.slice xa x.ts.length xc)
  have B2 := (HB.out.trans (b1.mono HB.out.size)).alloc (by have := HB.out.size; have := b1.size; omega) (.cells #[.string x.s, .bool x.l, .slice xa x.ts.length xc] 24)
  obtain ⟨w2, hw2⟩ : ∃ w2, w2 = w1.alloc (.cells #[.string x.s, .bool x.l, .slice xa x.ts.length xc] 24) := ⟨_, rfl⟩
  rw [← hw2] at I2 J2 B2
  have q0 := I2.c0
  have q1 := I2.c1
  have q2 := I2.c2
  have g0 := I2.free 0
  have g1 := I2.free 1
  have g2 := I2.free 2
  have ql := I2.lt
  have j0 := J2.c0
  have j1 := J2.c1
  have j2 := J2.c2
  have jl := J2.lt
  have Q := Lib.hid (And.intro (I2.put (.string ⟨#[]⟩) (.bool false) (.slice none 0 0)) (show Below w.heap.size w (((w2.setCell ⟨w.heap.size, 0, none⟩ (.string ⟨#[]⟩)).setCell ⟨w.heap.size, 1, none⟩ (.bool false)).setCell ⟨w.heap.size, 2, none⟩ (.slice none 0 0)) from bel_put B2 (Nat.le_refl _) _ _ _))
  clear I2 J2 B2 b1 hin
  go_upto_region 2 with fail
  rw [← hw2]
  clear hw2
  go_wp2_with fail
  have z0 := Q.out.1.c0
  have z1 := Q.out.1.c1
  have z2 := Q.out.1.c2
  refine bodyPost_ret (v := .tuple #[ZV, .int .i64 3]) (by simp [results, Try.results11, go_sem, z0, z1, z2, ZV]) rfl ?_
  exact ⟨rfl, Q.out.2⟩
set_option maxRecDepth 20000 in
set_option maxHeartbeats 2000000 in
theorem getOk_any (x : T) (s : ByteArray) (depth items : Int) (w : World) (hs : s.size = (T.put x).length)
    (hN : ∀ W, ∃ k, Calls Try.prog 16 #[.string s, .int .i64 depth, .int .i64 items] W fun e w' => NPost x (.ok k) W e w') :
    Calls Try.prog 11 #[.string s, .int .i64 depth, .int .i64 items] w fun e w' => GPost x w e w' := by
  have I0 := I3.new w (.string ⟨#[]⟩) (.bool false) (.slice none 0 0)
  have b0 := bel1 w (.cells #[.string ⟨#[]⟩, .bool false, .slice none 0 0] 24)
  obtain ⟨W, hW⟩ : ∃ W, W = w.alloc (.cells #[.string ⟨#[]⟩, .bool false, .slice none 0 0] 24) := ⟨_, rfl⟩
  have hWz : W.heap.size = w.heap.size + 1 := by rw [hW]; simp
  rw [← hW] at I0 b0
  have HN := Lib.hid hN
  have HI := Lib.hid I0
  have HB := Lib.hid b0
  have t1 : decide ((T.put x).length < s.size) = false := by simp; omega
  clear hs
  clear hN I0 b0
  go_enter Try.func11, Try.ntmps11
  go_upto_region 1 with fail
  rw [← hW]
  clear hW
  go_wp2_with fail
  obtain ⟨kk, hnx⟩ := HN.out W
  refine hnx.mono ?_
  clear hnx
  rintro e w1 ⟨b1, hok, _⟩
  obtain ⟨vX, rfl, hin⟩ := hok kk rfl
  obtain ⟨xa, xc, rfl⟩ := hin.slice
  clear hok
  have I2 := (HI.out.bel b1).alloc (.cells #[.string x.s, .bool x.l, .slice xa x.ts.length xc] 24)
  have J2 := I3.new w1 (.string x.s) (.bool x.l) (.slice xa x.ts.length xc)
  have B2 := (HB.out.trans (b1.mono HB.out.size)).alloc (by have := HB.out.size; have := b1.size; omega) (.cells #[.string x.s, .bool x.l, .slice xa x.ts.length xc] 24)
  have N2 := InP.keep (w' := w1.alloc (.cells #[.string x.s, .bool x.l, .slice xa x.ts.length xc] 24)) (N' := fun j => W.heap.size ≤ j) (by simp) (fun j hj hl => ⟨hj, Below.heap_alloc w1 _ j hl⟩) x _ hin
  obtain ⟨w2, hw2⟩ : ∃ w2, w2 = w1.alloc (.cells #[.string x.s, .bool x.l, .slice xa x.ts.length xc] 24) := ⟨_, rfl⟩
  rw [← hw2] at I2 J2 B2
  have q0 := I2.c0
  have q1 := I2.c1
  have q2 := I2.c2
  have g0 := I2.free 0
  have g1 := I2.free 1
  have g2 := I2.free 2
  have ql := I2.lt
  have j0 := J2.c0
  have j1 := J2.c1
  have j2 := J2.c2
  have jl := J2.lt
  rw [← hw2] at N2
  have f3 : Fr (fun j => j = w.heap.size) w2 (((w2.setCell ⟨w.heap.size, 0, none⟩ (.string x.s)).setCell ⟨w.heap.size, 1, none⟩ (.bool x.l)).setCell ⟨w.heap.size, 2, none⟩ (.slice xa x.ts.length xc)) := fr_put _ _ _
  have Q := Lib.hid (And.intro (I2.put (.string x.s) (.bool x.l) (.slice xa x.ts.length xc)) (show GPost x w (.returned (.tuple #[.agg #[.string x.s, .bool x.l, .slice xa x.ts.length xc], .int .i64 0])) (((w2.setCell ⟨w.heap.size, 0, none⟩ (.string x.s)).setCell ⟨w.heap.size, 1, none⟩ (.bool x.l)).setCell ⟨w.heap.size, 2, none⟩ (.slice xa x.ts.length xc)) from
    ⟨_, rfl, InP.keep (N' := fun j => w.heap.size ≤ j) f3.size (fun j hj hl => ⟨by have h1 : W.heap.size ≤ j := hj; omega, f3.block j hl (by have h1 : W.heap.size ≤ j := hj; omega)⟩) x _ N2, bel_put B2 (Nat.le_refl _) _ _ _⟩))
  clear I2 J2 B2 b1 hin N2 f3
  go_upto_region 2 with fail
  rw [← hw2]
  clear hw2
  go_wp2_with fail
  have z0 := Q.out.1.c0
  have z1 := Q.out.1.c1
  have z2 := Q.out.1.c2
  refine bodyPost_ret (v := .tuple #[.agg #[.string x.s, .bool x.l, .slice xa x.ts.length xc], .int .i64 0]) (by simp [results, Try.results11, go_sem, z0, z1, z2]) rfl ?_
  exact Q.out.2

/-- The document's example. -/
theorem alive_any (w : World) : Calls Try.prog 6 #[] w fun e w' => e = .returned (.bool true) ∧ Below w.heap.size w w' := by
  have p1 := fun W => putOf_ok (.mk ⟨#[100, 111, 103]⟩ false []) (.slice none 0 0) W ⟨by decide, by simp [maxLen], none, 0, rfl, by simp, trivial⟩ (by decide) (by decide) (by decide)
  have p2 := fun W => putOf_ok (.mk ⟨#[]⟩ true []) (.slice none 0 0) W ⟨by decide, by simp [maxLen], none, 0, rfl, by simp, trivial⟩ (by decide) (by decide) (by decide)
  have e1 : bs (T.put (.mk ⟨#[100, 111, 103]⟩ false [])) = ⟨#[131, 100, 111, 103]⟩ := by rfl
  have e2 : bs (T.put (.mk ⟨#[]⟩ true [])) = ⟨#[192]⟩ := by rfl
  simp only [T.s, T.l] at p1 p2
  rw [e1] at p1
  rw [e2] at p2
  have P1 := Lib.hid p1
  have P2 := Lib.hid p2
  have P3 := Lib.hid (fun W => getErr_any ⟨#[129, 5]⟩ 9 9 3 (by decide) W nextForm_any)
  clear p1 p2 e1 e2
  go_enter Try.func6, Try.ntmps6
  go_wp2_with fail
  refine (P1.out _).mono ?_
  rintro e w1 ⟨rfl, b1⟩
  have B1 := Lib.hid b1
  clear b1
  go_wp2_with fail
  refine (P2.out _).mono ?_
  rintro e w2 ⟨rfl, b2⟩
  have B2 := Lib.hid (B1.out.trans (b2.mono B1.out.size))
  clear b2
  go_wp2_with fail
  refine (P3.out _).mono ?_
  rintro e w3 ⟨rfl, b3⟩
  have B3 := Lib.hid (B2.out.trans (b3.mono B2.out.size))
  unfold ZV
  clear b3
  go_wp2
  go_ret
  exact ⟨rfl, B3.out.alloc B3.out.size _⟩
end Go.Proofs.Ytaddlobmmmafaaa
