/-
  The contract of the document's parse of a list over this seat's translation. Conditions: a line of at most 100,000 bytes.
-/
import Derived.Test.YtdkeickcbpjedaaDoorItmZ
namespace Go.Proofs.YtdkeickcbpjedaaDoor
open Go.RowKit

theorem LM.bel {w wr w' : World} {ys : List T} {xs : List Value} {sv : Value} (h : LM w wr ys xs sv) (b : Below wr.heap.size wr w') : LM w w' ys xs sv :=
  ⟨h.x.bel b, h.res.bel b, own_fr h.own (S := fun _ => False) ⟨b.os, b.tape, b.output, b.size, fun i hi _ => b.block i hi⟩ (fun _ hj => hj.elim), h.got.keep b.size (fun g hg hl => ⟨hg, b.block g hl⟩)⟩

/-- What the loop over a list's items keeps. -/
structure LZ (d : Nat) (l : List UInt8) (a : Nat) (w wr : World) (ys : List T) (p : Nat) (xs : List Value) (sv : Value) : Prop where
  m : LM w wr ys xs sv
  inv : ∀ K, T.LInv d K (l.drop (a + 1)) ys (l.drop p)
  pl : p ≤ l.length
  yl : ys.length ≤ p
  ap : a < p
  bel : Below w.heap.size w wr

set_option maxRecDepth 20000 in
set_option maxHeartbeats 4000000 in
theorem parse_list (d : Nat) (hIC : RefC (d - 1)) (l : List UInt8) (a : Nat) (w : World) (D : Int) (hD : D + d = 17) (hl : l.length ≤ 100000) (ha : a < l.length) (hd : 1 ≤ d) (hd17 : d ≤ 17) (h40 : l[a] = 40) :
    Calls Tryd.prog 24 #[.string (sb l), .int .i64 (a : Int), .int .i64 D] w fun e w' => RefPost d l a w e w' := by
  have IC := Lib.hid hIC
  have HD := Lib.hid (show D + d = 17 ∧ l.length ≤ 100000 ∧ 1 ≤ d ∧ a < l.length from ⟨hD, hl, hd, ha⟩)
  have HDR := Lib.hid (show l.drop a = 40 :: l.drop (a + 1) by rw [List.drop_eq_getElem_cons ha, h40])
  have zl : (sb l).size = l.length := sb_size l
  have ZL := Lib.hid zl
  have zp : a < (sb l).size := by omega
  have hx : (sb l)[a]'zp = 40 := by rw [sb_at]; exact h40
  have t1 : decide (l.length ≤ a) = false := by simp; omega
  have t2 : decide (16 < D) = false := by simp; omega
  have ha2 : a ≤ 100000 := by omega
  have L0 := Lib.hid (show LZ d l a w ((w.alloc (.cells #[.string ⟨#[]⟩, .bool false, .slice none 0 0] 24)).alloc (.cells #[.string ⟨#[]⟩, .bool true, .slice none 0 0] 24)) [] (a + 1) [] (.slice none 0 0) from
    ⟨⟨by have := I3.new (w.alloc (.cells #[.string ⟨#[]⟩, .bool false, .slice none 0 0] 24)) (.string ⟨#[]⟩) (.bool true) (.slice none 0 0); rw [size_push] at this; exact this,
     (I3.new w _ _ _).alloc _, World.ownsRow_nil _ _ _ _, Got.nil _ _⟩, fun K => T.LInv.start hd, by omega, Nat.zero_le _, by omega, bel2 _ _ _⟩)
  have hD2 : -1000 ≤ D ∧ D ≤ 100 := by omega
  clear hIC hD hd hd17 h40
  go_enter Tryd.func24, Tryd.ntmps24
  go_wp2_with fail
  clear t1 t2 hx
  go_loopw [1] (fun i wr => ∃ (p : Nat) (ys : List T) (xs : List Value) (sv : Value), i = .int .i64 (p : Int) ∧ LZ d l a w wr ys p xs sv) (fun i _ => l.length - (intOf i).toNat)
  case atStart => exact ⟨a + 1, [], [], _, by go_num, L0.out⟩
  case round =>
    obtain ⟨p, ys, xs, sv, rfl, hLL⟩ := hrel
    have LI := Lib.hid hLL
    have hpl := hLL.pl
    clear hLL
    have hp2 : p ≤ 100000 := by omega
    have HLE := Lib.hid hpl
    obtain ⟨sn, sc, rfl⟩ : ∃ a c, sv = .slice a ys.length c := by
      rcases LI.out.m.own.2 with ⟨h, h0⟩ | ⟨g, cap, cu, h, _⟩
      · exact ⟨none, 0, by rw [h, h0]⟩
      · exact ⟨_, _, h⟩
    by_cases hlt : p < l.length
    · have zp0 : p < (sb l).size := by rw [ZL.out]; omega
      obtain ⟨x, hx⟩ : ∃ x, (sb l)[p]'zp0 = x := ⟨_, rfl⟩
      have XD := Lib.hid (show l.drop p = x :: l.drop (p + 1) from by rw [List.drop_eq_getElem_cons hlt, ← hx, sb_at])
      have t5 : decide (l.length ≤ p) = false := by simp; omega
      by_cases h41 : x = 41
      · subst h41
        have dn := fun K => T.LInv.done (K := K) (by rw [← XD.out]; exact LI.out.inv K)
        have M1 := LI.out.m
        have hin : InP _ (fun j => w.heap.size + 2 ≤ j) (.mk ⟨#[]⟩ true ys) (.slice sn ys.length sc) := Got.list (M1.got.keep (Nat.le_refl _) (fun g hg _ => ⟨hg.1, rfl⟩)) M1.own (fun g hg => (M1.own.lt g hg).1) (by have := LI.out.yl; unfold maxLen; omega) ⟨#[]⟩ (Nat.zero_le _) true
        have s0 := M1.x.c0
        have s1 := M1.x.c1
        have s2 := M1.x.c2
        have sl := M1.x.lt
        have x0 := M1.res.c0
        have x1 := M1.res.c1
        have x2 := M1.res.c2
        have lx := M1.res.lt
        have p0 := M1.res.free 0
        have p1 := M1.res.free 1
        have p2 := M1.res.free 2
        have Q := Lib.hid (show RefPost d l a w (.returned (.tuple #[.agg #[.string ⟨#[]⟩, .bool true, .slice sn ys.length sc], .int .i64 ((p + 1 : Nat) : Int)])) _ from
          ⟨bel_put (g := w.heap.size) LI.out.bel (Nat.le_refl _) (.string ⟨#[]⟩) (.bool true) (.slice sn ys.length sc), .inl ⟨.mk ⟨#[]⟩ true ys, .slice sn ys.length sc, p + 1, rfl, by rw [HDR.out]; exact (dn 0).1, by have := LI.out.ap; omega, by omega,
            InP.fr hin (fr_put (g := w.heap.size) _ _ _) (fun g hg _ => ⟨by omega, by omega⟩), fun K x' r' hv => (dn K).2 x' r' (by rw [← HDR.out]; exact hv)⟩⟩)
        rw [show ((p + 1 : Nat) : Int) = (p : Int) + 1 by omega] at Q
        have Z := Lib.hid (M1.res.put (.string ⟨#[]⟩) (.bool true) (.slice sn ys.length sc))
        clear dn hin M1
        go_wp2_with fail
        have z0 := Z.out.c0
        have z1 := Z.out.c1
        have z2 := Z.out.c2
        show bodyPost Tryd.prog Tryd.f24 (fun e w' => RefPost d l a w e w') .ret _ _
        refine bodyPost_ret (v := .tuple #[.agg #[.string ⟨#[]⟩, .bool true, .slice sn ys.length sc], .int .i64 ((p : Int) + 1)]) (by simp [results, Tryd.results24, go_sem, z0, z1, z2]) rfl ?_
        exact Q.out
      · have HC := Lib.hid (show ∀ l', l.drop p ≠ 41 :: l' from fun l' h => by rw [XD.out] at h; injection h with h _; exact h41 h)
        have t6 : ((x.toNat : Int) != 41) = true := by
          rw [bne_iff_ne]; intro e; exact h41 (UInt8.toNat_inj.1 (by have : x.toNat = 41 := (by omega); rw [this]; rfl))
        have s2 := LI.out.m.x.c2
        have lx1 := LI.out.m.x.lt
        by_cases hy : ys = []
        · have NX := Lib.hid (show T.Nxt ys (l.drop p) (l.drop p) from .inl ⟨hy, rfl⟩)
          have t7 : decide (0 < ys.length) = false := by simp [hy]
          clear hy
          go_wp2_with fail
          refine (IC.out l p _ (D + 1) (by have := HD.out; omega) HD.out.2.1 (by omega)).mono ?_
          rintro e w5 ⟨b5, h5⟩
          rcases h5 with ⟨y, v, nx, rfl, hs, hlt5, hle5, hv, hun⟩ | ⟨rfl, hno⟩
          case inr =>
            have M6 := LI.out.m.bel b5
            have NO := Lib.hid (fun K => T.LInv.none ((LI.out.inv K).fail NX.out HC.out (hno (K - 1 - T.cnts ys))))
            have BF := (below_then LI.out.bel b5).alloc (Nat.le_trans LI.out.bel.size b5.size) (.cells #[.string ⟨#[]⟩, .bool false, .slice none 0 0] 24)
            have rr := M6.res.alloc (.cells #[.string ⟨#[]⟩, .bool false, .slice none 0 0] 24)
            obtain ⟨w6, hw6⟩ : ∃ w6, w6 = w5.alloc (.cells #[.string ⟨#[]⟩, .bool false, .slice none 0 0] 24) := ⟨_, rfl⟩
            unfold ZV
            go_upto_region 22 with fail
            rw [← hw6] at BF rr ⊢
            clear M6 hno hw6 b5
            have x0 := rr.c0
            have x1 := rr.c1
            have x2 := rr.c2
            have lx := rr.lt
            have p0 := rr.free 0
            have p1 := rr.free 1
            have p2 := rr.free 2
            have Q := Lib.hid (ref_end (d := d) (a := a) (l := l) BF (fun K x' r' hv => NO.out K x' r' (by rw [← HDR.out]; exact hv)))
            have Z := Lib.hid (rr.put (.string ⟨#[]⟩) (.bool false) (.slice none 0 0))
            clear BF
            go_wp2_with fail
            have z0 := Z.out.c0
            have z1 := Z.out.c1
            have z2 := Z.out.c2
            show bodyPost Tryd.prog Tryd.f24 (fun e w' => RefPost d l a w e w') .ret _ _
            refine bodyPost_ret (v := .tuple #[ZV, .int .i64 (-1)]) (by simp [results, Tryd.results24, go_sem, z0, z1, z2, ZV]) rfl ?_
            exact Q.out
          case inl =>
            obtain ⟨vp, vq, rfl⟩ := hv.slice
            have M6 := LI.out.m.bel b5
            have hLI := fun K => (LI.out.inv K).next NX.out HC.out hs (hun (K - 1 - T.cnts ys))
            have hsz4 := LI.out.m.x.lt
            have B5 := below_then LI.out.bel b5
            have hs5 := b5.size
            have a1 := bel1 w5 (.cells #[.string (T.s y), .bool (T.l y), .slice vp y.ts.length vq] 24)
            have aa := bel2 w5 (.cells #[.string (T.s y), .bool (T.l y), .slice vp y.ts.length vq] 24) (.cells #[.string (T.s y), .bool (T.l y), .slice vp y.ts.length vq] 24)
            have B7 := B5.trans (aa.mono B5.size)
            have M7 := M6.bel aa
            have j1 := I3.new (w5.alloc (.cells #[.string (T.s y), .bool (T.l y), .slice vp y.ts.length vq] 24)) (.string (T.s y)) (.bool (T.l y)) (.slice vp y.ts.length vq)
            rw [size_push] at j1
            have hy5 := InP.keep (N' := fun j => wr.heap.size ≤ j ∧ j < w5.heap.size) aa.size (fun g hg hl => ⟨⟨hg, hl⟩, aa.block g hl⟩) y _ hv
            obtain ⟨sv', w8, hap, own8, gr8, ob8⟩ := append_item _ (w.heap.size + 2) ys.length (.slice sn ys.length sc) xs M7.own (w5.heap.size + 1) 1 (.string (T.s y)) (.bool (T.l y)) (.slice vp y.ts.length vq) j1.c0 j1.c1 j1.c2 (by intro u hu; simp at hu; rcases hu with rfl | rfl | rfl <;> rfl) (by have := LI.out.yl; omega) (by have := M7.x.lt; omega) 22
            have f8 := fr_grown gr8
            have nb : ∀ j, j < w.heap.size + 2 → ¬ (Value.slice sn ys.length sc).ownBlock = some j := fun j hj => own_not M7.own hj
            have lv4 : ∀ j, (Value.slice sn ys.length sc).ownBlock = some j → j < wr.heap.size := fun j hj => (LI.out.m.own.lt j hj).2
            have x8 := M7.x.fr f8 (nb _ (by omega))
            have r8 := M7.res.fr f8 (nb _ (by omega))
            have B8 := B7.grown gr8 B7.size (fun kk hk => by have := (M7.own.lt kk hk).1; omega)
            have hs7 : (((w5.alloc (.cells #[.string (T.s y), .bool (T.l y), .slice vp y.ts.length vq] 24)).alloc (.cells #[.string (T.s y), .bool (T.l y), .slice vp y.ts.length vq] 24))).heap.size = w5.heap.size + 2 := by simp
            have got8 : Got w8 (fun j => w.heap.size + 2 ≤ j ∧ sv'.ownBlock ≠ some j) (ys ++ [y]) (xs ++ [.string (T.s y), .bool (T.l y), .slice vp y.ts.length vq]) := by
              refine Got.more (Got.keep M7.got gr8.size (fun g hg hl => ⟨⟨hg.1, ?_⟩, gr8.block g hl (fun e => hg.2 e.symm)⟩)) M7.own.1 (InP.keep gr8.size (fun g hg hl => ⟨⟨by omega, ?_⟩, gr8.block g hl (fun e => by have := lv4 g e.symm; omega)⟩) y _ hy5)
              · rcases ob8 with e | e
                · rw [e]; exact hg.2
                · rw [e]; intro h; injection h with h; omega
              · rcases ob8 with e | e
                · rw [e]; intro h; have := lv4 g h; omega
                · rw [e]; intro h; injection h with h; rw [hs7] at h; omega
            obtain ⟨w9, hw9⟩ : ∃ w9, w9 = w8.setCell ⟨w.heap.size + 1, 2, none⟩ sv' := ⟨_, rfl⟩
            have f9 : Fr (fun j => j = w.heap.size + 1) w8 w9 := by rw [hw9]; exact fr_set _
            have LN := Lib.hid (show LZ d l a w w9 (ys ++ [y]) nx (xs ++ [.string (T.s y), .bool (T.l y), .slice vp y.ts.length vq]) sv' from by
              refine ⟨⟨by rw [hw9]; exact x8.set2 _, r8.fr f9 (by omega), ?_, got8.keep f9.size (fun g hg hl => ⟨hg, f9.block g hl (by omega)⟩)⟩, hLI, hle5, ?_, by have := LI.out.ap; omega, ?_⟩
              · rw [List.length_append, List.length_singleton]
                exact own_fr own8 f9 (fun j hj => by omega)
              · rw [List.length_append, List.length_singleton]; have := LI.out.yl; omega
              · rw [hw9]; exact B8.setCell (p := ⟨w.heap.size + 1, 2, none⟩) (Nat.le_succ _) _)
            obtain ⟨sva, svn, svc, esv⟩ : ∃ a n c, sv' = .slice a n c := by
              rcases own8.2 with ⟨h, _⟩ | ⟨g, cap, cu, h, _⟩
              · exact ⟨_, _, _, h⟩
              · exact ⟨_, _, _, h⟩
            subst esv
            have sc2 := M7.x.c2
            have sl2 := M7.x.lt
            have y2 := x8.c2
            have y3 := x8.free 2
            have y4 := x8.lt
            have m5 := M6.x.c2
            have m6 := M6.x.lt
            have n0 : decide ((nx : Int) < 0) = false := by simp
            have HNX := Lib.hid (show p < nx ∧ nx ≤ l.length from ⟨by omega, hle5⟩)
            have HW9 := Lib.hid hw9
            have AP := Lib.hid hap
            clear hs hun hv M6 M7 hLI hy5 own8 gr8 ob8 f8 nb lv4 x8 r8 hs7 got8 f9 hw9 hap j1 hsz4 B5 B7 B8 aa a1 b5 hs5
            go_wp2_with (at_builtin; refine wpList_append_run rfl _ _ 22 rfl _ _ rfl rfl _ w8 AP.out ?_)
            rw [← HW9.out]
            go_roundw
            case rel => exact ⟨nx, _, _, _, rfl, LN.out⟩
            case measure => have := HNX.out; (simp [intOf]) <;> omega
        · have hy0 : 0 < ys.length := List.length_pos_iff.2 hy
          have t7 : decide (0 < ys.length) = true := by simpa using hy0
          by_cases h32 : x = 32
          · subst h32
            have NX := Lib.hid (show T.Nxt ys (l.drop p) (l.drop (p + 1)) from .inr ⟨hy, XD.out⟩)
            have e1 : (p : Int) + 1 = ((p + 1 : Nat) : Int) := by omega
            have HE1 := Lib.hid e1
            clear hy hy0 e1
            go_upto_region 20 with fail
            rw [HE1.out]
            go_wp2_with fail
            refine (IC.out l (p + 1) _ (D + 1) (by have := HD.out; omega) HD.out.2.1 (by omega)).mono ?_
            rintro e w5 ⟨b5, h5⟩
            rcases h5 with ⟨y, v, nx, rfl, hs, hlt5, hle5, hv, hun⟩ | ⟨rfl, hno⟩
            case inr =>
              have M6 := LI.out.m.bel b5
              have NO := Lib.hid (fun K => T.LInv.none ((LI.out.inv K).fail NX.out HC.out (hno (K - 1 - T.cnts ys))))
              have BF := (below_then LI.out.bel b5).alloc (Nat.le_trans LI.out.bel.size b5.size) (.cells #[.string ⟨#[]⟩, .bool false, .slice none 0 0] 24)
              have rr := M6.res.alloc (.cells #[.string ⟨#[]⟩, .bool false, .slice none 0 0] 24)
              obtain ⟨w6, hw6⟩ : ∃ w6, w6 = w5.alloc (.cells #[.string ⟨#[]⟩, .bool false, .slice none 0 0] 24) := ⟨_, rfl⟩
              unfold ZV
              go_upto_region 22 with fail
              rw [← hw6] at BF rr ⊢
              clear M6 hno hw6 b5
              have x0 := rr.c0
              have x1 := rr.c1
              have x2 := rr.c2
              have lx := rr.lt
              have p0 := rr.free 0
              have p1 := rr.free 1
              have p2 := rr.free 2
              have Q := Lib.hid (ref_end (d := d) (a := a) (l := l) BF (fun K x' r' hv => NO.out K x' r' (by rw [← HDR.out]; exact hv)))
              have Z := Lib.hid (rr.put (.string ⟨#[]⟩) (.bool false) (.slice none 0 0))
              clear BF
              go_wp2_with fail
              have z0 := Z.out.c0
              have z1 := Z.out.c1
              have z2 := Z.out.c2
              show bodyPost Tryd.prog Tryd.f24 (fun e w' => RefPost d l a w e w') .ret _ _
              refine bodyPost_ret (v := .tuple #[ZV, .int .i64 (-1)]) (by simp [results, Tryd.results24, go_sem, z0, z1, z2, ZV]) rfl ?_
              exact Q.out
            case inl =>
              obtain ⟨vp, vq, rfl⟩ := hv.slice
              have M6 := LI.out.m.bel b5
              have hLI := fun K => (LI.out.inv K).next NX.out HC.out hs (hun (K - 1 - T.cnts ys))
              have hsz4 := LI.out.m.x.lt
              have B5 := below_then LI.out.bel b5
              have hs5 := b5.size
              have a1 := bel1 w5 (.cells #[.string (T.s y), .bool (T.l y), .slice vp y.ts.length vq] 24)
              have aa := bel2 w5 (.cells #[.string (T.s y), .bool (T.l y), .slice vp y.ts.length vq] 24) (.cells #[.string (T.s y), .bool (T.l y), .slice vp y.ts.length vq] 24)
              have B7 := B5.trans (aa.mono B5.size)
              have M7 := M6.bel aa
              have j1 := I3.new (w5.alloc (.cells #[.string (T.s y), .bool (T.l y), .slice vp y.ts.length vq] 24)) (.string (T.s y)) (.bool (T.l y)) (.slice vp y.ts.length vq)
              rw [size_push] at j1
              have hy5 := InP.keep (N' := fun j => wr.heap.size ≤ j ∧ j < w5.heap.size) aa.size (fun g hg hl => ⟨⟨hg, hl⟩, aa.block g hl⟩) y _ hv
              obtain ⟨sv', w8, hap, own8, gr8, ob8⟩ := append_item _ (w.heap.size + 2) ys.length (.slice sn ys.length sc) xs M7.own (w5.heap.size + 1) 1 (.string (T.s y)) (.bool (T.l y)) (.slice vp y.ts.length vq) j1.c0 j1.c1 j1.c2 (by intro u hu; simp at hu; rcases hu with rfl | rfl | rfl <;> rfl) (by have := LI.out.yl; omega) (by have := M7.x.lt; omega) 22
              have f8 := fr_grown gr8
              have nb : ∀ j, j < w.heap.size + 2 → ¬ (Value.slice sn ys.length sc).ownBlock = some j := fun j hj => own_not M7.own hj
              have lv4 : ∀ j, (Value.slice sn ys.length sc).ownBlock = some j → j < wr.heap.size := fun j hj => (LI.out.m.own.lt j hj).2
              have x8 := M7.x.fr f8 (nb _ (by omega))
              have r8 := M7.res.fr f8 (nb _ (by omega))
              have B8 := B7.grown gr8 B7.size (fun kk hk => by have := (M7.own.lt kk hk).1; omega)
              have hs7 : (((w5.alloc (.cells #[.string (T.s y), .bool (T.l y), .slice vp y.ts.length vq] 24)).alloc (.cells #[.string (T.s y), .bool (T.l y), .slice vp y.ts.length vq] 24))).heap.size = w5.heap.size + 2 := by simp
              have got8 : Got w8 (fun j => w.heap.size + 2 ≤ j ∧ sv'.ownBlock ≠ some j) (ys ++ [y]) (xs ++ [.string (T.s y), .bool (T.l y), .slice vp y.ts.length vq]) := by
                refine Got.more (Got.keep M7.got gr8.size (fun g hg hl => ⟨⟨hg.1, ?_⟩, gr8.block g hl (fun e => hg.2 e.symm)⟩)) M7.own.1 (InP.keep gr8.size (fun g hg hl => ⟨⟨by omega, ?_⟩, gr8.block g hl (fun e => by have := lv4 g e.symm; omega)⟩) y _ hy5)
                · rcases ob8 with e | e
                  · rw [e]; exact hg.2
                  · rw [e]; intro h; injection h with h; omega
                · rcases ob8 with e | e
                  · rw [e]; intro h; have := lv4 g h; omega
                  · rw [e]; intro h; injection h with h; rw [hs7] at h; omega
              obtain ⟨w9, hw9⟩ : ∃ w9, w9 = w8.setCell ⟨w.heap.size + 1, 2, none⟩ sv' := ⟨_, rfl⟩
              have f9 : Fr (fun j => j = w.heap.size + 1) w8 w9 := by rw [hw9]; exact fr_set _
              have LN := Lib.hid (show LZ d l a w w9 (ys ++ [y]) nx (xs ++ [.string (T.s y), .bool (T.l y), .slice vp y.ts.length vq]) sv' from by
                refine ⟨⟨by rw [hw9]; exact x8.set2 _, r8.fr f9 (by omega), ?_, got8.keep f9.size (fun g hg hl => ⟨hg, f9.block g hl (by omega)⟩)⟩, hLI, hle5, ?_, by have := LI.out.ap; omega, ?_⟩
                · rw [List.length_append, List.length_singleton]
                  exact own_fr own8 f9 (fun j hj => by omega)
                · rw [List.length_append, List.length_singleton]; have := LI.out.yl; omega
                · rw [hw9]; exact B8.setCell (p := ⟨w.heap.size + 1, 2, none⟩) (Nat.le_succ _) _)
              obtain ⟨sva, svn, svc, esv⟩ : ∃ a n c, sv' = .slice a n c := by
                rcases own8.2 with ⟨h, _⟩ | ⟨g, cap, cu, h, _⟩
                · exact ⟨_, _, _, h⟩
                · exact ⟨_, _, _, h⟩
              subst esv
              have sc2 := M7.x.c2
              have sl2 := M7.x.lt
              have y2 := x8.c2
              have y3 := x8.free 2
              have y4 := x8.lt
              have m5 := M6.x.c2
              have m6 := M6.x.lt
              have n0 : decide ((nx : Int) < 0) = false := by simp
              have HNX := Lib.hid (show p < nx ∧ nx ≤ l.length from ⟨by omega, hle5⟩)
              have HW9 := Lib.hid hw9
              have AP := Lib.hid hap
              clear hs hun hv M6 M7 hLI hy5 own8 gr8 ob8 f8 nb lv4 x8 r8 hs7 got8 f9 hw9 hap j1 hsz4 B5 B7 B8 aa a1 b5 hs5
              go_wp2_with (at_builtin; refine wpList_append_run rfl _ _ 22 rfl _ _ rfl rfl _ w8 AP.out ?_)
              rw [← HW9.out]
              go_roundw
              case rel => exact ⟨nx, _, _, _, rfl, LN.out⟩
              case measure => have := HNX.out; (simp [intOf]) <;> omega
          · have NO := Lib.hid (fun K => T.LInv.none ((LI.out.inv K).blank hy HC.out (fun l' h => by rw [XD.out] at h; injection h with h _; exact h32 h)))
            have t8 : ((x.toNat : Int) != 32) = true := by
              rw [bne_iff_ne]; intro e; exact h32 (UInt8.toNat_inj.1 (by have : x.toNat = 32 := (by omega); rw [this]; rfl))
            have i0 := LI.out.m.res
            have x0 := i0.c0
            have x1 := i0.c1
            have x2 := i0.c2
            have lx := i0.lt
            have p0 := i0.free 0
            have p1 := i0.free 1
            have p2 := i0.free 2
            have Q := Lib.hid (ref_end (d := d) (a := a) (l := l) LI.out.bel (fun K x' r' hv => NO.out K x' r' (by rw [← HDR.out]; exact hv)))
            have Z := Lib.hid (i0.put (.string ⟨#[]⟩) (.bool false) (.slice none 0 0))
            clear i0
            go_wp2_with fail
            have z0 := Z.out.c0
            have z1 := Z.out.c1
            have z2 := Z.out.c2
            show bodyPost Tryd.prog Tryd.f24 (fun e w' => RefPost d l a w e w') .ret _ _
            refine bodyPost_ret (v := .tuple #[ZV, .int .i64 (-1)]) (by simp [results, Tryd.results24, go_sem, z0, z1, z2, ZV]) rfl ?_
            exact Q.out
    · obtain rfl : p = l.length := by omega
      have i0 := LI.out.m.res
      have x0 := i0.c0
      have x1 := i0.c1
      have x2 := i0.c2
      have lx := i0.lt
      have p0 := i0.free 0
      have p1 := i0.free 1
      have p2 := i0.free 2
      have Q := Lib.hid (ref_end (d := d) (a := a) (l := l) LI.out.bel (by
        intro K x' r' hv
        rw [HDR.out] at hv
        exact T.LInv.none (fun ts r => T.LInv.empty (by have := LI.out.inv K; rwa [List.drop_length] at this) ts r) x' r' hv))
      have Z := Lib.hid (i0.put (.string ⟨#[]⟩) (.bool false) (.slice none 0 0))
      clear i0
      go_wp2_with fail
      have z0 := Z.out.c0
      have z1 := Z.out.c1
      have z2 := Z.out.c2
      show bodyPost Tryd.prog Tryd.f24 (fun e w' => RefPost d l a w e w') .ret _ _
      refine bodyPost_ret (v := .tuple #[ZV, .int .i64 (-1)]) (by simp [results, Tryd.results24, go_sem, z0, z1, z2, ZV]) rfl ?_
      exact Q.out
end Go.Proofs.YtdkeickcbpjedaaDoor
