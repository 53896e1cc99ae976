/-
  The contracts of the document's parse and Build of a row of tokens (layer 10) over this seat's translation. Conditions: a row of at most 10,000 tokens.
-/
import Derived.Test.YtegakecncpfnnaaWlkB
namespace Go.Proofs.Ytegakecncpfnnaa
open Go.RowKit

/-- What parse answers and leaves, at so many levels. -/
def PrsPost (d : Nat) (l : List Tok) (a : Nat) (w : World) (e : Ending) (w' : World) : Prop :=
  Below w.heap.size w w' ∧
  ((∃ x v nx, e = .returned (.tuple #[.agg #[.string (T.s x), .bool (T.l x), v], .int .i64 ((nx : Nat) : Int)]) ∧ (l.drop a = T.toks x ++ l.drop nx ∧ T.rgt x = true ∧ T.dep x ≤ d) ∧ a < nx ∧ nx ≤ l.length ∧ InP w' (fun j => w.heap.size ≤ j) x v) ∨
   (e = .returned (.tuple #[ZV, .int .i64 (-1)]) ∧ ∀ x r, T.rgt x = true → T.dep x ≤ d → l.drop a ≠ T.toks x ++ r))
/-- The contract of parse at so many levels. -/
def PrsC (d : Nat) : Prop := ∀ (l : List Tok) (s : Option Addr) (c a : Nat) (w : World) (D : Int), D + d = 17 → l.length ≤ 10000 → a ≤ l.length → l.length ≤ c → tsz l ≤ 100000 → TRow w s l →
  Calls Try.prog 40 #[.slice s l.length c, .int .i64 (a : Int), .int .i64 D] w fun e w' => PrsPost d l a w e w'
theorem prs_end {d a : Nat} {l : List Tok} {w wr : World} (hb : Below w.heap.size w wr) (hn : ∀ x r, T.rgt x = true → T.dep x ≤ d → l.drop a ≠ T.toks x ++ r) :
    PrsPost d l a w (.returned (.tuple #[ZV, .int .i64 (-1)])) (((wr.setCell ⟨w.heap.size, 0, none⟩ (.string ⟨#[]⟩)).setCell ⟨w.heap.size, 1, none⟩ (.bool false)).setCell ⟨w.heap.size, 2, none⟩ (.slice none 0 0)) :=
  ⟨bel_put (g := w.heap.size) hb (Nat.le_refl _) _ _ _, .inr ⟨rfl, hn⟩⟩

/-- The memory of a list that is parsed. -/
structure LY (w wr : World) (ys : List T) (xs : List Value) (sv : Value) : Prop where
  x : I3 wr (w.heap.size + 1) (.string ⟨#[]⟩) (.bool true) sv
  res : I3 wr w.heap.size (.string ⟨#[]⟩) (.bool false) (.slice none 0 0)
  own : wr.ownsRow (w.heap.size + 2) 24 3 sv ys.length xs
  got : Got wr (fun j => w.heap.size + 2 ≤ j ∧ sv.ownBlock ≠ some j) ys xs
theorem LY.bel {w wr w' : World} {ys : List T} {xs : List Value} {sv : Value} (h : LY w wr ys xs sv) (b : Below wr.heap.size wr w') : LY w w' ys xs sv :=
  ⟨h.x.bel b, h.res.bel b, own_fr h.own (S := fun _ => False) ⟨b.os, b.tape, b.output, b.size, fun i hi _ => b.block i hi⟩ (fun _ hj => hj.elim), h.got.keep b.size (fun g hg hl => ⟨hg, b.block g hl⟩)⟩
/-- What the loop over a list's items keeps. -/
structure LW (d : Nat) (l : List Tok) (a : Nat) (w wr : World) (ys : List T) (p : Nat) (xs : List Value) (sv : Value) : Prop where
  m : LY w wr ys xs sv
  inv : l.drop a = opn :: (T.tokss ys ++ l.drop p)
  rg : T.rgts ys = true
  dp : T.deps ys ≤ d - 1
  pl : p ≤ l.length
  yl : ys.length ≤ p
  ap : a < p
  bel : Below w.heap.size w wr

/-- What an item's row would have behind the items that were parsed. -/
theorem LW.rest {d : Nat} {l : List Tok} {a : Nat} {w wr : World} {ys : List T} {p : Nat} {xs : List Value} {sv : Value} (h : LW d l a w wr ys p xs sv) {x : T} {r : List Tok} (hr : T.rgt x = true) (hd : T.dep x ≤ d) (he : l.drop a = T.toks x ++ r) :
    (∃ r', l.drop p = sht :: r') ∨ ∃ v r', T.rgt v = true ∧ T.dep v ≤ d - 1 ∧ l.drop p = T.toks v ++ r' := by
  obtain ⟨s, ll, us⟩ := x
  cases ll
  · rw [h.inv, T.toks_text] at he
    injection he with he _
    exact absurd (congrArg Tok.k he) (by simp [opn, wrd])
  · obtain ⟨_, hg⟩ := T.rgt_list hr
    rw [h.inv, T.toks_list] at he
    simp only [List.cons_append, List.append_assoc, List.nil_append, List.cons.injEq, true_and] at he
    obtain ⟨vs, e1, e2⟩ := T.tokss_pre ys us (l.drop p) r h.rg hg he (fun _ _ _ => trivial)
    rcases vs with _ | ⟨v, vs⟩
    · exact .inl ⟨r, e2⟩
    · subst e1
      rw [T.rgts_append, Bool.and_eq_true] at hg
      simp only [T.rgts, Bool.and_eq_true] at hg
      simp only [T.dep, T.deps_append, T.deps] at hd
      exact .inr ⟨v, _, hg.2.1, by omega, by rw [e2, T.tokss, List.append_assoc]⟩

set_option maxRecDepth 100000 in
set_option maxHeartbeats 1000000 in
theorem prs_list (d : Nat) (hIC : PrsC (d - 1)) (l : List Tok) (so : Option Addr) (sc a : Nat) (w : World) (D : Int) (hD : D + d = 17) (hl : l.length ≤ 10000) (ha : a < l.length) (hd : 1 ≤ d) (hd17 : d ≤ 17) (h1 : l[a] = opn) (hcc : l.length ≤ sc) (hz : tsz l ≤ 100000) (hr : TRow w so l) :
    Calls Try.prog 40 #[.slice so l.length sc, .int .i64 (a : Int), .int .i64 D] w fun e w' => PrsPost d l a w e w' := by
  have IC := Lib.hid hIC
  have HR := Lib.hid hr
  obtain ⟨b, o, rfl, c0, c1⟩ := hr a ha
  have lb := lt_of_cell c0
  rw [h1] at c0 c1
  simp only [opn] at c0 c1
  have HD := Lib.hid (show D + d = 17 ∧ l.length ≤ 10000 ∧ 1 ≤ d ∧ a < l.length ∧ l.length ≤ sc ∧ tsz l ≤ 100000 from ⟨hD, hl, hd, ha, hcc, hz⟩)
  have hDR : l.drop a = opn :: l.drop (a + 1) := by rw [List.drop_eq_getElem_cons ha, h1]
  have L0 := Lib.hid (show LW d l a w ((w.alloc (.cells #[.string ⟨#[]⟩, .bool false, .slice none 0 0] 24)).alloc (.cells #[.string ⟨#[]⟩, .bool true, .slice none 0 0] 24)) [] (a + 1) [] (.slice none 0 0) from
    ⟨⟨by have := I3.new (w.alloc (.cells #[.string ⟨#[]⟩, .bool false, .slice none 0 0] 24)) (.string ⟨#[]⟩) (.bool true) (.slice none 0 0); rw [size_push] at this; exact this,
     (I3.new w _ _ _).alloc _, World.ownsRow_nil _ _ _ _, Got.nil _ _⟩, by simpa [T.tokss] using hDR, rfl, by simp [T.deps], by omega, Nat.zero_le _, by omega, bel2 _ _ _⟩)
  obtain ⟨n, hnn⟩ : ∃ n, n = l.length := ⟨_, rfl⟩
  have HN := Lib.hid hnn
  rw [← hnn] at hl hcc ha ⊢
  have t1 : decide (n ≤ a) = false := by simp; omega
  have t2 : decide (16 < D) = false := by simp; omega
  have hD2 : -1000 ≤ D ∧ D ≤ 100 := by omega
  clear hIC hD hd hd17 h1 hr hDR hnn hz
  go_enter Try.func40, Try.ntmps40
  go_wp2_with fail
  clear t1 t2 c0 c1 lb
  go_loopw [1] (fun i wr => ∃ (p : Nat) (ys : List T) (xs : List Value) (sv : Value), i = .int .i64 (p : Int) ∧ LW d l a w wr ys p xs sv) (fun i _ => n - (intOf i).toNat)
  case atStart => exact ⟨a + 1, [], [], _, by go_num, L0.out⟩
  case round =>
    clear L0
    obtain ⟨p, ys, xs, sv, rfl, hLL⟩ := hrel
    have LI := Lib.hid hLL
    have hpl : p ≤ n := by have := HN.out; have := hLL.pl; omega
    clear hLL
    obtain ⟨sn, sq, rfl⟩ : ∃ a c, sv = .slice a ys.length c := by
      rcases LI.out.m.own.2 with ⟨h, h0⟩ | ⟨g, cap, cu, h, _⟩
      · exact ⟨none, 0, by rw [h, h0]⟩
      · exact ⟨_, _, h⟩
    by_cases hlt : p < n
    · have hiL : p < l.length := by have := HN.out; omega
      obtain ⟨b', o', e', d0, d1⟩ := (HR.out.bel LI.out.bel) p hiL
      injection e' with e'
      injection e' with e1 e2
      subst e1 e2
      have lb := lt_of_cell d0
      have hxd : l.drop p = l[p] :: l.drop (p + 1) := List.drop_eq_getElem_cons hiL
      obtain ⟨tk, htk⟩ : ∃ tk, tk = l[p] := ⟨_, rfl⟩
      rw [← htk] at d0 d1 hxd
      obtain ⟨kk, ss⟩ := tk
      simp only at d0 d1
      have XD := Lib.hid hxd
      have ci : (p : Int) < (n : Int) := by omega
      have t5 : decide (n ≤ p) = false := by simp; omega
      clear htk hxd
      by_cases k2 : kk = 2
      · subst k2
        by_cases hss : ss = ⟨#[]⟩
        · subst hss
          have M1 := LI.out.m
          have hin : InP _ (fun j => w.heap.size + 2 ≤ j) (.mk ⟨#[]⟩ true ys) (.slice sn ys.length sq) := Got.list (M1.got.keep (Nat.le_refl _) (fun g hg _ => ⟨hg.1, rfl⟩)) M1.own (fun g hg => (M1.own.lt g hg).1) (by have := LI.out.yl; unfold maxLen; omega) ⟨#[]⟩ (Nat.zero_le _) true
          have s0 := M1.x.c0
          have s1 := M1.x.c1
          have s2 := M1.x.c2
          have sl := M1.x.lt
          have x0 := M1.res.c0
          have x1 := M1.res.c1
          have x2 := M1.res.c2
          have lx := M1.res.lt
          have p0 := M1.res.free 0
          have p1 := M1.res.free 1
          have p2 := M1.res.free 2
          have Q := Lib.hid (show PrsPost d l a w (.returned (.tuple #[.agg #[.string ⟨#[]⟩, .bool true, .slice sn ys.length sq], .int .i64 ((p + 1 : Nat) : Int)])) _ from
            ⟨bel_put (g := w.heap.size) LI.out.bel (Nat.le_refl _) (.string ⟨#[]⟩) (.bool true) (.slice sn ys.length sq), .inl ⟨.mk ⟨#[]⟩ true ys, .slice sn ys.length sq, p + 1, rfl,
              ⟨by rw [LI.out.inv, XD.out, T.toks_list]; simp [sht], by simp [T.rgt, T.own, ByteArray.size, LI.out.rg], by have := LI.out.dp; have := HD.out.2.2.1; simp only [T.dep]; omega⟩, by have := LI.out.ap; omega, by omega,
              InP.fr hin (fr_put (g := w.heap.size) _ _ _) (fun g hg _ => ⟨by omega, by omega⟩)⟩⟩)
          rw [show ((p + 1 : Nat) : Int) = (p : Int) + 1 by omega] at Q
          have Z := Lib.hid (M1.res.put (.string ⟨#[]⟩) (.bool true) (.slice sn ys.length sq))
          clear hin M1
          go_wp2_with fail
          have z0 := Z.out.c0
          have z1 := Z.out.c1
          have z2 := Z.out.c2
          show bodyPost Try.prog Try.f40 (fun e w' => PrsPost d l a w e w') .ret _ _
          refine bodyPost_ret (v := .tuple #[.agg #[.string ⟨#[]⟩, .bool true, .slice sn ys.length sq], .int .i64 ((p : Int) + 1)]) (by simp [results, Try.results40, go_sem, z0, z1, z2]) rfl ?_
          exact Q.out
        · have t6 := isEmptyL ss hss
          have NO := Lib.hid (show ∀ x r, T.rgt x = true → T.dep x ≤ d → l.drop a ≠ T.toks x ++ r from fun x r hr hd he => by
            rcases LI.out.rest hr hd he with ⟨r', e⟩ | ⟨v, r', _, _, e⟩
            · rw [XD.out] at e
              injection e with e _
              exact hss (congrArg Tok.t e)
            · obtain ⟨q, r2, e2, hq⟩ := T.toks_head v
              rw [XD.out, e2] at e
              injection e with e _
              exact hq (by rw [← e]))
          have RR := Lib.hid LI.out.m.res
          have BF := Lib.hid LI.out.bel
          clear hss
          have x0 := RR.out.c0
          have x1 := RR.out.c1
          have x2 := RR.out.c2
          have lx := RR.out.lt
          have p0 := RR.out.free 0
          have p1 := RR.out.free 1
          have p2 := RR.out.free 2
          have Q := Lib.hid (prs_end (d := d) (a := a) (l := l) BF.out NO.out)
          have Z := Lib.hid (RR.out.put (.string ⟨#[]⟩) (.bool false) (.slice none 0 0))
          clear BF
          go_wp2_with fail
          have z0 := Z.out.c0
          have z1 := Z.out.c1
          have z2 := Z.out.c2
          show bodyPost Try.prog Try.f40 (fun e w' => PrsPost d l a w e w') .ret _ _
          refine bodyPost_ret (v := .tuple #[ZV, .int .i64 (-1)]) (by simp [results, Try.results40, go_sem, z0, z1, z2, ZV]) rfl ?_
          exact Q.out
      · have t6 : (kk != (2 : Int)) = true := by simpa using k2
        have s2 := LI.out.m.x.c2
        have lx1 := LI.out.m.x.lt
        have CALL := Lib.hid (IC.out l (some ⟨b, o, none⟩) sc p wr (D + 1) (by have := HD.out; omega) HD.out.2.1 (by omega) HD.out.2.2.2.2.1 HD.out.2.2.2.2.2 (HR.out.bel LI.out.bel))
        rw [← HN.out] at CALL
        go_wp2_with fail
        refine CALL.out.mono ?_
        rintro e w5 ⟨b5, h5⟩
        rcases h5 with ⟨y, v, nx, rfl, hs, hlt5, hle5, hv⟩ | ⟨rfl, hno⟩
        case inr =>
          have NO := Lib.hid (show ∀ x r, T.rgt x = true → T.dep x ≤ d → l.drop a ≠ T.toks x ++ r from fun x r hr hd he => by
            rcases LI.out.rest hr hd he with ⟨r', e⟩ | ⟨v, r', h1, h2, e⟩
            · rw [XD.out] at e
              injection e with e _
              exact k2 (congrArg Tok.k e)
            · exact hno v r' h1 h2 e)
          have M6 := LI.out.m.bel b5
          have BF0 := (below_then LI.out.bel b5).alloc (Nat.le_trans LI.out.bel.size b5.size) (.cells #[.string ⟨#[]⟩, .bool false, .slice none 0 0] 24)
          have rr := M6.res.alloc (.cells #[.string ⟨#[]⟩, .bool false, .slice none 0 0] 24)
          obtain ⟨w6, hw6⟩ : ∃ w6, w6 = w5.alloc (.cells #[.string ⟨#[]⟩, .bool false, .slice none 0 0] 24) := ⟨_, rfl⟩
          unfold ZV
          go_upto_region 12 with fail
          rw [← hw6] at BF0 rr ⊢
          have BF := Lib.hid BF0
          have RR := Lib.hid rr
          clear M6 hno hw6 b5 BF0 rr k2
          have x0 := RR.out.c0
          have x1 := RR.out.c1
          have x2 := RR.out.c2
          have lx := RR.out.lt
          have p0 := RR.out.free 0
          have p1 := RR.out.free 1
          have p2 := RR.out.free 2
          have Q := Lib.hid (prs_end (d := d) (a := a) (l := l) BF.out NO.out)
          have Z := Lib.hid (RR.out.put (.string ⟨#[]⟩) (.bool false) (.slice none 0 0))
          clear BF
          go_wp2_with fail
          have z0 := Z.out.c0
          have z1 := Z.out.c1
          have z2 := Z.out.c2
          show bodyPost Try.prog Try.f40 (fun e w' => PrsPost d l a w e w') .ret _ _
          refine bodyPost_ret (v := .tuple #[ZV, .int .i64 (-1)]) (by simp [results, Try.results40, go_sem, z0, z1, z2, ZV]) rfl ?_
          exact Q.out
        case inl =>
          obtain ⟨vp, vq, rfl⟩ := hv.slice
          have M6 := LI.out.m.bel b5
          have hsz4 := LI.out.m.x.lt
          have B5 := below_then LI.out.bel b5
          have hs5 := b5.size
          have a1 := bel1 w5 (.cells #[.string (T.s y), .bool (T.l y), .slice vp y.ts.length vq] 24)
          have aa := bel2 w5 (.cells #[.string (T.s y), .bool (T.l y), .slice vp y.ts.length vq] 24) (.cells #[.string (T.s y), .bool (T.l y), .slice vp y.ts.length vq] 24)
          have B7 := B5.trans (aa.mono B5.size)
          have M7 := M6.bel aa
          have j1 := I3.new (w5.alloc (.cells #[.string (T.s y), .bool (T.l y), .slice vp y.ts.length vq] 24)) (.string (T.s y)) (.bool (T.l y)) (.slice vp y.ts.length vq)
          rw [size_push] at j1
          have hy5 := InP.keep (N' := fun j => wr.heap.size ≤ j ∧ j < w5.heap.size) aa.size (fun g hg hl => ⟨⟨hg, hl⟩, aa.block g hl⟩) y _ hv
          obtain ⟨sv', w8, hap, own8, gr8, ob8⟩ := append_item _ (w.heap.size + 2) ys.length (.slice sn ys.length sq) xs M7.own (w5.heap.size + 1) 1 (.string (T.s y)) (.bool (T.l y)) (.slice vp y.ts.length vq) j1.c0 j1.c1 j1.c2 (by intro u hu; simp at hu; rcases hu with rfl | rfl | rfl <;> rfl) (by have := LI.out.yl; omega) (by have := LI.out.bel.size; simp only [size_push]; omega) 22
          have f8 := fr_grown gr8
          have nb : ∀ j, j < w.heap.size + 2 → ¬ (Value.slice sn ys.length sq).ownBlock = some j := fun j hj => own_not M7.own hj
          have lv4 : ∀ j, (Value.slice sn ys.length sq).ownBlock = some j → j < wr.heap.size := fun j hj => (LI.out.m.own.lt j hj).2
          have x8 := M7.x.fr f8 (nb _ (by omega))
          have r8 := M7.res.fr f8 (nb _ (by omega))
          have B8 := B7.grown gr8 B7.size (fun kk hk => by have := (M7.own.lt kk hk).1; omega)
          have hs7 : (((w5.alloc (.cells #[.string (T.s y), .bool (T.l y), .slice vp y.ts.length vq] 24)).alloc (.cells #[.string (T.s y), .bool (T.l y), .slice vp y.ts.length vq] 24))).heap.size = w5.heap.size + 2 := by simp
          have got8 : Got w8 (fun j => w.heap.size + 2 ≤ j ∧ sv'.ownBlock ≠ some j) (ys ++ [y]) (xs ++ [.string (T.s y), .bool (T.l y), .slice vp y.ts.length vq]) := by
            refine Got.more (Got.keep M7.got gr8.size (fun g hg hl => ⟨⟨hg.1, ?_⟩, gr8.block g hl (fun e => hg.2 e.symm)⟩)) M7.own.1 (InP.keep gr8.size (fun g hg hl => ⟨⟨by omega, ?_⟩, gr8.block g hl (fun e => by have := lv4 g e.symm; omega)⟩) y _ hy5)
            · rcases ob8 with e | e
              · rw [e]; exact hg.2
              · rw [e]; intro h; injection h with h; omega
            · rcases ob8 with e | e
              · rw [e]; intro h; have := lv4 g h; omega
              · rw [e]; intro h; injection h with h; rw [hs7] at h; omega
          obtain ⟨w9, hw9⟩ : ∃ w9, w9 = w8.setCell ⟨w.heap.size + 1, 2, none⟩ sv' := ⟨_, rfl⟩
          have f9 : Fr (fun j => j = w.heap.size + 1) w8 w9 := by rw [hw9]; exact fr_set _
          have LN := Lib.hid (show LW d l a w w9 (ys ++ [y]) nx (xs ++ [.string (T.s y), .bool (T.l y), .slice vp y.ts.length vq]) sv' from by
            refine ⟨⟨by rw [hw9]; exact x8.set2 _, r8.fr f9 (by omega), ?_, got8.keep f9.size (fun g hg hl => ⟨hg, f9.block g hl (by omega)⟩)⟩, ?_, ?_, ?_, hle5, ?_, by have := LI.out.ap; omega, ?_⟩
            · rw [List.length_append, List.length_singleton]
              exact own_fr own8 f9 (fun j hj => by omega)
            · rw [LI.out.inv, hs.1, T.tokss_one, List.append_assoc]
            · rw [T.rgts_append, LI.out.rg]; simp [T.rgts, hs.2.1]
            · rw [T.deps_append]; simp only [T.deps]; have := LI.out.dp; have := hs.2.2; omega
            · rw [List.length_append, List.length_singleton]; have := LI.out.yl; omega
            · rw [hw9]; exact B8.setCell (p := ⟨w.heap.size + 1, 2, none⟩) (Nat.le_succ _) _)
          obtain ⟨sva, svn, svc, esv⟩ : ∃ a n c, sv' = .slice a n c := by
            rcases own8.2 with ⟨h, _⟩ | ⟨g, cap, cu, h, _⟩
            · exact ⟨_, _, _, h⟩
            · exact ⟨_, _, _, h⟩
          subst esv
          have sc2 := M7.x.c2
          have sl2 := M7.x.lt
          have y2 := x8.c2
          have y3 := x8.free 2
          have y4 := x8.lt
          have m5 := M6.x.c2
          have m6 := M6.x.lt
          have n0 : decide ((nx : Int) < 0) = false := by simp
          have HNX := Lib.hid (show p < nx ∧ nx ≤ n from ⟨by omega, by have := HN.out; omega⟩)
          have HW9 := Lib.hid hw9
          have AP := Lib.hid hap
          clear hs hv M6 M7 hy5 own8 gr8 ob8 f8 nb lv4 x8 r8 hs7 got8 f9 hw9 hap j1 hsz4 B5 B7 B8 aa a1 b5 hs5 CALL
          go_wp2_with (at_builtin; refine wpList_append_run rfl _ _ 22 rfl _ _ rfl rfl _ w8 AP.out ?_)
          rw [← HW9.out]
          go_roundw
          case rel => exact ⟨nx, _, _, _, rfl, LN.out⟩
          case measure => have := HNX.out; (simp [intOf]) <;> omega
    · obtain rfl : p = n := by omega
      have NO := Lib.hid (show ∀ x r, T.rgt x = true → T.dep x ≤ d → l.drop a ≠ T.toks x ++ r from fun x r hr hd he => by
        rcases LI.out.rest hr hd he with ⟨r', e⟩ | ⟨v, r', _, _, e⟩
        · rw [HN.out, List.drop_length] at e; cases e
        · obtain ⟨q, r2, e2, _⟩ := T.toks_head v
          rw [HN.out, List.drop_length, e2] at e; cases e)
      have RR := Lib.hid LI.out.m.res
      have BF := Lib.hid LI.out.bel
      have t5 : decide (p ≤ p) = true := by simp
      have x0 := RR.out.c0
      have x1 := RR.out.c1
      have x2 := RR.out.c2
      have lx := RR.out.lt
      have p0 := RR.out.free 0
      have p1 := RR.out.free 1
      have p2 := RR.out.free 2
      have Q := Lib.hid (prs_end (d := d) (a := a) (l := l) BF.out NO.out)
      have Z := Lib.hid (RR.out.put (.string ⟨#[]⟩) (.bool false) (.slice none 0 0))
      clear BF
      go_wp2_with fail
      have z0 := Z.out.c0
      have z1 := Z.out.c1
      have z2 := Z.out.c2
      show bodyPost Try.prog Try.f40 (fun e w' => PrsPost d l a w e w') .ret _ _
      refine bodyPost_ret (v := .tuple #[ZV, .int .i64 (-1)]) (by simp [results, Try.results40, go_sem, z0, z1, z2, ZV]) rfl ?_
      exact Q.out

set_option maxRecDepth 100000 in
set_option maxHeartbeats 1000000 in
theorem prs_any : ∀ d, d ≤ 17 → PrsC d := by
  intro d
  induction d with
  | zero =>
    intro _ l so sc a w D hD hl ha hcc hz hr
    have NO := Lib.hid (show ∀ x r, T.rgt x = true → T.dep x ≤ 0 → l.drop a ≠ T.toks x ++ r from fun x r _ hd => by have := T.dep_pos x; omega)
    have RR := Lib.hid (I3.new w (.string ⟨#[]⟩) (.bool false) (.slice none 0 0))
    have BF := Lib.hid (bel1 w (.cells #[.string ⟨#[]⟩, .bool false, .slice none 0 0] 24))
    obtain ⟨d, hd0⟩ : ∃ d, d = 0 := ⟨_, rfl⟩
    rw [← hd0] at NO hD ⊢
    have t2 : decide (16 < D) = true := by simp; omega
    by_cases hlt : a < l.length
    · have t1 : decide (l.length ≤ a) = false := by simp; omega
      clear hd0 hr hD
      go_enter Try.func40, Try.ntmps40
      have Q := Lib.hid (show PrsPost d l a w (.returned (.tuple #[ZV, .int .i64 (-1)])) (w.alloc (.cells #[.string ⟨#[]⟩, .bool false, .slice none 0 0] 24)) from ⟨BF.out, .inr ⟨rfl, NO.out⟩⟩)
      clear BF
      go_wp2_with fail
      have z0 := RR.out.c0
      have z1 := RR.out.c1
      have z2 := RR.out.c2
      refine bodyPost_ret (v := .tuple #[ZV, .int .i64 (-1)]) (by simp [results, Try.results40, go_sem, z0, z1, z2, ZV]) rfl ?_
      exact Q.out
    · have t1 : decide (l.length ≤ a) = true := by simp; omega
      clear hd0 hr hD
      go_enter Try.func40, Try.ntmps40
      have Q := Lib.hid (show PrsPost d l a w (.returned (.tuple #[ZV, .int .i64 (-1)])) (w.alloc (.cells #[.string ⟨#[]⟩, .bool false, .slice none 0 0] 24)) from ⟨BF.out, .inr ⟨rfl, NO.out⟩⟩)
      clear BF
      go_wp2_with fail
      have z0 := RR.out.c0
      have z1 := RR.out.c1
      have z2 := RR.out.c2
      refine bodyPost_ret (v := .tuple #[ZV, .int .i64 (-1)]) (by simp [results, Try.results40, go_sem, z0, z1, z2, ZV]) rfl ?_
      exact Q.out
  | succ d' ih =>
    intro hd17 l so sc a w D hD hl ha hcc hz hr
    have IH := Lib.hid (ih (by omega))
    obtain ⟨d, hd⟩ : ∃ d, d = d' + 1 := ⟨_, rfl⟩
    rw [← hd] at hD ⊢
    have RR := Lib.hid (I3.new w (.string ⟨#[]⟩) (.bool false) (.slice none 0 0))
    have BF := Lib.hid (bel1 w (.cells #[.string ⟨#[]⟩, .bool false, .slice none 0 0] 24))
    have t2 : decide (16 < D) = false := by simp; omega
    by_cases hlt : a < l.length
    · have t1 : decide (l.length ≤ a) = false := by simp; omega
      obtain ⟨b, o, rfl, c0, c1⟩ := hr a hlt
      have lb := lt_of_cell c0
      have hxd : l.drop a = l[a] :: l.drop (a + 1) := List.drop_eq_getElem_cons hlt
      by_cases hopn : l[a] = opn
      · exact prs_list d (by rw [hd]; exact IH.out) l _ sc a w D hD hl hlt (by omega) (by omega) hopn hcc hz hr
      · have hzz := tsz_mem l l[a] (List.getElem_mem hlt)
        obtain ⟨tk, htk⟩ : ∃ tk, tk = l[a] := ⟨_, rfl⟩
        rw [← htk] at c0 c1 hxd hopn hzz
        obtain ⟨kk, ss⟩ := tk
        simp only at c0 c1 hzz
        have XD := Lib.hid hxd
        have ci : (a : Int) < (l.length : Int) := by omega
        by_cases k3 : kk = 3
        · subst k3
          have Q := Lib.hid (show PrsPost d l a w (.returned (.tuple #[.agg #[.string ss, .bool false, .slice none 0 0], .int .i64 ((a : Int) + 1)])) (w.alloc (.cells #[.string ss, .bool false, .slice none 0 0] 24)) from
            ⟨bel1 _ _, .inl ⟨.mk ss false [], .slice none 0 0, a + 1, by simp only [T.s, T.l]; rw [show ((a + 1 : Nat) : Int) = (a : Int) + 1 by omega], ⟨by rw [XD.out, T.toks_text]; rfl, by simp [T.rgt, T.own, T.rgts], by simp [T.dep, T.deps]; omega⟩, by omega, by omega, ⟨by unfold maxLen; omega, by simp [maxLen], none, 0, rfl, trivial⟩⟩⟩)
          have Z := Lib.hid (I3.new w (.string ss) (.bool false) (.slice none 0 0))
          clear hr hD hd hxd htk hopn BF RR
          go_enter Try.func40, Try.ntmps40
          go_wp2_with fail
          have z0 := Z.out.c0
          have z1 := Z.out.c1
          have z2 := Z.out.c2
          refine bodyPost_ret (v := .tuple #[.agg #[.string ss, .bool false, .slice none 0 0], .int .i64 ((a : Int) + 1)]) (by simp [results, Try.results40, go_sem, z0, z1, z2]) rfl ?_
          exact Q.out
        · have t3 : (kk == (3 : Int)) = false := by simpa using k3
          have NO := Lib.hid (show ∀ x r, T.rgt x = true → T.dep x ≤ d → l.drop a ≠ T.toks x ++ r from fun x r _ _ e => by
            obtain ⟨s, ll, us⟩ := x
            cases ll
            · rw [XD.out, T.toks_text] at e
              injection e with e _
              exact k3 (congrArg Tok.k e)
            · rw [XD.out, T.toks_list] at e
              injection e with e _
              exact hopn e)
          by_cases k1 : kk = 1
          · subst k1
            have hss : ¬ ss = ⟨#[]⟩ := fun e => hopn (by rw [e]; rfl)
            have t4 := isEmptyL ss hss
            clear hr hD hd hxd htk hopn hss k3
            go_enter Try.func40, Try.ntmps40
            have Q := Lib.hid (show PrsPost d l a w (.returned (.tuple #[ZV, .int .i64 (-1)])) (w.alloc (.cells #[.string ⟨#[]⟩, .bool false, .slice none 0 0] 24)) from ⟨BF.out, .inr ⟨rfl, NO.out⟩⟩)
            clear BF
            go_wp2_with fail
            have z0 := RR.out.c0
            have z1 := RR.out.c1
            have z2 := RR.out.c2
            refine bodyPost_ret (v := .tuple #[ZV, .int .i64 (-1)]) (by simp [results, Try.results40, go_sem, z0, z1, z2, ZV]) rfl ?_
            exact Q.out
          · have t4 : (kk != (1 : Int)) = true := by simpa using k1
            clear hr hD hd hxd htk hopn k3 k1
            go_enter Try.func40, Try.ntmps40
            have Q := Lib.hid (show PrsPost d l a w (.returned (.tuple #[ZV, .int .i64 (-1)])) (w.alloc (.cells #[.string ⟨#[]⟩, .bool false, .slice none 0 0] 24)) from ⟨BF.out, .inr ⟨rfl, NO.out⟩⟩)
            clear BF
            go_wp2_with fail
            have z0 := RR.out.c0
            have z1 := RR.out.c1
            have z2 := RR.out.c2
            refine bodyPost_ret (v := .tuple #[ZV, .int .i64 (-1)]) (by simp [results, Try.results40, go_sem, z0, z1, z2, ZV]) rfl ?_
            exact Q.out
    · have t1 : decide (l.length ≤ a) = true := by simp; omega
      have NO := Lib.hid (show ∀ x r, T.rgt x = true → T.dep x ≤ d → l.drop a ≠ T.toks x ++ r from fun x r _ _ e => by
        obtain ⟨q, r2, e2, _⟩ := T.toks_head x
        rw [List.drop_eq_nil_of_le (by omega), e2] at e
        cases e)
      clear hr hD hd
      go_enter Try.func40, Try.ntmps40
      have Q := Lib.hid (show PrsPost d l a w (.returned (.tuple #[ZV, .int .i64 (-1)])) (w.alloc (.cells #[.string ⟨#[]⟩, .bool false, .slice none 0 0] 24)) from ⟨BF.out, .inr ⟨rfl, NO.out⟩⟩)
      clear BF
      go_wp2_with fail
      have z0 := RR.out.c0
      have z1 := RR.out.c1
      have z2 := RR.out.c2
      refine bodyPost_ret (v := .tuple #[ZV, .int .i64 (-1)]) (by simp [results, Try.results40, go_sem, z0, z1, z2, ZV]) rfl ?_
      exact Q.out

/-- What the document's Build answers and leaves. -/
def BldPost (l : List Tok) (w : World) (e : Ending) (w' : World) : Prop :=
  Below w.heap.size w w' ∧
  ((∃ x v, e = .returned (.tuple #[.agg #[.string (T.s x), .bool (T.l x), v], .bool true]) ∧ (l = T.toks x ∧ T.rgt x = true ∧ T.dep x ≤ 16) ∧ In w' x v) ∨
   (e = .returned (.tuple #[ZV, .bool false]) ∧ ∀ x, T.rgt x = true → T.dep x ≤ 16 → l ≠ T.toks x))

set_option maxRecDepth 100000 in
set_option maxHeartbeats 1000000 in
theorem refBuild_any (l : List Tok) (so : Option Addr) (c : Nat) (w : World) (hl : l.length ≤ 10000) (hcc : l.length ≤ c) (hz : tsz l ≤ 100000) (hr : TRow w so l) :
    Calls Try.prog 19 #[.slice so l.length c] w fun e w' => BldPost l w e w' := by
  have b0 := bel1 w (.cells #[.string ⟨#[]⟩, .bool false, .slice none 0 0] 24)
  have PR := Lib.hid (prs_any 16 (by omega) l so c 0 (w.alloc (.cells #[.string ⟨#[]⟩, .bool false, .slice none 0 0] 24)) 1 (by omega) hl (Nat.zero_le _) hcc hz (hr.bel b0))
  have H0 := Lib.hid (And.intro b0 (I3.new w (.string ⟨#[]⟩) (.bool false) (.slice none 0 0)))
  obtain ⟨n, hnn⟩ : ∃ n, n = l.length := ⟨_, rfl⟩
  have HN := Lib.hid hnn
  rw [← hnn] at PR hl ⊢
  clear b0 hr hcc hz hnn
  go_enter Try.func19, Try.ntmps19
  go_wp2_with fail
  refine PR.out.mono ?_
  rintro e w1 ⟨b1, h1⟩
  rw [List.drop_zero] at h1
  have i1 := H0.out.2.bel b1
  have B1 := H0.out.1.trans (b1.mono (by simp))
  rcases h1 with ⟨y, v, nx, rfl, hs, _, hle, hv⟩ | ⟨rfl, hno⟩
  · obtain ⟨vp, vq, rfl⟩ := hv.slice
    have b2 := bel1 w1 (.cells #[.string y.s, .bool y.l, .slice vp y.ts.length vq] 24)
    have B2 := B1.trans (b2.mono B1.size)
    have i2 := i1.bel b2
    have hin := (InP.in _ _ hv).bel b2
    have j2 := I3.new w1 (.string y.s) (.bool y.l) (.slice vp y.ts.length vq)
    have x0 := i2.c0
    have x1 := i2.c1
    have x2 := i2.c2
    have lx := i2.lt
    have p0 := i2.free 0
    have p1 := i2.free 1
    have p2 := i2.free 2
    have q0 := j2.c0
    have q1 := j2.c1
    have q2 := j2.c2
    have ql := j2.lt
    have n0 : decide ((nx : Int) < 0) = false := by simp
    by_cases hnx : nx = n
    · have t1 : ((nx : Int) != (n : Int)) = false := by rw [hnx]; simp
      have Q := Lib.hid (show BldPost l w (.returned (.tuple #[.agg #[.string y.s, .bool y.l, .slice vp y.ts.length vq], .bool true])) ((((w1.alloc (.cells #[.string y.s, .bool y.l, .slice vp y.ts.length vq] 24)).setCell ⟨w.heap.size, 0, none⟩ (.string y.s)).setCell ⟨w.heap.size, 1, none⟩ (.bool y.l)).setCell ⟨w.heap.size, 2, none⟩ (.slice vp y.ts.length vq)) from by
        refine ⟨bel_put B2 (Nat.le_refl _) _ _ _, .inl ⟨y, _, rfl, ⟨?_, hs.2.1, hs.2.2⟩, ?_⟩⟩
        · have := hs.1
          rw [hnx, HN.out, List.drop_length, List.append_nil] at this
          exact this
        · have h5 := InP.keep (N' := fun _ => True) (w' := ((((w1.alloc (.cells #[.string y.s, .bool y.l, .slice vp y.ts.length vq] 24)).setCell ⟨w.heap.size, 0, none⟩ (.string y.s)).setCell ⟨w.heap.size, 1, none⟩ (.bool y.l)).setCell ⟨w.heap.size, 2, none⟩ (.slice vp y.ts.length vq))) (by simp [World.setCell]) (fun g hg hl => ⟨trivial, by
            have hgs : w.heap.size + 1 ≤ g := by simpa using hg
            exact ((fr_put (g := w.heap.size) _ _ _).block g (by rw [size_push]; omega) (by omega)).trans (b2.block g hl)⟩) _ _ hv
          exact InP.in _ _ h5)
      have Z := Lib.hid (i2.put (.string y.s) (.bool y.l) (.slice vp y.ts.length vq))
      clear hs hle hv b2 B2 i2 hin j2 i1 B1 b1 hnx H0
      go_wp2_with fail
      have z0 := Z.out.c0
      have z1 := Z.out.c1
      have z2 := Z.out.c2
      refine bodyPost_ret (v := .tuple #[.agg #[.string y.s, .bool y.l, .slice vp y.ts.length vq], .bool true]) (by simp [results, Try.results19, go_sem, z0, z1, z2]) rfl ?_
      exact Q.out
    · have t1 : ((nx : Int) != (n : Int)) = true := by rw [bne_iff_ne]; intro e; exact hnx (by omega)
      have NO : ∀ x, T.rgt x = true → T.dep x ≤ 16 → l ≠ T.toks x := fun x hr _ e => by
        have h2 := hs.1
        rw [e] at h2
        obtain ⟨_, h3⟩ := T.toks_inj x y [] _ hr hs.2.1 (by rw [List.append_nil]; exact h2)
        have h4 := congrArg List.length h3
        rw [List.length_drop, ← e] at h4
        simp only [List.length_nil] at h4
        have := HN.out
        omega
      have Q := Lib.hid (show BldPost l w (.returned (.tuple #[ZV, .bool false])) ((((w1.alloc (.cells #[.string y.s, .bool y.l, .slice vp y.ts.length vq] 24)).setCell ⟨w.heap.size, 0, none⟩ (.string ⟨#[]⟩)).setCell ⟨w.heap.size, 1, none⟩ (.bool false)).setCell ⟨w.heap.size, 2, none⟩ (.slice none 0 0)) from
        ⟨bel_put B2 (Nat.le_refl _) _ _ _, .inr ⟨rfl, NO⟩⟩)
      have Z := Lib.hid (i2.put (.string ⟨#[]⟩) (.bool false) (.slice none 0 0))
      clear hs hle hv b2 B2 i2 hin j2 i1 B1 b1 hnx H0 NO
      go_wp2_with fail
      have z0 := Z.out.c0
      have z1 := Z.out.c1
      have z2 := Z.out.c2
      refine bodyPost_ret (v := .tuple #[ZV, .bool false]) (by simp [results, Try.results19, go_sem, z0, z1, z2, ZV]) rfl ?_
      exact Q.out
  · have b2 := bel1 w1 (.cells #[.string ⟨#[]⟩, .bool false, .slice none 0 0] 24)
    have B2 := B1.trans (b2.mono B1.size)
    have i2 := i1.bel b2
    obtain ⟨w2, hw2⟩ : ∃ w2, w2 = w1.alloc (.cells #[.string ⟨#[]⟩, .bool false, .slice none 0 0] 24) := ⟨_, rfl⟩
    have NO : ∀ x, T.rgt x = true → T.dep x ≤ 16 → l ≠ T.toks x := fun x hr hd e => hno x [] hr hd (by rw [List.append_nil]; exact e)
    unfold ZV
    go_upto_region 2 with fail
    rw [← hw2] at B2 i2 ⊢
    have x0 := i2.c0
    have x1 := i2.c1
    have x2 := i2.c2
    have lx := i2.lt
    have p0 := i2.free 0
    have p1 := i2.free 1
    have p2 := i2.free 2
    have Q := Lib.hid (show BldPost l w (.returned (.tuple #[ZV, .bool false])) (((w2.setCell ⟨w.heap.size, 0, none⟩ (.string ⟨#[]⟩)).setCell ⟨w.heap.size, 1, none⟩ (.bool false)).setCell ⟨w.heap.size, 2, none⟩ (.slice none 0 0)) from
      ⟨bel_put B2 (Nat.le_refl _) _ _ _, .inr ⟨rfl, NO⟩⟩)
    have Z := Lib.hid (i2.put (.string ⟨#[]⟩) (.bool false) (.slice none 0 0))
    clear hno b2 B2 i2 i1 B1 b1 H0 NO hw2
    go_wp2_with fail
    have z0 := Z.out.c0
    have z1 := Z.out.c1
    have z2 := Z.out.c2
    refine bodyPost_ret (v := .tuple #[ZV, .bool false]) (by simp [results, Try.results19, go_sem, z0, z1, z2, ZV]) rfl ?_
    exact Q.out
end Go.Proofs.Ytegakecncpfnnaa
