/-
  The contracts of package item's reading of a list and of an item over this seat's translation. Conditions: a reading in a block of its own, a line of at most 100,000 bytes.
-/
import Derived.Test.YtdkeickcbpjedaaDoorItmR
import Derived.Test.YtdkeickcbpjedaaDoorItmU
namespace Go.Proofs.YtdkeickcbpjedaaDoor
open Go.RowKit

/-- A zero item. -/
def ZV : Value := .agg #[.string ⟨#[]⟩, .bool false, .slice none 0 0]
/-- What item answers and leaves. -/
def ItemPost (d K : Nat) (l : List UInt8) (b : Nat) (w : World) (e : Ending) (w' : World) : Prop :=
  Fr (fun j => j = b) w w' ∧
  ((∃ x v r, e = .returned (.tuple #[.agg #[.string (T.s x), .bool (T.l x), v], .bool true]) ∧ T.Snd d l x r ∧ T.cnt x ≤ K ∧ InP w' (fun j => w.heap.size ≤ j) x v ∧ Rg w' b r (K - T.cnt x) ∧
      ∀ x' r', T.Val d K l x' r' → x' = x ∧ r' = r) ∨
   (e = .returned (.tuple #[ZV, .bool false]) ∧ (∃ l' k', Rg w' b l' k') ∧ ∀ x' r', ¬ T.Val d K l x' r'))
/-- The contract of item at so many levels. -/
def ItemC (d : Nat) : Prop := ∀ (b K : Nat) (l : List UInt8) (w : World) (D : Int), D + d = 17 → Rg w b l K → l.length ≤ 100000 → K ≤ 1024 →
  Calls Tryd.prog 23 #[.pointer (some ⟨b, 0, none⟩), .int .i64 D] w fun e w' => ItemPost d K l b w e w'

theorem own_fr {w w' : World} {B n size : Nat} {e : TypeId} {v : Value} {xs : List Value} (h : w.ownsRow B e size v n xs) {S : Nat → Prop} (f : Fr S w w') (hs : ∀ j, S j → j < B) : w'.ownsRow B e size v n xs := by
  refine ⟨h.1, ?_⟩
  rcases h.2 with h | ⟨g, cap, cur, hv, hb, hg, hr⟩
  · exact .inl h
  · exact .inr ⟨g, cap, cur, hv, hb, (f.block g (lt_of_block hg) (fun hS => absurd (hs g hS) (Nat.not_lt.2 hb))).trans hg, hr⟩
/-- The row that is being filled, and its variables. -/
structure LM (w wr : World) (ys : List T) (xs : List Value) (sv : Value) : Prop where
  x : I3 wr (w.heap.size + 1) (.string ⟨#[]⟩) (.bool true) sv
  res : I3 wr w.heap.size (.string ⟨#[]⟩) (.bool false) (.slice none 0 0)
  own : wr.ownsRow (w.heap.size + 2) 24 3 sv ys.length xs
  got : Got wr (fun j => w.heap.size + 2 ≤ j ∧ sv.ownBlock ≠ some j) ys xs
theorem LM.fr {w wr w' : World} {ys : List T} {xs : List Value} {sv : Value} (h : LM w wr ys xs sv) {b : Nat} (f : Fr (fun j => j = b) wr w') (hb : b < w.heap.size) : LM w w' ys xs sv :=
  ⟨h.x.fr f (by omega), h.res.fr f (by omega), own_fr h.own f (fun j hj => by omega), h.got.keep f.size (fun g hg hl => ⟨hg, f.block g hl (by omega)⟩)⟩
theorem wpList_append_run {P : Program} {w : World} {ops : Array Oper} {rest : List Oper} {o : Oper} {a : Act} {Q : Exit → Act → World → Prop} (hgd : o.guard = none) (s x : Operand) (t : TypeId)
    (ho : o.op = .call { callee := .builtin .append, args := #[s, x], argTypes := #[t, t] }) (vs vx : Value) (hs : a.eval s = vs) (hx : a.eval x = vx) (v' : Value) (w' : World)
    (hr : (Builtin.append_ #[t, t] o.type #[vs, vx]).run P w = .ok v' w') (h : wpList P ops Q rest (a.put o.dst v') w') : wpList P ops Q (o :: rest) a w :=
  wpList_plain hgd fun K hK => by
    unfold Oper.wp execOp
    simp only [ho, resolve, invoke, builtin, Sem.run_bind, Sem.run_pure, Result.andThen_ok, List.map_toArray, List.map_cons, List.map_nil, hs, hx, hr]
    exact hK _ _ h
theorem own_not {w : World} {B n size : Nat} {e : TypeId} {v : Value} {xs : List Value} (h : w.ownsRow B e size v n xs) {j : Nat} (hj : j < B) : v.ownBlock ≠ some j := fun e => by
  have := (h.lt j e).1
  omega
theorem fr_grown {w w' : World} {v : Value} (g : w.grownBy w' v.ownBlock) : Fr (fun j => v.ownBlock = some j) w w' :=
  ⟨g.os, g.tape, g.output, g.size, fun j hj hn => g.block j hj (fun e => hn e.symm)⟩
theorem I3.set2 {w : World} {g : Nat} {x y z : Value} (h : I3 w g x y z) (u : Value) : I3 (w.setCell ⟨g, 2, none⟩ u) g x y u := (set_cells (i := 2) h u).trans rfl

/-- What the loop of list keeps. -/
structure LL (d K : Nat) (q : List UInt8) (b : Nat) (w wr : World) (ys : List T) (cur : List UInt8) (xs : List Value) (sv : Value) : Prop where
  m : LM w wr ys xs sv
  inv : T.LInv d K q ys cur
  cnt : T.cnts ys + 1 ≤ K
  rg : Rg wr b cur (K - 1 - T.cnts ys)
  fr : Fr (fun j => j = b) w wr

set_option maxRecDepth 20000 in
set_option maxHeartbeats 4000000 in
theorem list_rd (d : Nat) (hIC : ItemC (d - 1)) (b K : Nat) (q : List UInt8) (w : World) (D : Int) (hD : D + d = 17) (hd : 1 ≤ d) (hd17 : d ≤ 17) (hK1 : 1 ≤ K) (hrg : Rg w b q (K - 1)) (hl : q.length ≤ 100000) (hK : K ≤ 1024) :
    Calls Tryd.prog 31 #[.pointer (some ⟨b, 0, none⟩), .int .i64 D] w fun e w' => ItemPost d K (40 :: q) b w e w' := by
  have IC := Lib.hid hIC
  have HD := Lib.hid (And.intro hD hd)
  have HK := Lib.hid (And.intro hK hK1)
  have HL := Lib.hid hl
  have HB := Lib.hid hrg.lt
  have R0 := Lib.hid hrg
  have L0 := Lib.hid (show LL d K q b w ((w.alloc (.cells #[.string ⟨#[]⟩, .bool false, .slice none 0 0] 24)).alloc (.cells #[.string ⟨#[]⟩, .bool true, .slice none 0 0] 24)) [] q [] (.slice none 0 0) from
    ⟨⟨by have := I3.new (w.alloc (.cells #[.string ⟨#[]⟩, .bool false, .slice none 0 0] 24)) (.string ⟨#[]⟩) (.bool true) (.slice none 0 0); rw [size_push] at this; exact this,
     (I3.new w _ _ _).alloc _, World.ownsRow_nil _ _ _ _, Got.nil _ _⟩, T.LInv.start hd, by simpa [T.cnts] using hK1, by simpa [T.cnts] using (hrg.alloc _).alloc _, ((Fr.refl _ w).alloc _).alloc _⟩)
  have hD2 : -100 ≤ D ∧ D ≤ 100 := by omega
  clear hIC hD hd hd17 hK1 hrg hl hK
  go_enter Tryd.func31, Tryd.ntmps31
  go_wp2
  go_loopw [8] (fun _ wr => ∃ ys cur xs sv, LL d K q b w wr ys cur xs sv) (fun _ wr => match wr.cell? ⟨b, 0, none⟩ with | some (.string s) => s.size | _ => 0)
  case atStart => exact ⟨[], q, [], _, L0.out⟩
  case round =>
    obtain ⟨ys, cur, xs, sv, hLL⟩ := hrel
    have LI := Lib.hid hLL
    have hsk := hLL.rg
    clear hLL
    go_wp2_with fail
    refine (skip_any b cur _ 41 _ hsk).mono ?_
    rintro e w1 ⟨rfl, h1, f1⟩
    have M1 := Lib.hid (LI.out.m.fr f1 HB.out)
    have F1 := Lib.hid (LI.out.fr.trans f1)
    have G1 := Lib.hid h1
    clear h1 hsk
    cases hc : cutb cur 41
    case true =>
      obtain ⟨r0, rfl⟩ : ∃ r, cur = 41 :: r := by
        rcases cur with _ | ⟨a, r⟩
        · cases hc
        · exact ⟨r, by rw [of_decide_eq_true hc]⟩
      have G2 := G1.out
      rw [show cutl (41 :: r0) 41 = r0 by simp [cutl]] at G2
      have dn := LI.out.inv.done
      have hin : InP w1 (fun j => w.heap.size + 2 ≤ j) (.mk ⟨#[]⟩ true ys) sv := Got.list (M1.out.got.keep (Nat.le_refl _) (fun g hg _ => ⟨hg.1, rfl⟩)) M1.out.own (fun g hg => (M1.out.own.lt g hg).1) (by have := T.length_le_cnts ys; have := LI.out.cnt; have := HK.out; unfold maxLen; omega) ⟨#[]⟩ (Nat.zero_le _) true
      obtain ⟨sa, sn, sc, rfl⟩ : ∃ a n c, sv = .slice a n c := by
        rcases M1.out.own.2 with ⟨h, _⟩ | ⟨g, cap, cu, h, _⟩
        · exact ⟨_, _, _, h⟩
        · exact ⟨_, _, _, h⟩
      have s0 := M1.out.x.c0
      have s1 := M1.out.x.c1
      have s2 := M1.out.x.c2
      have sl := M1.out.x.lt
      have x0 := M1.out.res.c0
      have x1 := M1.out.res.c1
      have x2 := M1.out.res.c2
      have lx := M1.out.res.lt
      have p0 := M1.out.res.free 0
      have p1 := M1.out.res.free 1
      have p2 := M1.out.res.free 2
      have Q := Lib.hid (show ItemPost d K (40 :: q) b w (.returned (.tuple #[.agg #[.string ⟨#[]⟩, .bool true, .slice sa sn sc], .bool true])) (((w1.setCell ⟨w.heap.size, 0, none⟩ (.string ⟨#[]⟩)).setCell ⟨w.heap.size, 1, none⟩ (.bool true)).setCell ⟨w.heap.size, 2, none⟩ (.slice sa sn sc)) from
        ⟨F1.out.then_ (fr_put (g := w.heap.size) _ _ _) (fun j hj h => by omega), .inl ⟨.mk ⟨#[]⟩ true ys, .slice sa sn sc, r0, rfl, dn.1, by have := LI.out.cnt; simp only [T.cnt]; omega,
          InP.fr hin (fr_put (g := w.heap.size) _ _ _) (fun g hg _ => ⟨by omega, by omega⟩), by
            have e : K - T.cnt (.mk ⟨#[]⟩ true ys) = K - 1 - T.cnts ys := by simp only [T.cnt]; omega
            rw [e]
            exact G2.fr (fr_put (g := w.heap.size) _ _ _) (by have := HB.out; omega), dn.2⟩⟩)
      have Z := Lib.hid (M1.out.res.put (.string ⟨#[]⟩) (.bool true) (.slice sa sn sc))
      clear G2 dn hin hc
      go_wp2_with fail
      have z0 := Z.out.c0
      have z1 := Z.out.c1
      have z2 := Z.out.c2
      refine bodyPost_ret (v := .tuple #[.agg #[.string ⟨#[]⟩, .bool true, .slice sa sn sc], .bool true]) (by simp [results, Tryd.results31, go_sem, z0, z1, z2]) rfl ?_
      exact Q.out
    case false =>
      have hcl : ∀ m, cutb cur m = false → cutl cur m = cur ∧ ∀ l, cur ≠ m :: l := by
        intro m hm
        rcases cur with _ | ⟨a, r⟩
        · exact ⟨rfl, fun l h => by cases h⟩
        · simp only [cutb, decide_eq_false_iff_not] at hm
          exact ⟨by simp [cutl, hm], fun l h => by injection h with h _; exact hm h⟩
      have G2 := G1.out
      rw [(hcl 41 hc).1] at G2
      have HC := Lib.hid (hcl 41 hc).2
      have G1 := Lib.hid G2
      have HCL := Lib.hid hcl
      have HL4 := Lib.hid (show cur.length ≤ 100000 by have h1 := congrArg List.length LI.out.inv.snd; have h2 := HL.out; rw [List.length_append] at h1; omega)
      clear G2 hcl hc
      have s2 := M1.out.x.c2
      have lx1 := M1.out.x.lt
      obtain ⟨sn, sc, rfl⟩ : ∃ a c, sv = .slice a ys.length c := by
        rcases M1.out.own.2 with ⟨h, h0⟩ | ⟨g, cap, cu, h, _⟩
        · exact ⟨none, 0, by rw [h, h0]⟩
        · exact ⟨_, _, h⟩
      by_cases hy : ys = []
      · have t1 : decide (0 < ys.length) = false := by simp [hy]
        have NX := Lib.hid (show T.Nxt ys cur cur from .inl ⟨hy, rfl⟩)
        have HL5 := HL4
        have RG5 := G1
        have M5 := M1
        have F5 := F1
        clear hy
        obtain ⟨w4, hw4⟩ : ∃ w4, w4 = w1 := ⟨_, rfl⟩
        rw [← hw4] at RG5 M5 F5
        subst hw4
        go_wp2_with fail
        refine (IC.out b _ _ _ (D + 1) (by have := HD.out; omega) RG5.out (by have := HL5.out; omega) (by have := HK.out; omega)).mono ?_
        rintro e w5 ⟨f5, h5⟩
        rcases h5 with ⟨y, v, rest, rfl, hs, hcy, hv, hrg, hun⟩ | ⟨rfl, ⟨l', k', hrg⟩, hno⟩
        case inr =>
          have M6 := (M5.out.fr f5 HB.out)
          have NO := Lib.hid (T.LInv.none (LI.out.inv.fail NX.out HC.out hno))
          have FF := (F5.out.trans f5).alloc (.cells #[.string ⟨#[]⟩, .bool false, .slice none 0 0] 24)
          have rr := M6.res.alloc (.cells #[.string ⟨#[]⟩, .bool false, .slice none 0 0] 24)
          have gg := hrg.alloc (.cells #[.string ⟨#[]⟩, .bool false, .slice none 0 0] 24)
          obtain ⟨w6, hw6⟩ : ∃ w6, w6 = w5.alloc (.cells #[.string ⟨#[]⟩, .bool false, .slice none 0 0] 24) := ⟨_, rfl⟩
          unfold ZV
          go_upto_region 7 with fail
          rw [← hw6] at FF rr gg ⊢
          clear M6 f5 hrg hno hw6
          have x0 := rr.c0
          have x1 := rr.c1
          have x2 := rr.c2
          have lx := rr.lt
          have p0 := rr.free 0
          have p1 := rr.free 1
          have p2 := rr.free 2
          have Q := Lib.hid (show ItemPost d K (40 :: q) b w (.returned (.tuple #[ZV, .bool false])) (((w6.setCell ⟨w.heap.size, 0, none⟩ (.string ⟨#[]⟩)).setCell ⟨w.heap.size, 1, none⟩ (.bool false)).setCell ⟨w.heap.size, 2, none⟩ (.slice none 0 0)) from
            ⟨FF.then_ (fr_put (g := w.heap.size) _ _ _) (fun j hj h => by omega), .inr ⟨rfl, ⟨_, _, (gg).fr (fr_put (g := w.heap.size) _ _ _) (by have := HB.out; omega)⟩, NO.out⟩⟩)
          have Z := Lib.hid ((rr).put (.string ⟨#[]⟩) (.bool false) (.slice none 0 0))
          clear FF
          go_wp2_with fail
          have z0 := Z.out.c0
          have z1 := Z.out.c1
          have z2 := Z.out.c2
          refine bodyPost_ret (v := .tuple #[ZV, .bool false]) (by simp [results, Tryd.results31, go_sem, z0, z1, z2, ZV]) rfl ?_
          exact Q.out
        case inl =>
          obtain ⟨vp, vq, rfl⟩ := hv.slice
          have M6 := M5.out.fr f5 HB.out
          have hLI := LI.out.inv.next NX.out HC.out hs hun
          have hxb : w.heap.size + 1 < w4.heap.size := M5.out.x.lt
          have FF := ((F5.out.trans f5).alloc (.cells #[.string (T.s y), .bool (T.l y), .slice vp y.ts.length vq] 24)).alloc (.cells #[.string (T.s y), .bool (T.l y), .slice vp y.ts.length vq] 24)
          have G6 := (hrg.alloc (.cells #[.string (T.s y), .bool (T.l y), .slice vp y.ts.length vq] 24)).alloc (.cells #[.string (T.s y), .bool (T.l y), .slice vp y.ts.length vq] 24)
          have fa : Fr (fun j => j = b) w5 ((w5.alloc (.cells #[.string (T.s y), .bool (T.l y), .slice vp y.ts.length vq] 24)).alloc (.cells #[.string (T.s y), .bool (T.l y), .slice vp y.ts.length vq] 24)) := ((Fr.refl _ w5).alloc _).alloc _
          have M7 := M6.fr fa HB.out
          have j1 := I3.new (w5.alloc (.cells #[.string (T.s y), .bool (T.l y), .slice vp y.ts.length vq] 24)) (.string (T.s y)) (.bool (T.l y)) (.slice vp y.ts.length vq)
          rw [size_push] at j1
          have hy5 := InP.keep (N' := fun j => w4.heap.size ≤ j ∧ j < w5.heap.size) fa.size (fun g hg hl => ⟨⟨hg, hl⟩, fa.block g hl (by have := HB.out; omega)⟩) y _ hv
          obtain ⟨sv', w8, hap, own8, gr8, ob8⟩ := append_item _ (w.heap.size + 2) ys.length (.slice sn ys.length sc) xs M7.own (w5.heap.size + 1) 1 (.string (T.s y)) (.bool (T.l y)) (.slice vp y.ts.length vq) j1.c0 j1.c1 j1.c2 (by intro u hu; simp at hu; rcases hu with rfl | rfl | rfl <;> rfl) (by have := T.length_le_cnts ys; have := LI.out.cnt; have := HK.out; omega) (by have := M7.x.lt; omega) 22
          have f8 := fr_grown gr8
          have nb : ∀ j, j < w.heap.size + 2 → ¬ (Value.slice sn ys.length sc).ownBlock = some j := fun j hj => own_not M7.own hj
          have lv4 : ∀ j, (Value.slice sn ys.length sc).ownBlock = some j → j < w4.heap.size := fun j hj => (M5.out.own.lt j hj).2
          have x8 := M7.x.fr f8 (nb _ (by omega))
          have r8 := M7.res.fr f8 (nb _ (by omega))
          have g8 := G6.fr f8 (nb _ (by have := HB.out; omega))
          have F8 := FF.then_ f8 (fun j hj h => absurd h (nb j (by omega)))
          have hs7 : (((w5.alloc (.cells #[.string (T.s y), .bool (T.l y), .slice vp y.ts.length vq] 24)).alloc (.cells #[.string (T.s y), .bool (T.l y), .slice vp y.ts.length vq] 24))).heap.size = w5.heap.size + 2 := by simp
          have got8 : Got w8 (fun j => w.heap.size + 2 ≤ j ∧ sv'.ownBlock ≠ some j) (ys ++ [y]) (xs ++ [.string (T.s y), .bool (T.l y), .slice vp y.ts.length vq]) := by
            refine Got.more (Got.keep M7.got gr8.size (fun g hg hl => ⟨⟨hg.1, ?_⟩, gr8.block g hl (fun e => hg.2 e.symm)⟩)) M7.own.1 (InP.keep gr8.size (fun g hg hl => ⟨⟨by omega, ?_⟩, gr8.block g hl (fun e => by have := lv4 g e.symm; omega)⟩) y _ hy5)
            · rcases ob8 with e | e
              · rw [e]; exact hg.2
              · rw [e]; intro h; injection h with h; omega
            · rcases ob8 with e | e
              · rw [e]; intro h; have := lv4 g h; omega
              · rw [e]; intro h; injection h with h; rw [hs7] at h; omega
          obtain ⟨w9, hw9⟩ : ∃ w9, w9 = w8.setCell ⟨w.heap.size + 1, 2, none⟩ sv' := ⟨_, rfl⟩
          have f9 : Fr (fun j => j = w.heap.size + 1) w8 w9 := by rw [hw9]; exact fr_set _
          have LN := Lib.hid (show LL d K q b w w9 (ys ++ [y]) rest (xs ++ [.string (T.s y), .bool (T.l y), .slice vp y.ts.length vq]) sv' from by
            refine ⟨⟨by rw [hw9]; exact x8.set2 _, r8.fr f9 (by omega), ?_, got8.keep f9.size (fun g hg hl => ⟨hg, f9.block g hl (by omega)⟩)⟩, hLI, ?_, ?_, F8.then_ f9 (fun j hj h => by omega)⟩
            · rw [List.length_append, List.length_singleton]
              exact own_fr own8 f9 (fun j hj => by omega)
            · rw [T.cnts_append]; simp only [T.cnts]; have := LI.out.cnt; omega
            · have e1 : K - 1 - T.cnts (ys ++ [y]) = K - 1 - T.cnts ys - T.cnt y := by rw [T.cnts_append]; simp only [T.cnts]; omega
              rw [e1]
              exact g8.fr f9 (by have := HB.out; omega))
          have hsh : rest.length < cur.length := by
            have h1 := congrArg List.length hs.1
            obtain ⟨a, l, e, _⟩ := T.shw_head y hs.2.1
            rw [List.length_append, e, List.length_cons] at h1
            rcases NX.out with ⟨_, e2⟩ | ⟨_, e2⟩
            · rw [← e2]; omega
            · rw [e2, List.length_cons]; omega
          have HSH := Lib.hid hsh
          obtain ⟨sva, svn, svc, esv⟩ : ∃ a n c, sv' = .slice a n c := by
            rcases own8.2 with ⟨h, _⟩ | ⟨g, cap, cu, h, _⟩
            · exact ⟨_, _, _, h⟩
            · exact ⟨_, _, _, h⟩
          subst esv
          have sc2 := M7.x.c2
          have sl2 := M7.x.lt
          have y2 := x8.c2
          have y3 := x8.free 2
          have y4 := x8.lt
          have m5 := M6.x.c2
          have m6 := M6.x.lt
          have HW9 := Lib.hid hw9
          have AP := Lib.hid hap
          clear hs hun hv hrg M6 M7 hLI FF G6 fa hy5 own8 gr8 ob8 f8 nb lv4 x8 r8 g8 F8 hs7 got8 f9 hsh hw9 hap f5 j1 hxb
          go_wp2_with (at_builtin; refine wpList_append_run rfl _ _ 22 rfl _ _ rfl rfl _ w8 AP.out ?_)
          rw [← HW9.out]
          have z0 := LN.out.rg.c0
          go_roundw
          case rel => exact ⟨_, _, _, _, LN.out⟩
          case measure =>
            have c0 := LI.out.rg.c0
            have := HSH.out
            simp only [z0, c0, sb_size]
            omega
      · have t1 : decide (0 < ys.length) = true := by
          have : ys.length ≠ 0 := fun h => hy (List.eq_nil_of_length_eq_zero h)
          simp only [decide_eq_true_eq]; omega
        have HY := Lib.hid hy
        clear hy
        go_wp2_with fail
        refine (skip_any b cur _ 32 _ G1.out).mono ?_
        rintro e w2 ⟨rfl, h2, f2⟩
        cases hc2 : cutb cur 32
        case false =>
          have NO := Lib.hid (T.LInv.none (LI.out.inv.blank HY.out HC.out (HCL.out 32 hc2).2))
          have M2 := M1.out.fr f2 HB.out
          have rr := M2.res
          have gg := h2
          have FF := F1.out.trans f2
          clear M2 f2 h2 hc2
          have x0 := rr.c0
          have x1 := rr.c1
          have x2 := rr.c2
          have lx := rr.lt
          have p0 := rr.free 0
          have p1 := rr.free 1
          have p2 := rr.free 2
          have Q := Lib.hid (show ItemPost d K (40 :: q) b w (.returned (.tuple #[ZV, .bool false])) (((w2.setCell ⟨w.heap.size, 0, none⟩ (.string ⟨#[]⟩)).setCell ⟨w.heap.size, 1, none⟩ (.bool false)).setCell ⟨w.heap.size, 2, none⟩ (.slice none 0 0)) from
            ⟨FF.then_ (fr_put (g := w.heap.size) _ _ _) (fun j hj h => by omega), .inr ⟨rfl, ⟨_, _, (gg).fr (fr_put (g := w.heap.size) _ _ _) (by have := HB.out; omega)⟩, NO.out⟩⟩)
          have Z := Lib.hid ((rr).put (.string ⟨#[]⟩) (.bool false) (.slice none 0 0))
          clear FF
          go_wp2_with fail
          have z0 := Z.out.c0
          have z1 := Z.out.c1
          have z2 := Z.out.c2
          refine bodyPost_ret (v := .tuple #[ZV, .bool false]) (by simp [results, Tryd.results31, go_sem, z0, z1, z2, ZV]) rfl ?_
          exact Q.out
        case true =>
          obtain ⟨cur', rfl⟩ : ∃ r, cur = 32 :: r := by
            rcases cur with _ | ⟨a, r⟩
            · cases hc2
            · exact ⟨r, by rw [of_decide_eq_true hc2]⟩
          rw [show cutl (32 :: cur') 32 = cur' by simp [cutl]] at h2
          have NX := Lib.hid (show T.Nxt ys (32 :: cur') cur' from .inr ⟨HY.out, rfl⟩)
          have HL5 := Lib.hid (show cur'.length ≤ 100000 by have := HL4.out; rw [List.length_cons] at this; omega)
          have RG5 := Lib.hid h2
          have M5 := Lib.hid (M1.out.fr f2 HB.out)
          have F5 := Lib.hid (F1.out.trans f2)
          obtain ⟨w4, hw4⟩ : ∃ w4, w4 = w2 := ⟨_, rfl⟩
          rw [← hw4] at RG5 M5 F5
          subst hw4
          clear h2 f2 hc2
          go_wp2_with fail
          refine (IC.out b _ _ _ (D + 1) (by have := HD.out; omega) RG5.out (by have := HL5.out; omega) (by have := HK.out; omega)).mono ?_
          rintro e w5 ⟨f5, h5⟩
          rcases h5 with ⟨y, v, rest, rfl, hs, hcy, hv, hrg, hun⟩ | ⟨rfl, ⟨l', k', hrg⟩, hno⟩
          case inr =>
            have M6 := (M5.out.fr f5 HB.out)
            have NO := Lib.hid (T.LInv.none (LI.out.inv.fail NX.out HC.out hno))
            have FF := (F5.out.trans f5).alloc (.cells #[.string ⟨#[]⟩, .bool false, .slice none 0 0] 24)
            have rr := M6.res.alloc (.cells #[.string ⟨#[]⟩, .bool false, .slice none 0 0] 24)
            have gg := hrg.alloc (.cells #[.string ⟨#[]⟩, .bool false, .slice none 0 0] 24)
            obtain ⟨w6, hw6⟩ : ∃ w6, w6 = w5.alloc (.cells #[.string ⟨#[]⟩, .bool false, .slice none 0 0] 24) := ⟨_, rfl⟩
            unfold ZV
            go_upto_region 7 with fail
            rw [← hw6] at FF rr gg ⊢
            clear M6 f5 hrg hno hw6
            have x0 := rr.c0
            have x1 := rr.c1
            have x2 := rr.c2
            have lx := rr.lt
            have p0 := rr.free 0
            have p1 := rr.free 1
            have p2 := rr.free 2
            have Q := Lib.hid (show ItemPost d K (40 :: q) b w (.returned (.tuple #[ZV, .bool false])) (((w6.setCell ⟨w.heap.size, 0, none⟩ (.string ⟨#[]⟩)).setCell ⟨w.heap.size, 1, none⟩ (.bool false)).setCell ⟨w.heap.size, 2, none⟩ (.slice none 0 0)) from
              ⟨FF.then_ (fr_put (g := w.heap.size) _ _ _) (fun j hj h => by omega), .inr ⟨rfl, ⟨_, _, (gg).fr (fr_put (g := w.heap.size) _ _ _) (by have := HB.out; omega)⟩, NO.out⟩⟩)
            have Z := Lib.hid ((rr).put (.string ⟨#[]⟩) (.bool false) (.slice none 0 0))
            clear FF
            go_wp2_with fail
            have z0 := Z.out.c0
            have z1 := Z.out.c1
            have z2 := Z.out.c2
            refine bodyPost_ret (v := .tuple #[ZV, .bool false]) (by simp [results, Tryd.results31, go_sem, z0, z1, z2, ZV]) rfl ?_
            exact Q.out
          case inl =>
            obtain ⟨vp, vq, rfl⟩ := hv.slice
            have M6 := M5.out.fr f5 HB.out
            have hLI := LI.out.inv.next NX.out HC.out hs hun
            have hxb : w.heap.size + 1 < w4.heap.size := M5.out.x.lt
            have FF := ((F5.out.trans f5).alloc (.cells #[.string (T.s y), .bool (T.l y), .slice vp y.ts.length vq] 24)).alloc (.cells #[.string (T.s y), .bool (T.l y), .slice vp y.ts.length vq] 24)
            have G6 := (hrg.alloc (.cells #[.string (T.s y), .bool (T.l y), .slice vp y.ts.length vq] 24)).alloc (.cells #[.string (T.s y), .bool (T.l y), .slice vp y.ts.length vq] 24)
            have fa : Fr (fun j => j = b) w5 ((w5.alloc (.cells #[.string (T.s y), .bool (T.l y), .slice vp y.ts.length vq] 24)).alloc (.cells #[.string (T.s y), .bool (T.l y), .slice vp y.ts.length vq] 24)) := ((Fr.refl _ w5).alloc _).alloc _
            have M7 := M6.fr fa HB.out
            have j1 := I3.new (w5.alloc (.cells #[.string (T.s y), .bool (T.l y), .slice vp y.ts.length vq] 24)) (.string (T.s y)) (.bool (T.l y)) (.slice vp y.ts.length vq)
            rw [size_push] at j1
            have hy5 := InP.keep (N' := fun j => w4.heap.size ≤ j ∧ j < w5.heap.size) fa.size (fun g hg hl => ⟨⟨hg, hl⟩, fa.block g hl (by have := HB.out; omega)⟩) y _ hv
            obtain ⟨sv', w8, hap, own8, gr8, ob8⟩ := append_item _ (w.heap.size + 2) ys.length (.slice sn ys.length sc) xs M7.own (w5.heap.size + 1) 1 (.string (T.s y)) (.bool (T.l y)) (.slice vp y.ts.length vq) j1.c0 j1.c1 j1.c2 (by intro u hu; simp at hu; rcases hu with rfl | rfl | rfl <;> rfl) (by have := T.length_le_cnts ys; have := LI.out.cnt; have := HK.out; omega) (by have := M7.x.lt; omega) 22
            have f8 := fr_grown gr8
            have nb : ∀ j, j < w.heap.size + 2 → ¬ (Value.slice sn ys.length sc).ownBlock = some j := fun j hj => own_not M7.own hj
            have lv4 : ∀ j, (Value.slice sn ys.length sc).ownBlock = some j → j < w4.heap.size := fun j hj => (M5.out.own.lt j hj).2
            have x8 := M7.x.fr f8 (nb _ (by omega))
            have r8 := M7.res.fr f8 (nb _ (by omega))
            have g8 := G6.fr f8 (nb _ (by have := HB.out; omega))
            have F8 := FF.then_ f8 (fun j hj h => absurd h (nb j (by omega)))
            have hs7 : (((w5.alloc (.cells #[.string (T.s y), .bool (T.l y), .slice vp y.ts.length vq] 24)).alloc (.cells #[.string (T.s y), .bool (T.l y), .slice vp y.ts.length vq] 24))).heap.size = w5.heap.size + 2 := by simp
            have got8 : Got w8 (fun j => w.heap.size + 2 ≤ j ∧ sv'.ownBlock ≠ some j) (ys ++ [y]) (xs ++ [.string (T.s y), .bool (T.l y), .slice vp y.ts.length vq]) := by
              refine Got.more (Got.keep M7.got gr8.size (fun g hg hl => ⟨⟨hg.1, ?_⟩, gr8.block g hl (fun e => hg.2 e.symm)⟩)) M7.own.1 (InP.keep gr8.size (fun g hg hl => ⟨⟨by omega, ?_⟩, gr8.block g hl (fun e => by have := lv4 g e.symm; omega)⟩) y _ hy5)
              · rcases ob8 with e | e
                · rw [e]; exact hg.2
                · rw [e]; intro h; injection h with h; omega
              · rcases ob8 with e | e
                · rw [e]; intro h; have := lv4 g h; omega
                · rw [e]; intro h; injection h with h; rw [hs7] at h; omega
            obtain ⟨w9, hw9⟩ : ∃ w9, w9 = w8.setCell ⟨w.heap.size + 1, 2, none⟩ sv' := ⟨_, rfl⟩
            have f9 : Fr (fun j => j = w.heap.size + 1) w8 w9 := by rw [hw9]; exact fr_set _
            have LN := Lib.hid (show LL d K q b w w9 (ys ++ [y]) rest (xs ++ [.string (T.s y), .bool (T.l y), .slice vp y.ts.length vq]) sv' from by
              refine ⟨⟨by rw [hw9]; exact x8.set2 _, r8.fr f9 (by omega), ?_, got8.keep f9.size (fun g hg hl => ⟨hg, f9.block g hl (by omega)⟩)⟩, hLI, ?_, ?_, F8.then_ f9 (fun j hj h => by omega)⟩
              · rw [List.length_append, List.length_singleton]
                exact own_fr own8 f9 (fun j hj => by omega)
              · rw [T.cnts_append]; simp only [T.cnts]; have := LI.out.cnt; omega
              · have e1 : K - 1 - T.cnts (ys ++ [y]) = K - 1 - T.cnts ys - T.cnt y := by rw [T.cnts_append]; simp only [T.cnts]; omega
                rw [e1]
                exact g8.fr f9 (by have := HB.out; omega))
            have hsh : rest.length < (32 :: cur').length := by
              have h1 := congrArg List.length hs.1
              obtain ⟨a, l, e, _⟩ := T.shw_head y hs.2.1
              rw [List.length_append, e, List.length_cons] at h1
              rw [List.length_cons]
              omega
            have HSH := Lib.hid hsh
            obtain ⟨sva, svn, svc, esv⟩ : ∃ a n c, sv' = .slice a n c := by
              rcases own8.2 with ⟨h, _⟩ | ⟨g, cap, cu, h, _⟩
              · exact ⟨_, _, _, h⟩
              · exact ⟨_, _, _, h⟩
            subst esv
            have sc2 := M7.x.c2
            have sl2 := M7.x.lt
            have y2 := x8.c2
            have y3 := x8.free 2
            have y4 := x8.lt
            have m5 := M6.x.c2
            have m6 := M6.x.lt
            have HW9 := Lib.hid hw9
            have AP := Lib.hid hap
            clear hs hun hv hrg M6 M7 hLI FF G6 fa hy5 own8 gr8 ob8 f8 nb lv4 x8 r8 g8 F8 hs7 got8 f9 hsh hw9 hap f5 j1 hxb
            go_wp2_with (at_builtin; refine wpList_append_run rfl _ _ 22 rfl _ _ rfl rfl _ w8 AP.out ?_)
            rw [← HW9.out]
            have z0 := LN.out.rg.c0
            go_roundw
            case rel => exact ⟨_, _, _, _, LN.out⟩
            case measure =>
              have c0 := LI.out.rg.c0
              have := HSH.out
              simp only [z0, c0, sb_size]
              omega
end Go.Proofs.YtdkeickcbpjedaaDoor
