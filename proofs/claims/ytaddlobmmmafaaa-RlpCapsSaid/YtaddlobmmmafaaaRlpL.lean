/-
  The contract of package rlp's close over this seat's translation. Conditions: bytes of at most 1,000,000; an item of at most 2,000 items.
-/
import Derived.Test.YtaddlobmmmafaaaRlpK
import Derived.Deep.Cut
import Derived.Deep.CutRange
namespace Go.Proofs.Ytaddlobmmmafaaa
open Go.RowKit

theorem pf_cons (f : Fo) (r : List Fo) : pf (f :: r) = (f.done, f.todo) :: pf r := rfl
/-- Stores into two blocks may change places. -/
theorem setCell_swap {g h i j : Nat} (w : World) (u v : Value) (hn : h ≠ g) : (w.setCell ⟨g, i, none⟩ u).setCell ⟨h, j, none⟩ v = (w.setCell ⟨h, j, none⟩ v).setCell ⟨g, i, none⟩ u := by
  simp only [World.setCell]
  congr 1
  apply Array.ext_getElem?
  intro k
  simp only [Array.getElem?_modify]
  by_cases h1 : h = k
  · subst h1
    rw [if_pos rfl, if_neg (Ne.symm hn), if_neg (Ne.symm hn), if_pos rfl]
  · rw [if_neg h1, if_neg h1]
/-- What the loop of close keeps, with at most g rounds to come. -/
structure Cl (B : Nat) (X : Nat → Prop) (w wr : World) (b : Nat) (s : ByteArray) (at_ : Nat) (depth left : Int) (F0 : List Fo) (sv0 : Value) (x0 : T) (g : Nat) (F : List Fo) (sv : Value) (x : T) (vx : Value) : Prop where
  rs : Rs B (fun j => X j ∨ j = w.heap.size ∨ j = w.heap.size + 1) wr b s at_ depth left F sv
  bx : I3 wr w.heap.size (.string x.s) (.bool x.l) vx
  res : I3 wr (w.heap.size + 1) (.string ⟨#[]⟩) (.bool false) (.slice none 0 0)
  it : InP wr (Nn B (fun j => X j ∨ j = w.heap.size ∨ j = w.heap.size + 1) sv F) x vx
  plug : T.plug (pf F) x = T.plug (pf F0) x0
  ends : Ends F at_
  outs : ∀ dp l, T.outs dp (pf F0) l = T.outs dp (pf F) l
  tail : T.tail (pf F0) = T.tail (pf F)
  len : F.length ≤ g
  fr : Fr (fun j => j = b ∨ Ow sv0 F0 j) w wr
  ow : ∀ j, Ow sv F j → Ow sv0 F0 j ∨ w.heap.size ≤ j

theorem Cl.bel {B : Nat} {X : Nat → Prop} {w wr w' : World} {b : Nat} {s : ByteArray} {at_ : Nat} {depth left : Int} {F0 : List Fo} {sv0 : Value} {x0 : T} {g : Nat} {F : List Fo} {sv : Value} {x : T} {vx : Value}
    (h : Cl B X w wr b s at_ depth left F0 sv0 x0 g F sv x vx) (f : Below wr.heap.size wr w') : Cl B X w w' b s at_ depth left F0 sv0 x0 g F sv x vx :=
  ⟨h.rs.bel f, h.bx.bel f, h.res.bel f, InP.keep f.size (fun j hj hl => ⟨hj, f.block j hl⟩) x _ h.it, h.plug, h.ends, h.outs, h.tail, h.len, h.fr.then_ (Fr.ofBelow (S := fun _ => False) f) (fun _ _ e => e.elim), h.ow⟩
/-- The inmost row has got the item. -/
def Grown (B : Nat) (X : Nat → Prop) (w : World) (b : Nat) (s : ByteArray) (at_ : Nat) (depth left : Int) (F : List Fo) (sv : Value) (x1 : T) (vp : Option Addr) (vp' g c : Nat) (f : Fo) (r : List Fo) (wc : World) : Prop :=
  ∃ h hc xs, Rs B (fun j => X j ∨ j = w.heap.size ∨ j = w.heap.size + 1) wc b s at_ depth left (⟨f.e, f.done ++ [x1], f.todo, .slice (some ⟨h, 0, none⟩) (f.done.length + 1) hc, xs⟩ :: r) (.slice (some ⟨g, 0, none⟩) (r.length + 1) c) ∧
    f.done.length + 1 ≤ hc ∧ I3 wc w.heap.size (.string x1.s) (.bool x1.l) (.slice vp x1.ts.length vp') ∧ I3 wc (w.heap.size + 1) (.string ⟨#[]⟩) (.bool false) (.slice none 0 0) ∧ Fr (fun j => j = b ∨ Ow sv F j) w wc ∧
    ∀ j, Ow (.slice (some ⟨g, 0, none⟩) (r.length + 1) c) (⟨f.e, f.done ++ [x1], f.todo, .slice (some ⟨h, 0, none⟩) (f.done.length + 1) hc, xs⟩ :: r) j → Ow sv F j ∨ w.heap.size ≤ j
theorem Grown.mk' {B : Nat} {X : Nat → Prop} {w w1 w8 w9 : World} {b : Nat} {s : ByteArray} {at_ : Nat} {depth left : Int} {F : List Fo} {sv : Value} {x1 : T} {vp : Option Addr} {vp' g c h hc : Nat} {f : Fo} {r : List Fo}
    (R : Rs B (fun j => X j ∨ j = w.heap.size ∨ j = w.heap.size + 1) w1 b s at_ depth left (f :: r) (.slice (some ⟨g, 0, none⟩) (r.length + 1) c)) (F1 : Fr (fun j => j = b ∨ Ow sv F j) w w1)
    (I1 : I3 w1 w.heap.size (.string x1.s) (.bool x1.l) (.slice vp x1.ts.length vp')) (I4 : I3 w1 (w.heap.size + 1) (.string ⟨#[]⟩) (.bool false) (.slice none 0 0))
    (T1 : InP w1 (Nn B (fun j => X j ∨ j = w.heap.size ∨ j = w.heap.size + 1) (.slice (some ⟨g, 0, none⟩) (r.length + 1) c) (f :: r)) x1 (.slice vp x1.ts.length vp'))
    (how : ∀ j, Ow (.slice (some ⟨g, 0, none⟩) (r.length + 1) c) (f :: r) j → Ow sv F j ∨ w.heap.size ≤ j) {o : Obj}
    (hX : ∀ j, w1.heap.size ≤ j → ¬ X j)
    (fg : Fr (fun j => f.sv.ownBlock = some j) (w1.alloc o) w8) (fh : Fr (fun j => j = h) w8 w9) (ob : (Value.slice (some ⟨h, 0, none⟩) (f.done.length + 1) hc).ownBlock = f.sv.ownBlock ∨ (Value.slice (some ⟨h, 0, none⟩) (f.done.length + 1) hc).ownBlock = some (w1.alloc o).heap.size)
    (own : w9.ownsRow B 24 3 (.slice (some ⟨h, 0, none⟩) (f.done.length + 1) hc) (f.done.length + 1) (f.xs ++ [.string x1.s, .bool x1.l, .slice vp x1.ts.length vp'])) :
    Grown B X w b s at_ depth left F sv x1 vp vp' g c f r (w9.setCell ⟨g, r.length * 2 + 1, none⟩ (.slice (some ⟨h, 0, none⟩) (f.done.length + 1) hc)) := by
  have hl1 := I1.lt
  have hl4 := I4.lt
  have hw := F1.size
  have hh : f.sv.ownBlock = some h ∨ h = w1.heap.size + 1 := by
    rcases ob with e | e
    · exact .inl e.symm
    · rw [size_push] at e; injection e with e; exact .inr e
  have fall : Fr (fun j => f.sv.ownBlock = some j) w1 w9 := by
    refine ((Fr.refl (fun j => f.sv.ownBlock = some j) w1).alloc o |>.trans fg).then_ fh ?_
    rintro j hj rfl
    rcases hh with e | e
    · exact e
    · omega
  have G := R.grow (w' := w9) T1 (.slice (some ⟨h, 0, none⟩) (f.done.length + 1) hc) own fall (by
    rcases ob with e | e
    · exact .inl e
    · refine .inr fun j hj => ?_
      rw [e] at hj
      rw [size_push] at hj
      injection hj with hj
      omega) (fun j hj e => by
        rcases e with e | e | e
        · exact hX j hj e
        · omega
        · omega)
  have n2 : ∀ j, f.sv.ownBlock = some j ∨ j = g → j ≠ w.heap.size ∧ j ≠ w.heap.size + 1 := fun j e => by
    have h1 : ¬ (X j ∨ j = w.heap.size ∨ j = w.heap.size + 1) := R.nx j (e.elim (fun e => .inr ⟨f, List.mem_cons_self, e⟩) (fun e => .inl (by rw [e]; rfl)))
    exact ⟨fun e => h1 (.inr (.inl e)), fun e => h1 (.inr (.inr e))⟩
  refine ⟨h, hc, _, G.1, ?_, I1.fr G.2 (fun e => (n2 _ e).1 rfl), I4.fr G.2 (fun e => (n2 _ e).2 rfl), F1.then_ G.2 ?_, ?_⟩
  · rcases own.2 with ⟨e, _⟩ | ⟨_, cap, _, e, _, _, hcap, _⟩
    · cases e
    · injection e with _ _ e; rw [e]; exact hcap
  · rintro j hj e
    rcases how j (e.elim (fun e => .inr ⟨f, List.mem_cons_self, e⟩) (fun e => .inl (by rw [e]; rfl))) with e' | e'
    · exact .inr e'
    · omega
  · rintro j (e | ⟨q, hq, e⟩)
    · exact how j (.inl e)
    · rcases List.mem_cons.1 hq with rfl | hq
      · have e : h = j := by injection e
        rcases hh with e' | e'
        · exact how j (.inr ⟨f, List.mem_cons_self, e ▸ e'⟩)
        · right; omega
      · exact how j (.inr ⟨q, List.mem_cons_of_mem _ hq, e⟩)

/-- What is still to come isn't in memory. -/
theorem Rs.retodo {B : Nat} {X : Nat → Prop} {w : World} {b : Nat} {s : ByteArray} {at_ : Nat} {depth left : Int} {e : Nat} {d t t' : List T} {v : Value} {xs : List Value} {r : List Fo} {sv : Value}
    (h : Rs B X w b s at_ depth left (⟨e, d, t, v, xs⟩ :: r) sv) : Rs B X w b s at_ depth left (⟨e, d, t', v, xs⟩ :: r) sv := by
  have ow : ∀ j, Ow sv (⟨e, d, t', v, xs⟩ :: r) j → Ow sv (⟨e, d, t, v, xs⟩ :: r) j := by
    rintro j (h | ⟨q, hq, h⟩)
    · exact .inl h
    · rcases List.mem_cons.1 hq with rfl | hq
      · exact .inr ⟨_, List.mem_cons_self, h⟩
      · exact .inr ⟨q, List.mem_cons_of_mem _ hq, h⟩
  have ow' : ∀ j, Ow sv (⟨e, d, t, v, xs⟩ :: r) j → Ow sv (⟨e, d, t', v, xs⟩ :: r) j := by
    rintro j (h | ⟨q, hq, h⟩)
    · exact .inl h
    · rcases List.mem_cons.1 hq with rfl | hq
      · exact .inr ⟨_, List.mem_cons_self, h⟩
      · exact .inr ⟨q, List.mem_cons_of_mem _ hq, h⟩
  have nn : ∀ j, Nn B X sv (⟨e, d, t, v, xs⟩ :: r) j → j < w.heap.size → Nn B X sv (⟨e, d, t', v, xs⟩ :: r) j ∧ w.heap[j]? = w.heap[j]? := fun j hj _ => ⟨⟨hj.1, hj.2.1, fun h => hj.2.2 (ow j h)⟩, rfl⟩
  have hp := List.pairwise_cons.1 h.apart
  refine ⟨h.r, h.bB, h.own, ?_, List.pairwise_cons.2 ⟨hp.1, hp.2⟩, ?_, fun j hj => h.nx j (ow j hj), h.sz⟩
  · intro q hq
    rcases List.mem_cons.1 hq with rfl | hq
    · have := h.rows _ List.mem_cons_self
      exact ⟨this.1, this.2.keep (Nat.le_refl _) nn⟩
    · have := h.rows q (List.mem_cons_of_mem _ hq)
      exact ⟨this.1, this.2.keep (Nat.le_refl _) nn⟩
  · intro q hq
    rcases List.mem_cons.1 hq with rfl | hq
    · exact h.stk ⟨e, d, t, v, xs⟩ List.mem_cons_self
    · exact h.stk q (List.mem_cons_of_mem _ hq)

/-- What close answers and leaves. -/
def ClosePost (B : Nat) (X : Nat → Prop) (b : Nat) (s : ByteArray) (at_ : Nat) (depth left : Int) (F : List Fo) (sv : Value) (x : T) (w : World) (e : Ending) (w' : World) : Prop :=
  Fr (fun j => j = b ∨ Ow sv F j) w w' ∧
  ((∃ f r z sv', e = .returned (.tuple #[ZV, .bool false]) ∧ Rs B X w' b s at_ depth left (f :: r) sv' ∧ T.plug (pf (f :: r)) z = T.plug (pf F) x ∧ (∀ dp l, T.outs dp (pf F) l = T.out dp (pf (f :: r)) z l) ∧
      T.tail (pf F) = T.put z ++ T.tail (pf (f :: r)) ∧ Ends (f :: r) (at_ + (T.put z).length)) ∨
   (∃ vX sv', e = .returned (.tuple #[.agg #[.string (T.plug (pf F) x).s, .bool (T.plug (pf F) x).l, vX], .bool true]) ∧ InP w' (fun j => ¬ X j) (T.plug (pf F) x) vX ∧ T.tail (pf F) = [] ∧ (∀ dp l, T.outs dp (pf F) l = .ok l) ∧ R5 w' b s at_ depth left sv'))

section
variable {B b at_ : Nat} {X : Nat → Prop} {w : World} {s : ByteArray} {depth left : Int} {F : List Fo} {sv : Value}
set_option maxRecDepth 20000 in
set_option maxHeartbeats 2000000 in
theorem close_any (h : Rs B X w b s at_ depth left F sv) (x : T) (vx : Value) (hx : InP w (Nn B X sv F) x vx) (he : Ends F at_) (hc : T.cnt (T.plug (pf F) x) ≤ 2000) (hX : ∀ j, w.heap.size ≤ j → ¬ X j) :
    Calls Try.prog 36 #[.pointer (some ⟨b, 0, none⟩), .agg #[.string x.s, .bool x.l, vx]] w fun e w' => ClosePost B X b s at_ depth left F sv x w e w' := by
  have hbl := h.r.lt
  obtain ⟨p, p', rfl⟩ := hx.slice
  have C0 : Cl B X w ((w.alloc (.cells #[.string x.s, .bool x.l, .slice p x.ts.length p'] 24)).alloc (.cells #[.string ⟨#[]⟩, .bool false, .slice none 0 0] 24)) b s at_ depth left F sv x F.length F sv x (.slice p x.ts.length p') := by
    have bb := bel2 w (.cells #[.string x.s, .bool x.l, .slice p x.ts.length p'] 24) (.cells #[.string ⟨#[]⟩, .bool false, .slice none 0 0] 24)
    refine ⟨(h.more (Y := fun j => X j ∨ j = w.heap.size ∨ j = w.heap.size + 1) (fun j hj e => e.elim id fun e => by omega)).bel bb, (I3.new w _ _ _).alloc _, ?_, ?_, rfl, he, fun _ _ => rfl, rfl, Nat.le_refl _, Fr.ofBelow bb, fun j hj => .inl hj⟩
    · have := I3.new (w.alloc (.cells #[.string x.s, .bool x.l, .slice p x.ts.length p'] 24)) (.string ⟨#[]⟩) (.bool false) (.slice none 0 0)
      rwa [size_push] at this
    · exact InP.keep bb.size (fun j hj hl => ⟨⟨hj.1, fun e => e.elim hj.2.1 (fun e => by omega), hj.2.2⟩, bb.block j hl⟩) x _ hx
  have C0 := Lib.hid C0
  have HB := Lib.hid h.bB
  have HXX := Lib.hid hX
  clear h hx he hX
  go_enter Try.func36, Try.ntmps36
  go_wp2
  go_loopg [6] F.length (fun g _ wr => ∃ F' sv' x' vx', Cl B X w wr b s at_ depth left F sv x g F' sv' x' vx')
  case atStart => exact ⟨_, _, _, _, C0.out⟩
  case round =>
    obtain ⟨F1, sv1, x1, vx1, hC⟩ := hrel
    have HC := Lib.hid hC
    have c4 := hC.rs.r.c4
    have lb := hC.rs.r.lt
    obtain ⟨vp, vp', rfl⟩ := hC.it.slice
    have y0 := hC.bx.c0
    have y1 := hC.bx.c1
    have y2 := hC.bx.c2
    have yl := hC.bx.lt
    rcases F1 with _ | ⟨f, r⟩
    · obtain ⟨a, c, rfl⟩ := hC.rs.own.slice
      simp only [List.map_nil, List.length_nil] at c4
      have q0 := hC.res.c0
      have q1 := hC.res.c1
      have q2 := hC.res.c2
      have k0 := hC.res.free 0
      have k1 := hC.res.free 1
      have k2 := hC.res.free 2
      have ql := hC.res.lt
      have hpl : x1 = T.plug (pf F) x := hC.plug
      have f3 : Fr (fun j => j = w.heap.size + 1) wr (((wr.setCell ⟨w.heap.size + 1, 0, none⟩ (.string x1.s)).setCell ⟨w.heap.size + 1, 1, none⟩ (.bool x1.l)).setCell ⟨w.heap.size + 1, 2, none⟩ (.slice vp x1.ts.length vp')) := fr_three
      have Q := Lib.hid (And.intro (hC.res.put (.string x1.s) (.bool x1.l) (.slice vp x1.ts.length vp')) (show ClosePost B X b s at_ depth left F sv x w (.returned (.tuple #[.agg #[.string x1.s, .bool x1.l, .slice vp x1.ts.length vp'], .bool true])) (((wr.setCell ⟨w.heap.size + 1, 0, none⟩ (.string x1.s)).setCell ⟨w.heap.size + 1, 1, none⟩ (.bool x1.l)).setCell ⟨w.heap.size + 1, 2, none⟩ (.slice vp x1.ts.length vp')) from by
        refine ⟨hC.fr.then_ f3 (fun j hj e => by omega), .inr ⟨.slice vp x1.ts.length vp', _, by rw [hpl], ?_, hC.tail, fun dp l => hC.outs dp l, hC.rs.r.keep (f3.block b lb (by omega))⟩⟩
        rw [← hpl]
        exact InP.keep (N' := fun j => ¬ X j) f3.size (fun j hj hl => ⟨fun hx => hj.2.1 (.inl hx), f3.block j hl (fun e => hj.2.1 (.inr (.inr e)))⟩) x1 _ hC.it))
      clear hC C0 hpl f3
      go_wp2_with fail
      have z0 := Q.out.1.c0
      have z1 := Q.out.1.c1
      have z2 := Q.out.1.c2
      refine bodyPost_ret (v := .tuple #[.agg #[.string x1.s, .bool x1.l, .slice vp x1.ts.length vp'], .bool true]) (by simp [results, Try.results36, go_sem, z0, z1, z2]) rfl ?_
      exact Q.out.2
    · obtain ⟨g, c, rfl, h2, g0, g1, gf, gB, gl⟩ := hC.rs.top
      have hrl : r.length ≤ 2000 := by
        have h1 := cnt_plug (pf (f :: r)) x1
        rw [hC.plug, pf_length, List.length_cons] at h1
        omega
      have hdl : f.done.length ≤ 2000 := by
        have h1 := cnt_top f.done f.todo (pf r) x1
        have h3 := hC.plug
        simp only [pf, List.map_cons] at h1 h3
        rw [h3] at h1
        have := T.length_le_cnts f.done
        unfold pf at hc
        omega
      have HDL := Lib.hid hdl
      clear hC C0 hdl
      go_upto_region 2 with fail
      go_quiet (fail)
      have C1 := HC.out.bel (show Below wr.heap.size wr (wr.drewN nq) from below_drewN (Below.refl _ _) nq)
      obtain ⟨w0, hw0⟩ : ∃ w0, w0 = wr.drewN nq := ⟨_, rfl⟩
      rw [← hw0] at C1 ⊢
      have HR1 := Lib.hid (C1.rs.bel (Below.refl _ _).drew)
      have HG1 := Lib.hid (show w0.drew.cell? ⟨g, r.length * 2 + 1, none⟩ = some f.sv from by
        have : w0.cell? ⟨g, r.length * 2 + 1, none⟩ = some f.sv := by rw [hw0]; exact g1
        exact this)
      have HI1 := Lib.hid (C1.bx.bel (show Below w0.heap.size w0 w0.drew from (Below.refl _ _).drew))
      have HI4 := Lib.hid (C1.res.bel (show Below w0.heap.size w0 w0.drew from (Below.refl _ _).drew))
      have HF1 := Lib.hid (C1.fr.drew)
      have HT1 := Lib.hid (InP.keep (w := w0) (w' := w0.drew) (Nat.le_refl _) (fun j hj _ => ⟨hj, rfl⟩) x1 _ C1.it)
      have HOW := Lib.hid C1.ow
      clear hw0 g0 g1 gf gl c4 lb y0 y1 y2 yl C1
      go_upto_region 3 with fail
      go_cut [6] from 7 to 74 (fun p6 wc => p6 = .pointer (some ⟨g, r.length * 2, none⟩) ∧ Grown B X w b s at_ depth left F sv x1 vp vp' g c f r wc)
      case first =>
      --WALK
        refine wp_region_held_drew (S := (fun W => I3 W w.heap.size (.string x1.s) (.bool x1.l) (.slice vp x1.ts.length vp'))) (by kernel_rfl) HI1.out (fun hHeld => ?_)
        have R1 := HR1.out
        have G1 := HG1.out
        obtain ⟨w1, hw1⟩ : ∃ w1, w1 = w0.drew := ⟨_, rfl⟩
        rw [← hw1] at R1 G1 hHeld ⊢
        have F1 : Fr (fun j => j = b ∨ Ow sv F j) w w1 := by rw [hw1]; exact HF1.out
        have I4 : I3 w1 (w.heap.size + 1) (.string ⟨#[]⟩) (.bool false) (.slice none 0 0) := by rw [hw1]; exact HI4.out
        have T1 : InP w1 (Nn B (fun j => X j ∨ j = w.heap.size ∨ j = w.heap.size + 1) (.slice (some ⟨g, 0, none⟩) (r.length + 1) c) (f :: r)) x1 (.slice vp x1.ts.length vp') := by rw [hw1]; exact HT1.out
        have ST := Lib.hid (And.intro R1 (And.intro F1 (And.intro I4 T1)))
        have gl1 := R1.own.block g rfl
        have HS1 := Lib.hid hHeld
        have NG := Lib.hid (show g ≠ w.heap.size from fun e => R1.nx g (.inl rfl) (.inr (.inl e)))
        obtain ⟨fa, fc, hfs⟩ : ∃ fa fc, f.sv = .slice fa f.done.length fc := by
          rcases (R1.rows f List.mem_cons_self).1.2 with ⟨h, h0⟩ | ⟨_, _, _, h, _⟩
          · exact ⟨_, _, by rw [h, h0]⟩
          · exact ⟨_, _, h⟩
        have HFS := Lib.hid hfs
        have OWN1 := Lib.hid (show w1.ownsRow B 24 3 (.slice fa f.done.length fc) f.done.length f.xs from hfs ▸ (R1.rows f List.mem_cons_self).1)
        rw [hfs] at G1
        clear hfs
        clear hw1 R1 F1 I4 T1
        refine held_take 0 24 (v := .pointer (some ⟨g, r.length * 2, none⟩)) rfl rfl (by kernel_rfl) (by kernel_rfl) (by kernel_rfl) (fun _ _ _ h => h) (by rfl) ?hyc1 hHeld ?restc1
        case hyc1 => (intro w hSw; clear hSw; go_simp; try with_reducible rfl)
        try simp only [Act.put, List.setIfInBounds_toArray, List.set_cons_zero, List.set_cons_succ]
        refine held_take 1 25 (v := .pointer (some ⟨g, r.length * 2, none⟩)) rfl rfl (by kernel_rfl) (by kernel_rfl) (by kernel_rfl) (fun _ _ _ h => h) (by rfl) ?hyc2 hHeld ?restc2
        case hyc2 => (intro w hSw; clear hSw; go_simp; try with_reducible rfl)
        try simp only [Act.put, List.setIfInBounds_toArray, List.set_cons_zero, List.set_cons_succ]
        refine held_take 2 26 (v := .pointer (some ⟨g, r.length * 2 + 1, none⟩)) rfl rfl (by kernel_rfl) (by kernel_rfl) (by kernel_rfl) (fun _ _ _ h => h) (by rfl) ?hyc3 hHeld ?restc3
        case hyc3 => (intro w hSw; clear hSw; go_simp; try with_reducible rfl)
        try simp only [Act.put, List.setIfInBounds_toArray, List.set_cons_zero, List.set_cons_succ]
        refine held_take 4 28 (v := .agg #[.string x1.s, .bool x1.l, .slice vp x1.ts.length vp']) rfl rfl (by kernel_rfl) (by kernel_rfl) (by kernel_rfl) (fun _ _ _ h => h) (by rfl) ?hyc4 hHeld ?restc4
        case hyc4 => (intro w hSw; have hS0 := hSw.c0; have hS1 := hSw.c1; have hS2 := hSw.c2; have hSl := hSw.lt; clear hSw; go_simp; try with_reducible rfl)
        try simp only [Act.put, List.setIfInBounds_toArray, List.set_cons_zero, List.set_cons_succ]
        refine wpAnyH_ready (rs := [3, 6]) (by kernel_rfl) (by simp) ?_
        refine AllReadyH.cons rfl (fun K hK => ?_) (AllReadyH.cons rfl (fun K hK => ?_) AllReadyH.nil)
        · go_simp
          refine hK.out _ _ hHeld (fun hHeld => ?_)
          clear hK K
          try simp only [Act.put, List.setIfInBounds_toArray, List.set_cons_zero, List.set_cons_succ]
          refine held_take 5 29 (v := .int .i64 (f.done.length : Nat)) rfl rfl (by kernel_rfl) (by kernel_rfl) (by kernel_rfl) (fun _ _ _ h => h) (by rfl) ?hyc8 hHeld ?restc8
          case hyc8 => (intro w hSw; clear hSw; go_simp; try with_reducible rfl)
          try simp only [Act.put, List.setIfInBounds_toArray, List.set_cons_zero, List.set_cons_succ]
          refine wpAnyH_ready (rs := [6]) (by kernel_rfl) (by simp) ?_
          refine AllReadyH.cons rfl (fun K hK => ?_) AllReadyH.nil
          go_simp
          refine hK.out _ _ (hHeld.alloc (.cells #[.string ⟨#[]⟩, .bool false, .slice none 0 0] 24)) (fun hHeld => ?_)
          clear hK K
          try simp only [Act.put, List.setIfInBounds_toArray, List.set_cons_zero, List.set_cons_succ]
          have HS2 := hHeld
          have ap := append_item (w1.alloc (.cells #[.string ⟨#[]⟩, .bool false, .slice none 0 0] 24)) B f.done.length (.slice fa f.done.length fc) f.xs (OWN1.out.alloc _) w1.heap.size 1 (.string ⟨#[]⟩) (.bool false) (.slice none 0 0) (box0 _ _ _ _ _) (box1 _ _ _ _ _) (box2 _ _ _ _ _) (by intro u hu; simp at hu; rcases hu with rfl | rfl | rfl <;> rfl) (by have := HDL.out; omega) (by have := ST.out.1.sz; rw [size_push]; omega) 22
          obtain ⟨v', w8, hap, own8, gr8, ob8⟩ := ap
          obtain ⟨h, hc, rfl⟩ : ∃ h hc, v' = .slice (some ⟨h, 0, none⟩) (f.done.length + 1) hc := by
            rcases own8.2 with ⟨_, h0⟩ | ⟨h, hc, _, hv, _⟩
            · omega
            · exact ⟨h, hc, hv⟩
          have fg8 : Fr (fun j => f.sv.ownBlock = some j) (w1.alloc (.cells #[.string ⟨#[]⟩, .bool false, .slice none 0 0] 24)) w8 := by rw [HFS.out]; exact fr_grown gr8
          rw [← HFS.out] at ob8
          have n1 : f.sv.ownBlock ≠ some g := fun e => ST.out.1.stk f List.mem_cons_self g e rfl
          have n2 : ∀ j, f.sv.ownBlock = some j → j ≠ w.heap.size ∧ j ≠ w.heap.size + 1 ∧ j ≠ b := fun j e => by
            have h1 := ST.out.1.nx j (.inr ⟨f, List.mem_cons_self, e⟩)
            have h2 := (ST.out.1.rows f List.mem_cons_self).1.lt j e
            have h3 := ST.out.1.bB
            exact ⟨fun e => h1 (.inr (.inl e)), fun e => h1 (.inr (.inr e)), by omega⟩
          have hx1 := hHeld.lt
          have n3 : h ≠ g ∧ h ≠ w.heap.size ∧ h ≠ w.heap.size + 1 := by
            rcases ob8 with e | e
            · have e : f.sv.ownBlock = some h := e.symm
              exact ⟨fun e2 => n1 (e2 ▸ e), (n2 h e).1, (n2 h e).2.1⟩
            · injection e with e
              have h4 := ST.out.2.2.1.lt
              rw [size_push] at e hx1
              have h5 : h = w1.heap.size + 1 := e
              have h6 : w.heap.size + 1 < w1.heap.size := h4
              exact ⟨by have := gl1.2; omega, by omega, by omega⟩
          have I8 := hHeld.fr fg8 (fun e => (n2 _ e).1 rfl)
          refine wpAnyH_ready (rs := [7]) (by kernel_rfl) (by simp) ?_
          refine AllReadyH.cons rfl (fun K hK => ?_) AllReadyH.nil
          refine ready_append rfl _ _ 22 rfl _ _ rfl rfl _ w8 hap ?_
          have k0 := own8.cellAt (f.done.length * 3) (by omega)
          have k1 := own8.cellAt (f.done.length * 3 + 1) (by omega)
          have k2 := own8.cellAt (f.done.length * 3 + 2) (by omega)
          have hxl := (ST.out.1.rows f List.mem_cons_self).1.1
          rw [List.getElem?_append_right (by omega), hxl, Nat.sub_self] at k0
          rw [List.getElem?_append_right (by omega), hxl, Nat.add_sub_cancel_left] at k1 k2
          simp only [List.getElem?_cons_zero, List.getElem?_cons_succ] at k0 k1 k2
          have kf0 := own8.frozenAt (f.done.length * 3)
          have kf1 := own8.frozenAt (f.done.length * 3 + 1)
          have kf2 := own8.frozenAt (f.done.length * 3 + 2)
          have hl8 := (own8.lt h rfl).2
          have g8 := cells_fr fg8 (w := w1.alloc (.cells #[.string ⟨#[]⟩, .bool false, .slice none 0 0] 24)) (b := g) (i := r.length * 2 + 1) (v := .slice fa f.done.length fc) ((World.cell?_of_block (w := w1) (Below.heap_alloc w1 _ g gl1.2)).trans G1) (fun e => n1 e)
          have gf8 : w8.frozen? ⟨g, r.length * 2 + 1, none⟩ = false := by
            rw [fg8.frozen (p := ⟨g, r.length * 2 + 1, none⟩) (by rw [size_push]; exact Nat.lt_succ_of_lt gl1.2) (fun e => n1 e)]
            rw [World.frozen?_of_block (w := w1) (Below.heap_alloc w1 _ g gl1.2)]
            obtain ⟨g', c', e1, e2, e3, e4, e5, e6, e7⟩ := ST.out.1.top
            injection e1 with e1
            injection e1 with e1
            injection e1 with e1
            subst e1
            exact e5 _
          have gl8 : g < w8.heap.size := Nat.lt_of_lt_of_le (by rw [size_push]; exact Nat.lt_succ_of_lt gl1.2) fg8.size
          have st8 := stored3 own8 hxl (.string x1.s) (.bool x1.l) (.slice vp x1.ts.length vp')
          have DONE := Lib.hid (show Grown B X w b s at_ depth left F sv x1 vp vp' g c f r (((((w8.setCell ⟨h, f.done.length * 3, none⟩ (.string x1.s)).setCell ⟨h, f.done.length * 3 + 1, none⟩ (.bool x1.l)).setCell ⟨h, f.done.length * 3 + 2, none⟩ (.slice vp x1.ts.length vp'))).setCell ⟨g, r.length * 2 + 1, none⟩ (.slice (some ⟨h, 0, none⟩) (f.done.length + 1) hc)) from by
            have fh : Fr (fun j => j = h) w8 (((w8.setCell ⟨h, f.done.length * 3, none⟩ (.string x1.s)).setCell ⟨h, f.done.length * 3 + 1, none⟩ (.bool x1.l)).setCell ⟨h, f.done.length * 3 + 2, none⟩ (.slice vp x1.ts.length vp')) := ((fr_set _).trans (fr_set _)).trans (fr_set _)
            exact Grown.mk' ST.out.1 ST.out.2.1 HS1.out ST.out.2.2.1 ST.out.2.2.2 (fun j hj => HOW.out j hj) (fun j hj => HXX.out j (Nat.le_trans ST.out.2.1.size hj)) fg8 fh ob8 st8)
          have hHeld9 : I3 (((w8.setCell ⟨h, f.done.length * 3, none⟩ (.string x1.s)).setCell ⟨h, f.done.length * 3 + 1, none⟩ (.bool x1.l)).setCell ⟨h, f.done.length * 3 + 2, none⟩ (.slice vp x1.ts.length vp')) w.heap.size (.string x1.s) (.bool x1.l) (.slice vp x1.ts.length vp') :=
            I8.fr (((fr_set (g := h) _).trans (fr_set _)).trans (fr_set _)) (fun e => n3.2.1 e.symm)
          have hHeld12 : I3 (w8.setCell ⟨g, r.length * 2 + 1, none⟩ (.slice (some ⟨h, 0, none⟩) (f.done.length + 1) hc)) w.heap.size (.string x1.s) (.bool x1.l) (.slice vp x1.ts.length vp') :=
            I8.fr (fr_set _) (fun e => NG.out e.symm)
          have hHeldZ : I3 ((((w8.setCell ⟨h, f.done.length * 3, none⟩ (.string x1.s)).setCell ⟨h, f.done.length * 3 + 1, none⟩ (.bool x1.l)).setCell ⟨h, f.done.length * 3 + 2, none⟩ (.slice vp x1.ts.length vp')).setCell ⟨g, r.length * 2 + 1, none⟩ (.slice (some ⟨h, 0, none⟩) (f.done.length + 1) hc)) w.heap.size (.string x1.s) (.bool x1.l) (.slice vp x1.ts.length vp') :=
            hHeld9.fr (fr_set _) (fun e => NG.out e.symm)
          have nh := n3.1
          have nh' : g ≠ h := fun e => n3.1 e.symm
          clear own8 gr8 ob8 fg8 n1 n2 st8 hHeld HS2 hap hx1
          refine hK.out _ _ I8 (fun hHeld => ?_)
          clear hK K
          try simp only [Act.put, List.setIfInBounds_toArray]
          refine held_take 8 32 (v := .pointer (some ⟨h, f.done.length * 3, none⟩)) rfl rfl (by kernel_rfl) (by kernel_rfl) (by kernel_rfl) (fun _ _ _ h => h) (by rfl) ?hyc5 hHeld ?restc5
          case hyc5 => (intro w hSw; clear hSw; go_simp; intro hh; exfalso; omega; )
          try simp only [Act.put]
          refine held_take 10 33 (v := .pointer (some ⟨g, r.length * 2, none⟩)) rfl rfl (by kernel_rfl) (by kernel_rfl) (by kernel_rfl) (fun _ _ _ h => h) (by rfl) ?hyc6 hHeld ?restc6
          case hyc6 => (intro w hSw; clear hSw; go_simp; try with_reducible rfl)
          try simp only [Act.put]
          refine held_take 11 34 (v := .pointer (some ⟨g, r.length * 2 + 1, none⟩)) rfl rfl (by kernel_rfl) (by kernel_rfl) (by kernel_rfl) (fun _ _ _ h => h) (by rfl) ?hyc7 hHeld ?restc7
          case hyc7 => (intro w hSw; clear hSw; go_simp; try with_reducible rfl)
          try simp only [Act.put]
          refine wpAnyH_ready (rs := [9, 12]) (by kernel_rfl) (by simp) ?_
          refine AllReadyH.cons rfl (fun K hK => ?_) (AllReadyH.cons rfl (fun K hK => ?_) AllReadyH.nil)
          · go_simp
            refine hK.out _ _ hHeld9 (fun hHeld => ?_)
            clear hK K
            try simp only [Act.put, List.setIfInBounds_toArray, List.set_cons_zero, List.set_cons_succ]
            refine wpAnyH_ready (rs := [12]) (by kernel_rfl) (by simp) ?_
            refine AllReadyH.cons rfl (fun K hK => ?_) AllReadyH.nil
            go_simp
            refine hK.out _ _ hHeldZ (fun hHeld => ?_)
            clear hK K
            try simp only [Act.put, List.setIfInBounds_toArray, List.set_cons_zero, List.set_cons_succ]
            refine wpAnyH_done (by kernel_rfl) ?_ _
            go_wp2_with fail
            go_meet
            case rel => exact ⟨rfl, DONE.out⟩
          · go_simp
            refine hK.out _ _ hHeld12 (fun hHeld => ?_)
            clear hK K
            try simp only [Act.put, List.setIfInBounds_toArray, List.set_cons_zero, List.set_cons_succ]
            refine wpAnyH_ready (rs := [9]) (by kernel_rfl) (by simp) ?_
            refine AllReadyH.cons rfl (fun K hK => ?_) AllReadyH.nil
            go_simp
            rw [setCell_swap w8 (.slice (some ⟨h, 0, none⟩) (f.done.length + 1) hc) _ nh]
            rw [setCell_swap _ (.slice (some ⟨h, 0, none⟩) (f.done.length + 1) hc) _ nh]
            rw [setCell_swap _ (.slice (some ⟨h, 0, none⟩) (f.done.length + 1) hc) _ nh]
            refine hK.out _ _ hHeldZ (fun hHeld => ?_)
            clear hK K
            try simp only [Act.put, List.setIfInBounds_toArray, List.set_cons_zero, List.set_cons_succ]
            refine wpAnyH_done (by kernel_rfl) ?_ _
            go_wp2_with fail
            go_meet
            case rel => exact ⟨rfl, DONE.out⟩
        · go_simp
          refine hK.out _ _ (hHeld.alloc (.cells #[.string ⟨#[]⟩, .bool false, .slice none 0 0] 24)) (fun hHeld => ?_)
          clear hK K
          try simp only [Act.put, List.setIfInBounds_toArray, List.set_cons_zero, List.set_cons_succ]
          refine wpAnyH_ready (rs := [3]) (by kernel_rfl) (by simp) ?_
          refine AllReadyH.cons rfl (fun K hK => ?_) AllReadyH.nil
          have G2 := (World.cell?_of_block (a := ⟨g, r.length * 2 + 1, none⟩) (w := w1) (Below.heap_alloc w1 (.cells #[.string ⟨#[]⟩, .bool false, .slice none 0 0] 24) g gl1.2)).trans G1
          go_simp
          refine hK.out _ _ hHeld (fun hHeld => ?_)
          clear hK K
          try simp only [Act.put, List.setIfInBounds_toArray, List.set_cons_zero, List.set_cons_succ]
          refine held_take 5 29 (v := .int .i64 (f.done.length : Nat)) rfl rfl (by kernel_rfl) (by kernel_rfl) (by kernel_rfl) (fun _ _ _ h => h) (by rfl) ?hyc9 hHeld ?restc9
          case hyc9 => (intro w hSw; clear hSw; go_simp; try with_reducible rfl)
          try simp only [Act.put, List.setIfInBounds_toArray, List.set_cons_zero, List.set_cons_succ]
          have HS2 := hHeld
          have ap := append_item (w1.alloc (.cells #[.string ⟨#[]⟩, .bool false, .slice none 0 0] 24)) B f.done.length (.slice fa f.done.length fc) f.xs (OWN1.out.alloc _) w1.heap.size 1 (.string ⟨#[]⟩) (.bool false) (.slice none 0 0) (box0 _ _ _ _ _) (box1 _ _ _ _ _) (box2 _ _ _ _ _) (by intro u hu; simp at hu; rcases hu with rfl | rfl | rfl <;> rfl) (by have := HDL.out; omega) (by have := ST.out.1.sz; rw [size_push]; omega) 22
          obtain ⟨v', w8, hap, own8, gr8, ob8⟩ := ap
          obtain ⟨h, hc, rfl⟩ : ∃ h hc, v' = .slice (some ⟨h, 0, none⟩) (f.done.length + 1) hc := by
            rcases own8.2 with ⟨_, h0⟩ | ⟨h, hc, _, hv, _⟩
            · omega
            · exact ⟨h, hc, hv⟩
          have fg8 : Fr (fun j => f.sv.ownBlock = some j) (w1.alloc (.cells #[.string ⟨#[]⟩, .bool false, .slice none 0 0] 24)) w8 := by rw [HFS.out]; exact fr_grown gr8
          rw [← HFS.out] at ob8
          have n1 : f.sv.ownBlock ≠ some g := fun e => ST.out.1.stk f List.mem_cons_self g e rfl
          have n2 : ∀ j, f.sv.ownBlock = some j → j ≠ w.heap.size ∧ j ≠ w.heap.size + 1 ∧ j ≠ b := fun j e => by
            have h1 := ST.out.1.nx j (.inr ⟨f, List.mem_cons_self, e⟩)
            have h2 := (ST.out.1.rows f List.mem_cons_self).1.lt j e
            have h3 := ST.out.1.bB
            exact ⟨fun e => h1 (.inr (.inl e)), fun e => h1 (.inr (.inr e)), by omega⟩
          have hx1 := hHeld.lt
          have n3 : h ≠ g ∧ h ≠ w.heap.size ∧ h ≠ w.heap.size + 1 := by
            rcases ob8 with e | e
            · have e : f.sv.ownBlock = some h := e.symm
              exact ⟨fun e2 => n1 (e2 ▸ e), (n2 h e).1, (n2 h e).2.1⟩
            · injection e with e
              have h4 := ST.out.2.2.1.lt
              rw [size_push] at e hx1
              have h5 : h = w1.heap.size + 1 := e
              have h6 : w.heap.size + 1 < w1.heap.size := h4
              exact ⟨by have := gl1.2; omega, by omega, by omega⟩
          have I8 := hHeld.fr fg8 (fun e => (n2 _ e).1 rfl)
          refine wpAnyH_ready (rs := [7]) (by kernel_rfl) (by simp) ?_
          refine AllReadyH.cons rfl (fun K hK => ?_) AllReadyH.nil
          refine ready_append rfl _ _ 22 rfl _ _ rfl rfl _ w8 hap ?_
          have k0 := own8.cellAt (f.done.length * 3) (by omega)
          have k1 := own8.cellAt (f.done.length * 3 + 1) (by omega)
          have k2 := own8.cellAt (f.done.length * 3 + 2) (by omega)
          have hxl := (ST.out.1.rows f List.mem_cons_self).1.1
          rw [List.getElem?_append_right (by omega), hxl, Nat.sub_self] at k0
          rw [List.getElem?_append_right (by omega), hxl, Nat.add_sub_cancel_left] at k1 k2
          simp only [List.getElem?_cons_zero, List.getElem?_cons_succ] at k0 k1 k2
          have kf0 := own8.frozenAt (f.done.length * 3)
          have kf1 := own8.frozenAt (f.done.length * 3 + 1)
          have kf2 := own8.frozenAt (f.done.length * 3 + 2)
          have hl8 := (own8.lt h rfl).2
          have g8 := cells_fr fg8 (w := w1.alloc (.cells #[.string ⟨#[]⟩, .bool false, .slice none 0 0] 24)) (b := g) (i := r.length * 2 + 1) (v := .slice fa f.done.length fc) ((World.cell?_of_block (w := w1) (Below.heap_alloc w1 _ g gl1.2)).trans G1) (fun e => n1 e)
          have gf8 : w8.frozen? ⟨g, r.length * 2 + 1, none⟩ = false := by
            rw [fg8.frozen (p := ⟨g, r.length * 2 + 1, none⟩) (by rw [size_push]; exact Nat.lt_succ_of_lt gl1.2) (fun e => n1 e)]
            rw [World.frozen?_of_block (w := w1) (Below.heap_alloc w1 _ g gl1.2)]
            obtain ⟨g', c', e1, e2, e3, e4, e5, e6, e7⟩ := ST.out.1.top
            injection e1 with e1
            injection e1 with e1
            injection e1 with e1
            subst e1
            exact e5 _
          have gl8 : g < w8.heap.size := Nat.lt_of_lt_of_le (by rw [size_push]; exact Nat.lt_succ_of_lt gl1.2) fg8.size
          have st8 := stored3 own8 hxl (.string x1.s) (.bool x1.l) (.slice vp x1.ts.length vp')
          have DONE := Lib.hid (show Grown B X w b s at_ depth left F sv x1 vp vp' g c f r (((((w8.setCell ⟨h, f.done.length * 3, none⟩ (.string x1.s)).setCell ⟨h, f.done.length * 3 + 1, none⟩ (.bool x1.l)).setCell ⟨h, f.done.length * 3 + 2, none⟩ (.slice vp x1.ts.length vp'))).setCell ⟨g, r.length * 2 + 1, none⟩ (.slice (some ⟨h, 0, none⟩) (f.done.length + 1) hc)) from by
            have fh : Fr (fun j => j = h) w8 (((w8.setCell ⟨h, f.done.length * 3, none⟩ (.string x1.s)).setCell ⟨h, f.done.length * 3 + 1, none⟩ (.bool x1.l)).setCell ⟨h, f.done.length * 3 + 2, none⟩ (.slice vp x1.ts.length vp')) := ((fr_set _).trans (fr_set _)).trans (fr_set _)
            exact Grown.mk' ST.out.1 ST.out.2.1 HS1.out ST.out.2.2.1 ST.out.2.2.2 (fun j hj => HOW.out j hj) (fun j hj => HXX.out j (Nat.le_trans ST.out.2.1.size hj)) fg8 fh ob8 st8)
          have hHeld9 : I3 (((w8.setCell ⟨h, f.done.length * 3, none⟩ (.string x1.s)).setCell ⟨h, f.done.length * 3 + 1, none⟩ (.bool x1.l)).setCell ⟨h, f.done.length * 3 + 2, none⟩ (.slice vp x1.ts.length vp')) w.heap.size (.string x1.s) (.bool x1.l) (.slice vp x1.ts.length vp') :=
            I8.fr (((fr_set (g := h) _).trans (fr_set _)).trans (fr_set _)) (fun e => n3.2.1 e.symm)
          have hHeld12 : I3 (w8.setCell ⟨g, r.length * 2 + 1, none⟩ (.slice (some ⟨h, 0, none⟩) (f.done.length + 1) hc)) w.heap.size (.string x1.s) (.bool x1.l) (.slice vp x1.ts.length vp') :=
            I8.fr (fr_set _) (fun e => NG.out e.symm)
          have hHeldZ : I3 ((((w8.setCell ⟨h, f.done.length * 3, none⟩ (.string x1.s)).setCell ⟨h, f.done.length * 3 + 1, none⟩ (.bool x1.l)).setCell ⟨h, f.done.length * 3 + 2, none⟩ (.slice vp x1.ts.length vp')).setCell ⟨g, r.length * 2 + 1, none⟩ (.slice (some ⟨h, 0, none⟩) (f.done.length + 1) hc)) w.heap.size (.string x1.s) (.bool x1.l) (.slice vp x1.ts.length vp') :=
            hHeld9.fr (fr_set _) (fun e => NG.out e.symm)
          have nh := n3.1
          have nh' : g ≠ h := fun e => n3.1 e.symm
          clear own8 gr8 ob8 fg8 n1 n2 st8 hHeld HS2 hap hx1
          refine hK.out _ _ I8 (fun hHeld => ?_)
          clear hK K
          try simp only [Act.put, List.setIfInBounds_toArray]
          refine held_take 8 32 (v := .pointer (some ⟨h, f.done.length * 3, none⟩)) rfl rfl (by kernel_rfl) (by kernel_rfl) (by kernel_rfl) (fun _ _ _ h => h) (by rfl) ?hyc10 hHeld ?restc10
          case hyc10 => (intro w hSw; clear hSw; go_simp; intro hh; exfalso; omega; )
          try simp only [Act.put]
          refine held_take 10 33 (v := .pointer (some ⟨g, r.length * 2, none⟩)) rfl rfl (by kernel_rfl) (by kernel_rfl) (by kernel_rfl) (fun _ _ _ h => h) (by rfl) ?hyc11 hHeld ?restc11
          case hyc11 => (intro w hSw; clear hSw; go_simp; try with_reducible rfl)
          try simp only [Act.put]
          refine held_take 11 34 (v := .pointer (some ⟨g, r.length * 2 + 1, none⟩)) rfl rfl (by kernel_rfl) (by kernel_rfl) (by kernel_rfl) (fun _ _ _ h => h) (by rfl) ?hyc12 hHeld ?restc12
          case hyc12 => (intro w hSw; clear hSw; go_simp; try with_reducible rfl)
          try simp only [Act.put]
          refine wpAnyH_ready (rs := [9, 12]) (by kernel_rfl) (by simp) ?_
          refine AllReadyH.cons rfl (fun K hK => ?_) (AllReadyH.cons rfl (fun K hK => ?_) AllReadyH.nil)
          · go_simp
            refine hK.out _ _ hHeld9 (fun hHeld => ?_)
            clear hK K
            try simp only [Act.put, List.setIfInBounds_toArray, List.set_cons_zero, List.set_cons_succ]
            refine wpAnyH_ready (rs := [12]) (by kernel_rfl) (by simp) ?_
            refine AllReadyH.cons rfl (fun K hK => ?_) AllReadyH.nil
            go_simp
            refine hK.out _ _ hHeldZ (fun hHeld => ?_)
            clear hK K
            try simp only [Act.put, List.setIfInBounds_toArray, List.set_cons_zero, List.set_cons_succ]
            refine wpAnyH_done (by kernel_rfl) ?_ _
            go_wp2_with fail
            go_meet
            case rel => exact ⟨rfl, DONE.out⟩
          · go_simp
            refine hK.out _ _ hHeld12 (fun hHeld => ?_)
            clear hK K
            try simp only [Act.put, List.setIfInBounds_toArray, List.set_cons_zero, List.set_cons_succ]
            refine wpAnyH_ready (rs := [9]) (by kernel_rfl) (by simp) ?_
            refine AllReadyH.cons rfl (fun K hK => ?_) AllReadyH.nil
            go_simp
            rw [setCell_swap w8 (.slice (some ⟨h, 0, none⟩) (f.done.length + 1) hc) _ nh]
            rw [setCell_swap _ (.slice (some ⟨h, 0, none⟩) (f.done.length + 1) hc) _ nh]
            rw [setCell_swap _ (.slice (some ⟨h, 0, none⟩) (f.done.length + 1) hc) _ nh]
            refine hK.out _ _ hHeldZ (fun hHeld => ?_)
            clear hK K
            try simp only [Act.put, List.setIfInBounds_toArray, List.set_cons_zero, List.set_cons_succ]
            refine wpAnyH_done (by kernel_rfl) ?_ _
            go_wp2_with fail
            go_meet
            case rel => exact ⟨rfl, DONE.out⟩
      --ENDWALK
      case rest =>
        obtain ⟨rfl, h, hc2, xs, R, hcc, I1, I4, FF, ow⟩ := hcut
        obtain ⟨g', c', e1, _, t0, t1, tf, gB, gl⟩ := R.top
        injection e1 with e1 _ e2
        injection e1 with e1
        injection e1 with e1
        subst e1 e2
        have a1 := R.r.c1
        have lb := R.r.lt
        have RR := Lib.hid R
        have II1 := Lib.hid I1
        have II4 := Lib.hid I4
        have FF := Lib.hid FF
        have OW := Lib.hid ow
        have HE : f.e = at_ + (T.puts f.todo).length ∧ Ends r f.e := HC.out.ends
        clear R I1 I4 ow tf
        have HEE := Lib.hid HE
        rcases htd : f.todo with _ | ⟨z, zs⟩
        · have he : f.e = at_ := by rw [HE.1, htd]; rfl
          have t2 : decide (at_ < at_) = false := by simp
          rw [he] at t0
          have HT := Lib.hid (And.intro htd he)
          clear HE htd he
          have hdn : f.done.length ≤ 2000 := HDL.out
          go_upto_region 4 with fail
          go_quiet (fail)
          have b3 : Below wc.heap.size wc (wc.drewN nq) := below_drewN (Below.refl _ _) nq
          have R3 := RR.out.bel b3
          have I3a := II1.out.bel b3
          have I3' := II4.out.bel b3
          have F3 := FF.out.then_ (Fr.ofBelow (S := fun _ => False) b3) (fun _ _ e => e.elim)
          have s0 := cells_below b3 _ _ _ t1
          obtain ⟨w3, hw3⟩ : ∃ w3, w3 = wc.drewN nq := ⟨_, rfl⟩
          rw [← hw3] at R3 I3a I3' F3 s0 ⊢
          have gl3 := lt_of_cell s0
          clear b3 hw3 t0 t1 a1 lb
          have k0 := I3a.free 0
          have k1 := I3a.free 1
          have k2 := I3a.free 2
          have q0 := I3a.c0
          have q1 := I3a.c1
          have q2 := I3a.c2
          have ql := I3a.lt
          go_upto_region 6 with fail
          go_region
          have f3 : Fr (fun j => j = w.heap.size) w3 (((w3.setCell ⟨w.heap.size, 0, none⟩ (.string ⟨#[]⟩)).setCell ⟨w.heap.size, 1, none⟩ (.bool true)).setCell ⟨w.heap.size, 2, none⟩ (.slice (some ⟨h, 0, none⟩) (f.done.length + 1) (f.done.length + 1))) := fr_three
          have R5a := R3.keep f3.size (f3.block b R3.r.lt (by omega)) (fun j _ hl hx => f3.block j hl (fun e => hx (.inr (.inl e))))
          have I5a := I3a.put (.string ⟨#[]⟩) (.bool true) (.slice (some ⟨h, 0, none⟩) (f.done.length + 1) (f.done.length + 1))
          have I5b := I3'.fr f3 (by omega)
          have F5a := F3.then_ f3 (fun j hj e => by omega)
          generalize (((w3.setCell ⟨w.heap.size, 0, none⟩ (.string ⟨#[]⟩)).setCell ⟨w.heap.size, 1, none⟩ (.bool true)).setCell ⟨w.heap.size, 2, none⟩ (.slice (some ⟨h, 0, none⟩) (f.done.length + 1) (f.done.length + 1))) = w4 at *
          have b5 : Below w4.heap.size w4 w4.drew := (Below.refl _ _).drew
          have R5 := R5a.bel b5
          have I6a := I5a.bel b5
          have I6b := I5b.bel b5
          have F6 := F5a.drew
          generalize w4.drew = w5 at *
          clear R3 I3a I3' F3 s0 gl3 k0 k1 k2 q0 q1 q2 ql f3 R5a I5a I5b F5a b5
          have c4 := R5.r.c4
          have lb := R5.r.lt
          have cf := R5.r.free 4
          have SH := R5.shut
          have f6 : Fr (fun j => j = b) w5 (w5.setCell ⟨b, 4, none⟩ (.slice (some ⟨g, 0, none⟩) r.length c)) := fr_set _
          have CN := Lib.hid (show Cl B X w (w5.setCell ⟨b, 4, none⟩ (.slice (some ⟨g, 0, none⟩) r.length c)).drew b s at_ depth left F sv x (gk - 1) r (.slice (some ⟨g, 0, none⟩) r.length c) (.mk ⟨#[]⟩ true (f.done ++ [x1])) (.slice (some ⟨h, 0, none⟩) (f.done.length + 1) (f.done.length + 1)) from by
            refine Cl.bel ?_ (Below.refl _ _).drew
            have hp := HC.out.plug
            have ho := HC.out.outs
            have ht := HC.out.tail
            have hl := HC.out.len
            rw [pf_cons, HT.out.1] at hp ht
            simp only [pf_cons, HT.out.1] at ho
            simp only [List.length_cons] at hl
            have hbw := R5.bB
            have hzz := R5.sz
            have hnb : b ≠ w.heap.size ∧ b ≠ w.heap.size + 1 := ⟨by omega, by omega⟩
            refine ⟨SH.1, I6a.fr f6 (fun e => hnb.1 e.symm), I6b.fr f6 (fun e => hnb.2 e.symm), SH.2 (by simp only [List.length_append, List.length_singleton]; omega) _ _ _ _ rfl, ?_, ?_, ?_, ?_, by omega, F6.then_ f6 (fun j _ e => .inl e), ?_⟩
            · rw [← hp]; exact (T.plug_end _ _ _).symm
            · have := HEE.out.2
              rw [HT.out.2] at this
              exact this
            · intro dp l; rw [ho]; exact T.outs_end dp _ _ _
            · rw [ht]; rfl
            · rintro j (e | ⟨q, hq, e⟩)
              · exact OW.out j (.inl e)
              · exact OW.out j (.inr ⟨q, List.mem_cons_of_mem _ hq, e⟩))
          have HG := Lib.hid (show 1 ≤ gk from by have := HC.out.len; simp only [List.length_cons] at this; omega)
          clear R5 I6a I6b F6 SH f6
          go_upto_region 7 with fail
          go_region
          go_wp2_with fail
          go_roundg (gk - 1)
          case measure => have := HG.out; omega
          case rel => exact ⟨_, _, _, _, CN.out⟩
        · have hp := T.put_pos z
          have hlt : at_ < f.e := by rw [HE.1, htd]; simp only [T.puts, List.length_append]; omega
          have t2 : decide (at_ < f.e) = true := decide_eq_true hlt
          have HT := Lib.hid htd
          clear HE htd hp hlt
          go_upto_region 4 with fail
          go_quiet (fail)
          have b3 : Below wc.heap.size wc (wc.drewN nq) := below_drewN (Below.refl _ _) nq
          have R3 := RR.out.bel b3
          have I3' := II4.out.bel b3
          have F3 := FF.out.then_ (Fr.ofBelow (S := fun _ => False) b3) (fun _ _ e => e.elim)
          obtain ⟨w3, hw3⟩ : ∃ w3, w3 = wc.drewN nq := ⟨_, rfl⟩
          rw [← hw3] at R3 I3' F3 ⊢
          clear b3 hw3 t0 t1 a1 lb
          have q0 := I3'.c0
          have q1 := I3'.c1
          have q2 := I3'.c2
          have k0 := I3'.free 0
          have k1 := I3'.free 1
          have k2 := I3'.free 2
          have ql := I3'.lt
          have f3 : Fr (fun j => j = w.heap.size + 1) w3 (((w3.setCell ⟨w.heap.size + 1, 0, none⟩ (.string ⟨#[]⟩)).setCell ⟨w.heap.size + 1, 1, none⟩ (.bool false)).setCell ⟨w.heap.size + 1, 2, none⟩ (.slice none 0 0)) := fr_three
          have Q := Lib.hid (And.intro (I3'.put (.string ⟨#[]⟩) (.bool false) (.slice none 0 0)) (show ClosePost B X b s at_ depth left F sv x w (.returned (.tuple #[ZV, .bool false])) (((w3.setCell ⟨w.heap.size + 1, 0, none⟩ (.string ⟨#[]⟩)).setCell ⟨w.heap.size + 1, 1, none⟩ (.bool false)).setCell ⟨w.heap.size + 1, 2, none⟩ (.slice none 0 0)) from by
            refine ⟨F3.then_ f3 (fun j hj e => by omega), .inl ⟨⟨f.e, f.done ++ [x1], zs, .slice (some ⟨h, 0, none⟩) (f.done.length + 1) hc2, xs⟩, r, z, .slice (some ⟨g, 0, none⟩) (r.length + 1) c, rfl, ?_, ?_, ?_, ?_, ?_⟩⟩
            · refine ((R3.keep f3.size (f3.block b R3.r.lt (by omega)) (fun j _ hl hx => f3.block j hl (fun e => hx (.inr (.inr e))))).more (fun j _ hx => .inl hx)).retodo
            · rw [← HC.out.plug]
              simp only [pf, List.map_cons, HT.out]
              exact (T.plug_next _ _ _ _ _).symm
            · intro dp l
              rw [HC.out.outs]
              simp only [pf, List.map_cons, HT.out]
              exact T.outs_next dp _ _ z zs _ l
            · rw [HC.out.tail]
              simp only [pf, List.map_cons, HT.out, T.tail, T.puts, List.append_assoc]
            · have := HEE.out
              rw [HT.out] at this
              refine ⟨?_, this.2⟩
              show f.e = at_ + (T.put z).length + (T.puts zs).length
              rw [this.1]
              simp only [T.puts, List.length_append]; omega))
          clear R3 I3' F3 f3
          go_wp2_with fail
          have z0 := Q.out.1.c0
          have z1 := Q.out.1.c1
          have z2 := Q.out.1.c2
          refine bodyPost_ret (v := .tuple #[ZV, .bool false]) (by simp [results, Try.results36, go_sem, z0, z1, z2, ZV]) rfl ?_
          exact Q.out.2
end
end Go.Proofs.Ytaddlobmmmafaaa
