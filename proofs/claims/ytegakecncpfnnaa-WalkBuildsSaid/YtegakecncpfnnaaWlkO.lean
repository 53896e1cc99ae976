/-
  The contract of walk's Of (layer 10) over this seat's translation. Conditions: an item as it lies in memory, whose slices have room, of at most 2,500 items and 10,000 bytes.
-/
import Derived.Test.YtegakecncpfnnaaWlkI
import Derived.Test.YtegakecncpfnnaaWlkB
import Derived.Test.YtegakecncpfnnaaItmF
namespace Go.Proofs.Ytegakecncpfnnaa
open Go.RowKit

set_option maxRecDepth 100000 in
theorem tok_info : (Try.prog.info? 48).map (fun i => (i.zero, i.size, i.bytes)) = some (some (.agg #[.int .i64 0, .string ⟨#[]⟩]), 2, 24) := by kernel_rfl

set_option maxRecDepth 100000 in
theorem of_no (t : T) (v : Value) (w : World) (hI : InC w t v) (hm : T.may t = false) :
    Calls Try.prog 7 #[.agg #[.string t.s, .bool t.l, v]] w fun e w' => e = .returned (.tuple #[.slice none 0 0, .int .i64 1]) ∧ Below w.heap.size w w' := by
  obtain ⟨pa, pc, rfl, _⟩ := hI.slice
  have b0 := bel1 w (.cells #[.string t.s, .bool t.l, .slice pa t.ts.length pc] 24)
  have MY := Lib.hid (may_any t (.slice pa t.ts.length pc) (w.alloc (.cells #[.string t.s, .bool t.l, .slice pa t.ts.length pc] 24)) ((InC.in t _ hI).bel b0))
  rw [hm] at MY
  have B0 := Lib.hid b0
  clear hI hm b0
  go_enter Try.func7, Try.ntmps7
  go_wp2_with fail
  refine MY.out.mono ?_
  rintro e w1 ⟨rfl, b1⟩
  have B1 := Lib.hid (B0.out.trans (b1.mono (by simp)))
  clear b1
  go_wp2
  go_ret2
  exact ⟨rfl, B1.out⟩

/-- What the loop of Of keeps, behind so many rounds. -/
structure Oi (B b : Nat) (l : List Tok) (w0 : World) (base i : Nat) (Y : Nat → Prop) (W : World) : Prop where
  ex : ∃ lv, V W b 27 lv ∧ Tw W B 48 lv (l.take i) ∧ ∀ j, Y j ↔ lv.ownBlock = some j
  bel : Below base w0 W
theorem Oi.keep {B b : Nat} {l : List Tok} {w0 : World} {base i : Nat} {Y : Nat → Prop} {W W' : World} (h : Oi B b l w0 base i Y W) (hb : b < B) (hB : base ≤ B) (hw : base ≤ w0.heap.size) (f : Fr (fun j => B ≤ j ∧ ¬ Y j) W W') : Oi B b l w0 base i Y W' := by
  obtain ⟨lv, h1, h2, h3⟩ := h.ex
  exact ⟨⟨lv, h1.fr f (by omega), h2.fr f (fun j e hj => hj.2 ((h3 j).2 e)), h3⟩, h.bel.trans (f.below (Nat.le_trans hw h.bel.size) fun j hj => by omega)⟩

set_option maxRecDepth 100000 in
set_option maxHeartbeats 1000000 in
theorem of_ok (t : T) (v : Value) (w : World) (hI : InC w t v) (hm : T.may t = true) (hn : (T.toks t).length ≤ 5000) (hz : tsz (T.toks t) ≤ 10000) :
    Calls Try.prog 7 #[.agg #[.string t.s, .bool t.l, v]] w fun e w' => ∃ lv, e = .returned (.tuple #[lv, .int .i64 0]) ∧ TSl w' lv (T.toks t) ∧ Below w.heap.size w w' := by
  obtain ⟨pa, pc, rfl, _⟩ := hI.slice
  have b0 := bel1 w (.cells #[.string t.s, .bool t.l, .slice pa t.ts.length pc] 24)
  have MY := Lib.hid (may_any t (.slice pa t.ts.length pc) (w.alloc (.cells #[.string t.s, .bool t.l, .slice pa t.ts.length pc] 24)) ((InC.in t _ hI).bel b0))
  rw [hm] at MY
  have H0 := Lib.hid (And.intro b0 (I3.new w (.string t.s) (.bool t.l) (.slice pa t.ts.length pc)))
  have HI := Lib.hid hI
  have TD := Lib.hid (fun xb S w4 h1 h2 h3 => told_tells t pa pc xb S w w4 hI h1 h2 h3 hn hz)
  obtain ⟨l, hl⟩ : ∃ l, l = T.toks t := ⟨_, rfl⟩
  rw [← hl] at TD hn hz ⊢
  clear hI hm b0 hl
  refine (callsIn_wide (n := 3)).1 (callsIn_of_wp_marks Try.func7 rfl trivial (wpIn_wide.2 ?_) rfl)
  simp only [Try.ntmps7, List.size_toArray, List.length_cons, List.length_nil, Nat.reduceAdd, Nat.reduceSub, Array.replicate_succ, Array.replicate_zero, List.push_toArray, List.append_toArray, List.nil_append, List.cons_append]
  go_wp2_with fail
  refine MY.out.mono ?_
  rintro e w1 ⟨rfl, b1⟩
  obtain ⟨x, hx⟩ : ∃ x, x = w.heap.size := ⟨_, rfl⟩
  have i1 := H0.out.2.bel b1
  have B1 := Lib.hid (H0.out.1.trans (b1.mono (by simp)))
  rw [← hx] at i1 B1 ⊢
  obtain ⟨b, hb⟩ : ∃ b, b = w1.heap.size := ⟨_, rfl⟩
  have i1' := i1.alloc (.cells #[.slice none 0 0] 27)
  have vb := V.new w1 27 (.slice none 0 0)
  rw [← hb] at vb
  have x0 := i1.c0
  have x1 := i1.c1
  have x2 := i1.c2
  have xl := i1.lt
  have X1 := Lib.hid (And.intro i1' vb)
  have HB := Lib.hid hb
  have HX := Lib.hid hx
  clear b1 i1 i1' vb hb hx H0 MY
  go_wp2_with fail
  rw [← HB.out]
  refine (told_any t.s t.l pa t.ts.length pc _).mono ?_
  rintro e w4 ⟨rfl, hw4⟩
  have z3 : (w1.alloc (.cells #[.slice none 0 0] 27)).heap.size = b + 1 := by rw [size_push, ← HB.out]
  have z4 : w4.heap.size = b + 2 := by rw [hw4, size_push, z3]
  have hxb : x ≤ b := by have := B1.out.size; have := HB.out; omega
  have F4 : Below x w w4 := by
    rw [hw4]
    have h1 := B1.out.trans ((bel2 w1 (.cells #[.slice none 0 0] 27) (.cells #[.string t.s, .bool t.l, .slice pa t.ts.length pc] 24)).mono (by have := HB.out; omega : x ≤ w1.heap.size))
    exact h1
  have xbx : I3 w4 (b + 1) (.string t.s) (.bool t.l) (.slice pa t.ts.length pc) := by
    have := I3.new (w1.alloc (.cells #[.slice none 0 0] 27)) (.string t.s) (.bool t.l) (.slice pa t.ts.length pc)
    rw [z3, ← hw4] at this
    exact this
  have vb4 : V w4 b 27 (.slice none 0 0) := by rw [hw4]; exact X1.out.2.alloc _
  have TT := Lib.hid (TD.out (b + 1) (fun j => j = b) w4 xbx (by rw [← HX.out]; exact F4) (fun j hj => by have := HX.out; omega))
  have O0 := Lib.hid (show Oi (b + 2) b l w x 0 (fun _ => False) w4 from ⟨⟨_, vb4, by rw [List.take_zero]; exact Tw.nil _ _ _, fun j => ⟨fun h => h.elim, fun h => by cases h⟩⟩, F4⟩)
  rw [z3]
  have Z4 := Lib.hid z4
  have HXW := Lib.hid (show x ≤ w.heap.size by rw [HX.out]; exact Nat.le_refl _)
  clear hw4 z3 z4 F4 xbx vb4 B1 X1 HI TD
  go_wp2_with fail
  refine wp_rangeOwn (gf := 42) (lb := #[.pointer (some ⟨b + 1, 0, none⟩)]) rfl (enters_of Try.func42 (by kernel_rfl) rfl) TT.out (fun j hj => by have := Z4.out; omega) (fun i => toksE_size l i)
    (Oi (b + 2) b l w x) ?hI O0.out ?hround ?hdone
  case hI =>
    intro i Y A B h f
    rw [Z4.out] at f
    exact h.keep (by omega) (by omega) HXW.out f
  case hround =>
    intro y i Y W hz4 hOi hY hi
    rw [Z4.out] at hz4 hY ⊢
    obtain ⟨te, _, _⟩ := toksE_at (List.drop_eq_getElem_cons hi)
    rw [te, zip1]
    simp only [List.setIfInBounds_toArray, List.set_cons_zero, List.set_cons_succ]
    obtain ⟨tk, htk⟩ : ∃ tk, tk = l[i] := ⟨_, rfl⟩
    rw [← htk]
    have HT := Lib.hid htk
    clear htk te
    refine round_region (by kernel_rfl) (fun ⟨_, _, hh⟩ => hh) ?_
    go_wp2
    refine ⟨(Fr.refl _ W).alloc _, fun W2 f2 => ?_⟩
    have ft : Fr (fun j => j = b + 3) W W2 := ((Fr.refl _ W).alloc _).trans (f2.mono fun j _ hj => by omega)
    have O2 := Lib.hid (hOi.keep (by omega) (by omega) HXW.out (ft.mono fun j _ hj => (show b + 2 ≤ j ∧ ¬ Y j from ⟨by omega, fun e => by have := (hY j e).1; omega⟩)))
    obtain ⟨tb, htb⟩ : ∃ tb, tb = W.heap.size := ⟨_, rfl⟩
    have T2 := Lib.hid (show B2 W2 tb 48 (.int .i64 tk.k) (.string tk.t) from by rw [htb]; exact (B2.new W _ _ _).fr f2 (by omega))
    rw [← htb]
    have HY := Lib.hid (fun j (e : Y j) => show b + 4 ≤ j ∧ j < tb from ⟨(hY j e).1, by rw [htb]; exact (hY j e).2⟩)
    have LT := Lib.hid (show b + 3 < tb ∧ tb < W2.heap.size from ⟨by omega, T2.out.lt⟩)
    obtain ⟨lv, h1, h2, h3⟩ := O2.out.ex
    have hlen : (l.take i).length = i := by rw [List.length_take]; omega
    obtain ⟨la, lc, hlv⟩ := h2.slice
    rw [hlen] at hlv
    subst hlv
    have tc0 := T2.out.c0
    have tc1 := T2.out.c1
    have hlt := T2.out.lt
    have lc0 := h1.cell
    have ll0 := h1.lt
    have FA : Fr (fun _ => False) W2 (W2.alloc (.cells #[.int .i64 tk.k, .string tk.t] 48)) := (Fr.refl _ W2).alloc _
    have nb := B2.new W2 48 (.int .i64 tk.k) (.string tk.t)
    obtain ⟨bv', wA, hap, ownA, grA, obA⟩ := append_tok (W2.alloc (.cells #[.int .i64 tk.k, .string tk.t] 48)) (b + 2) 27 27 48 _ Try.underlying27 tok_info rfl _ _ (h2.fr FA (fun _ _ e => e)) W2.heap.size 1 tk nb.c0 nb.c1 (by omega) (by have := LT.out; rw [size_push]; omega)
    obtain ⟨sa', sn', sc', rfl⟩ : ∃ a n c, bv' = .slice a n c := by
      obtain ⟨a, c, h⟩ := ownA.slice
      exact ⟨_, _, _, h⟩
    have fA : Fr (fun j => (Value.slice la i lc).ownBlock = some j) W2 wA := (FA.mono (fun _ _ e => e.elim)).trans (fr_grown grA)
    have nY : ∀ j, (Value.slice la i lc).ownBlock = some j → b + 4 ≤ j := fun j e => (HY.out j ((h3 j).2 e)).1
    have vA : V wA b 27 (.slice la i lc) := h1.fr fA (fun e => by have := nY _ e; omega)
    have DONE := Lib.hid (show roundTo (Oi (b + 2) b l w x) (fun j => j = b) Y i W2 .normal { tmps := #[], defers := [] } (wA.setCell ⟨b, 0, none⟩ (.slice sa' sn' sc')) from by
      have fs : Fr (fun j => j = b) wA (wA.setCell ⟨b, 0, none⟩ (.slice sa' sn' sc')) := fr_set _
      have f1 : Fr (fun j => j = b ∨ (Value.slice la i lc).ownBlock = some j) W2 (wA.setCell ⟨b, 0, none⟩ (.slice sa' sn' sc')) := (fA.mono fun _ _ e => .inr e).then_ fs (fun _ _ e => .inl e)
      have ob : ∀ j, (Value.slice sa' sn' sc').ownBlock = some j → Y j ∨ W2.heap.size ≤ j := fun j e => by
        rcases obA with h | h
        · exact .inl ((h3 j).2 (h ▸ e))
        · rw [h, size_push] at e
          injection e with e
          exact .inr (by omega)
      have own' : Tw (wA.setCell ⟨b, 0, none⟩ (.slice sa' sn' sc')) (b + 2) 48 (.slice sa' sn' sc') (l.take i ++ [tk]) := ownA.fr fs (fun j e h => by have := (ownA.block j e).1; omega)
      refine ⟨fun j => (Value.slice sa' sn' sc').ownBlock = some j, ⟨⟨_, vA.set _, ?_, fun _ => Iff.rfl⟩, O2.out.bel.trans (f1.below (Nat.le_trans HXW.out O2.out.bel.size) fun j e => ?_)⟩, fun j e => ⟨ob j e, (own'.block j e).2⟩, f1.mono fun j _ e => ?_⟩
      · rw [List.take_add_one, List.getElem?_eq_getElem hi, ← HT.out]
        exact own'
      · rcases e with e | e
        · omega
        · have := nY j e; omega
      · rcases e with e | e
        · exact .inl (by omega)
        · exact .inr ((h3 j).2 e))
    have cA := vA.cell
    have lA := vA.lt
    have gA := vA.free
    have HAP := Lib.hid hap
    clear hap ownA grA obA fA vA FA nb h1 h2 h3 nY hOi hY ft f2 O2 htb hlen
    refine wpIn_block ?_
    refine round_region (by kernel_rfl) (fun ⟨_, _, hh⟩ => hh) ?_
    go_wp2_with (at_builtin; refine wpList_append_run rfl _ _ 27 rfl _ _ rfl rfl _ wA HAP.out ?_)
    exact DONE.out
  case hdone =>
    intro D Y W hD hDl hYD hOi hdef
    obtain ⟨lv, h1, h2, h3⟩ := hOi.ex
    rw [List.take_length] at h2
    have c1 := h1.cell
    have l1 := h1.lt
    obtain ⟨la, lc, rfl⟩ := h2.slice
    have R := Lib.hid (And.intro h2.tsl (And.intro hOi.bel (And.intro hdef hDl)))
    have ND := Lib.hid (show b + 2 ≤ D ∧ ¬ (Value.slice la l.length lc).ownBlock = some D from ⟨by have := Z4.out; omega, fun e => hYD ((h3 D).2 e)⟩)
    have TW := Lib.hid h2
    clear h1 h2 h3 hOi hdef
    go_wp2_with fail
    refine ⟨by simp, .inl ⟨_, _, rfl, run_takeDeferred R.out.2.2.1, ?_⟩⟩
    have fD : Fr (fun j => j = D) W (W.putObj D (.deferred none)) := fr_putObj (S := fun j => j = D) (Fr.refl _ W) (.inl rfl) _
    refine ⟨.tuple #[.slice la l.length lc, .int .i64 0], by simp [results, Try.results7, go_sem], _, rfl, (TW.out.fr fD (fun j e h => ND.out.2 (h ▸ e))).tsl, ?_⟩
    rw [← HX.out]
    exact R.out.2.1.trans (fD.below (Nat.le_trans HXW.out R.out.2.1.size) fun j e => by have := ND.out.1; omega)
end Go.Proofs.Ytegakecncpfnnaa
