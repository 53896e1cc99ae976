/-
  For every item ItemShows answers true over this seat's translation. Conditions: an item as it lies in memory.
-/
import Derived.Test.YtdkeickcbpjedaaDoorItmRd
import Derived.Test.YtdkeickcbpjedaaDoorItmL
import Derived.Test.YtdkeickcbpjedaaDoorHeld
import Derived.Deep.Cut
namespace Go.Proofs.YtdkeickcbpjedaaDoor
open Go.RowKit

/-- What the law keeps: the item in its variable, and all that was there. -/
def Cs (t : T) (v : Value) (g : Nat) (w W : World) : Prop := I3 W g (.string t.s) (.bool t.l) v ∧ In W t v ∧ Below w.heap.size w W
theorem Cs.bel {t : T} {v : Value} {g : Nat} {w W W' : World} (h : Cs t v g w W) (b : Below W.heap.size W W') : Cs t v g w W' := ⟨h.1.bel b, h.2.1.bel b, below_then h.2.2 b⟩
theorem Cs.drew {t : T} {v : Value} {g : Nat} {w W : World} (h : Cs t v g w W) : Cs t v g w W.drew := ⟨h.1, h.2.1.bel ((Below.refl W.heap.size W).drew), h.2.2.drew⟩
theorem Cs.new {t : T} {v : Value} {w : World} (h : In w t v) : Cs t v w.heap.size w (w.alloc (.cells #[.string t.s, .bool t.l, v] 24)) := ⟨I3.new w _ _ _, h.bel (bel1 _ _), bel1 _ _⟩
/-- Beside it: the item that was read, in its variable. -/
def Cs2 (t : T) (v v' : Value) (g g' : Nat) (w W : World) : Prop := Cs t v g w W ∧ In W t v' ∧ I3 W g' (.string t.s) (.bool t.l) v'
theorem Cs2.bel {t : T} {v v' : Value} {g g' : Nat} {w W W' : World} (h : Cs2 t v v' g g' w W) (b : Below W.heap.size W W') : Cs2 t v v' g g' w W' := ⟨h.1.bel b, h.2.1.bel b, h.2.2.bel b⟩
theorem Cs2.drew {t : T} {v v' : Value} {g g' : Nat} {w W : World} (h : Cs2 t v v' g g' w W) : Cs2 t v v' g g' w W.drew := ⟨h.1.drew, h.2.1.bel ((Below.refl W.heap.size W).drew), h.2.2⟩

theorem not_great' {t : T} (h : great t = false) : T.cnt t < 1200 ∧ T.siz t ≤ 6000 := by
  simp only [great, Bool.or_eq_false_iff, decide_eq_false_iff_not] at h
  omega

theorem own_line {t : T} {w w' : World} {e : Ending} (hm : T.may t = true) (h : ReadPost (T.shw t) w e w') :
    Below w.heap.size w w' ∧ ∃ r r', e = .returned (.tuple #[.agg #[.string t.s, .bool t.l, .slice r t.ts.length r'], .int .i64 0]) ∧ In w' t (.slice r t.ts.length r') := by
  obtain ⟨hb, h⟩ := h
  refine ⟨hb, ?_⟩
  rcases h with ⟨x, u, rfl, hx, hs, hi, hu⟩ | ⟨rfl, hn⟩
  · have := hu t hm rfl
    subst this
    obtain ⟨r, r', rfl⟩ := hi.slice
    exact ⟨r, r', rfl, hi⟩
  · exact absurd rfl (hn t hm)

set_option maxHeartbeats 4000000 in
theorem itemShows_any (t : T) (v : Value) (w : World) (hI : In w t v) :
    Calls Tryd.prog 3 #[.agg #[.string t.s, .bool t.l, v]] w fun e w' => e = .returned (.bool true) ∧ Below w.heap.size w w' := by
  obtain ⟨p, p', rfl⟩ := hI.slice
  have C0 := Lib.hid (Cs.new hI)
  have GR := Lib.hid (great_any t (.slice p t.ts.length p'))
  have NG := Lib.hid (@not_great' t)
  obtain ⟨gr, hg⟩ : ∃ gr, gr = great t := ⟨_, rfl⟩
  rw [← hg] at GR NG
  clear hg hI
  go_enter Tryd.func3, Tryd.ntmps3
  go_wp2_with fail
  refine (alive_any _).mono ?_
  rintro e w1 ⟨rfl, b1⟩
  have C1 := Lib.hid (C0.out.bel b1)
  clear b1 C0
  have c0 := C1.out.1.c0
  have c1 := C1.out.1.c1
  have c2 := C1.out.1.c2
  have lg := C1.out.1.lt
  go_wp2_with fail
  refine (GR.out _ C1.out.2.1).mono ?_
  rintro e w2 ⟨rfl, b2⟩
  have C2 := Lib.hid (C1.out.bel b2)
  clear b2 C1 c0 c1 c2 lg
  cases gr
  case true =>
    go_wp2
    go_ret
    exact ⟨rfl, C2.out.2.2⟩
  have hng := NG.out rfl
  have hcn : T.cnt t ≤ 1000000 := by omega
  have hsz : T.siz t ≤ 100000 := by omega
  have HX := Lib.hid (show 2 * T.siz t + 3 * T.cnt t ≤ 1000000 by omega)
  have HR := Lib.hid (show (T.shw t).length ≤ 100000 from by have := T.shw_length t; omega)
  clear GR NG hng
  have ST := Lib.hid (fun W h => show_top t (.slice p t.ts.length p') W h hsz)
  have RM := Lib.hid (fun W h => refMay_any t (.slice p t.ts.length p') W h hcn)
  have SH := Lib.hid (fun W h => refShow_any t (.slice p t.ts.length p') W h HX.out)
  have RS := Lib.hid (fun r r' W h1 h2 => refSame_any t (.slice p t.ts.length p') t (.slice r t.ts.length r') W h1 h2)
  rw [same_self] at RS
  have ES := Lib.hid (show showS t = (if T.may t then sb (T.shw t) else ⟨#[]⟩) ∧ showE t = (if T.may t then 0 else 1) from ⟨rfl, rfl⟩)
  obtain ⟨SS, hSS⟩ : ∃ SS, SS = showS t := ⟨_, rfl⟩
  obtain ⟨EE, hEE⟩ : ∃ EE, EE = showE t := ⟨_, rfl⟩
  rw [← hSS, ← hEE] at ES ST
  obtain ⟨eS, eE⟩ := ES.out
  clear ES hSS hEE hcn hsz
  have c0 := C2.out.1.c0
  have c1 := C2.out.1.c1
  have c2 := C2.out.1.c2
  have lg := C2.out.1.lt
  by_cases hm : T.may t = true
  case neg =>
    have hm' : T.may t = false := by simpa using hm
    rw [hm'] at RM eS eE
    simp only [Bool.false_eq_true, if_false] at eS eE
    subst eS
    subst eE
    clear hm hm' SH RS
    go_wp2_with fail
    refine (ST.out _ C2.out.2.1).mono ?_
    rintro e w3 ⟨rfl, b3⟩
    have C3 := Lib.hid (C2.out.bel b3)
    clear b3 C2 c0 c1 c2 lg
    have c0 := C3.out.1.c0
    have c1 := C3.out.1.c1
    have c2 := C3.out.1.c2
    have lg := C3.out.1.lt
    go_wp2_with fail
    refine (RM.out _ C3.out.2.1).mono ?_
    rintro e w4 ⟨rfl, b4⟩
    have C4 := Lib.hid (C3.out.bel b4)
    clear b4 C3 c0 c1 c2 lg
    go_wp2
    go_ret
    exact ⟨rfl, C4.out.2.2⟩
  have RD := Lib.hid (fun W => read_any (T.shw t) W HR.out)
  have HM := Lib.hid hm
  rw [hm] at RM eS eE
  simp only [if_true] at eS eE
  have PO := Lib.hid (fun W e W' => own_line hm (w := W) (e := e) (w' := W'))
  obtain ⟨L, hL⟩ : ∃ L, L = T.shw t := ⟨_, rfl⟩
  rw [← hL] at SH RD PO eS
  subst eS
  subst eE
  clear hm hL HX HR
  go_wp2_with fail
  refine (ST.out _ C2.out.2.1).mono ?_
  rintro e w3 ⟨rfl, b3⟩
  have C3 := Lib.hid (C2.out.bel b3)
  clear b3 C2 c0 c1 c2 lg ST
  have c0 := C3.out.1.c0
  have c1 := C3.out.1.c1
  have c2 := C3.out.1.c2
  have lg := C3.out.1.lt
  go_wp2_with fail
  refine (RM.out _ C3.out.2.1).mono ?_
  rintro e w4 ⟨rfl, b4⟩
  have C4 := Lib.hid (C3.out.bel b4)
  clear b4 C3 c0 c1 c2 lg RM HM
  go_wp2_with fail
  refine (RD.out _).mono ?_
  intro e w5 hq
  obtain ⟨b5, r, r', rfl, h5⟩ := PO.out _ _ _ hq
  clear hq
  have C5 := Lib.hid (C4.out.bel b5)
  have C6 := Lib.hid (show Cs2 t (.slice p t.ts.length p') (.slice r t.ts.length r') w.heap.size w5.heap.size w (w5.alloc (.cells #[.string t.s, .bool t.l, .slice r t.ts.length r'] 24)) from
    ⟨C5.out.bel (bel1 _ _), h5.bel (bel1 _ _), I3.new w5 _ _ _⟩)
  clear b5 h5 C4 RD PO
  have l3 := C5.out.1.lt
  have d0 := C6.out.1.1.c0
  have d1 := C6.out.1.1.c1
  have d2 := C6.out.1.1.c2
  have ld := C6.out.1.1.lt
  have e0 := C6.out.2.2.c0
  have e1 := C6.out.2.2.c1
  have e2 := C6.out.2.2.c2
  have le := C6.out.2.2.lt
  have RS := Lib.hid (RS.out r r')
  go_wp2_with fail
  refine (SH.out _ C6.out.1.2.1).mono ?_
  rintro e w7 ⟨rfl, b7⟩
  have C7 := Lib.hid (C6.out.bel b7)
  clear b7 C6 d0 d1 d2 ld e0 e1 e2 le
  have d0 := C7.out.1.1.c0
  have d1 := C7.out.1.1.c1
  have d2 := C7.out.1.1.c2
  have ld := C7.out.1.1.lt
  have e0 := C7.out.2.2.c0
  have e1 := C7.out.2.2.c1
  have e2 := C7.out.2.2.c2
  have le := C7.out.2.2.lt
  go_wp2_with fail
  refine (RS.out _ C7.out.1.2.1 C7.out.2.1).mono ?_
  rintro e w8 ⟨rfl, b8⟩
  have C9 := Lib.hid (C7.out.bel b8)
  clear b8
  go_wp2
  go_ret
  exact ⟨rfl, C9.out.1.2.2⟩
end Go.Proofs.YtdkeickcbpjedaaDoor
