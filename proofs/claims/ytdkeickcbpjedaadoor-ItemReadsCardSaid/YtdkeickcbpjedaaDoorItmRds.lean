/-
  For every text ItemReads answers true over this seat's translation. No condition.
-/
import Derived.Test.YtdkeickcbpjedaaDoorItmRr
import Derived.Test.YtdkeickcbpjedaaDoorItmShw
import Derived.Test.YtdkeickcbpjedaaDoorItmL
namespace Go.Proofs.YtdkeickcbpjedaaDoor
open Go.RowKit

namespace T
mutual
theorem siz_shw : ∀ t : T, rgt t = true → siz t ≤ (shw t).length
  | mk s false ts, h => by
    obtain rfl := text_rgt h
    have e : s.data.size = s.size := rfl
    rw [shw_text]
    split
    · rename_i hz
      simp only [siz, sizs]
      omega
    · rw [hexs_length, Array.length_toList]
      simp only [siz, sizs]
      omega
  | mk s true ts, h => by
    have h1 := sizs_shs ts (list_rgt h).2
    obtain ⟨rfl, _⟩ := list_rgt h
    have h2 : (⟨#[]⟩ : ByteArray).size = 0 := rfl
    rw [shw_list]
    simp only [siz, List.length_cons, List.length_append, List.length_tail, List.length_nil, h2]
    omega
theorem sizs_shs : ∀ ts : List T, rgts ts = true → sizs ts ≤ (shs ts).length
  | [], _ => by simp [sizs]
  | t :: r, h => by
    simp only [rgts, Bool.and_eq_true] at h
    have h1 := siz_shw t h.1
    have h2 := sizs_shs r h.2
    simp only [sizs, shs, List.length_cons, List.length_append]
    omega
end
end T

/-- What both readings answer: the item, and the error. -/
def Told (l : List UInt8) (x : T) (ec : Int) : Prop := (ec = 0 ∧ T.may x = true ∧ T.shw x = l ∧ ∀ x', T.may x' = true → T.shw x' = l → x' = x) ∨ (ec = 3 ∧ x = tE ∧ ∀ x', T.may x' = true → T.shw x' ≠ l)
theorem in_tE (w : World) : In w tE (.slice none tE.ts.length 0) := ⟨by decide, by simp [maxLen], none, 0, rfl, trivial⟩
theorem read_one {l : List UInt8} {w w' : World} {e : Ending} (h : ReadPost l w e w') :
    ∃ x p p' ec, Told l x ec ∧ e = .returned (.tuple #[.agg #[.string (T.s x), .bool (T.l x), .slice p x.ts.length p'], .int .i64 ec]) ∧ In w' x (.slice p x.ts.length p') ∧ Below w.heap.size w w' := by
  obtain ⟨b, h⟩ := h
  rcases h with ⟨x, v, rfl, hm, hs, hi, hu⟩ | ⟨rfl, hn⟩
  · obtain ⟨p, p', rfl⟩ := hi.slice
    exact ⟨x, p, p', 0, .inl ⟨rfl, hm, hs, hu⟩, rfl, hi, b⟩
  · exact ⟨tE, none, 0, 3, .inr ⟨rfl, rfl, hn⟩, rfl, in_tE _, b⟩
theorem read_snd {l : List UInt8} {x : T} {ec : Int} (ht : Told l x ec) {w w' : World} {e : Ending} (h : ReadPost l w e w') :
    ∃ q q', e = .returned (.tuple #[.agg #[.string (T.s x), .bool (T.l x), .slice q x.ts.length q'], .int .i64 ec]) ∧ In w' x (.slice q x.ts.length q') ∧ Below w.heap.size w w' := by
  obtain ⟨b, h⟩ := h
  rcases h with ⟨y, v, rfl, hm, hs, hi, hu⟩ | ⟨rfl, hn⟩
  · rcases ht with ⟨rfl, _, _, h1⟩ | ⟨_, _, h1⟩
    · obtain rfl := h1 y hm hs
      obtain ⟨p, p', rfl⟩ := hi.slice
      exact ⟨p, p', rfl, hi, b⟩
    · exact absurd hs (h1 y hm)
  · rcases ht with ⟨_, hm, hs, _⟩ | ⟨rfl, rfl, _⟩
    · exact absurd hs (hn x hm)
    · exact ⟨none, 0, rfl, in_tE _, b⟩

/-- The two items in their variables. -/
structure Cr (x : T) (v v' : Value) (g g' : Nat) (w W : World) : Prop where
  a : I3 W g (.string x.s) (.bool x.l) v
  b : I3 W g' (.string x.s) (.bool x.l) v'
  ia : In W x v
  ib : In W x v'
  bel : Below w.heap.size w W
theorem Cr.more {x : T} {v v' : Value} {g g' : Nat} {w W W' : World} (h : Cr x v v' g g' w W) (b : Below W.heap.size W W') : Cr x v v' g g' w W' := ⟨h.a.bel b, h.b.bel b, h.ia.bel b, h.ib.bel b, below_then h.bel b⟩

set_option maxRecDepth 20000 in
set_option maxHeartbeats 4000000 in
theorem itemReads_sb (l : List UInt8) (w : World) :
    Calls Tryd.prog 4 #[.string (sb l)] w fun e w' => e = .returned (.bool true) ∧ Below w.heap.size w w' := by
  have zl : (sb l).size = l.length := sb_size l
  go_enter Tryd.func4, Tryd.ntmps4
  go_wp2_with fail
  refine (alive_any _).mono ?_
  rintro e w1 ⟨rfl, b1⟩
  have B1 := Lib.hid b1
  clear b1
  by_cases hlen : 4000 < l.length
  · have t1 : decide ((4000 : Int) < (l.length : Int)) = true := by simp; omega
    go_wp2_with fail
    go_ret
    exact ⟨rfl, B1.out⟩
  have t1 : decide ((4000 : Int) < (l.length : Int)) = false := by simp; omega
  have HL := Lib.hid (show l.length ≤ 4000 by omega)
  clear hlen
  go_wp2_with fail
  refine (read_any l _ (by have := HL.out; omega)).mono ?_
  intro e w2 hp1
  have P1 := Lib.hid hp1
  clear hp1
  obtain ⟨x, p, p', ec, ht, rfl, hx2, b2⟩ := read_one P1.out
  have TD := Lib.hid ht
  have RC := Lib.hid (fun W => refRead_any l W HL.out)
  have E1 := Lib.hid (show I3 (w2.alloc (.cells #[.string x.s, .bool x.l, .slice p x.ts.length p'] 24)) w2.heap.size (.string x.s) (.bool x.l) (.slice p x.ts.length p') ∧ In (w2.alloc (.cells #[.string x.s, .bool x.l, .slice p x.ts.length p'] 24)) x (.slice p x.ts.length p') ∧
      Below w.heap.size w (w2.alloc (.cells #[.string x.s, .bool x.l, .slice p x.ts.length p'] 24)) from
    ⟨I3.new w2 _ _ _, hx2.bel (bel1 _ _), below_then (below_then B1.out b2) (bel1 _ _)⟩)
  clear ht hx2 b2 B1 P1 zl t1
  go_wp2_with fail
  refine (RC.out _).mono ?_
  intro e w3 hp3
  obtain ⟨q, q', rfl, hx3, b3⟩ := read_snd TD.out hp3
  have C0 := Lib.hid (show Cr x (.slice p x.ts.length p') (.slice q x.ts.length q') w2.heap.size w3.heap.size w (w3.alloc (.cells #[.string x.s, .bool x.l, .slice q x.ts.length q'] 24)) from
    ⟨(E1.out.1.bel b3).alloc _, I3.new w3 _ _ _, (E1.out.2.1.bel b3).bel (bel1 _ _), hx3.bel (bel1 _ _), below_then (below_then E1.out.2.2 b3) (bel1 _ _)⟩)
  have lw3 : w2.heap.size < w3.heap.size := (E1.out.1.bel b3).lt
  clear hp3 hx3 b3 RC E1
  have c0 := C0.out.a.c0
  have c1 := C0.out.a.c1
  have c2 := C0.out.a.c2
  have lc := C0.out.a.lt
  have d0 := C0.out.b.c0
  have d1 := C0.out.b.c1
  have d2 := C0.out.b.c2
  have ld := C0.out.b.lt
  have RS := Lib.hid (fun W h1 h2 => refSame_any x (.slice p x.ts.length p') x (.slice q x.ts.length q') W h1 h2)
  rw [same_self] at RS
  have n0 : (ec != ec) = false := by simp
  go_wp2_with fail
  refine (RS.out _ C0.out.ia C0.out.ib).mono ?_
  rintro e w4 ⟨rfl, b4⟩
  have C4 := Lib.hid (C0.out.more b4)
  clear b4 C0 c0 c1 c2 lc d0 d1 d2 ld lw3 RS
  rcases TD.out with ⟨rfl, hm, hs, _⟩ | ⟨rfl, rfl, _⟩
  case inr =>
    go_wp2
    go_ret
    exact ⟨rfl, C4.out.bel⟩
  have ST := Lib.hid (fun W h => show_top x (.slice p x.ts.length p') W h (by have h1 := T.siz_shw x (by simp only [T.may, Bool.and_eq_true] at hm; exact hm.1.1); have h2 := HL.out; rw [hs] at h1; omega))
  rw [show showS x = sb l by rw [showS, if_pos hm, hs]; rfl, show showE x = 0 by rw [showE, if_pos hm]] at ST
  have c0 := C4.out.a.c0
  have c1 := C4.out.a.c1
  have c2 := C4.out.a.c2
  have lc := C4.out.a.lt
  clear hm hs
  go_wp2_with fail
  refine (ST.out _ C4.out.ia).mono ?_
  rintro e w5 ⟨rfl, b5⟩
  have C5 := Lib.hid (C4.out.more b5)
  clear b5 C4 c0 c1 c2 lc
  go_wp2
  go_ret
  exact ⟨rfl, C5.out.bel⟩

theorem itemReads_any (a0 : ByteArray) (w : World) (_w0 : a0.size ≤ maxLen) :
    Calls Tryd.prog 4 #[.string a0] w fun e w' => e = .returned (.bool true) ∧ Below w.heap.size w w' := by
  have := itemReads_sb a0.data.toList w
  rwa [show sb a0.data.toList = a0 by simp [sb]] at this
end Go.Proofs.YtdkeickcbpjedaaDoor
