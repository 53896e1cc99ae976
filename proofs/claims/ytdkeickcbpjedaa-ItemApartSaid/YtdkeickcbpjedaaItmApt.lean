/-
  For every item ItemApart answers true over this seat's translation. Conditions: an item as it lies in memory.
-/
import Derived.Test.YtdkeickcbpjedaaItmMay
namespace Go.Proofs.Ytdkeickcbpjedaa
open Go.RowKit

/-- m items have room at a, in a block from B up to G, not frozen. -/
def Sk1 (B G : Nat) (W : World) (a : Option Addr) (m : Nat) : Prop :=
  m = 0 ∨ ∃ q cur, a = some ⟨q, 0, none⟩ ∧ B ≤ q ∧ q < G ∧ W.heap[q]? = some (.cells cur 24 (0, 0)) ∧ m * 3 ≤ cur.size
/-- .. and each has its own row. -/
def Sk2 (B G : Nat) (W : World) (a : Option Addr) (n : Nat) : Prop :=
  n = 0 ∨ ∃ q cur, a = some ⟨q, 0, none⟩ ∧ B ≤ q ∧ q < G ∧ W.heap[q]? = some (.cells cur 24 (0, 0)) ∧ n * 3 ≤ cur.size ∧
    ∀ i, i < n → ∃ a' m c', cur[i * 3 + 2]? = some (.slice a' m c') ∧ m ≤ maxLen ∧ Sk1 B G W a' m

theorem set_any {w : World} {q b k : Nat} {cur : Array Value} {ty : TypeId} (h : w.heap[q]? = some (.cells cur ty (0, 0))) (u : Value) (hk : k % 3 ≠ 2) :
    ∃ cur', (w.setCell ⟨b, k, none⟩ u).heap[q]? = some (.cells cur' ty (0, 0)) ∧ cur'.size = cur.size ∧ ∀ i, cur'[i * 3 + 2]? = cur[i * 3 + 2]? := by
  by_cases hb : q = b
  · subst hb
    refine ⟨_, set_cells h u, by simp, fun i => ?_⟩
    rw [Array.getElem?_setIfInBounds, if_neg (by omega)]
  · exact ⟨cur, (Below.heap_setCell w ⟨b, k, none⟩ u q hb).trans h, rfl, fun _ => rfl⟩
theorem Sk1.set {B G b k m : Nat} {W : World} {a : Option Addr} (h : Sk1 B G W a m) (u : Value) (hk : k % 3 ≠ 2) : Sk1 B G (W.setCell ⟨b, k, none⟩ u) a m := by
  rcases h with h | ⟨q, cur, ha, h1, h2, h3, h4⟩
  · exact .inl h
  · obtain ⟨cur', g1, g2, _⟩ := set_any (b := b) h3 u hk
    exact .inr ⟨q, cur', ha, h1, h2, g1, by omega⟩
theorem Sk2.set {B G b k n : Nat} {W : World} {a : Option Addr} (h : Sk2 B G W a n) (u : Value) (hk : k % 3 ≠ 2) : Sk2 B G (W.setCell ⟨b, k, none⟩ u) a n := by
  rcases h with h | ⟨q, cur, ha, h1, h2, h3, h4, h5⟩
  · exact .inl h
  · obtain ⟨cur', g1, g2, g3⟩ := set_any (b := b) h3 u hk
    refine .inr ⟨q, cur', ha, h1, h2, g1, by omega, fun i hi => ?_⟩
    obtain ⟨a', m, c', e1, e2, e3⟩ := h5 i hi
    exact ⟨a', m, c', (g3 i).trans e1, e2, e3.set u hk⟩
theorem Sk1.below {B G m : Nat} {W W' : World} {a : Option Addr} (h : Sk1 B G W a m) (b : Below W.heap.size W W') : Sk1 B G W' a m := by
  rcases h with h | ⟨q, cur, ha, h1, h2, h3, h4⟩
  · exact .inl h
  · exact .inr ⟨q, cur, ha, h1, h2, (b.block q (lt_of_block h3)).trans h3, h4⟩
theorem Sk2.below {B G n : Nat} {W W' : World} {a : Option Addr} (h : Sk2 B G W a n) (b : Below W.heap.size W W') : Sk2 B G W' a n := by
  rcases h with h | ⟨q, cur, ha, h1, h2, h3, h4, h5⟩
  · exact .inl h
  · refine .inr ⟨q, cur, ha, h1, h2, (b.block q (lt_of_block h3)).trans h3, h4, fun i hi => ?_⟩
    obtain ⟨a', m, c', e1, e2, e3⟩ := h5 i hi
    exact ⟨a', m, c', e1, e2, e3.below b⟩

theorem lt_size {c : Array Value} {i : Nat} {v : Value} (h : c[i]? = some v) : i < c.size := (Array.getElem?_eq_some_iff.1 h).1
theorem InN.sk1 {W : World} {B : Nat} : ∀ {t : T} {a : Option Addr} {n c : Nat}, InN W B t (.slice a n c) → Sk1 B W.heap.size W a n
  | .mk _ _ ts, a, n, c, ⟨_, _, a', c', hv, hr⟩ => by
    injection hv with h1 h2 _
    subst h1 h2
    by_cases h0 : ts.length = 0
    · exact .inl h0
    · obtain ⟨q, cur, v, ha, hB, hg, _, _, e2, _⟩ := RowN.at ts 0 (ts.length - 1) (by omega) hr
      refine .inr ⟨q, cur, ha, hB, lt_of_block hg, hg, ?_⟩
      have := lt_size e2
      omega
theorem InN.sk2 {W : World} {B : Nat} : ∀ {t : T} {a : Option Addr} {n c : Nat}, InN W B t (.slice a n c) → Sk2 B W.heap.size W a n
  | .mk _ _ ts, a, n, c, ⟨_, _, a', c', hv, hr⟩ => by
    injection hv with h1 h2 _
    subst h1 h2
    by_cases h0 : ts.length = 0
    · exact .inl h0
    · obtain ⟨q, cur, v, ha, hB, hg, _, _, e2, _⟩ := RowN.at ts 0 (ts.length - 1) (by omega) hr
      refine .inr ⟨q, cur, ha, hB, lt_of_block hg, hg, by have := lt_size e2; omega, fun i hi => ?_⟩
      obtain ⟨q', cur', v', ha', _, hg', _, _, d2, hi'⟩ := RowN.at ts 0 i hi hr
      rw [ha] at ha'
      injection ha' with ha'
      injection ha' with ha'
      subst ha'
      rw [hg] at hg'
      injection hg' with hg'
      injection hg' with hg'
      subst hg'
      obtain ⟨p, p', rfl⟩ := hi'.slice
      rw [Nat.zero_add] at d2
      exact ⟨p, _, p', d2, ((InN.in _ _ hi').short).2, hi'.sk1⟩

/-- What the inner loop keeps. -/
def Inn (B G n m q j : Nat) (a a' : Option Addr) (c' : Nat) (W0 W : World) : Prop :=
  Sk2 B G W a n ∧ Fr (fun j => B ≤ j ∧ j < G) W0 W ∧ Sk1 B G W a' m ∧ W.cell? ⟨q, j * 3 + 2, none⟩ = some (.slice a' m c')
theorem Inn.set {B G n m q j b k : Nat} {a a' : Option Addr} {c' : Nat} {W0 W : World} (h : Inn B G n m q j a a' c' W0 W) (u : Value) (hb : B ≤ b ∧ b < G) (hk : k % 3 ≠ 2) :
    Inn B G n m q j a a' c' W0 (W.setCell ⟨b, k, none⟩ u) :=
  ⟨h.1.set u hk, h.2.1.setCell (p := ⟨b, k, none⟩) (.inl hb) u, h.2.2.1.set u hk, by
    rw [World.cell?_setCell_other]
    · exact h.2.2.2
    · intro e
      injection e with _ e _
      omega⟩

set_option maxHeartbeats 4000000 in
theorem itemApart_any (t : T) (v : Value) (w : World) (hI : In w t v) :
    Calls Try.prog 5 #[.agg #[.string t.s, .bool t.l, v]] w fun e w' => e = .returned (.bool true) ∧ Below w.heap.size w w' := by
  obtain ⟨p, p', rfl⟩ := hI.slice
  have HI0 := Lib.hid hI
  have C0 := Lib.hid (Cx.new hI)
  have GR := Lib.hid (great_any t (.slice p t.ts.length p'))
  have NG := Lib.hid (@not_great t)
  obtain ⟨gr, hg⟩ : ∃ gr, gr = great t := ⟨_, rfl⟩
  rw [← hg] at GR NG
  clear hg hI
  go_enter Try.func5, Try.ntmps5
  go_wp2_with fail
  refine (alive_any _).mono ?_
  rintro e w1 ⟨rfl, b1⟩
  have C1 := Lib.hid (C0.out.bel b1)
  clear b1 C0
  have c0 := C1.out.1.c0
  have c1 := C1.out.1.c1
  have c2 := C1.out.1.c2
  have lg := C1.out.1.lt
  go_wp2_with fail
  refine (GR.out _ C1.out.2.1).mono ?_
  rintro e w2 ⟨rfl, b2⟩
  have C2 := Lib.hid (C1.out.bel b2)
  clear b2 C1 c0 c1 c2 lg
  cases gr
  case true =>
    go_wp2
    go_ret
    exact ⟨rfl, C2.out.2.2⟩
  have hng := NG.out rfl
  have hcn : T.cnt t ≤ 1000000 := by omega
  have hsz : T.siz t ≤ 100000 := by omega
  have HN := Lib.hid (And.intro hng.1 (And.intro hng.2 (And.intro hcn hsz)))
  clear GR NG hng hcn hsz
  have RM := Lib.hid (fun W h => refMay_any t (.slice p t.ts.length p') W h HN.out.2.2.1)
  obtain ⟨ma, hma⟩ : ∃ ma, ma = T.may t := ⟨_, rfl⟩
  rw [← hma] at RM
  have HMA := Lib.hid hma
  clear hma
  have c0 := C2.out.1.c0
  have c1 := C2.out.1.c1
  have c2 := C2.out.1.c2
  have lg := C2.out.1.lt
  go_wp2_with fail
  refine (RM.out _ C2.out.2.1).mono ?_
  rintro e w3 ⟨rfl, b3⟩
  have C3 := Lib.hid (C2.out.bel b3)
  clear b3 C2 c0 c1 c2 lg
  cases ma
  case false =>
    go_wp2
    go_ret
    exact ⟨rfl, C3.out.2.2⟩
  have c0 := C3.out.1.c0
  have c1 := C3.out.1.c1
  have c2 := C3.out.1.c2
  have lg := C3.out.1.lt
  go_wp2_with fail
  have SHW := Lib.hid (fun W h => refShow_any t (.slice p t.ts.length p') W h (by have := HN.out; omega))
  obtain ⟨S, hS⟩ : ∃ S, S = sb (T.shw t) := ⟨_, rfl⟩
  rw [← hS] at SHW
  clear hS
  refine (SHW.out _ C3.out.2.1).mono ?_
  rintro e w4 ⟨rfl, b4⟩
  have C4 := Lib.hid (C3.out.bel b4)
  clear b4 C3 c0 c1 c2 lg RM
  have c0 := C4.out.1.c0
  have c1 := C4.out.1.c1
  have c2 := C4.out.1.c2
  have lg := C4.out.1.lt
  go_wp2_with fail
  refine (copy_any t (.slice p t.ts.length p') _ C4.out.2.1 HN.out.2.2.2).mono ?_
  rintro e y1 ⟨b5, hif⟩
  rw [if_pos HMA.out.symm] at hif
  obtain ⟨u, rfl, hu⟩ := hif
  obtain ⟨r, r', rfl⟩ := hu.slice
  have C5 := C4.out.bel b5
  have C6 := Lib.hid (C5.bel (bel1 y1 (.cells #[.string t.s, .bool t.l, .slice r t.ts.length r'] 24)))
  have K6 := Lib.hid (hu.sk2.below (bel1 y1 (.cells #[.string t.s, .bool t.l, .slice r t.ts.length r'] 24)))
  have V6 := Lib.hid (I3.new y1 (.string t.s) (.bool t.l) (.slice r t.ts.length r'))
  have SZ := Lib.hid (And.intro C4.out.1.lt b5.size)
  clear b5 hu C5 c0 c1 c2 lg C4
  have c0 := C6.out.1.c0
  have c1 := C6.out.1.c1
  have c2 := C6.out.1.c2
  have lg := C6.out.1.lt
  obtain ⟨y2, hy2⟩ : ∃ y2, y2 = y1.alloc (.cells #[.string t.s, .bool t.l, .slice r t.ts.length r'] 24) := ⟨_, rfl⟩
  have hs2 : y2.heap.size = y1.heap.size + 1 := by rw [hy2, size_push]
  have hlt : w.heap.size < y1.heap.size := by have := SZ.out; omega
  go_wp2_with fail
  have C6 := C6.out
  have K6 := K6.out
  have V6 := V6.out
  rw [← hy2] at C6 K6 V6 ⊢
  have ix := I3.new y2 (.string t.s) (.bool t.l) (.slice p t.ts.length p')
  rw [hs2] at ix
  have hin : In (y2.alloc (.cells #[.string t.s, .bool t.l, .slice p t.ts.length p'] 24)) (.mk ⟨#[]⟩ true [t]) (.slice (some ⟨y1.heap.size + 1, 0, none⟩) 1 1) :=
    ⟨by decide, by simp [maxLen], _, 1, rfl, ⟨_, _, _, rfl, ix.c0, ix.c1, ix.c2, C6.2.1.bel (bel1 _ _)⟩, trivial⟩
  refine (list_any [t] _ _ hin (by have := HN.out; simp only [T.cnts]; omega) (by have := HN.out; simp only [T.sizs]; omega)).mono ?_
  rintro e y3 ⟨y, rfl, hy, b6⟩
  obtain ⟨_, _, aa, cl, rfl, hrow⟩ := hy
  obtain ⟨ql, curl, xv, rfl, hqB, hql, _, _, e2, _⟩ := RowN.at [t] 0 0 (by simp) hrow
  have hsl : 3 ≤ curl.size := lt_size e2
  have hqB2 : y1.heap.size < ql := by simp at hqB; omega
  have b7 := (bel1 y2 (.cells #[.string t.s, .bool t.l, .slice p t.ts.length p'] 24)).trans (b6.mono (by simp))
  have b8 := b7.trans ((bel1 y3 (.cells #[.string ⟨#[]⟩, .bool true, .slice (some ⟨ql, 0, none⟩) 1 cl] 24)).mono b7.size)
  have g0 := I3.new y3 (.string ⟨#[]⟩) (.bool true) (.slice (some ⟨ql, 0, none⟩) 1 cl)
  have hgl : y1.heap.size < y3.heap.size := by have := b7.size; omega
  obtain ⟨gl, hgl2⟩ : ∃ gl, gl = y3.heap.size := ⟨_, rfl⟩
  have q0 := (Below.heap_alloc y3 (.cells #[.string ⟨#[]⟩, .bool true, .slice (some ⟨ql, 0, none⟩) 1 cl] 24) ql (lt_of_block hql)).trans hql
  obtain ⟨W0, hW0⟩ : ∃ W0, W0 = y3.alloc (.cells #[.string ⟨#[]⟩, .bool true, .slice (some ⟨ql, 0, none⟩) 1 cl] 24) := ⟨_, rfl⟩
  obtain ⟨G, hG⟩ : ∃ G, G = y1.heap.size := ⟨_, rfl⟩
  obtain ⟨B, hB⟩ : ∃ B, B = w4.heap.size := ⟨_, rfl⟩
  obtain ⟨g, hgg⟩ : ∃ g, g = w.heap.size := ⟨_, rfl⟩
  have CW := C6.bel b8
  have KW := K6.below b8
  have VW := V6.bel b8
  have hgB : w.heap.size < w4.heap.size := SZ.out.1
  rw [← hW0] at CW KW VW g0 q0
  rw [← hG] at KW VW hlt hqB2 hgl
  rw [← hB] at KW hgB
  rw [← hgg] at CW hlt hgB
  rw [← hgl2] at g0 hgl
  have hgl3 : y3.heap.size + 1 = W0.heap.size := by rw [hW0, size_push]
  rw [show [t].length = 1 from rfl]
  have A := Lib.hid (And.intro CW (And.intro KW (And.intro VW (And.intro g0 q0))))
  have H := Lib.hid (And.intro hlt (And.intro hgB (And.intro hqB2 (And.intro hgl hsl))))
  have HG := Lib.hid hgg
  clear b6 b7 b8 hrow hql hqB e2 ix hin C6 K6 V6 c0 c1 c2 lg CW KW VW g0 q0 hy2 hs2 SZ HMA
  go_upto_region 8 with fail
  rw [← hW0, ← hgl2, ← hG, ← hgg]
  clear hW0 hgl3 hgl2 hG hB hgg
  have hnm : t.ts.length ≤ 9223372036854775807 := by have := A.out.1.2.1.short.2; unfold maxLen at this; omega
  obtain ⟨n, hn⟩ : ∃ n, n = t.ts.length := ⟨_, rfl⟩
  have A := A.out
  rw [← hn] at A hnm ⊢
  have A := Lib.hid A
  have HNN := Lib.hid hn
  clear hn
  go_wp2
  go_loopw [6] (fun i W => ∃ j : Nat, j ≤ n ∧ i = .int .i64 j ∧ Sk2 B G W r n ∧ Fr (fun j => B ≤ j ∧ j < G) W0 W) (fun i _ => n - (intOf i).toNat)
  case atStart => exact ⟨0, Nat.zero_le _, rfl, A.out.2.1, Fr.refl _ _⟩
  case round =>
    obtain ⟨j, hj, rfl, hsk, hfr⟩ := hrel
    have vc := A.out.2.2.1.fr hfr (by omega)
    have c2 := vc.c2
    have lc := vc.lt
    by_cases hlt : j < n
    · obtain hn0 | ⟨q, cur, rfl, hq1, hq2, hq3, hq4, hq5⟩ := hsk
      · omega
      obtain ⟨a', m, c', e2, hm, hs1⟩ := hq5 j hlt
      have hsk : Sk2 B G wr (some ⟨q, 0, none⟩) n := .inr ⟨q, cur, rfl, hq1, hq2, hq3, hq4, hq5⟩
      have d2 : wr.cell? ⟨q, j * 3 + 2, none⟩ = some (.slice a' m c') := (cell_cells hq3).trans e2
      have lq := lt_of_block hq3
      unfold maxLen at hm
      have SK := Lib.hid (show Inn B G n m q j (some ⟨q, 0, none⟩) a' c' W0 wr from ⟨hsk, hfr, hs1, d2⟩)
      have HQ := Lib.hid (And.intro hq1 hq2)
      clear hsk hfr hs1 hq3 hq4 hq5 hq1 e2 vc
      go_wp2
      go_loopw [7] (fun i W => ∃ k : Nat, k ≤ m ∧ i = .int .i64 k ∧ Inn B G n m q j (some ⟨q, 0, none⟩) a' c' W0 W) (fun i _ => m - (intOf i).toNat)
      case atStart => exact ⟨0, Nat.zero_le _, rfl, SK.out⟩
      case round =>
        obtain ⟨k, hk, rfl, hin⟩ := hrel
        have IN := Lib.hid hin
        have vc := A.out.2.2.1.fr hin.2.1 (by omega)
        have c2 := vc.c2
        have lc := vc.lt
        have d2 := hin.2.2.2
        have lq := lt_of_cell d2
        by_cases hlk : k < m
        · obtain hm0 | ⟨q', cur', rfl, h1, h2, h3, h4⟩ := hin.2.2.1
          · omega
          obtain ⟨ev, e0⟩ : ∃ ev, wr.cell? ⟨q', k * 3, none⟩ = some ev := ⟨_, (cell_cells h3).trans (Array.getElem?_eq_getElem (show k * 3 < cur'.size by omega))⟩
          have f0 : wr.frozen? ⟨q', k * 3, none⟩ = false := free_cells h3
          have lq' := lt_of_block h3
          have R := Lib.hid (IN.out.set (b := q') (k := k * 3) (.string ⟨#[116, 117, 114, 110, 101, 100]⟩) ⟨h1, h2⟩ (by omega))
          clear hin vc IN h3 h4
          go_wp2
          go_roundw
          case rel => exact ⟨k + 1, by omega, by go_num, R.out⟩
          case measure => (simp [intOf]) <;> omega
        · obtain rfl : k = m := by omega
          obtain hn0 | ⟨q2, cr, hqq, h1, h2, h3, h4, _⟩ := hin.1
          · omega
          injection hqq with hqq
          injection hqq with hqq
          subst hqq
          obtain ⟨ev, e0⟩ : ∃ ev, wr.cell? ⟨q, j * 3, none⟩ = some ev := ⟨_, (cell_cells h3).trans (Array.getElem?_eq_getElem (show j * 3 < cr.size by omega))⟩
          obtain ⟨ev1, e1⟩ : ∃ ev, wr.cell? ⟨q, j * 3 + 1, none⟩ = some ev := ⟨_, (cell_cells h3).trans (Array.getElem?_eq_getElem (show j * 3 + 1 < cr.size by omega))⟩
          have f0 : wr.frozen? ⟨q, j * 3, none⟩ = false := free_cells h3
          have f1 : wr.frozen? ⟨q, j * 3 + 1, none⟩ = false := free_cells h3
          have R := Lib.hid ((IN.out.set (b := q) (k := j * 3) (.string ⟨#[116, 117, 114, 110, 101, 100]⟩) ⟨h1, h2⟩ (by omega)).set (b := q) (k := j * 3 + 1) (.bool false) ⟨h1, h2⟩ (by omega))
          clear hin vc IN h3 h4
          go_wp2
          go_roundw
          case rel => exact ⟨j + 1, by omega, by go_num, R.out.1, R.out.2.1⟩
          case measure => (simp [intOf]) <;> omega
    · obtain rfl : j = n := by omega
      have cx := A.out.1
      have gx := cx.1.fr hfr (by have := H.out; omega)
      have glx := A.out.2.2.2.1.fr hfr (by have := H.out; omega)
      have qlx := (hfr.block ql (lt_of_block A.out.2.2.2.2) (by have := H.out; omega)).trans A.out.2.2.2.2
      have bx := cx.2.2.trans (hfr.below (B := w.heap.size) cx.2.2.size (fun j h => by have := H.out; have := HG.out; omega))
      obtain ⟨v0, k0⟩ : ∃ ev, wr.cell? ⟨ql, 0, none⟩ = some ev := ⟨_, (cell_cells qlx).trans (Array.getElem?_eq_getElem (show 0 < curl.size by have := H.out; omega))⟩
      obtain ⟨v1, k1⟩ : ∃ ev, wr.cell? ⟨ql, 1, none⟩ = some ev := ⟨_, (cell_cells qlx).trans (Array.getElem?_eq_getElem (show 1 < curl.size by have := H.out; omega))⟩
      obtain ⟨v2, k2⟩ : ∃ ev, wr.cell? ⟨ql, 2, none⟩ = some ev := ⟨_, (cell_cells qlx).trans (Array.getElem?_eq_getElem (show 2 < curl.size by have := H.out; omega))⟩
      have f0 : wr.frozen? ⟨ql, 0, none⟩ = false := free_cells qlx
      have f1 : wr.frozen? ⟨ql, 1, none⟩ = false := free_cells qlx
      have f2 : wr.frozen? ⟨ql, 2, none⟩ = false := free_cells qlx
      have lql := lt_of_block qlx
      have l2 := glx.c2
      have lgl := glx.lt
      have vc := A.out.2.2.1.fr hfr (by omega)
      have c2 := vc.c2
      have lc := vc.lt
      have hqw : w.heap.size ≤ ql := by have := H.out; have := HG.out; omega
      have hgq : g ≠ ql := by have := H.out; omega
      have bz := bel_put bx hqw (.string ⟨#[]⟩) (.bool false) (.slice none 0 0)
      have gz := gx.fr (fr_put (g := ql) (.string ⟨#[]⟩) (.bool false) (.slice none 0 0)) hgq
      obtain ⟨Wz, hWz⟩ : ∃ Wz, Wz = ((wr.setCell ⟨ql, 0, none⟩ (.string ⟨#[]⟩)).setCell ⟨ql, 1, none⟩ (.bool false)).setCell ⟨ql, 2, none⟩ (.slice none 0 0) := ⟨_, rfl⟩
      rw [← hWz] at bz gz
      have BZ := Lib.hid bz
      have GZ := Lib.hid gz
      have IZ := Lib.hid (HI0.out.bel bz)
      have HWz := Lib.hid hWz
      have hee : (S.toList == S.toList) = true := by simp
      clear cx gx glx qlx bx vc bz gz hWz hsk hfr
      go_upto_region 20 with fail
      rw [← HWz.out]
      have z0 := GZ.out.c0
      have z1 := GZ.out.c1
      have z2 := GZ.out.c2
      have z3 := GZ.out.lt
      clear k0 k1 k2 f0 f1 f2 lql l2 lgl c2 lc
      go_wp2_with fail
      have hjn := HNN.out
      rw [← hjn] at SHW IZ
      refine (SHW.out _ IZ.out).mono ?_
      rintro e w9 ⟨rfl, b9⟩
      have B9 := Lib.hid (below_then BZ.out b9)
      clear b9 z0 z1 z2 z3 hjn
      go_wp2
      go_ret
      exact ⟨rfl, B9.out⟩
end Go.Proofs.Ytdkeickcbpjedaa
