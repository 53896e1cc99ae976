/-
  The contract of walk's iterator over an item's tokens (layer 10): it tells them, in order. Conditions: an item of at most 5,000 tokens and 10,000 bytes, whose memory no round turns.
-/
import Derived.Test.YtegakecncpfnnaaWlkU
import Derived.Test.YtegakecncpfnnaaWlkK
import Derived.Test.YtegakecncpfnnaaRlpI
namespace Go.Proofs.Ytegakecncpfnnaa
open Go.RowKit

/-- The least number that a property has. -/
theorem least_ex (p : Nat → Prop) : ∀ n, p n → ∃ g, p g ∧ ∀ m, p m → g ≤ m := by
  intro n
  induction n using Nat.strongRecOn with
  | _ n ih =>
    intro hn
    by_cases h : ∃ m, p m ∧ m < n
    · obtain ⟨m, hm, hl⟩ := h
      exact ih m hl hm
    · exact ⟨n, hn, fun m hm => Nat.le_of_not_lt fun hl => h ⟨m, hm, hl⟩⟩
open Classical in
noncomputable def lst (p : Nat → Prop) : Nat := if h : ∃ n, p n then Classical.choose (least_ex p _ (Classical.choose_spec h)) else 0
theorem lst_spec {p : Nat → Prop} (h : ∃ n, p n) : p (lst p) := by
  unfold lst
  rw [dif_pos h]
  exact (Classical.choose_spec (least_ex p _ (Classical.choose_spec h))).1
theorem lst_le {p : Nat → Prop} {n : Nat} (h : p n) : lst p ≤ n := by
  unfold lst
  rw [dif_pos ⟨n, h⟩]
  exact (Classical.choose_spec (least_ex p _ (Classical.choose_spec ⟨n, h⟩))).2 n h

/-- What comes i-th. -/
def toksE (l : List Tok) (i : Nat) : Array Value := match l[i]? with
  | some a => #[.agg #[.int .i64 a.k, .string a.t]]
  | none => #[.nilIface]
theorem toksE_size (l : List Tok) (i : Nat) : (toksE l i).size = 1 := by unfold toksE; split <;> rfl
theorem toksE_at {l : List Tok} {i : Nat} {a : Tok} {r : List Tok} (h : l.drop i = a :: r) : toksE l i = #[.agg #[.int .i64 a.k, .string a.t]] ∧ l.drop (i + 1) = r ∧ i < l.length := by
  have hi : i < l.length := by
    by_cases h' : i < l.length
    · exact h'
    · rw [List.drop_eq_nil_of_le (by omega)] at h; cases h
  rw [List.drop_eq_getElem_cons hi] at h
  injection h with h1 h2
  refine ⟨?_, h2, hi⟩
  rw [toksE, List.getElem?_eq_getElem hi, h1]

/-- In wi, v is a slice of these items. -/
def RSt (wi : World) (v : Value) (ts : List T) : Prop := ∃ a c, v = .slice a ts.length c ∧ ts.length ≤ c ∧ RowC wi a ts 0
/-- .. or the row of the item itself, which is made anew in block k. -/
def Rs1 (wi wr : World) (k : Nat) (t : T) (vt : Value) (v : Value) (ts : List T) : Prop :=
  RSt wi v ts ∨ (v = .slice (some ⟨k, 0, none⟩) 1 1 ∧ ts = [t] ∧ I3 wr k (.string t.s) (.bool t.l) vt ∧ InC wi t vt)
theorem RowC.next {w : World} {b o : Nat} : ∀ (r : List T) (k : Nat), RowC w (some ⟨b, o, none⟩) r (k + 1) → RowC w (some ⟨b, o + 3, none⟩) r k
  | [], _, _ => trivial
  | u :: r, k, ⟨⟨b', o', v, e, c0, c1, c2, hi⟩, hr⟩ => by
    cases e
    refine ⟨⟨b, o + 3, v, rfl, ?_, ?_, ?_, hi⟩, RowC.next r (k + 1) hr⟩
    · rw [show o + 3 + k * 3 = o + (k + 1) * 3 by omega]; exact c0
    · rw [show o + 3 + k * 3 + 1 = o + (k + 1) * 3 + 1 by omega]; exact c1
    · rw [show o + 3 + k * 3 + 2 = o + (k + 1) * 3 + 2 by omega]; exact c2
theorem Rs1.form {wi wr : World} {k : Nat} {t : T} {vt v : Value} {ts : List T} (h : Rs1 wi wr k t vt v ts) : ∃ a c, v = .slice a ts.length c := by
  rcases h with ⟨a, c, h, _⟩ | ⟨h, h2, _⟩
  · exact ⟨a, c, h⟩
  · exact ⟨_, _, by rw [h2]; exact h⟩
theorem Rs1.head {wi wr : World} {k : Nat} {t : T} {vt v : Value} {u : T} {r : List T} (h : Rs1 wi wr k t vt v (u :: r)) (hb : Below wi.heap.size wi wr) :
    ∃ b o c vu, v = .slice (some ⟨b, o, none⟩) (r.length + 1) c ∧ r.length + 1 ≤ c ∧ wr.cell? ⟨b, o, none⟩ = some (.string u.s) ∧ wr.cell? ⟨b, o + 1, none⟩ = some (.bool u.l) ∧ wr.cell? ⟨b, o + 2, none⟩ = some vu ∧ InC wi u vu ∧
      ∀ c', r.length ≤ c' → RSt wi (.slice (some ⟨b, o + 3, none⟩) r.length c') r := by
  rcases h with ⟨a, c, rfl, hc, ⟨b, o, vu, rfl, c0, c1, c2, hi⟩, hr⟩ | ⟨rfl, h2, h3, h4⟩
  · rw [Nat.zero_mul, Nat.add_zero] at c0 c1 c2
    exact ⟨b, o, c, vu, rfl, hc, cells_below hb _ _ _ c0, cells_below hb _ _ _ c1, cells_below hb _ _ _ c2, hi, fun c' hc' => ⟨_, c', rfl, hc', RowC.next r 0 hr⟩⟩
  · injection h2 with e1 e2
    subst e1 e2
    refine ⟨k, 0, 1, vt, rfl, Nat.le_refl _, h3.c0, h3.c1, h3.c2, h4, fun c' hc' => ⟨_, c', rfl, hc', trivial⟩⟩
theorem InC.rst {wi : World} {u : T} {v : Value} (h : InC wi u v) : RSt wi v u.ts := by
  obtain ⟨a, c, e, hc, _, hr⟩ := h.slice
  exact ⟨a, c, e, hc, hr⟩

/-- What the loop of the iterator keeps, with so many rounds to come. -/
structure Ti (wi W0 wr : World) (k : Nat) (t : T) (vt : Value) (J : Nat → (Nat → Prop) → World → Prop) (l : List Tok) (i : Nat) (Y : Nat → Prop) (row : List T) (bvs : List (Value × List T)) (v3 v4 : Value) : Prop where
  hrow : Rs1 wi wr k t vt v4 row
  own : Sk1 wr W0.heap.size 22 v3 (bvs.map Prod.fst)
  hbvs : ∀ p ∈ bvs, RSt wi p.1 p.2
  todo : l.drop i = T.tokss row ++ bhd (bvs.map Prod.snd)
  le : i ≤ l.length
  j : J i Y wr
  ny : ∀ j, Y j → W0.heap.size ≤ j ∧ j < wr.heap.size ∧ v3.ownBlock ≠ some j ∧ j ≠ k
  bel : Below wi.heap.size wi wr
  sz : W0.heap.size ≤ wr.heap.size
  len : bvs.length ≤ i
  kk : k < wr.heap.size ∧ W0.heap.size ≤ k ∧ v3.ownBlock ≠ some k
def TiG (wi W0 : World) (k : Nat) (t : T) (vt : Value) (J : Nat → (Nat → Prop) → World → Prop) (l : List Tok) (v3 v4 : Value) (wr : World) (g : Nat) : Prop :=
  ∃ i Y row bvs, Ti wi W0 wr k t vt J l i Y row bvs v3 v4 ∧ g = l.length - i

/-- What the iterator itself does ahead of a yield turns nothing of the caller's. -/
theorem Ti.ahead {wi W0 wr wx : World} {k : Nat} {t : T} {vt : Value} {J : Nat → (Nat → Prop) → World → Prop} {l : List Tok} {i : Nat} {Y : Nat → Prop} {row : List T} {bvs : List (Value × List T)} {v3 v4 : Value}
    (h : Ti wi W0 wr k t vt J l i Y row bvs v3 v4) (hJ : ∀ i Y A B, J i Y A → Fr (fun j => W0.heap.size ≤ j ∧ ¬ Y j) A B → J i Y B) (fx : Fr (fun j => v3.ownBlock = some j) wr wx) : J i Y wx :=
  hJ i Y wr wx h.j (fx.mono fun j _ e => ⟨(h.own.block j e).1, fun hy => (h.ny j hy).2.2.1 e⟩)
/-- One more token is told. -/
theorem Ti.go {wi w W0 wr wx w4 : World} {k : Nat} {t : T} {vt : Value} {J : Nat → (Nat → Prop) → World → Prop} {l : List Tok} {i : Nat} {Y Y' S : Nat → Prop} {row row' : List T} {bvs bvs' : List (Value × List T)} {v3 v4 v3' v4' : Value} {a : Tok}
    (h : Ti wi W0 wr k t vt J l i Y row bvs v3 v4) (hS : ∀ j, S j → wi.heap.size ≤ j ∧ j < w.heap.size) (hw : wi.heap.size ≤ w.heap.size) (hsz : w.heap.size ≤ W0.heap.size) (fx : Fr (fun j => v3.ownBlock = some j) wr wx)
    (ownx : Sk1 wx W0.heap.size 22 v3' (bvs'.map Prod.fst)) (obx : v3'.ownBlock = v3.ownBlock ∨ ∀ j, v3'.ownBlock = some j → wr.heap.size ≤ j) (hrow : RSt wi v4' row') (hbvs : ∀ p ∈ bvs', RSt wi p.1 p.2) (hlen : bvs'.length ≤ i + 1)
    (todo : l.drop i = a :: (T.tokss row' ++ bhd (bvs'.map Prod.snd))) (hj : J (i + 1) Y' w4) (hY' : ∀ j, Y' j → (Y j ∨ wx.heap.size ≤ j) ∧ j < w4.heap.size) (f4 : Fr (fun j => S j ∨ (w.heap.size ≤ j ∧ j < W0.heap.size) ∨ Y j) wx w4) :
    TiG wi W0 k t vt J l v3' v4' w4 (l.length - (i + 1)) := by
  obtain ⟨_, htd, hi⟩ := toksE_at todo
  have hsz0 := h.sz
  have hxs := fx.size
  have hkk := h.kk
  have oB : ∀ j, v3'.ownBlock = some j → W0.heap.size ≤ j ∧ j < wx.heap.size := fun j e => ownx.block j e
  have oY : ∀ j, v3'.ownBlock = some j → ¬ Y j := fun j e hy => by
    rcases obx with e' | e'
    · exact (h.ny j hy).2.2.1 (e' ▸ e)
    · have h1 := e' j e
      have h2 := (h.ny j hy).2.1
      omega
  refine ⟨i + 1, Y', row', bvs', ⟨.inl hrow, ownx.fr f4 ?_, hbvs, htd, hi, hj, ?_, ?_, by have := f4.size; omega, hlen, ?_⟩, rfl⟩
  · rintro j e (h' | h' | h')
    · have := (hS j h').2; have := (oB j e).1; omega
    · have := (oB j e).1; omega
    · exact oY j e h'
  · intro j hy
    obtain ⟨h1, h2⟩ := hY' j hy
    rcases h1 with h1 | h1
    · obtain ⟨g1, g2, g3, g4⟩ := h.ny j h1
      exact ⟨g1, h2, fun e => oY j e h1, g4⟩
    · exact ⟨by omega, h2, fun e => by have := (oB j e).2; omega, by omega⟩
  · refine (h.bel.trans (fx.below h.bel.size fun j e => ?_)).trans (f4.below (by have := h.bel.size; omega) fun j e => ?_)
    · have := (h.own.block j e).1; omega
    · rcases e with e | e | e
      · exact (hS j e).1
      · omega
      · have := (h.ny j e).1; omega
  · refine ⟨by have := f4.size; omega, hkk.2.1, fun e => ?_⟩
    rcases obx with e' | e'
    · exact hkk.2.2 (e' ▸ e)
    · have := e' k e; omega
theorem told_any (s : ByteArray) (b : Bool) (p : Option Addr) (n c : Nat) (w : World) :
    Calls Try.prog 23 #[.agg #[.string s, .bool b, .slice p n c]] w fun e w' => e = .returned (.func (.func 42) #[] #[.pointer (some ⟨w.heap.size, 0, none⟩)]) ∧ w' = w.alloc (.cells #[.string s, .bool b, .slice p n c] 24) := by
  go_enter Try.func23, Try.ntmps23
  go_wp2
  go_ret
  exact ⟨rfl, rfl⟩

set_option maxRecDepth 100000 in
set_option maxHeartbeats 1000000 in
theorem told_tells (t : T) (va : Option Addr) (vc xb : Nat) (S : Nat → Prop) (wi w : World) (hI : InC wi t (.slice va t.ts.length vc)) (hx : I3 w xb (.string t.s) (.bool t.l) (.slice va t.ts.length vc)) (hb : Below wi.heap.size wi w) (hS : ∀ j, S j → wi.heap.size ≤ j ∧ j < w.heap.size)
    (hn : (T.toks t).length ≤ 5000) (hz : tsz (T.toks t) ≤ 10000) :
    Tells Try.prog 42 #[.pointer (some ⟨xb, 0, none⟩)] (T.toks t).length (toksE (T.toks t)) S w := by
  intro y J W0 hB hsz hJ hY h0
  show Calls Try.prog 42 #[.func (.yield y) #[] #[], .pointer (some ⟨xb, 0, none⟩)] W0 _
  have hx0 := hx.bel hB
  have x0 := hx0.c0
  have x1 := hx0.c1
  have x2 := hx0.c2
  have xl := hx0.lt
  have HJ := Lib.hid hJ
  have HY := Lib.hid hY
  have HS := Lib.hid hS
  have hB0 := Lib.hid hb.size
  have TT := Lib.hid (show (T.toks t).drop 0 = T.tokss [t] ++ bhd (([] : List (Value × List T)).map Prod.snd) by simp [T.tokss, bhd])
  have H0 := Lib.hid (And.intro h0 (And.intro hI (hb.trans (hB.mono hb.size))))
  obtain ⟨l, hl⟩ : ∃ l, l = T.toks t := ⟨_, rfl⟩
  rw [← hl] at hn hz HY TT ⊢
  have HZ := Lib.hid hz
  clear hJ hY h0 hI hx hb hS hx0 hl hz
  refine (callsIn_wide (n := 2)).1 (callsIn_of_wp Try.func42 rfl trivial ?_ rfl)
  simp only [Try.ntmps42, List.size_toArray, List.length_cons, List.length_nil, Nat.reduceAdd, Nat.reduceSub, Array.replicate_succ, Array.replicate_zero, List.push_toArray, List.append_toArray, List.nil_append, List.cons_append]
  gi_wp2
  obtain ⟨k, hk⟩ : ∃ k, k = W0.heap.size := ⟨_, rfl⟩
  rw [← hk]
  have T0 := Lib.hid (show TiG wi W0 k t (.slice va t.ts.length vc) J l (.slice none 0 0) (.slice (some ⟨k, 0, none⟩) 1 1) (W0.alloc (.cells #[.string t.s, .bool t.l, .slice va t.ts.length vc] 24)) l.length from by
    refine ⟨0, fun _ => False, [t], [], ⟨.inr ⟨rfl, rfl, by rw [hk]; exact I3.new W0 _ _ _, H0.out.2.1⟩, World.ownsRow_nil _ _ _ _, fun p hp => absurd hp List.not_mem_nil, TT.out, Nat.zero_le _, HJ.out 0 _ _ _ H0.out.1 ((Fr.refl _ W0).alloc _), fun _ h => h.elim, H0.out.2.2.alloc H0.out.2.2.size _, by simp, Nat.le_refl _, by rw [size_push]; omega, by omega, by intro e; cases e⟩, rfl⟩)
  clear x0 x1 x2 xl TT H0 hk
  gi_loopw [3, 4] (fun v3 v4 wr => ∃ g, TiG wi W0 k t (.slice va t.ts.length vc) J l v3 v4 wr g) (fun v3 v4 wr => lst (TiG wi W0 k t (.slice va t.ts.length vc) J l v3 v4 wr))
  case atStart => exact ⟨_, T0.out⟩
  case round =>
    clear T0
    obtain ⟨i, Y, row, bvs, hT, hg⟩ := lst_spec hrel
    have HG := Lib.hid hg
    have HT := Lib.hid hT
    clear hg hrel
    rcases row with _ | ⟨u, r⟩
    · obtain ⟨ra, rc, rfl⟩ := hT.hrow.form
      rcases bvs with _ | ⟨⟨bv, b0⟩, q⟩
      · have htd := hT.todo
        simp only [T.tokss, List.nil_append, List.map_nil, bhd] at htd
        have hil : i = l.length := by
          have h1 := congrArg List.length htd
          rw [List.length_drop, List.length_nil] at h1
          have := hT.le
          omega
        obtain ⟨ba, bc, hu3⟩ := hT.own.slice
        simp only [List.map_nil, List.length_nil] at hu3
        subst hu3
        have JE := Lib.hid (show J l.length Y (wr.alloc (.cells #[.int .i64 0, .string ⟨#[]⟩] 48)) from by rw [← hil]; exact HJ.out i Y _ _ hT.j ((Fr.refl _ wr).alloc _))
        clear hT htd hil
        gi_wp2_with fail
        refine bodyPost_ret (v := .tuple #[]) (by simp [results, Try.results42, go_sem]) rfl ?_
        exact ⟨⟨_, rfl⟩, Y, JE.out⟩
      · have own := hT.own
        rw [List.map_cons] at own
        obtain ⟨g, cc, rfl, hcc⟩ := own.form
        have ct := own.top
        have cl := own.lt
        have pop := own.pop
        rw [List.length_map] at ct hcc pop
        have htd := hT.todo
        simp only [T.tokss, List.nil_append, List.map_cons, bhd] at htd
        have TD := Lib.hid htd
        have hle := hT.le
        have hll := hT.len
        simp only [List.length_cons] at hll
        have hql : q.length ≤ 5000 := by omega
        have RB := hT.hbvs (bv, b0) (List.mem_cons_self ..)
        have ROW := Lib.hid RB
        obtain ⟨pa, pc, hpv, _⟩ := RB
        simp only at hpv
        subst hpv
        have tq : decide ((0 : Int) ≤ (q.length : Int)) = true := by simp
        have BVS := Lib.hid (show ∀ p ∈ q, RSt wi p.1 p.2 from fun p hp => hT.hbvs p (List.mem_cons_of_mem _ hp))
        obtain ⟨WX, hWX⟩ : ∃ WX, WX = wr.alloc (.cells #[.int .i64 2, .string ⟨#[]⟩] 48) := ⟨_, rfl⟩
        have fx0 : Fr (fun _ => False) wr WX := by rw [hWX]; exact (Fr.refl _ wr).alloc _
        have FX := Lib.hid (show Fr (fun j => (Value.slice (some ⟨g, 0, none⟩) (List.length (q.map Prod.fst) + 1) cc).ownBlock = some j) wr WX from fx0.mono (fun _ _ e => e.elim))
        have OWX := Lib.hid (show Sk1 WX W0.heap.size 22 (.slice (some ⟨g, 0, none⟩) q.length cc) (q.map Prod.fst) from pop.fr fx0 (fun _ _ e => e))
        have LEN := Lib.hid (show q.length ≤ i + 1 by omega)
        have HW := Lib.hid hWX
        rw [List.length_map] at HT FX HG ⊢
        clear hT own pop htd hWX fx0
        obtain ⟨te, _, hil⟩ := toksE_at TD.out
        have hYi := HY.out i Y WX hil (HT.out.ahead HJ.out FX.out)
        rw [te] at hYi
        obtain ⟨fn, tmps, assign, body, hy, hR⟩ := hYi
        have hy : (Instr.yield y #[.agg #[.int .i64 2, .string ⟨#[]⟩]]).run Try.prog WX = _ := hy
        rw [HW.out] at hy
        clear te
        gi_wp2_with fail
        rw [← HW.out]
        refine hR.mono ?_
        rintro e w4 ⟨rfl, Y', hJ4, hY4, f4⟩
        have G := Lib.hid (HT.out.go (w := w) (S := S) HS.out (by have := hB0.out; omega) hsz FX.out OWX.out (.inl rfl) ROW.out BVS.out LEN.out TD.out hJ4 hY4 f4)
        clear hy hR hJ4 hY4 f4
        gi_wp2
        go_roundw
        case rel => exact ⟨_, G.out⟩
        case measure =>
          have m1 := lst_le G.out
          have m2 := HG.out
          omega
    · obtain ⟨s, ll, us⟩ := u
      obtain ⟨b, o, c, vu, rfl, hc, c0, c1, c2, hiu, hnx⟩ := hT.hrow.head hT.bel
      simp only [T.s, T.l] at c0 c1
      have lb := lt_of_cell c0
      have hll := hT.len
      have hle := hT.le
      have htd := hT.todo
      obtain ⟨ba, bc, rfl⟩ : ∃ a c, u3 = .slice a bvs.length c := by
        obtain ⟨a, c, h⟩ := hT.own.slice
        rw [List.length_map] at h
        exact ⟨a, c, h⟩
      have rl : (0 : Int) < (r.length : Int) + 1 := by omega
      have NOB := Lib.hid (show ¬ (Value.slice ba bvs.length bc).ownBlock = some b from fun e => by
        have h1 := (hT.own.block b e).1
        rcases hT.hrow with ⟨a, c', h2, _, ⟨b', o', v', h3, h4, _⟩, _⟩ | ⟨h2, _⟩
        · injection h2 with h2
          rw [h3] at h2
          injection h2 with h2
          injection h2 with h2 _
          have := lt_of_cell h4
          have := hB0.out
          omega
        · injection h2 with h2
          injection h2 with h2
          injection h2 with h2 _
          exact hT.kk.2.2 (h2 ▸ e))
      have HN := Lib.hid (And.intro hiu hnx)
      have hbl : bvs.length ≤ 5000 := by omega
      cases ll
      · simp only [T.tokss, T.toks_text, List.cons_append, List.nil_append] at htd
        have hzz := tsz_mem l (wrd s) (by have := List.mem_of_mem_drop (i := i) (l := l) (a := wrd s) (by rw [htd]; exact List.mem_cons_self ..); exact this)
        have hz2 := HZ.out
        have hss : s.size ≤ 10000 := by simp only [wrd] at hzz; omega
        have TD := Lib.hid htd
        have CL := Lib.hid (fun W => strClone_any s W (by omega))
        clear hT htd hzz hz2 hiu hnx
        rcases (show (c = 1 ∧ r = []) ∨ (¬ c = 1 ∧ 1 ≤ c) by
          by_cases h : c = 1
          · exact .inl ⟨h, List.length_eq_zero_iff.1 (by omega)⟩
          · exact .inr ⟨h, by omega⟩) with ⟨rfl, rfl⟩ | ⟨hc1, hc2⟩
        · have ROW := Lib.hid (show RSt wi (.slice (some ⟨b, o, none⟩) 0 0) [] from ⟨_, _, rfl, Nat.le_refl _, trivial⟩)
          gi_wp2_with fail
          refine ⟨trivial, callsIn_wide.2 ((CL.out _).mono ?_)⟩
          rintro e w2 ⟨rfl, b2⟩
          obtain ⟨tb, htb⟩ : ∃ tb, tb = wr.heap.size := ⟨_, rfl⟩
          have X2 := (B2.new wr 48 (.int .i64 0) (.string ⟨#[]⟩)).bel b2
          rw [← htb] at X2 ⊢
          have q0 := X2.c0
          have q1 := X2.c1
          have g0 := X2.free 0
          have g1 := X2.free 1
          have ql := X2.lt
          obtain ⟨WX, hWX⟩ : ∃ WX, WX = (w2.setCell ⟨tb, 0, none⟩ (.int .i64 3)).setCell ⟨tb, 1, none⟩ (.string s) := ⟨_, rfl⟩
          have fx0 : Fr (fun _ => False) wr WX := by
            have f2 : Fr (fun _ => False) wr w2 := ((Fr.refl _ wr).alloc _).trans (Fr.ofBelow b2)
            have f3 : Fr (fun j => j = tb) w2 WX := by rw [hWX]; exact (fr_set _).trans (fr_set _)
            exact f2.then_ f3 (fun j hj e => by omega)
          have FX := Lib.hid (show Fr (fun j => (Value.slice ba bvs.length bc).ownBlock = some j) wr WX from fx0.mono (fun _ _ e => e.elim))
          have OWX := Lib.hid (show Sk1 WX W0.heap.size 22 (.slice ba bvs.length bc) (bvs.map Prod.fst) ∧ ((Value.slice ba bvs.length bc).ownBlock = (Value.slice ba bvs.length bc).ownBlock ∨ ∀ j, (Value.slice ba bvs.length bc).ownBlock = some j → wr.heap.size ≤ j) from ⟨HT.out.own.fr fx0 (fun _ _ e => e), .inl rfl⟩)
          have BVS := Lib.hid HT.out.hbvs
          have LEN := Lib.hid (show bvs.length ≤ i + 1 by omega)
          have HW := Lib.hid hWX
          clear b2 X2 hWX fx0 htb
          obtain ⟨te, _, hil⟩ := toksE_at TD.out
          have hYi := HY.out i Y WX hil (HT.out.ahead HJ.out FX.out)
          rw [te] at hYi
          obtain ⟨fn, tmps, assign, body, hy, hR⟩ := hYi
          have hy : (Instr.yield y #[.agg #[.int .i64 3, .string s]]).run Try.prog WX = _ := hy
          rw [HW.out] at hy
          clear te
          gi_wp2_with fail
          rw [← HW.out]
          refine hR.mono ?_
          rintro e w4 ⟨rfl, Y', hJ4, hY4, f4⟩
          have G := Lib.hid (HT.out.go (w := w) (S := S) HS.out (by have := hB0.out; omega) hsz FX.out OWX.out.1 (.inl rfl) ROW.out BVS.out LEN.out TD.out hJ4 hY4 f4)
          clear hy hR hJ4 hY4 f4
          gi_wp2
          go_roundw
          case rel => exact ⟨_, G.out⟩
          case measure =>
            have m1 := lst_le G.out
            have m2 := HG.out
            omega
        · have ROW := Lib.hid (HN.out.2 (c - 1) (by omega))
          gi_wp2_with fail
          refine ⟨trivial, callsIn_wide.2 ((CL.out _).mono ?_)⟩
          rintro e w2 ⟨rfl, b2⟩
          obtain ⟨tb, htb⟩ : ∃ tb, tb = wr.heap.size := ⟨_, rfl⟩
          have X2 := (B2.new wr 48 (.int .i64 0) (.string ⟨#[]⟩)).bel b2
          rw [← htb] at X2 ⊢
          have q0 := X2.c0
          have q1 := X2.c1
          have g0 := X2.free 0
          have g1 := X2.free 1
          have ql := X2.lt
          obtain ⟨WX, hWX⟩ : ∃ WX, WX = (w2.setCell ⟨tb, 0, none⟩ (.int .i64 3)).setCell ⟨tb, 1, none⟩ (.string s) := ⟨_, rfl⟩
          have fx0 : Fr (fun _ => False) wr WX := by
            have f2 : Fr (fun _ => False) wr w2 := ((Fr.refl _ wr).alloc _).trans (Fr.ofBelow b2)
            have f3 : Fr (fun j => j = tb) w2 WX := by rw [hWX]; exact (fr_set _).trans (fr_set _)
            exact f2.then_ f3 (fun j hj e => by omega)
          have FX := Lib.hid (show Fr (fun j => (Value.slice ba bvs.length bc).ownBlock = some j) wr WX from fx0.mono (fun _ _ e => e.elim))
          have OWX := Lib.hid (show Sk1 WX W0.heap.size 22 (.slice ba bvs.length bc) (bvs.map Prod.fst) ∧ ((Value.slice ba bvs.length bc).ownBlock = (Value.slice ba bvs.length bc).ownBlock ∨ ∀ j, (Value.slice ba bvs.length bc).ownBlock = some j → wr.heap.size ≤ j) from ⟨HT.out.own.fr fx0 (fun _ _ e => e), .inl rfl⟩)
          have BVS := Lib.hid HT.out.hbvs
          have LEN := Lib.hid (show bvs.length ≤ i + 1 by omega)
          have HW := Lib.hid hWX
          clear b2 X2 hWX fx0 htb
          obtain ⟨te, _, hil⟩ := toksE_at TD.out
          have hYi := HY.out i Y WX hil (HT.out.ahead HJ.out FX.out)
          rw [te] at hYi
          obtain ⟨fn, tmps, assign, body, hy, hR⟩ := hYi
          have hy : (Instr.yield y #[.agg #[.int .i64 3, .string s]]).run Try.prog WX = _ := hy
          rw [HW.out] at hy
          clear te
          gi_wp2_with fail
          rw [← HW.out]
          refine hR.mono ?_
          rintro e w4 ⟨rfl, Y', hJ4, hY4, f4⟩
          have G := Lib.hid (HT.out.go (w := w) (S := S) HS.out (by have := hB0.out; omega) hsz FX.out OWX.out.1 (.inl rfl) ROW.out BVS.out LEN.out TD.out hJ4 hY4 f4)
          clear hy hR hJ4 hY4 f4
          gi_wp2
          go_roundw
          case rel => exact ⟨_, G.out⟩
          case measure =>
            have m1 := lst_le G.out
            have m2 := HG.out
            omega
      · simp only [T.tokss, T.toks_list, List.cons_append, List.nil_append, List.append_assoc] at htd
        have TD := Lib.hid htd
        clear hT htd hiu hnx
        rcases (show (c = 1 ∧ r = []) ∨ (¬ c = 1 ∧ 1 ≤ c) by
          by_cases h : c = 1
          · exact .inl ⟨h, List.length_eq_zero_iff.1 (by omega)⟩
          · exact .inr ⟨h, by omega⟩) with ⟨rfl, rfl⟩ | ⟨hc1, hc2⟩
        · have RST := Lib.hid (show RSt wi (.slice (some ⟨b, o, none⟩) 0 0) [] from ⟨_, _, rfl, Nat.le_refl _, trivial⟩)
          have w4e := append_one ((wr.alloc (.cells #[.int .i64 1, .string ⟨#[]⟩] 48)).alloc (.cells #[.slice (some ⟨b, o, none⟩) 0 0] 22)) W0.heap.size 55 55 22 (.slice none 0 0) 24 (by omega) Try.underlying55 (by kernel_rfl) (by rfl) (.slice ba bvs.length bc) (bvs.map Prod.fst) (HT.out.own.fr (((Fr.refl (fun _ => False) wr).alloc _).alloc _) (fun _ _ e => e)) (wr.heap.size + 1) 1 (.slice (some ⟨b, o, none⟩) 0 0)
            (by have := (V.new (wr.alloc (.cells #[.int .i64 1, .string ⟨#[]⟩] 48)) 22 (.slice (some ⟨b, o, none⟩) 0 0)).cell; rwa [size_push] at this) rfl (by simp; omega) (by have := HT.out.sz; simp only [size_push]; omega)
          obtain ⟨bv', WX, hap, ownA, grA, obA⟩ := w4e
          obtain ⟨sa, sn, sc, rfl⟩ : ∃ a n c, bv' = .slice a n c := by
            obtain ⟨a, c, h⟩ := ownA.slice
            exact ⟨_, _, _, h⟩
          have FX := Lib.hid (show Fr (fun j => (Value.slice ba bvs.length bc).ownBlock = some j) wr WX from (((Fr.refl _ wr).alloc _).alloc _).trans (fr_grown grA))
          have OWX := Lib.hid (show Sk1 WX W0.heap.size 22 (.slice sa sn sc) (((.slice (some ⟨b, o, none⟩) 0 0, []) :: bvs).map Prod.fst) ∧ ((Value.slice sa sn sc).ownBlock = (Value.slice ba bvs.length bc).ownBlock ∨ ∀ j, (Value.slice sa sn sc).ownBlock = some j → wr.heap.size ≤ j) from ⟨ownA, by
            rcases obA with e | e
            · exact .inl e
            · refine .inr fun j hj => ?_
              rw [e] at hj
              injection hj with hj
              have hj : _ = j := hj
              simp only [size_push] at hj
              omega⟩)
          have ROW := Lib.hid HN.out.1.rst
          have BVS := Lib.hid (show ∀ p ∈ ((.slice (some ⟨b, o, none⟩) 0 0, []) :: bvs : List (Value × List T)), RSt wi p.1 p.2 from fun p hp => by
            rcases List.mem_cons.1 hp with rfl | hp
            · exact RST.out
            · exact HT.out.hbvs p hp)
          have LEN := Lib.hid (show ((.slice (some ⟨b, o, none⟩) 0 0, []) :: bvs : List (Value × List T)).length ≤ i + 1 by simp; omega)
          obtain ⟨ua, uc, hvu, _⟩ := HN.out.1.rst
          simp only [T.ts] at hvu
          subst hvu
          have tbx := ((B2.new wr 48 (.int .i64 1) (.string ⟨#[]⟩)).alloc (.cells #[.slice (some ⟨b, o, none⟩) 0 0] 22)).fr (fr_grown grA) (fun e => by have := (HT.out.own.block _ e).2; omega)
          have y0 := tbx.c0
          have y1 := tbx.c1
          have yl := tbx.lt
          have d2 := cells_fr FX.out c2 (fun e => NOB.out e)
          have d2l := lt_of_cell d2
          have HAP := Lib.hid hap
          have HW := Lib.hid (show WX = WX from rfl)
          clear hap ownA grA obA tbx
          refine wpIn_block ?_
          refine wpIn_seq_k fun Ka hKa => wpIn_wide.2 ?_
          go_wp2_with fail
          refine wpIn_seq_k fun Kb hKb => wpIn_wide.2 ?_
          go_wp2_with fail
          refine wpIn_seq_k fun Kc hKc => wpIn_wide.2 ?_
          go_wp2_with (at_builtin; refine wpList_append_run rfl _ _ 55 rfl _ _ rfl rfl _ WX HAP.out ?_)
          obtain ⟨te, _, hil⟩ := toksE_at TD.out
          have hYi := HY.out i Y WX hil (HT.out.ahead HJ.out FX.out)
          rw [te] at hYi
          obtain ⟨fn, tmps, assign, body, hy, hR⟩ := hYi
          have hy : (Instr.yield y #[.agg #[.int .i64 1, .string ⟨#[]⟩]]).run Try.prog WX = _ := hy
          clear te
          gi_wp2_with fail
          refine hR.mono ?_
          rintro e w4 ⟨rfl, Y', hJ4, hY4, f4⟩
          have G := Lib.hid (HT.out.go (w := w) (S := S) HS.out (by have := hB0.out; omega) hsz FX.out OWX.out.1 OWX.out.2 ROW.out BVS.out LEN.out TD.out hJ4 hY4 f4)
          clear hy hR hJ4 hY4 f4
          gi_wp2
          refine ⟨⟨_, _, ⟨_, G.out⟩, ?_⟩, Nat.lt_of_le_of_lt (lst_le G.out) (Nat.lt_of_lt_of_eq (show l.length - (i + 1) < l.length - i by omega) HG.out.symm)⟩
          repeat apply Exists.intro
          rfl
        · have RST := Lib.hid (HN.out.2 (c - 1) (by omega))
          have w4e := append_one ((wr.alloc (.cells #[.int .i64 1, .string ⟨#[]⟩] 48)).alloc (.cells #[.slice (some ⟨b, o + 3, none⟩) r.length (c - 1)] 22)) W0.heap.size 55 55 22 (.slice none 0 0) 24 (by omega) Try.underlying55 (by kernel_rfl) (by rfl) (.slice ba bvs.length bc) (bvs.map Prod.fst) (HT.out.own.fr (((Fr.refl (fun _ => False) wr).alloc _).alloc _) (fun _ _ e => e)) (wr.heap.size + 1) 1 (.slice (some ⟨b, o + 3, none⟩) r.length (c - 1))
            (by have := (V.new (wr.alloc (.cells #[.int .i64 1, .string ⟨#[]⟩] 48)) 22 (.slice (some ⟨b, o + 3, none⟩) r.length (c - 1))).cell; rwa [size_push] at this) rfl (by simp; omega) (by have := HT.out.sz; simp only [size_push]; omega)
          obtain ⟨bv', WX, hap, ownA, grA, obA⟩ := w4e
          obtain ⟨sa, sn, sc, rfl⟩ : ∃ a n c, bv' = .slice a n c := by
            obtain ⟨a, c, h⟩ := ownA.slice
            exact ⟨_, _, _, h⟩
          have FX := Lib.hid (show Fr (fun j => (Value.slice ba bvs.length bc).ownBlock = some j) wr WX from (((Fr.refl _ wr).alloc _).alloc _).trans (fr_grown grA))
          have OWX := Lib.hid (show Sk1 WX W0.heap.size 22 (.slice sa sn sc) (((.slice (some ⟨b, o + 3, none⟩) r.length (c - 1), r) :: bvs).map Prod.fst) ∧ ((Value.slice sa sn sc).ownBlock = (Value.slice ba bvs.length bc).ownBlock ∨ ∀ j, (Value.slice sa sn sc).ownBlock = some j → wr.heap.size ≤ j) from ⟨ownA, by
            rcases obA with e | e
            · exact .inl e
            · refine .inr fun j hj => ?_
              rw [e] at hj
              injection hj with hj
              have hj : _ = j := hj
              simp only [size_push] at hj
              omega⟩)
          have ROW := Lib.hid HN.out.1.rst
          have BVS := Lib.hid (show ∀ p ∈ ((.slice (some ⟨b, o + 3, none⟩) r.length (c - 1), r) :: bvs : List (Value × List T)), RSt wi p.1 p.2 from fun p hp => by
            rcases List.mem_cons.1 hp with rfl | hp
            · exact RST.out
            · exact HT.out.hbvs p hp)
          have LEN := Lib.hid (show ((.slice (some ⟨b, o + 3, none⟩) r.length (c - 1), r) :: bvs : List (Value × List T)).length ≤ i + 1 by simp; omega)
          obtain ⟨ua, uc, hvu, _⟩ := HN.out.1.rst
          simp only [T.ts] at hvu
          subst hvu
          have tbx := ((B2.new wr 48 (.int .i64 1) (.string ⟨#[]⟩)).alloc (.cells #[.slice (some ⟨b, o + 3, none⟩) r.length (c - 1)] 22)).fr (fr_grown grA) (fun e => by have := (HT.out.own.block _ e).2; omega)
          have y0 := tbx.c0
          have y1 := tbx.c1
          have yl := tbx.lt
          have d2 := cells_fr FX.out c2 (fun e => NOB.out e)
          have d2l := lt_of_cell d2
          have HAP := Lib.hid hap
          have HW := Lib.hid (show WX = WX from rfl)
          clear hap ownA grA obA tbx
          refine wpIn_block ?_
          refine wpIn_seq_k fun Ka hKa => wpIn_wide.2 ?_
          go_wp2_with fail
          refine wpIn_seq_k fun Kb hKb => wpIn_wide.2 ?_
          go_wp2_with fail
          refine wpIn_seq_k fun Kc hKc => wpIn_wide.2 ?_
          go_wp2_with (at_builtin; refine wpList_append_run rfl _ _ 55 rfl _ _ rfl rfl _ WX HAP.out ?_)
          obtain ⟨te, _, hil⟩ := toksE_at TD.out
          have hYi := HY.out i Y WX hil (HT.out.ahead HJ.out FX.out)
          rw [te] at hYi
          obtain ⟨fn, tmps, assign, body, hy, hR⟩ := hYi
          have hy : (Instr.yield y #[.agg #[.int .i64 1, .string ⟨#[]⟩]]).run Try.prog WX = _ := hy
          clear te
          gi_wp2_with fail
          refine hR.mono ?_
          rintro e w4 ⟨rfl, Y', hJ4, hY4, f4⟩
          have G := Lib.hid (HT.out.go (w := w) (S := S) HS.out (by have := hB0.out; omega) hsz FX.out OWX.out.1 OWX.out.2 ROW.out BVS.out LEN.out TD.out hJ4 hY4 f4)
          clear hy hR hJ4 hY4 f4
          gi_wp2
          refine ⟨⟨_, _, ⟨_, G.out⟩, ?_⟩, Nat.lt_of_le_of_lt (lst_le G.out) (Nat.lt_of_lt_of_eq (show l.length - (i + 1) < l.length - i by omega) HG.out.symm)⟩
          repeat apply Exists.intro
          rfl
end Go.Proofs.Ytegakecncpfnnaa
