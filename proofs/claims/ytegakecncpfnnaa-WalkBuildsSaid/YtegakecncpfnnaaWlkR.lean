/-
  The contracts of the laws' same and great, and of the document's tokens of an item (layer 10) over this seat's translation. Conditions: rows as they lie in memory; an item of at most 5,000 tokens.
-/
import Derived.Test.YtegakecncpfnnaaWlkF
import Derived.Test.YtegakecncpfnnaaWlkT
import Derived.Lib.MinMax
import Derived.Laws.StructEq
namespace Go.Proofs.Ytegakecncpfnnaa
open Go.RowKit

open Classical in
/-- Are two rows one? -/
noncomputable def tsame (a b : List Tok) : Bool := decide (a = b)
theorem tsame_eq {a b : List Tok} (h : a = b) : tsame a b = true := by simp [tsame, h]
theorem tsame_ne {a b : List Tok} (h : ¬ a = b) : tsame a b = false := by simp [tsame, h]

theorem take_eq_tok (l m : List Tok) (j : Nat) (h1 : j < l.length) (h2 : j < m.length) (h : l.take j = m.take j) (he : l[j] = m[j]) : l.take (j + 1) = m.take (j + 1) := by
  rw [List.take_add_one, List.take_add_one, List.getElem?_eq_getElem h1, List.getElem?_eq_getElem h2, h, he]

set_option maxRecDepth 100000 in
theorem tok_guard : Try.prog.eqGuardType Try.prog.depth 77 = false := by kernel_rfl
set_option maxRecDepth 100000 in
theorem tok_stood : Try.prog.stoodInHeld 77 = false := by kernel_rfl
set_option maxRecDepth 100000 in
theorem tok_fields : (Try.prog.fieldsOf 77).toList.map (fun f => (f.name, f.type, f.offset)) = [("Kind", 3, 0), ("Text", 9, 1)] := by kernel_rfl
set_option maxRecDepth 100000 in
theorem tok_eq (x y : Tok) (w : World) : (Op.equalIn 10000 77 (.agg #[.int .i64 x.k, .string x.t]) (.agg #[.int .i64 y.k, .string y.t])).run Try.prog w = .ok (x.k == y.k && x.t.toList == y.t.toList) w := by
  rw [run_equalIn_agg w 9999 _ _ _ Try.underlying77 tok_stood]
  obtain ⟨f0, r0, h0, e0, hr0⟩ := List.map_eq_cons_iff.1 tok_fields
  obtain ⟨f1, r1, h1, e1, hr1⟩ := List.map_eq_cons_iff.1 hr0
  obtain rfl := List.map_eq_nil_iff.1 hr1
  subst h1
  simp only [Prod.mk.injEq] at e0 e1
  obtain ⟨n0, t0, o0⟩ := e0
  obtain ⟨n1, t1, o1⟩ := e1
  have ui : Try.prog.underlying 3 = some (.int .i64) := Try.underlying3
  have us : Try.prog.underlying 9 = some .string := Try.underlying9
  have p0 : ∀ (z : Tok), (part 3 #[.int .i64 z.k, .string z.t] 0).run Try.prog w = .ok (.int .i64 z.k) w := fun z => by simp [part, isAgg, run_underlying ui]
  have p1 : ∀ (z : Tok), (part 9 #[.int .i64 z.k, .string z.t] 1).run Try.prog w = .ok (.string z.t) w := fun z => by simp [part, isAgg, run_underlying us]
  rw [h0]
  simp only [Op.eqFields, n0, t0, o0, n1, t1, o1, Sem.run_bind, Sem.run_ite, p0, p1, Result.andThen_ok, run_equalIn_int w 9998 _ _ _ _ _ ui, run_equalIn_string w 9998 _ _ _ us, Sem.run_pure]
  cases (x.k == y.k) <;> cases (x.t.toList == y.t.toList) <;> simp

set_option maxRecDepth 100000 in
theorem tsame_any (l m : List Tok) (v u : Value) (w : World) (hl : TSl w v l) (hm : TSl w u m) (hn : l.length ≤ 100000) :
    Calls Try.prog 12 #[v, u] w fun e w' => e = .returned (.bool (tsame l m)) ∧ Below w.heap.size w w' := by
  obtain ⟨a, c, rfl, hc, hr⟩ := hl
  obtain ⟨a', c', rfl, hc', hr'⟩ := hm
  have HR := Lib.hid hr
  have HR' := Lib.hid hr'
  clear hr hr'
  by_cases hz : m.length = l.length
  · rw [hz] at hc' ⊢
    obtain ⟨n, hnn⟩ : ∃ n, n = l.length := ⟨_, rfl⟩
    have HN := Lib.hid hnn
    have HZ := Lib.hid hz
    rw [← hnn] at hn hc hc' ⊢
    clear hnn hz
    go_enter Try.func12, Try.ntmps12
    go_wp2
    go_loopw [5] (fun v wr => ∃ j : Nat, j ≤ n ∧ v = .int .i64 j ∧ l.take j = m.take j ∧ Below w.heap.size w wr) (fun v _ => n - (intOf v).toNat)
    case atStart => exact ⟨0, Nat.zero_le _, rfl, by simp, Below.refl _ _⟩
    case round =>
      obtain ⟨j, hj, rfl, hg, hb⟩ := hrel
      have B := Lib.hid hb
      have G := Lib.hid hg
      clear hb hg
      by_cases hlt : j < n
      · have hiL : j < l.length := by have := HN.out; omega
        have hiM : j < m.length := by have := HN.out; have := HZ.out; omega
        obtain ⟨b, o, rfl, c0, c1⟩ := (HR.out.bel B.out) j hiL
        obtain ⟨b', o', rfl, d0, d1⟩ := (HR'.out.bel B.out) j hiM
        have lb := lt_of_cell c0
        have lb' := lt_of_cell d0
        obtain ⟨x, hx⟩ : ∃ x, x = l[j] := ⟨_, rfl⟩
        obtain ⟨y, hy⟩ : ∃ y, y = m[j] := ⟨_, rfl⟩
        have HX := Lib.hid (And.intro hx hy)
        rw [← hx] at c0 c1
        rw [← hy] at d0 d1
        clear hx hy
        have ci : (j : Int) < (n : Int) := by omega
        have te := fun w => tok_eq x y w
        have tg := tok_guard
        have TE := Lib.hid (fun (h : x = y) => take_eq_tok l m j hiL hiM G.out (HX.out.1.symm.trans (h.trans HX.out.2)))
        have NE := Lib.hid (fun (h : ¬ x = y) => show ¬ l = m from fun e => h (by rw [HX.out.1, HX.out.2]; subst e; rfl))
        by_cases he : x = y
        · have E := Lib.hid (TE.out he)
          have b1 : (x.k == y.k) = true := by rw [he]; simp
          have b2 : (x.t.toList == y.t.toList) = true := by rw [he]; simp
          clear he TE NE G
          go_upto_region 6 with fail
          go_quiet (fail)
          have BD := Lib.hid (B.out.trans (((Fr.refl (fun _ => False) wr).drewN nq).below B.out.size (fun _ e => False.elim e)))
          clear B
          go_wp2
          go_roundw
          case rel => exact ⟨j + 1, by omega, by go_num, E.out, BD.out⟩
          case measure => (simp [intOf]) <;> omega
        · have E := Lib.hid (show tsame l m = false from tsame_ne (NE.out he))
          by_cases hk : x.k = y.k
          · have b1 : (x.k == y.k) = true := by rw [hk]; simp
            have b2 : (x.t.toList == y.t.toList) = false := toList_ne (fun e => he (by cases x; cases y; simp only at hk e; rw [hk, e]))
            clear he TE NE G hk
            go_upto_region 6 with fail
            go_quiet (fail)
            have BD := Lib.hid (B.out.trans (((Fr.refl (fun _ => False) wr).drewN nq).below B.out.size (fun _ e => False.elim e)))
            clear B
            go_wp2
            go_ret
            exact ⟨by rw [E.out]; rfl, BD.out⟩
          · have b1 : (x.k == y.k) = false := by simpa using hk
            clear he TE NE G hk
            go_upto_region 6 with fail
            go_quiet (fail)
            have BD := Lib.hid (B.out.trans (((Fr.refl (fun _ => False) wr).drewN nq).below B.out.size (fun _ e => False.elim e)))
            clear B
            go_wp2
            go_ret
            exact ⟨by rw [E.out]; rfl, BD.out⟩
      · obtain rfl : j = n := by omega
        have E := Lib.hid (show tsame l m = true from tsame_eq (by
          have h := G.out
          rw [HN.out, List.take_length, ← HZ.out, List.take_length] at h
          exact h))
        clear G
        go_wp2
        go_ret
        exact ⟨by rw [E.out]; rfl, B.out⟩
  · have E := Lib.hid (show tsame l m = false from tsame_ne (fun e => hz (by rw [e])))
    have t1 : ((l.length : Int) != (m.length : Int)) = true := by simp only [bne_iff_ne, ne_eq]; omega
    clear hz
    go_enter Try.func12, Try.ntmps12
    go_wp2
    go_ret
    exact ⟨by rw [E.out]; rfl, Below.refl _ _⟩

/-- How great a row is, as the statements look at it. -/
def tgreat (l : List Tok) : Bool := if 1500 < l.length then true else decide (6000 < min (tsz l) 10000)
theorem tgreat_no {l : List Tok} (h : tgreat l = false) : l.length ≤ 1500 ∧ tsz l ≤ 6000 := by
  unfold tgreat at h
  split at h
  · cases h
  · have := of_decide_eq_false h
    omega
theorem tsz_take (l : List Tok) (i : Nat) (h : i < l.length) : tsz (l.take (i + 1)) = tsz (l.take i) + l[i].t.size := by
  rw [List.take_add_one, List.getElem?_eq_getElem h, tsz_append]; simp [tsz]

set_option maxRecDepth 100000 in
theorem tgreat_any (l : List Tok) (v : Value) (w : World) (hl : TSl w v l) (hn : l.length ≤ 9223372036854775807) :
    Calls Try.prog 17 #[v] w fun e w' => e = .returned (.bool (tgreat l)) ∧ Below w.heap.size w w' := by
  obtain ⟨a, c, rfl, hc, hr⟩ := hl
  have HR := Lib.hid hr
  clear hr
  by_cases h15 : 1500 < l.length
  · have E := Lib.hid (show tgreat l = true from if_pos h15)
    have t1 : decide ((1500 : Int) < (l.length : Int)) = true := by simp; omega
    clear h15
    go_enter Try.func17, Try.ntmps17
    go_wp2
    go_ret
    exact ⟨by rw [E.out]; rfl, Below.refl _ _⟩
  · have E := Lib.hid (show tgreat l = decide (6000 < min (tsz l) 10000) from if_neg h15)
    have t1 : decide ((1500 : Int) < (l.length : Int)) = false := by simp; omega
    have hn' : l.length ≤ 1500 := by omega
    obtain ⟨n, hnn⟩ : ∃ n, n = l.length := ⟨_, rfl⟩
    have HN := Lib.hid hnn
    rw [← hnn] at hn' hc t1 ⊢
    clear h15 hnn hn
    go_enter Try.func17, Try.ntmps17
    go_wp2
    go_loopw [4, 3] (fun v x wr => ∃ (i m : Nat), v = .int .i64 i ∧ x = .int .i64 m ∧ i ≤ n ∧ m = min (tsz (l.take i)) 10000 ∧ Below w.heap.size w wr) (fun i _ _ => n - (intOf i).toNat)
    case atStart => exact ⟨0, 0, rfl, rfl, Nat.zero_le _, by simp [tsz], Below.refl _ _⟩
    case round =>
      obtain ⟨i, m, rfl, rfl, hi, hm, hb⟩ := hrel
      have B := Lib.hid hb
      clear hb
      by_cases hlt : i < n
      · have hiL : i < l.length := by have := HN.out; omega
        obtain ⟨b, o, rfl, c0, c1⟩ := (HR.out.bel B.out) i hiL
        have lb := lt_of_cell c0
        have hz := tsz_take l i hiL
        obtain ⟨x, hx⟩ : ∃ x, x = l[i] := ⟨_, rfl⟩
        rw [← hx] at c0 c1 hz
        obtain ⟨s, hs⟩ : ∃ s, s = x.t.size := ⟨_, rfl⟩
        have hs' : x.t.size = s := hs.symm
        obtain ⟨m1, hm1⟩ : ∃ m1, m1 = min s 10000 := ⟨_, rfl⟩
        obtain ⟨m2, hm2⟩ : ∃ m2, m2 = min (m + m1) 10000 := ⟨_, rfl⟩
        have b1 : m1 ≤ 10000 := by omega
        have bm : m ≤ 10000 := by omega
        have HM1 := Lib.hid (And.intro hm1 hm2)
        have M := Lib.hid (show m2 = min (tsz (l.take (i + 1))) 10000 by rw [hz]; omega)
        clear hx hs hm1 hm2 hz hm
        go_wp2
        go_roundw
        case rel => exact ⟨i + 1, m2, by go_num, congrArg (Value.int .i64) (by have := HM1.out.1; have := HM1.out.2; omega), by omega, M.out, B.out⟩
        case measure => (simp [intOf]) <;> omega
      · obtain rfl : i = n := by omega
        rw [HN.out, List.take_length] at hm
        have E2 := Lib.hid (show tgreat l = decide (6000 < m) by rw [E.out, hm])
        clear hm
        by_cases h6 : 6000 < m
        · have t2 : decide ((6000 : Int) < (m : Int)) = true := by simp; omega
          go_wp2
          go_ret
          exact ⟨by rw [E2.out, decide_eq_true h6]; rfl, B.out⟩
        · have t2 : decide ((6000 : Int) < (m : Int)) = false := by simp; omega
          go_wp2
          go_ret
          exact ⟨by rw [E2.out, decide_eq_false h6]; rfl, B.out⟩

/-- append of a row of tokens: the row is the old one, or a new block. -/
theorem append_toks (w : World) (B : Nat) (t ty e : TypeId) (z : Value) (ht : Try.prog.underlying t = some (.slice e)) (hinfo : (Try.prog.info? e).map (fun i => (i.zero, i.size, i.bytes)) = some (some z, 2, 24)) (hzc : z.cells.size = 2)
    (v : Value) (l : List Tok) (hown : Tw w B e v l) (B' : Nat) (u : Value) (m : List Tok) (hu : Tw w B' e u m) (hm : 0 < m.length) (hn : l.length + m.length ≤ 100000) (hB : B ≤ w.heap.size) :
    ∃ v' w', (Builtin.append_ #[t, t] ty #[v, u]).run Try.prog w = .ok v' w' ∧ Tw w' B e v' (l ++ m) ∧ w.grownBy w' v.ownBlock := by
  obtain ⟨i0, hi, hz0, hz1, hz2⟩ := info_parts hinfo
  obtain ⟨g, c, rfl⟩ : ∃ g c, u = .slice (some ⟨g, 0, none⟩) m.length c := by
    rcases hu.2 with ⟨_, h0⟩ | ⟨g, cap, _, hv, _⟩
    · omega
    · exact ⟨g, cap, hv⟩
  have hnews : ∀ j x, (cellsT m)[j]? = some x → w.cell? ((⟨g, 0, none⟩ : Addr).add j) = some x := fun j x h => World.ownsRow.cells hu (g := g) rfl j x h
  have o1 : ∀ x ∈ cellsT m, x.oneCell' = true := by
    clear hnews hn hm hu
    induction m with
    | nil => intro x hx; cases hx
    | cons a r ih =>
      intro x hx
      simp only [cellsT, List.mem_cons] at hx
      rcases hx with rfl | rfl | hx
      · rfl
      · rfl
      · exact ih x hx
  obtain ⟨v', w', h1, h2, h3, _⟩ := run_append_own (P := Try.prog) w B t ty e i0 z 2 24 ht hi hz0 hz1 hz2 hzc (by decide) v l.length (cellsT l) hown ⟨g, 0, none⟩ m.length c (cellsT m) (cellsT_length m) hnews o1 (by unfold maxLen; omega) (by omega) hB
  exact ⟨v', w', h1, by unfold Tw; rw [cellsT_append, List.length_append]; exact h2, h3⟩
theorem toks_one (ts : List T) (i : Nat) (h : i < ts.length) : T.tokss (ts.take (i + 1)) = T.tokss (ts.take i) ++ T.toks ts[i] := by rw [T.take_more ts i h, T.tokss_one]
theorem tokss_take_le (ts : List T) (i : Nat) : (T.tokss (ts.take i)).length ≤ (T.tokss ts).length := by
  rw [show T.tokss ts = T.tokss (ts.take i ++ ts.drop i) by rw [List.take_append_drop], T.tokss_append, List.length_append]; omega

set_option maxRecDepth 100000 in
set_option maxHeartbeats 1000000 in
theorem refOf_any : ∀ (t : T) (v : Value) (w : World), In w t v → (T.toks t).length ≤ 5000 →
    Calls Try.prog 14 #[.agg #[.string t.s, .bool t.l, v]] w fun e w' => ∃ u, e = .returned u ∧ Tw w' w.heap.size 77 u (T.toks t) ∧ Below w.heap.size w w' := by
  refine T.ind_ ?_
  intro s l ts ih v w hI hn
  obtain ⟨_, hlen, a, c, rfl, hr⟩ := hI
  unfold maxLen at hlen
  have IH := Lib.hid ih
  have HR := Lib.hid hr
  clear ih hr
  simp only [T.s, T.l]
  have i0 := I3.new w (.string s) (.bool l) (.slice a ts.length c)
  have b0 := bel1 w (.cells #[.string s, .bool l, .slice a ts.length c] 24)
  have I0 := Lib.hid (And.intro i0 b0)
  clear i0 b0
  cases l
  · have E := Lib.hid (T.toks_text s ts)
    have TN := Lib.hid (show Tw ((w.alloc (.cells #[.string s, .bool false, .slice a ts.length c] 24)).alloc (.cells #[.int .i64 3, .string s] 77)) w.heap.size 77 (.slice (some ⟨w.heap.size + 1, 0, none⟩) 1 1) [wrd s] from by
      have := heap_alloc_new (w.alloc (.cells #[.string s, .bool false, .slice a ts.length c] 24)) (.cells #[.int .i64 3, .string s] 77)
      rw [size_push] at this
      exact ⟨rfl, .inr ⟨w.heap.size + 1, 1, #[.int .i64 3, .string s], rfl, by omega, this, Nat.le_refl _, by decide, rfl, rfl⟩⟩)
    go_enter Try.func14, Try.ntmps14
    go_wp2
    go_ret
    refine ⟨_, rfl, by rw [E.out]; exact TN.out, bel2 _ _ _⟩
  · have E := Lib.hid (T.toks_list s ts)
    rw [T.toks_list] at hn
    simp only [List.length_cons, List.length_append, List.length_nil] at hn
    have TN := Lib.hid (show Tw ((w.alloc (.cells #[.string s, .bool true, .slice a ts.length c] 24)).alloc (.cells #[.int .i64 1, .string ⟨#[]⟩] 77)) w.heap.size 77 (.slice (some ⟨w.heap.size + 1, 0, none⟩) 1 1) [opn] from by
      have := heap_alloc_new (w.alloc (.cells #[.string s, .bool true, .slice a ts.length c] 24)) (.cells #[.int .i64 1, .string ⟨#[]⟩] 77)
      rw [size_push] at this
      exact ⟨rfl, .inr ⟨w.heap.size + 1, 1, #[.int .i64 1, .string ⟨#[]⟩], rfl, by omega, this, Nat.le_refl _, by decide, rfl, rfl⟩⟩)
    go_enter Try.func14, Try.ntmps14
    go_wp2
    go_loopw [4, 3] (fun v x wr => ∃ j : Nat, j ≤ ts.length ∧ v = .int .i64 j ∧ Tw wr w.heap.size 77 x (opn :: T.tokss (ts.take j)) ∧ I3 wr w.heap.size (.string s) (.bool true) (.slice a ts.length c) ∧ Below w.heap.size w wr) (fun v _ _ => ts.length - (intOf v).toNat)
    case atStart => exact ⟨0, Nat.zero_le _, rfl, by simpa [T.tokss] using TN.out, I0.out.1.alloc _, bel2 _ _ _⟩
    case round =>
      clear TN I0
      obtain ⟨j, hj, rfl, htw, hi3, hb⟩ := hrel
      have x1 := hi3.c1
      have x2 := hi3.c2
      have xl := hi3.lt
      have tle := tokss_take_le ts j
      have hlt1 : (opn :: T.tokss (ts.take j)).length ≤ 5000 := by simp only [List.length_cons]; omega
      obtain ⟨ba, bc, hlv⟩ := htw.slice
      obtain ⟨m, hm⟩ : ∃ m, m = (opn :: T.tokss (ts.take j)).length := ⟨_, rfl⟩
      rw [← hm] at hlv hlt1
      subst hlv
      have HW := Lib.hid (And.intro htw (And.intro hi3 hb))
      clear htw hi3
      by_cases hlt : j < ts.length
      · obtain ⟨b, o, v', rfl, c0, c1, c2, hi⟩ := Row.at ts 0 j hlt (HR.out.bel hb)
        rw [Nat.zero_add] at c0 c1 c2
        have lb := lt_of_cell c0
        have nx := toks_one ts j hlt
        have tle2 := tokss_take_le ts (j + 1)
        rw [nx, List.length_append] at tle2
        have hsub : (T.toks ts[j]).length ≤ 5000 := by omega
        have CALL := Lib.hid (fun W (h : In W ts[j] v') => IH.out _ (List.getElem_mem hlt) v' W h hsub)
        have HI := Lib.hid hi
        have NX := Lib.hid nx
        have HM := Lib.hid hm
        clear hi nx hm hb
        go_wp2_with fail
        refine (CALL.out _ HI.out).mono ?_
        rintro e w1 ⟨u, rfl, hu, b1⟩
        have tp := T.toks_pos ts[j]
        have ow := HW.out.1.fr (Fr.ofBelow (S := fun _ => False) b1) (fun _ _ e => e)
        have i1 := HW.out.2.1.bel b1
        have bb := HW.out.2.2.trans (b1.mono HW.out.2.2.size)
        obtain ⟨x', wA, hap, ownA, grA⟩ := append_toks w1 w.heap.size 38 38 77 _ Try.underlying38 plain_info rfl _ _ ow _ u (T.toks ts[j]) hu tp (by have := HM.out; omega) bb.size
        obtain ⟨ua, uc, rfl⟩ := hu.slice
        obtain ⟨sa, sn, sc, rfl⟩ : ∃ a n c, x' = .slice a n c := by
          obtain ⟨a, c, h⟩ := ownA.slice
          exact ⟨_, _, _, h⟩
        have FA := fr_grown grA
        have NB : ¬ (Value.slice ba m bc).ownBlock = some w.heap.size := fun e => by
          rcases HW.out.1.2 with ⟨h, _⟩ | ⟨g, cap, cur, h, _, hg, _⟩
          · rw [h] at e; cases e
          · rw [h] at e
            have e : g = w.heap.size := by injection e
            have h2 : wr.heap[w.heap.size]? = _ := HW.out.2.1
            rw [← e, hg] at h2
            simp at h2
        have R := Lib.hid (show Tw wA w.heap.size 77 (.slice sa sn sc) (opn :: T.tokss (ts.take (j + 1))) ∧ I3 wA w.heap.size (.string s) (.bool true) (.slice (some ⟨b, o, none⟩) ts.length c) ∧ Below w.heap.size w wA from by
          refine ⟨?_, i1.fr FA NB, bb.trans (FA.below bb.size fun j e => (HW.out.1.block j e).1)⟩
          rw [NX.out]
          exact ownA)
        have HAP := Lib.hid hap
        clear hap ownA grA FA NB ow i1 bb hu b1 HW CALL HI tp
        go_wp2_with (at_builtin; refine wpList_append_run rfl _ _ 38 rfl _ _ rfl rfl _ wA HAP.out ?_)
        go_roundw
        case rel => exact ⟨j + 1, by omega, by go_num, R.out.1, R.out.2.1, R.out.2.2⟩
        case measure => (simp [intOf]) <;> omega
      · obtain rfl : j = ts.length := by omega
        rw [List.take_length] at HW hm
        have nb := B2.new wr 77 (.int .i64 2) (.string ⟨#[]⟩)
        obtain ⟨x', wA, hap, ownA, grA, _⟩ := append_tok (wr.alloc (.cells #[.int .i64 2, .string ⟨#[]⟩] 77)) w.heap.size 38 38 77 _ Try.underlying38 plain_info rfl _ _ (HW.out.1.fr ((Fr.refl (fun _ => False) wr).alloc _) (fun _ _ e => e)) wr.heap.size 1 sht nb.c0 nb.c1 (by omega) (by rw [size_push]; omega)
        obtain ⟨sa, sn, sc, rfl⟩ : ∃ a n c, x' = .slice a n c := by
          obtain ⟨a, c, h⟩ := ownA.slice
          exact ⟨_, _, _, h⟩
        have R := Lib.hid (show Tw wA w.heap.size 77 (.slice sa sn sc) (T.toks (.mk s true ts)) ∧ Below w.heap.size w wA from by
          refine ⟨by rw [E.out]; exact ownA, (hb.alloc hb.size _).trans ((fr_grown grA).below (by rw [size_push]; omega) fun j e => (HW.out.1.block j e).1)⟩)
        have HAP := Lib.hid hap
        clear hap ownA grA nb HW hm hb
        go_wp2_with (at_builtin; refine wpList_append_run rfl _ _ 38 rfl _ _ rfl rfl _ wA HAP.out ?_)
        go_ret
        exact ⟨_, rfl, R.out.1, R.out.2⟩
end Go.Proofs.Ytegakecncpfnnaa
