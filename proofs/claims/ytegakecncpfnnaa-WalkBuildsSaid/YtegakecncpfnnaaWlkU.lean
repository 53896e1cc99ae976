/-
  The contract of walk's Build (layer 10) over this seat's translation. Conditions: a row of at most 10,000 tokens, of at most 100,000 bytes.
-/
import Derived.Test.YtegakecncpfnnaaWlkL
import Derived.Test.YtegakecncpfnnaaWlkS
import Derived.Test.YtegakecncpfnnaaItmIt
namespace Go.Proofs.Ytegakecncpfnnaa
open Go.RowKit

theorem own_form {w : World} {B n : Nat} {e : TypeId} {v : Value} {xs : List Value} (h : w.ownsRow B e 3 v n xs) : ∃ a c, v = .slice a n c ∧ n ≤ c := by
  rcases h.2 with ⟨h, h0⟩ | ⟨g, cap, cur, hv, _, _, hc, _⟩
  · exact ⟨_, _, by rw [h, h0], by omega⟩
  · exact ⟨_, _, hv, hc⟩

set_option maxRecDepth 100000 in
theorem build_no (l : List Tok) (v : Value) (w : World) (hl : TSl w v l) (hn : l.length ≤ 10000) (hm : mayk l = false) :
    Calls Try.prog 9 #[v] w fun e w' => e = .returned (.tuple #[ZV, .int .i64 3]) ∧ Below w.heap.size w w' := by
  have MK := Lib.hid (mayk_any l v (w.alloc (.cells #[.string ⟨#[]⟩, .bool false, .slice none 0 0] 24)) (hl.bel (bel1 _ _)) (by omega))
  have b0 := bel1 w (.cells #[.string ⟨#[]⟩, .bool false, .slice none 0 0] 24)
  have i0 := I3.new w (.string ⟨#[]⟩) (.bool false) (.slice none 0 0)
  rw [hm] at MK
  have H0 := Lib.hid (And.intro b0 i0)
  clear hl hm b0 i0
  go_enter Try.func9, Try.ntmps9
  go_wp2_with fail
  refine MK.out.mono ?_
  rintro e w1 ⟨rfl, b1⟩
  have i1 := H0.out.2.bel b1
  have B1 := Lib.hid (H0.out.1.trans (b1.mono (by simp)))
  have q0 := i1.c0
  have q1 := i1.c1
  have q2 := i1.c2
  have k0 := i1.free 0
  have k1 := i1.free 1
  have k2 := i1.free 2
  have ql := i1.lt
  have Q := Lib.hid (And.intro (i1.put (.string ⟨#[]⟩) (.bool false) (.slice none 0 0)) (bel_put B1.out (Nat.le_refl _) (.string ⟨#[]⟩) (.bool false) (.slice none 0 0)))
  clear b1 i1 B1
  go_wp2_with fail
  have z0 := Q.out.1.c0
  have z1 := Q.out.1.c1
  have z2 := Q.out.1.c2
  refine bodyPost_ret (v := .tuple #[ZV, .int .i64 3]) (by simp [results, Try.results9, go_sem, z0, z1, z2, ZV]) rfl ?_
  exact ⟨rfl, Q.out.2⟩

/-- What the loop of Build keeps. -/
structure Bl (w wr : World) (b : Nat) (l : List Tok) (t : T) (i : Nat) (F : List Fb) (sv : Value) : Prop where
  bs : Bs (w.heap.size + 1) (fun j => j = b ∨ j = w.heap.size) wr b F sv
  res : I3 wr w.heap.size (.string ⟨#[]⟩) (.bool false) (.slice none 0 0)
  m : mach (l.drop i) (F.map Fb.done) = [[t]]
  len : F.length ≤ i + 1
  lens : ∀ f ∈ F, f.done.length ≤ i
  bel : Below w.heap.size w wr
  lb : w.heap.size < b

theorem Bl.to {w wr w' : World} {b : Nat} {l : List Tok} {t : T} {i : Nat} {F : List Fb} {sv : Value} (h : Bl w wr b l t i F sv) (f : Below wr.heap.size wr w') : Bl w w' b l t i F sv :=
  ⟨h.bs.bel f, h.res.bel f, h.m, h.len, h.lens, h.bel.trans (f.mono h.bel.size), h.lb⟩
/-- An item is laid into the inmost list. -/
theorem Bl.laid {w w2 wA : World} {b : Nat} {l : List Tok} {t : T} {i g c : Nat} {f : Fb} {r : List Fb} {x : T} {vx v' : Value}
    (bs : Bs (w.heap.size + 1) (fun j => j = b ∨ j = w.heap.size) w2 b (f :: r) (.slice (some ⟨g, 0, none⟩) (r.length + 1) c)) (res : I3 w2 w.heap.size (.string ⟨#[]⟩) (.bool false) (.slice none 0 0)) (bel : Below w.heap.size w w2) (lb : w.heap.size < b)
    (hx : InP w2 (Nb (w.heap.size + 1) (fun j => j = b ∨ j = w.heap.size) (.slice (some ⟨g, 0, none⟩) (r.length + 1) c) (f :: r)) x vx)
    (own' : wA.ownsRow (w.heap.size + 1) 24 3 v' (f.done.length + 1) (f.xs ++ [.string x.s, .bool x.l, vx])) (gr : Fr (fun j => f.sv.ownBlock = some j) w2 wA) (ob : v'.ownBlock = f.sv.ownBlock ∨ ∀ j, v'.ownBlock = some j → w2.heap.size ≤ j)
    (hm : mach (l.drop (i + 1)) ((f.done ++ [x]) :: r.map Fb.done) = [[t]]) (hlen : (f :: r).length ≤ i + 2) (hlens : ∀ q ∈ f :: r, q.done.length ≤ i) :
    ∃ F' sv', Bl w (wA.setCell ⟨g, r.length, none⟩ v') b l t (i + 1) F' sv' := by
  have hbl := bs.v.lt
  have hw := bel.size
  obtain ⟨b1, f1⟩ := bs.grow hx v' own' gr ob (fun j hj e => by rcases e with e | e <;> have := res.lt <;> omega)
  have nx : ∀ j, f.sv.ownBlock = some j ∨ j = g → w.heap.size + 1 ≤ j := fun j e => by
    rcases e with e | e
    · exact (bs.ow j (.inr ⟨f, List.mem_cons_self, e⟩)).1
    · exact (bs.ow j (.inl (by rw [e]; rfl))).1
  refine ⟨_, _, b1, res.fr f1 (fun e => by have := nx _ e; omega), by simpa using hm, by simpa using hlen, ?_, bel.trans (f1.below hw fun j hj => by have := nx j hj; omega), lb⟩
  intro q hq
  rcases List.mem_cons.1 hq with rfl | hq
  · have := hlens f List.mem_cons_self
    simp; omega
  · have := hlens q (List.mem_cons_of_mem _ hq)
    omega

/-- One more list is open. -/
theorem Bl.opened {w w2 wA : World} {b : Nat} {l : List Tok} {t : T} {i : Nat} {F : List Fb} {sv sv' : Value} (h : Bl w w2 b l t i F sv) (own' : Sk1 wA (w.heap.size + 1) 22 sv' (.slice none 0 0 :: F.map Fb.sv)) (gr : Fr (fun j => sv.ownBlock = some j) w2 wA)
    (ob : sv'.ownBlock = sv.ownBlock ∨ ∀ j, sv'.ownBlock = some j → w2.heap.size ≤ j) (hm : mach (l.drop (i + 1)) ([] :: F.map Fb.done) = [[t]]) : Bl w (wA.setCell ⟨b, 0, none⟩ sv') b l t (i + 1) (⟨[], .slice none 0 0, []⟩ :: F) sv' := by
  have hbl := h.bs.v.lt
  have hw := h.bel.size
  have hlb := h.lb
  obtain ⟨b1, f1⟩ := h.bs.open own' gr ob (fun j hj e => by rcases e with e | e <;> have := h.res.lt <;> omega)
  have nx : ∀ j, sv.ownBlock = some j ∨ j = b → w.heap.size + 1 ≤ j := fun j e => by
    rcases e with e | e
    · exact (h.bs.ow j (.inl e)).1
    · omega
  refine ⟨b1, h.res.fr f1 (fun e => by have := nx _ e; omega), by simpa using hm, by have := h.len; simp; omega, ?_, h.bel.trans (f1.below hw fun j hj => by have := nx j hj; omega), hlb⟩
  intro q hq
  rcases List.mem_cons.1 hq with rfl | hq
  · simp
  · have := h.lens q hq; omega

set_option maxRecDepth 100000 in
set_option maxHeartbeats 600000 in
theorem build_ok (t : T) (v : Value) (w : World) (hl : TSl w v (T.toks t)) (hn : (T.toks t).length ≤ 10000) (hz : tsz (T.toks t) ≤ 100000) (hm : T.may t = true) :
    Calls Try.prog 9 #[v] w fun e w' => ∃ vX, e = .returned (.tuple #[.agg #[.string t.s, .bool t.l, vX], .int .i64 0]) ∧ In w' t vX ∧ Below w.heap.size w w' := by
  have MK := Lib.hid (mayk_any (T.toks t) v (w.alloc (.cells #[.string ⟨#[]⟩, .bool false, .slice none 0 0] 24)) (hl.bel (bel1 _ _)) (by omega))
  rw [(mayk_iff (T.toks t)).2 ⟨t, hm, rfl⟩] at MK
  have hrg : T.rgt t = true := by unfold T.may at hm; simp only [Bool.and_eq_true] at hm; exact hm.1.1
  have MA := mach_all t hrg
  obtain ⟨l, hlt⟩ : ∃ l, l = T.toks t := ⟨_, rfl⟩
  rw [← hlt] at hl hn hz MA
  have HL := Lib.hid hl
  have HZ := Lib.hid hz
  have MA := Lib.hid MA
  have b0 := bel1 w (.cells #[.string ⟨#[]⟩, .bool false, .slice none 0 0] 24)
  have i0 := I3.new w (.string ⟨#[]⟩) (.bool false) (.slice none 0 0)
  have H0 := Lib.hid (And.intro b0 i0)
  obtain ⟨a, c, rfl, hc, hr⟩ := hl
  obtain ⟨n, hnn⟩ : ∃ n, n = l.length := ⟨_, rfl⟩
  have HN := Lib.hid hnn
  rw [← hnn] at hn hc MK ⊢
  clear hm hz b0 i0 hlt hrg hr hnn
  go_enter Try.func9, Try.ntmps9
  go_wp2_with fail
  refine MK.out.mono ?_
  rintro e w1 ⟨rfl, b1⟩
  have i1 := H0.out.2.bel b1
  have B1 := Lib.hid (H0.out.1.trans (b1.mono (by simp)))
  have HI := Lib.hid i1
  have hlt := i1.lt
  clear b1 i1 H0 MK
  obtain ⟨k, hk⟩ : ∃ k, k = w1.heap.size := ⟨_, rfl⟩
  have Hk := Lib.hid hk
  have LI := Lib.hid (show Bl w ((w1.alloc (.cells #[.slice none 0 0] 22)).alloc (.cells #[.slice (some ⟨k, 0, none⟩) 1 1] 55)) (k + 1) l t 0 [⟨[], .slice none 0 0, []⟩] (.slice (some ⟨k, 0, none⟩) 1 1) from by
    have hb := bel2 w1 (.cells #[.slice none 0 0] 22) (.cells #[.slice (some ⟨k, 0, none⟩) 1 1] 55)
    have hv := V.new (w1.alloc (.cells #[.slice none 0 0] 22)) 55 (.slice (some ⟨k, 0, none⟩) 1 1)
    rw [size_push, ← hk] at hv
    have hrow : ((w1.alloc (.cells #[.slice none 0 0] 22)).alloc (.cells #[.slice (some ⟨k, 0, none⟩) 1 1] 55)).heap[k]? = some (.cells #[.slice none 0 0] 22 (0, 0)) := by
      rw [Below.heap_alloc _ _ _ (by rw [size_push]; omega), hk]
      exact heap_alloc_new w1 _
    refine ⟨⟨hv, .inl rfl, ⟨rfl, .inr ⟨k, 1, #[.slice none 0 0], rfl, by omega, hrow, Nat.le_refl _, by decide, rfl, rfl⟩⟩, ?_, List.pairwise_singleton _ _, ?_, ?_, ?_⟩, HI.out.bel hb, MA.out, by simp, ?_, B1.out.trans (hb.mono B1.out.size), by omega⟩
    · intro f hf
      rw [List.mem_singleton] at hf
      rw [hf]
      exact ⟨World.ownsRow_nil _ _ _ _, Got.nil _ _⟩
    · intro f hf j hj
      rw [List.mem_singleton] at hf
      rw [hf] at hj
      cases hj
    · rintro j (e | ⟨f, hf, e⟩)
      · injection e with e
        have e : k = j := e
        rintro (h | h) <;> omega
      · rw [List.mem_singleton] at hf
        rw [hf] at e
        cases e
    · simp; omega
    · intro f hf
      rw [List.mem_singleton] at hf
      rw [hf]
      simp)
  clear B1 HI hlt hk
  go_wp2
  rw [← Hk.out]
  go_loopw [18] (fun v wr => ∃ (i : Nat) (F : List Fb) (sv : Value), v = .int .i64 i ∧ i ≤ n ∧ Bl w wr (k + 1) l t i F sv) (fun i _ => n - (intOf i).toNat)
  case atStart => exact ⟨0, _, _, rfl, Nat.zero_le _, LI.out⟩
  case round =>
    clear LI
    obtain ⟨i, F, sv, rfl, hi, hb⟩ := hrel
    have HB := Lib.hid hb
    have hv := hb.bs.v.cell
    have lv := hb.bs.v.lt
    have fv := hb.bs.v.free
    by_cases hlt : i < n
    · have hiL : i < l.length := by have := HN.out; omega
      obtain ⟨a', c', e', _, hr⟩ := HL.out
      have ha : a = a' := by injection e'
      subst ha
      obtain ⟨b', o', e', d0, d1⟩ := (hr.bel hb.bel) i hiL
      subst e'
      have lb' := lt_of_cell d0
      have zs := tsz_mem l l[i] (List.getElem_mem hiL)
      have hmm := hb.m
      rw [List.drop_eq_getElem_cons hiL] at hmm
      obtain ⟨tk, htk⟩ : ∃ tk, tk = l[i] := ⟨_, rfl⟩
      rw [← htk] at d0 d1 zs hmm
      obtain ⟨kk, ss⟩ := tk
      simp only at d0 d1 zs
      have HM := Lib.hid hmm
      have hz := HZ.out
      have hss : ss.size ≤ 100000 := by omega
      clear htk hr hb zs hz hmm
      by_cases k3 : kk = 3
      · subst k3
        rcases F with _ | ⟨f, r⟩
        · exfalso
          have := HM.out
          rw [List.map_nil, mach_word_nil] at this
          cases this
        · obtain ⟨g, cc, rfl, hcc⟩ := HB.out.bs.form
          have HM2 := Lib.hid (show mach (l.drop (i + 1)) ((f.done ++ [.mk ss false []]) :: r.map Fb.done) = [[t]] from by rw [← HM.out, List.map_cons, mach_word])
          have TX := Lib.hid (fun W => text_any ss W (by omega))
          clear HM
          go_wp2_with fail
          refine (TX.out _).mono ?_
          rintro e w2 ⟨rfl, b2⟩
          have H2 := Lib.hid (HB.out.to ((bel1 wr (.cells #[.int .i64 3, .string ss] 48)).trans (b2.mono (by simp))))
          have ct := H2.out.bs.top
          have v2 := H2.out.bs.v.lt
          clear b2 HB hv lv fv d0 d1
          go_wp2_with fail
          refine (lay_item (w.heap.size + 1) (k + 1) g cc r.length f.done.length f.sv f.xs ss false none 0 0 w2 H2.out.bs.v ct.1 (ct.2.1 _) ct.2.2.2 (H2.out.bs.rows f List.mem_cons_self).1 (by have := H2.out.lens f List.mem_cons_self; omega) (by have := H2.out.len; simp only [List.length_cons] at this; omega) (fun e => H2.out.bs.stk f List.mem_cons_self g e rfl) H2.out.bs.sz).mono ?_
          rintro e w3 ⟨rfl, wA, v', rfl, ownA, fA, obA⟩
          have R := Lib.hid (Bl.laid (l := l) (t := t) (i := i) (x := .mk ss false []) H2.out.bs H2.out.res H2.out.bel H2.out.lb ⟨by unfold maxLen; omega, by unfold maxLen; simp, none, 0, rfl, trivial⟩ ownA fA obA HM2.out (by have := H2.out.len; omega) H2.out.lens)
          clear ownA fA obA ct v2 H2
          go_wp2
          go_roundw
          case rel =>
            obtain ⟨F', sv', hB'⟩ := R.out
            exact ⟨i + 1, F', sv', by go_num, by omega, hB'⟩
          case measure => (simp [intOf]) <;> omega
      · have t3 : (kk == (3 : Int)) = false := by simpa using k3
        by_cases k1 : kk = 1
        · subst k1
          have HM2 := Lib.hid (show mach (l.drop (i + 1)) ([] :: F.map Fb.done) = [[t]] from by rw [← HM.out, mach_open])
          obtain ⟨sa, sc, hsv⟩ := HB.out.bs.own.slice
          rw [List.length_map] at hsv
          subst hsv
          have H2 := Lib.hid (HB.out.to (bel2 wr (.cells #[.int .i64 1, .string ss] 48) (.cells #[.slice none 0 0] 22)))
          have ap := append_one ((wr.alloc (.cells #[.int .i64 1, .string ss] 48)).alloc (.cells #[.slice none 0 0] 22)) (w.heap.size + 1) 55 55 22 (.slice none 0 0) 24 (by omega) Try.underlying55 (by kernel_rfl) (by rfl) _ _ H2.out.bs.own (wr.heap.size + 1) 1 (.slice none 0 0)
            (by have := (V.new (wr.alloc (.cells #[.int .i64 1, .string ss] 48)) 22 (.slice none 0 0)).cell; rwa [size_push] at this) rfl (by have := H2.out.len; simp; omega) H2.out.bs.sz
          obtain ⟨sv', wA, hap, ownA, grA, obA⟩ := ap
          obtain ⟨sa', sn', sc', rfl⟩ : ∃ a n c, sv' = .slice a n c := by
            obtain ⟨a, c, h⟩ := ownA.slice
            exact ⟨_, _, _, h⟩
          have fA := fr_grown grA
          have vA := H2.out.bs.v.keep (fA.block _ H2.out.bs.v.lt (fun e => H2.out.bs.nx _ (.inl e) (.inl rfl)))
          have cA := vA.cell
          have gA := vA.free
          have lA := vA.lt
          have R := Lib.hid (H2.out.opened ownA fA (by
            rcases obA with e | e
            · exact .inl e
            · refine .inr fun j hj => ?_
              rw [e] at hj
              injection hj with hj
              have hj : _ = j := hj
              omega) HM2.out)
          have HAP := Lib.hid hap
          clear hap ownA grA obA fA vA HM HM2 H2 HB
          go_wp2_with (at_builtin; refine wpList_append_run rfl _ _ 55 rfl _ _ rfl rfl _ wA HAP.out ?_)
          go_roundw
          case rel => exact ⟨i + 1, _, _, by go_num, by omega, R.out⟩
          case measure => (simp [intOf]) <;> omega
        · have t1 : (kk == (1 : Int)) = false := by simpa using k1
          by_cases k2 : kk = 2
          · subst k2
            rcases F with _ | ⟨f, _ | ⟨f2, r⟩⟩
            · exfalso
              have := HM.out
              rw [List.map_nil, mach_shut_nil] at this
              cases this
            · exfalso
              have := HM.out
              rw [List.map_cons, List.map_nil, mach_shut_one] at this
              cases this
            · obtain ⟨g, cc, rfl, hcc⟩ := HB.out.bs.form
              have HM2 := Lib.hid (show mach (l.drop (i + 1)) ((f2.done ++ [.mk ⟨#[]⟩ true f.done]) :: r.map Fb.done) = [[t]] from by rw [← HM.out, List.map_cons, List.map_cons, mach_shut])
              have H2 := Lib.hid (HB.out.to (bel1 wr (.cells #[.int .i64 2, .string ss] 48)))
              obtain ⟨fa, fc, hfs, hfc⟩ := own_form (H2.out.bs.rows f List.mem_cons_self).1
              have ct := H2.out.bs.top
              rw [hfs] at ct
              have hrl : r.length ≤ 10001 := by have := H2.out.len; simp only [List.length_cons] at this; omega
              have hdl : f.done.length ≤ 10001 := by have := H2.out.lens f List.mem_cons_self; omega
              simp only [List.length_cons] at ct hcc hv
              obtain ⟨ct0, ct1, ct2, ct3⟩ := ct
              have SH := Lib.hid (show Bl w ((wr.setCell ⟨k + 1, 0, none⟩ (.slice (some ⟨g, 0, none⟩) (r.length + 1) cc)).alloc (.cells #[.int .i64 2, .string ss] 48)) (k + 1) l t i (f2 :: r) (.slice (some ⟨g, 0, none⟩) (r.length + 1) cc) ∨ True from .inr trivial)
              have SB := Lib.hid (show Bs (w.heap.size + 1) (fun j => j = k + 1 ∨ j = w.heap.size) ((wr.setCell ⟨k + 1, 0, none⟩ (.slice (some ⟨g, 0, none⟩) (r.length + 1) cc)).alloc (.cells #[.int .i64 2, .string ss] 48)) (k + 1) (f2 :: r) (.slice (some ⟨g, 0, none⟩) (r.length + 1) cc) ∧
                  I3 ((wr.setCell ⟨k + 1, 0, none⟩ (.slice (some ⟨g, 0, none⟩) (r.length + 1) cc)).alloc (.cells #[.int .i64 2, .string ss] 48)) w.heap.size (.string ⟨#[]⟩) (.bool false) (.slice none 0 0) ∧ Below w.heap.size w ((wr.setCell ⟨k + 1, 0, none⟩ (.slice (some ⟨g, 0, none⟩) (r.length + 1) cc)).alloc (.cells #[.int .i64 2, .string ss] 48)) ∧
                  InP ((wr.setCell ⟨k + 1, 0, none⟩ (.slice (some ⟨g, 0, none⟩) (r.length + 1) cc)).alloc (.cells #[.int .i64 2, .string ss] 48)) (Nb (w.heap.size + 1) (fun j => j = k + 1 ∨ j = w.heap.size) (.slice (some ⟨g, 0, none⟩) (r.length + 1) cc) (f2 :: r)) (.mk ⟨#[]⟩ true f.done) (.slice fa f.done.length f.done.length) from by
                have hlb := HB.out.lb
                have sh := HB.out.bs.shut
                have b1 := bel1 (wr.setCell ⟨k + 1, 0, none⟩ (.slice (some ⟨g, 0, none⟩) (r.length + 1) cc)) (.cells #[.int .i64 2, .string ss] 48)
                have f1 : Fr (fun j => j = k + 1) wr (wr.setCell ⟨k + 1, 0, none⟩ (.slice (some ⟨g, 0, none⟩) (r.length + 1) cc)) := fr_set _
                refine ⟨sh.1.bel b1, (HB.out.res.fr f1 (by omega)).bel b1, (HB.out.bel.trans (f1.below HB.out.bel.size (fun j hj => by omega))).trans (b1.mono ?_), ?_⟩
                · have := HB.out.bel.size; have := f1.size; omega
                · exact InP.keep b1.size (fun j hj hl => ⟨hj, b1.block j hl⟩) _ _ (sh.2 (by omega) fa f.done.length fc f.done.length hfs))
              clear SH
              have v2 := H2.out.bs.v.lt
              have v3 := H2.out.bs.v.cell
              have v4 := H2.out.bs.v.free
              simp only [List.length_cons] at v3
              have HFS := Lib.hid hfs
              clear HM hfs
              go_wp2_with fail
              refine (clip_any fa f.done.length fc hfc _).mono ?_
              rintro e w2 ⟨rfl, rfl⟩
              have ct := SB.out.1.top
              have y0 := SB.out.1.v.lt
              have LN := Lib.hid (And.intro HB.out.len (And.intro HB.out.lens HB.out.lb))
              clear H2 HB
              go_wp2_with fail
              refine (lay_item (w.heap.size + 1) (k + 1) g cc r.length f2.done.length f2.sv f2.xs ⟨#[]⟩ true fa f.done.length f.done.length _ SB.out.1.v ct.1 (ct.2.1 _) ct.2.2.2 (SB.out.1.rows f2 List.mem_cons_self).1 (by have := LN.out.2.1 f2 (by simp); omega) (by omega) (fun e => SB.out.1.stk f2 List.mem_cons_self g e rfl) SB.out.1.sz).mono ?_
              rintro e w3 ⟨rfl, wA, v', rfl, ownA, fA, obA⟩
              have R := Lib.hid (Bl.laid (l := l) (t := t) (i := i) (x := .mk ⟨#[]⟩ true f.done) SB.out.1 SB.out.2.1 SB.out.2.2.1 LN.out.2.2 SB.out.2.2.2 ownA fA obA HM2.out (by have := LN.out.1; simp only [List.length_cons] at this ⊢; omega) (fun q hq => LN.out.2.1 q (List.mem_cons_of_mem _ hq)))
              clear ownA fA obA ct SB
              go_wp2
              go_roundw
              case rel =>
                obtain ⟨F', sv', hB'⟩ := R.out
                exact ⟨i + 1, F', sv', by go_num, by omega, hB'⟩
              case measure => (simp [intOf]) <;> omega
          · exfalso
            have := HM.out
            rw [mach_else _ _ _ _ k3 k1 k2] at this
            cases this
    · obtain rfl : i = n := by omega
      have hmm := HB.out.m
      rw [HN.out, List.drop_length, mach] at hmm
      rcases F with _ | ⟨f, _ | ⟨f2, r⟩⟩
      · cases hmm
      · simp only [List.map_cons, List.map_nil, List.cons.injEq, and_true] at hmm
        obtain ⟨g, cc, rfl, hcc⟩ := HB.out.bs.form
        have ct := HB.out.bs.top
        obtain ⟨ct0, ct1, ct2, ct3⟩ := ct
        replace ct0 : wr.cell? ⟨g, 0, none⟩ = some f.sv := ct0
        replace hv : wr.cell? ⟨k + 1, 0, none⟩ = some (.slice (some ⟨g, 0, none⟩) 1 cc) := hv
        obtain ⟨ho, hgot⟩ := HB.out.bs.rows f List.mem_cons_self
        rw [hmm] at ho hgot
        obtain ⟨x0, x1, vX, x2, hX⟩ := hgot 0 (by simp)
        simp only [List.length_singleton] at ho
        obtain ⟨h, hcap, hsv, hlc⟩ : ∃ h cap, f.sv = .slice (some ⟨h, 0, none⟩) 1 cap ∧ 1 ≤ cap := by
          rcases ho.2 with ⟨_, h0⟩ | ⟨h, cap, _, hv, _, _, hc, _⟩
          · omega
          · exact ⟨h, cap, hv, hc⟩
        rw [hsv] at ho ct0
        have y0 := ho.cellAt 0 (by omega)
        have y1 := ho.cellAt 1 (by omega)
        have y2 := ho.cellAt 2 (by omega)
        simp only [Nat.zero_mul, Nat.zero_add, List.getElem_cons_zero] at x0 x1 x2 hX
        rw [x0] at y0
        rw [x1] at y1
        rw [x2] at y2
        have hlh := (ho.lt h rfl).2
        have q0 := HB.out.res.c0
        have q1 := HB.out.res.c1
        have q2 := HB.out.res.c2
        have k0 := HB.out.res.free 0
        have k1 := HB.out.res.free 1
        have k2 := HB.out.res.free 2
        have ql := HB.out.res.lt
        obtain ⟨va, vc, hvX⟩ := hX.slice
        rw [hvX] at y2
        have Q := Lib.hid (show I3 (((wr.setCell ⟨w.heap.size, 0, none⟩ (.string t.s)).setCell ⟨w.heap.size, 1, none⟩ (.bool t.l)).setCell ⟨w.heap.size, 2, none⟩ (.slice va t.ts.length vc)) w.heap.size (.string t.s) (.bool t.l) (.slice va t.ts.length vc) ∧
            In (((wr.setCell ⟨w.heap.size, 0, none⟩ (.string t.s)).setCell ⟨w.heap.size, 1, none⟩ (.bool t.l)).setCell ⟨w.heap.size, 2, none⟩ (.slice va t.ts.length vc)) t (.slice va t.ts.length vc) ∧
            Below w.heap.size w (((wr.setCell ⟨w.heap.size, 0, none⟩ (.string t.s)).setCell ⟨w.heap.size, 1, none⟩ (.bool t.l)).setCell ⟨w.heap.size, 2, none⟩ (.slice va t.ts.length vc)) from by
          refine ⟨HB.out.res.put _ _ _, InP.in _ _ (InP.keep (N' := fun _ => True) (fr_put _ _ _).size (fun j hj hl => ⟨trivial, (fr_put _ _ _).block j hl (fun e => hj.2.1 (.inr e))⟩) _ _ (hvX ▸ hX)), bel_put HB.out.bel (Nat.le_refl _) _ _ _⟩)
        clear ho hgot x0 x1 x2 hX hvX hmm HB hsv ct2
        go_wp2_with fail
        have z0 := Q.out.1.c0
        have z1 := Q.out.1.c1
        have z2 := Q.out.1.c2
        refine bodyPost_ret (v := .tuple #[.agg #[.string t.s, .bool t.l, .slice va t.ts.length vc], .int .i64 0]) (by simp [results, Try.results9, go_sem, z0, z1, z2]) rfl ?_
        exact ⟨_, rfl, Q.out.2.1, Q.out.2.2⟩
      · simp at hmm
end Go.Proofs.Ytegakecncpfnnaa
