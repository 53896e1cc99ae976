/-
  The contracts of package item's walk through an item (down, through, measure with its closure) and of May, Count, Deep, Caps, over this seat's translation. Conditions: an item as it lies in memory.
-/
import Derived.Test.YtegakecncpfnnaaItmS
import Derived.Test.YtegakecncpfnnaaItmV
import Derived.Laws.EntriesVeiled
import Derived.Lib.MinMax
namespace Go.Proofs.Ytegakecncpfnnaa
open Go.RowKit

theorem ofOne_any (s : ByteArray) (l : Bool) (ts : List T) (a : Option Addr) (c : Nat) (w : World) :
    Calls Try.prog 55 #[.agg #[.string s, .bool l, .slice a ts.length c]] w fun e w' => e = .returned (.bool (T.own s l ts)) ∧ Below w.heap.size w w' := by
  cases l
  · have e0 : T.own s false ts = ((ts.length : Int) == 0) := by cases ts <;> simp [T.own]; omega
    rw [e0]
    clear e0
    go_enter Try.func55, Try.ntmps55
    go_wp2
    go_ret
    exact ⟨rfl, bel1 _ _⟩
  · have e0 : T.own s true ts = s.toList.isEmpty := by
      simp only [T.own, if_true]
      rw [Bool.eq_iff_iff, List.isEmpty_iff, ByteArray.toList_eq, beq_iff_eq, ← ByteArray.size_data, ← Array.length_toList, List.length_eq_zero_iff]
    rw [e0]
    clear e0
    go_enter Try.func55, Try.ntmps55
    go_wp2
    go_ret
    exact ⟨rfl, bel1 _ _⟩

/-- What measure counts: items, how deep, whether all are of one kind; in three variables. -/
structure Ms (w : World) (bi bd bm : Nat) (n d : Nat) (m : Bool) : Prop where
  i : V w bi 3 (.int .i64 n)
  d : V w bd 3 (.int .i64 d)
  m : V w bm 4 (.bool m)

theorem Ms.fr {w w' : World} {bi bd bm n d : Nat} {m : Bool} (h : Ms w bi bd bm n d m) {S : Nat → Prop} (f : Fr S w w') (h1 : ¬ S bi) (h2 : ¬ S bd) (h3 : ¬ S bm) : Ms w' bi bd bm n d m :=
  ⟨h.i.fr f h1, h.d.fr f h2, h.m.fr f h3⟩

theorem Ms.two {w : World} {bi bd bm n d : Nat} {m : Bool} (M : Nat) (hid : bi ≠ bd) (him : bi ≠ bm) (hdm : bd ≠ bm) (h : Ms w bi bd bm n d m) :
    Ms ((w.setCell ⟨bi, 0, none⟩ (.int .i64 (n + 1 : Nat))).setCell ⟨bd, 0, none⟩ (.int .i64 M)) bi bd bm (n + 1) M m ∧
    Fr (fun j => j = bi ∨ j = bd ∨ j = bm) w ((w.setCell ⟨bi, 0, none⟩ (.int .i64 (n + 1 : Nat))).setCell ⟨bd, 0, none⟩ (.int .i64 M)) :=
  ⟨⟨(h.i.set _).far hid _, (h.d.far (Ne.symm hid) _).set _, ((h.m.far (Ne.symm him) _).far (Ne.symm hdm) _)⟩,
   ((Fr.refl (fun j => j = bi ∨ j = bd ∨ j = bm) w).setCell (p := ⟨bi, 0, none⟩) (.inl (.inl rfl)) _).setCell (p := ⟨bd, 0, none⟩) (.inl (.inr (.inl rfl))) _⟩
theorem Ms.bel {w w' : World} {bi bd bm n d : Nat} {m : Bool} (h : Ms w bi bd bm n d m) (f : Below w.heap.size w w') : Ms w' bi bd bm n d m := ⟨h.i.bel f h.i.lt, h.d.bel f h.d.lt, h.m.bel f h.m.lt⟩
theorem Ms.setm {w : World} {bi bd bm n d : Nat} {m : Bool} (him : bi ≠ bm) (hdm : bd ≠ bm) (h : Ms w bi bd bm n d m) (q : Bool) : Ms (w.setCell ⟨bm, 0, none⟩ (.bool q)) bi bd bm n d q :=
  ⟨h.i.far him _, h.d.far hdm _, h.m.set _⟩

theorem see_any (s : ByteArray) (l : Bool) (ts : List T) (a : Option Addr) (c deep : Nat) (bi bd bm n d : Nat) (m : Bool) (w : World) (h : Ms w bi bd bm n d m) (hid : bi ≠ bd) (him : bi ≠ bm) (hdm : bd ≠ bm)
    (hn : n ≤ 1000000) :
    Calls Try.prog 54 #[.agg #[.string s, .bool l, .slice a ts.length c], .int .i64 deep, .pointer (some ⟨bi, 0, none⟩), .pointer (some ⟨bd, 0, none⟩), .pointer (some ⟨bm, 0, none⟩)] w
      fun e w' => e = .returned (.tuple #[]) ∧ Ms w' bi bd bm (n + 1) (max d deep) (m && T.own s l ts) ∧ Fr (fun j => j = bi ∨ j = bd ∨ j = bm) w w' := by
  have c0 := h.i.cell
  have f0 := h.i.free
  have l0 := h.i.lt
  have c1 := h.d.cell
  have f1 := h.d.free
  have l1 := h.d.lt
  have c2 := h.m.cell
  have f2 := h.m.free
  have l2 := h.m.lt
  have H := Lib.hid h
  obtain ⟨M, hM⟩ : ∃ M, M = max d deep := ⟨_, rfl⟩
  have e1 : max (d : Int) (deep : Int) = (M : Int) := by omega
  have W2 := Lib.hid (h.two M hid him hdm)
  rw [← hM]
  clear h hM
  go_enter Try.func54, Try.ntmps54
  cases m
  · go_wp2
    go_end0
    have h := W2.out.1.setm him hdm false
    have f := W2.out.2.setCell (p := ⟨bm, 0, none⟩) (.inl (.inr (.inr rfl))) (.bool false)
    rw [Bool.false_and]
    rw [Int.natCast_add, Int.natCast_one] at h f
    exact ⟨rfl, ⟨h.i.alloc _, h.d.alloc _, h.m.alloc _⟩, f.alloc _⟩
  · go_wp2_with fail
    refine (ofOne_any s l ts a c _).mono ?_
    rintro e w1 ⟨rfl, b1⟩
    have h := W2.out.1
    have f := W2.out.2
    rw [Int.natCast_add, Int.natCast_one] at h f
    have g : Ms w1 bi bd bm (n + 1) M true := Ms.bel ⟨h.i.alloc _, h.d.alloc _, h.m.alloc _⟩ b1
    have F := Lib.hid ((f.alloc (.cells #[.string s, .bool l, .slice a ts.length c] 24)).trans (Fr.ofBelow b1))
    have d2 := g.m.cell
    have g2 := g.m.free
    have k2 := g.m.lt
    have G := Lib.hid g
    clear g h f b1 c0 c1 c2 f0 f1 f2 l0 l1 l2 e1
    go_wp2
    go_end0
    rw [Bool.true_and]
    exact ⟨rfl, G.out.setm him hdm _, F.out.setCell (p := ⟨bm, 0, none⟩) (.inl (.inr (.inr rfl))) _⟩
/-- The four variables of a walk. -/
def Sx (bl bi bd bm j : Nat) : Prop := j = bl ∨ j = bi ∨ j = bd ∨ j = bm

/-- What down answers and leaves. -/
def DownPost (bl bi bd bm n d k deep D C : Nat) (m R : Bool) (w : World) (e : Ending) (w' : World) : Prop :=
  ∃ r : Bool, e = .returned (.bool r) ∧ (r = true ↔ deep + D ≤ 17 ∧ C ≤ k) ∧ (∃ n' d' m' k', Ms w' bi bd bm n' d' m' ∧ V w' bl 3 (.int .i64 (k' : Nat)) ∧
    (r = true → n' = n + C ∧ d' = max d (deep + D - 1) ∧ m' = (m && R) ∧ k' = k - C)) ∧ Fr (Sx bl bi bd bm) w w'

set_option maxHeartbeats 1000000 in
theorem down_any (w0 : World) (bl bi bd bm : Nat) (hli : bl ≠ bi) (hld : bl ≠ bd) (hlm : bl ≠ bm) (hid : bi ≠ bd) (him : bi ≠ bm) (hdm : bd ≠ bm) (hB : ∀ j, Sx bl bi bd bm j → w0.heap.size ≤ j) :
    ∀ (t : T) (v : Value) (w : World) (k n d : Nat) (m : Bool) (deep : Nat), In w0 t v → Below w0.heap.size w0 w → V w bl 3 (.int .i64 k) → Ms w bi bd bm n d m → n + k ≤ 100000 → d ≤ 17 → deep ≤ 17 →
    Calls Try.prog 68 #[.agg #[.string t.s, .bool t.l, v], .int .i64 deep, .pointer (some ⟨bl, 0, none⟩), .func (Fn.func 54) #[] #[.pointer (some ⟨bi, 0, none⟩), .pointer (some ⟨bd, 0, none⟩), .pointer (some ⟨bm, 0, none⟩)]] w
      fun e w' => DownPost bl bi bd bm n d k deep (T.dep t) (T.cnt t) m (T.rgt t) w e w' := by
  refine T.ind_ ?_
  intro s l ts ih v w k n d m deep hI hw hk hms hnk hd17 hdp
  have hp := T.dep_pos (.mk s l ts)
  have hcp := T.cnt_pos (.mk s l ts)
  have ck := hk.cell
  have fk := hk.free
  have lk := hk.lt
  have I := Lib.hid hI
  obtain ⟨_, hlen, a, c, rfl, hr⟩ := hI
  unfold maxLen at hlen
  have IH := Lib.hid ih
  have HR := Lib.hid hr
  have HW := Lib.hid hw
  have HK := Lib.hid hk
  have HM := Lib.hid hms
  have HB := Lib.hid hB
  simp only [T.s, T.l]
  clear ih hr hw hk hms hB
  have TD := Lib.hid (show T.dep (.mk s l ts) = T.deps ts + 1 from rfl)
  have TC := Lib.hid (show T.cnt (.mk s l ts) = T.cnts ts + 1 from rfl)
  have TR := Lib.hid (show T.rgt (.mk s l ts) = (T.own s l ts && T.rgts ts) from rfl)
  obtain ⟨D, hD⟩ : ∃ D, D = T.dep (.mk s l ts) := ⟨_, rfl⟩
  obtain ⟨C, hC⟩ : ∃ C, C = T.cnt (.mk s l ts) := ⟨_, rfl⟩
  obtain ⟨R, hR⟩ : ∃ R, R = T.rgt (.mk s l ts) := ⟨_, rfl⟩
  rw [← hD] at TD hp ⊢
  rw [← hC] at TC hcp ⊢
  rw [← hR] at TR ⊢
  clear hD hC hR
  by_cases h16 : 16 < deep
  · go_enter Try.func68, Try.ntmps68
    go_wp2
    go_ret
    exact ⟨false, rfl, ⟨fun h => (by cases h), fun h => by omega⟩, ⟨n, d, m, k, Ms.bel HM.out (bel1 _ _), HK.out.alloc _, fun h => (by cases h)⟩, (Fr.refl _ _).alloc _⟩
  · by_cases hk0 : k = 0
    · subst hk0
      go_enter Try.func68, Try.ntmps68
      go_wp2
      go_ret
      exact ⟨false, rfl, ⟨fun h => (by cases h), fun h => by omega⟩, ⟨n, d, m, 0, Ms.bel HM.out (bel1 _ _), HK.out.alloc _, fun h => (by cases h)⟩, (Fr.refl _ _).alloc _⟩
    · have t1 : decide (16 < (deep : Int)) = false := by simp; omega
      have t2 : ((k : Int) == 0) = false := by simpa using hk0
      obtain ⟨q, rfl⟩ : ∃ q, k = q + 1 := ⟨k - 1, by omega⟩
      have W1 := Lib.hid (show V ((w.setCell ⟨bl, 0, none⟩ (.int .i64 q)).alloc (.cells #[.string s, .bool l, .slice a ts.length c] 24)) bl 3 (.int .i64 q) ∧
          Ms ((w.setCell ⟨bl, 0, none⟩ (.int .i64 q)).alloc (.cells #[.string s, .bool l, .slice a ts.length c] 24)) bi bd bm n d m ∧
          Fr (Sx bl bi bd bm) w ((w.setCell ⟨bl, 0, none⟩ (.int .i64 q)).alloc (.cells #[.string s, .bool l, .slice a ts.length c] 24)) ∧
          ((w.setCell ⟨bl, 0, none⟩ (.int .i64 q)).alloc (.cells #[.string s, .bool l, .slice a ts.length c] 24)).cell? ⟨w.heap.size, 2, none⟩ = some (.slice a ts.length c) from
        ⟨(HK.out.set _).alloc _, ⟨(HM.out.i.far (Ne.symm hli) _).alloc _, (HM.out.d.far (Ne.symm hld) _).alloc _, (HM.out.m.far (Ne.symm hlm) _).alloc _⟩,
         (((Fr.refl (Sx bl bi bd bm) w).setCell (p := ⟨bl, 0, none⟩) (.inl (.inl rfl)) _).alloc _), by
          have := box2 (w.setCell ⟨bl, 0, none⟩ (.int .i64 q)) (.string s) (.bool l) (.slice a ts.length c) 24
          simpa [World.setCell] using this⟩)
      have s1 : ((q + 1 : Nat) : Int) - 1 = q := by omega
      have S1 := Lib.hid (fun W (h : Ms W bi bd bm n d m) => see_any s l ts a c deep bi bd bm n d m W h hid him hdm (by omega))
      go_enter Try.func68, Try.ntmps68
      go_wp2_with fail
      refine (S1.out _ W1.out.2.1).mono ?_
      rintro e w1 ⟨rfl, m1, f1⟩
      have v1 : V w1 bl 3 (.int .i64 q) := W1.out.1.fr f1 (by rintro (h | h | h); exact hli h; exact hld h; exact hlm h)
      have cb : w1.cell? ⟨w.heap.size, 2, none⟩ = some (.slice a ts.length c) := cells_fr f1 W1.out.2.2.2 (by have := HM.out.i.lt; have := HM.out.d.lt; have := HM.out.m.lt; rintro (h | h | h) <;> omega)
      have F1 := Lib.hid (W1.out.2.2.1.then_ f1 (fun j _ h => .inr h))
      have M1 := Lib.hid m1
      have V1 := Lib.hid v1
      clear m1 f1 v1 W1 S1 ck fk lk s1
      go_wp2
      go_loopw [31] (fun i wr => ∃ j : Nat, j ≤ ts.length ∧ deep + 1 + T.deps (ts.take j) ≤ 17 ∧ T.cnts (ts.take j) ≤ q ∧ i = .int .i64 j ∧ V wr bl 3 (.int .i64 (q - T.cnts (ts.take j) : Nat)) ∧
        Ms wr bi bd bm (n + 1 + T.cnts (ts.take j)) (max (max d deep) (deep + T.deps (ts.take j))) (m && T.own s l ts && T.rgts (ts.take j)) ∧ Fr (Sx bl bi bd bm) w wr) (fun i _ => ts.length - (intOf i).toNat)
      case atStart => exact ⟨0, Nat.zero_le _, by simp [T.deps]; omega, by simp [T.cnts], rfl, by simpa [T.cnts] using V1.out, by
        have := M1.out
        simp only [List.take_zero, T.cnts, T.deps, T.rgts, Nat.add_zero, Bool.and_true]
        rwa [show max (max d deep) deep = max d deep by omega], F1.out⟩
      case round =>
        obtain ⟨j, hj, hd0, hc0, rfl, hv, hm, hf⟩ := hrel
        have V0 := Lib.hid hv
        have M0 := Lib.hid hm
        have F0 := Lib.hid hf
        clear hv hm hf
        by_cases hlt : j < ts.length
        · have hBel : Below w0.heap.size w0 wr := HW.out.trans (F0.out.below HW.out.size HB.out)
          obtain ⟨b, o, v', rfl, c0, c1, c2, hi⟩ := Row.at ts 0 j hlt HR.out
          obtain ⟨p, p', rfl⟩ := hi.slice
          rw [Nat.zero_add] at c0 c1 c2
          replace c0 := cells_below hBel _ _ _ c0
          replace c1 := cells_below hBel _ _ _ c1
          replace c2 := cells_below hBel _ _ _ c2
          have hbb := lt_of_cell c0
          have hk1 := T.cnts_take ts j hlt
          have hk2 := T.deps_take ts j hlt
          have hk3 := T.rgts_take ts j hlt
          have hk4 := T.cnts_take_le ts (j + 1)
          have hk5 := T.deps_take_le ts (j + 1)
          have CALL := Lib.hid (fun x => IH.out ts[j] (List.getElem_mem hlt) _ (wr.alloc x) (q - T.cnts (ts.take j)) (n + 1 + T.cnts (ts.take j)) (max (max d deep) (deep + T.deps (ts.take j))) (m && T.own s l ts && T.rgts (ts.take j)) (deep + 1) hi (hBel.alloc hBel.size _) (V0.out.alloc _) ⟨M0.out.i.alloc _, M0.out.d.alloc _, M0.out.m.alloc _⟩ (by omega) (by omega) (by omega))
          clear hi
          go_wp2_with fail
          refine (CALL.out _).mono ?_
          rintro e w2 ⟨r, rfl, hr, ⟨n', d', m', k', M2, V2, hh⟩, f2⟩
          have F2 := Lib.hid ((F0.out.alloc (.cells #[.string ts[j].s, .bool ts[j].l, .slice p ts[j].ts.length p'] 24)).trans f2)
          have M2 := Lib.hid M2
          have V2 := Lib.hid V2
          have HR1 := Lib.hid hr
          have HH := Lib.hid hh
          clear hr hh f2 CALL c0 c1 c2 hbb
          cases r
          · go_wp2
            go_ret
            refine ⟨false, rfl, ⟨fun h => (by cases h), fun h => ?_⟩, ⟨n', d', m', k', M2.out, V2.out, fun h => (by cases h)⟩, F2.out⟩
            exact HR1.out.2 (by have := TD.out; have := TC.out; omega)
          · obtain ⟨rfl, rfl, rfl, rfl⟩ := HH.out rfl
            have hr2 := HR1.out.1 rfl
            have e1 : q - T.cnts (ts.take j) - T.cnt ts[j] = q - T.cnts (ts.take (j + 1)) := by omega
            have e2 : n + 1 + T.cnts (ts.take j) + T.cnt ts[j] = n + 1 + T.cnts (ts.take (j + 1)) := by omega
            have e3 : max (max (max d deep) (deep + T.deps (ts.take j))) (deep + 1 + T.dep ts[j] - 1) = max (max d deep) (deep + T.deps (ts.take (j + 1))) := by omega
            have e4 : (m && T.own s l ts && T.rgts (ts.take j) && T.rgt ts[j]) = (m && T.own s l ts && T.rgts (ts.take (j + 1))) := by rw [hk3, Bool.and_assoc (m && T.own s l ts)]
            have V3 := V2.out
            have M3 := M2.out
            rw [e1] at V3
            rw [e2, e3, e4] at M3
            have V4 := Lib.hid V3
            have M4 := Lib.hid M3
            have H2 := Lib.hid (show deep + 1 + T.deps (ts.take (j + 1)) ≤ 17 ∧ T.cnts (ts.take (j + 1)) ≤ q by omega)
            clear e1 e2 e3 e4 V3 M3 hk1 hk2 hk3 hk4 hk5 hr2
            go_wp2
            go_roundw
            case rel => exact ⟨j + 1, by omega, H2.out.1, H2.out.2, by go_num, V4.out, M4.out, F2.out⟩
            case measure => (simp [intOf]) <;> omega
        · obtain rfl : j = ts.length := by omega
          rw [List.take_length] at hd0 hc0 V0 M0
          have E := Lib.hid (show deep + D ≤ 17 ∧ C ≤ q + 1 ∧ n + 1 + T.cnts ts = n + C ∧ max (max d deep) (deep + T.deps ts) = max d (deep + D - 1) ∧ q - T.cnts ts = q + 1 - C by
            have := TD.out
            have := TC.out
            omega)
          clear hd0 hc0
          go_wp2
          go_ret
          refine ⟨true, rfl, ⟨fun _ => ⟨E.out.1, E.out.2.1⟩, fun _ => rfl⟩, ⟨_, _, _, _, M0.out, V0.out, fun _ => ⟨E.out.2.2.1, E.out.2.2.2.1, ?_, E.out.2.2.2.2⟩⟩, F0.out⟩
          rw [TR.out, Bool.and_assoc]
end Go.Proofs.Ytegakecncpfnnaa
