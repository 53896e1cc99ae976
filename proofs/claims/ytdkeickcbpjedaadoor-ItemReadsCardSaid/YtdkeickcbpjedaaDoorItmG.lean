/-
  The contract of slices.Clone at a row of items, over this seat's translation. Conditions: a row in memory of at most 2^21 items.
-/
import Derived.Test.YtdkeickcbpjedaaDoorItmF
import Derived.Laws.AppendOwn
import Derived.OwnWalk
namespace Go.Proofs.YtdkeickcbpjedaaDoor
open Go.RowKit

theorem Row.news {w : World} {b o : Nat} : ∀ (ts : List T) (k : Nat), Row w (some ⟨b, o, none⟩) ts k → ∃ news : List Value, news.length = ts.length * 3 ∧ (∀ j u, news[j]? = some u → w.cell? ⟨b, o + k * 3 + j, none⟩ = some u) ∧
    (∀ u ∈ news, u.oneCell' = true) ∧ (∀ i (h : i < ts.length), news[i * 3]? = some (.string ts[i].s) ∧ news[i * 3 + 1]? = some (.bool ts[i].l) ∧ ∃ v, news[i * 3 + 2]? = some v ∧ In w ts[i] v)
  | [], _, _ => ⟨[], rfl, fun j u h => by simp at h, fun u h => by simp at h, fun i h => absurd h (Nat.not_lt_zero i)⟩
  | t :: r, k, ⟨⟨b', o', v, hb, c0, c1, c2, hi⟩, hr⟩ => by
    injection hb with hb
    injection hb with hb1 hb2
    subst hb1 hb2
    obtain ⟨news, h1, h2, h3, h4⟩ := Row.news r (k + 1) hr
    obtain ⟨p, q, rfl⟩ := hi.slice
    refine ⟨.string t.s :: .bool t.l :: .slice p t.ts.length q :: news, by simp [h1]; omega, fun j u hj => ?_, fun u hu => ?_, fun i h => ?_⟩
    · match j, hj with
      | 0, hj => simp at hj; subst hj; simpa using c0
      | 1, hj => simp at hj; subst hj; exact c1
      | 2, hj => simp at hj; subst hj; exact c2
      | j + 3, hj =>
        have := h2 j u (by simpa using hj)
        rwa [show o + (k + 1) * 3 + j = o + k * 3 + (j + 3) by omega] at this
    · simp only [List.mem_cons] at hu
      rcases hu with rfl | rfl | rfl | hu
      · rfl
      · rfl
      · rfl
      · exact h3 u hu
    · match i, h with
      | 0, _ => exact ⟨rfl, rfl, _, rfl, hi⟩
      | i + 1, h =>
        obtain ⟨g1, g2, v', g3, g4⟩ := h4 i (by simpa using h)
        refine ⟨?_, ?_, v', ?_, g4⟩
        · rw [show (i + 1) * 3 = i * 3 + 3 by omega]; simpa using g1
        · rw [show (i + 1) * 3 + 1 = i * 3 + 1 + 3 by omega]; simpa using g2
        · rw [show (i + 1) * 3 + 2 = i * 3 + 2 + 3 by omega]; simpa using g3

/-- A new row of one's own that holds items whose own rows are elsewhere. -/
def Twin (w0 w' : World) (B : Nat) (ts : List T) (v : Value) : Prop :=
  (v = .slice none 0 0 ∧ ts = []) ∨ ∃ g cap cur, v = .slice (some ⟨g, 0, none⟩) ts.length cap ∧ B ≤ g ∧ w'.heap[g]? = some (.cells cur 24 (0, 0)) ∧
    ∀ i (h : i < ts.length), cur[i * 3]? = some (.string ts[i].s) ∧ cur[i * 3 + 1]? = some (.bool ts[i].l) ∧ ∃ v, cur[i * 3 + 2]? = some v ∧ In w0 ts[i] v

theorem run_eql_some (x : Addr) (n c : Nat) (w : World) : (binOp BinOp.eql 22 (.slice (some x) n c) (.slice none 0 0)).run Tryd.prog w = .ok (.bool false) w := by kernel_rfl
theorem run_eql_none (n c : Nat) (w : World) : (binOp BinOp.eql 22 (.slice none n c) (.slice none 0 0)).run Tryd.prog w = .ok (.bool true) w := by kernel_rfl
theorem item_info : (Tryd.prog.info? 24).map (fun i => (i.zero, i.size, i.bytes)) = some (some (.agg #[.string ⟨#[]⟩, .bool false, .slice none 0 0]), 3, 48) := by kernel_rfl

theorem sclone_any (w0 : World) (ts : List T) (a : Option Addr) (c : Nat) (w : World) (hr : Row w0 a ts 0) (hw : ∀ b i v, w0.cell? ⟨b, i, none⟩ = some v → w.cell? ⟨b, i, none⟩ = some v) (hn : ts.length ≤ 2097152) :
    Calls Tryd.prog 34 #[.slice a ts.length c] w fun e w' => ∃ v, e = .returned v ∧ Twin w0 w' w.heap.size ts v ∧ Below w.heap.size w w' := by
  rcases a with _ | a
  · obtain rfl : ts = [] := by
      rcases ts with _ | ⟨t, r⟩
      · rfl
      · obtain ⟨⟨b, o, v, hb, _⟩, _⟩ := hr
        cases hb
    have e1 := run_eql_none 0 c
    simp only [List.length_nil]
    clear hr
    go_enter Tryd.func34, Tryd.ntmps34
    go_wp2
    go_ret
    exact ⟨_, rfl, .inl ⟨rfl, rfl⟩, Below.refl _ _⟩
  · obtain ⟨b, o, sp⟩ := a
    obtain rfl | hsp : ts = [] ∨ sp = none := by
      rcases ts with _ | ⟨t, r⟩
      · exact .inl rfl
      · obtain ⟨⟨b, o, v, hb, _⟩, _⟩ := hr
        cases hb
        exact .inr rfl
    · have e1 := run_eql_some ⟨b, o, sp⟩ 0 c
      simp only [List.length_nil]
      obtain ⟨i0, hi, hz0, hz1, hz2⟩ := info_parts item_info
      clear hr
      go_enter Tryd.func34, Tryd.ntmps34
      go_wp2_with (at_builtin; refine wpList_append_own _ rfl (.tmp 5) (.tmp 6) 22 rfl w.heap.size 24 i0 (.agg #[.string ⟨#[]⟩, .bool false, .slice none 0 0]) 3 48 Tryd.underlying22 hi hz0 hz1 hz2 rfl (by decide) (.slice (some ⟨w.heap.size, 0, none⟩) 0 0) 0 [] rfl ⟨rfl, .inr ⟨w.heap.size, 0, #[], rfl, Nat.le_refl _, heap_alloc_new w _, Nat.le_refl _, Nat.zero_le _, rfl, rfl⟩⟩ ⟨b, o, sp⟩ 0 c [] rfl rfl (fun j u hj => by simp at hj) (fun u hu => by simp at hu) (by unfold maxLen; omega) (by omega) (by simp) ?_; intro v1 w1 hown1 hgrow1 hnil1; have HO := Lib.hid hown1; have HG := Lib.hid hgrow1; have HN := Lib.hid hnil1; clear hown1 hgrow1 hnil1)
      go_ret
      refine ⟨_, rfl, ?_, ?_⟩
      · rcases HO.out.2 with ⟨h, _⟩ | ⟨g, cap, cur, h, hB, hg, _⟩
        · exact .inl ⟨h, rfl⟩
        · exact .inr ⟨g, cap, cur, h, hB, hg, fun i h => absurd h (Nat.not_lt_zero i)⟩
      · exact Below.grown (bel1 w _) HG.out (by simp) (fun k hk => by simp [Value.ownBlock] at hk; omega)
    · subst hsp
      have e1 := run_eql_some ⟨b, o, none⟩ ts.length c
      obtain ⟨i0, hi, hz0, hz1, hz2⟩ := info_parts item_info
      obtain ⟨news, n1, n2, n3, n4⟩ := Row.news ts 0 hr
      have N1 := Lib.hid n1
      have N2 := Lib.hid n2
      have N3 := Lib.hid n3
      have N4 := Lib.hid n4
      clear n1 n2 n3 n4 hr
      go_enter Tryd.func34, Tryd.ntmps34
      go_wp2_with (at_builtin; refine wpList_append_own _ rfl (.tmp 5) (.tmp 6) 22 rfl w.heap.size 24 i0 (.agg #[.string ⟨#[]⟩, .bool false, .slice none 0 0]) 3 48 Tryd.underlying22 hi hz0 hz1 hz2 rfl (by decide) (.slice (some ⟨w.heap.size, 0, none⟩) 0 0) 0 [] rfl ⟨rfl, .inr ⟨w.heap.size, 0, #[], rfl, Nat.le_refl _, heap_alloc_new w _, Nat.le_refl _, Nat.zero_le _, rfl, rfl⟩⟩ ⟨b, o, none⟩ ts.length c news rfl N1.out (fun j u hj => by rw [Addr.add_lit]; exact cells_below (bel1 w (.cells #[] 24)) _ _ _ (hw _ _ _ (by have := N2.out j u hj; rwa [Nat.zero_mul, Nat.add_zero] at this))) N3.out (by unfold maxLen; omega) (by omega) (by simp) ?_; intro v1 w1 hown1 hgrow1 hnil1; have HO := Lib.hid hown1; have HG := Lib.hid hgrow1; have HN := Lib.hid hnil1; clear hown1 hgrow1 hnil1)
      go_ret
      refine ⟨_, rfl, ?_, ?_⟩
      · rcases HO.out.2 with ⟨_, h⟩ | ⟨g, cap, cur, h, hB, hg, _, _, hcs, htk⟩
        · exact absurd (HN.out.1 ‹_›).1 (by simp)
        · refine .inr ⟨g, cap, cur, by simpa using h, hB, hg, fun i hi => ?_⟩
          have at_ : ∀ q, q < ts.length * 3 → cur[q]? = news[q]? := by
            intro q hq
            rw [List.nil_append, Nat.zero_add] at htk
            rw [← htk, List.getElem?_take, if_pos hq, Array.getElem?_toList]
          obtain ⟨g1, g2, v', g3, g4⟩ := N4.out i hi
          exact ⟨(at_ _ (by omega)).trans g1, (at_ _ (by omega)).trans g2, v', (at_ _ (by omega)).trans g3, g4⟩
      · exact Below.grown (bel1 w _) HG.out (by simp) (fun k hk => by simp [Value.ownBlock] at hk; omega)
end Go.Proofs.YtdkeickcbpjedaaDoor
