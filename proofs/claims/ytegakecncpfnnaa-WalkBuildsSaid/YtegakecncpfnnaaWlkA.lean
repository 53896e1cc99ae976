/-
  The contract of the laws' alive (layer 10) over this seat's translation: the document's example is answered as it stands. No condition.
-/
import Derived.Test.YtegakecncpfnnaaWlkO
import Derived.Test.YtegakecncpfnnaaWlkR
import Derived.Test.YtegakecncpfnnaaWlkP
import Derived.Test.YtegakecncpfnnaaWlkU
import Derived.Test.YtegakecncpfnnaaRlpR
namespace Go.Proofs.Ytegakecncpfnnaa
open Go.RowKit

def wA : T := .mk ⟨#[97]⟩ false []
def wX : T := .mk ⟨#[]⟩ true [wA]
theorem may_wX : T.may wX = true := by decide
theorem toks_wX : T.toks wX = [opn, wrd ⟨#[97]⟩, sht] := by simp [wX, wA, T.toks, T.tokss]

set_option maxRecDepth 100000 in
theorem alive_any (w : World) :
    Calls Try.prog 5 #[] w fun e w' => e = .returned (.bool true) ∧ Below w.heap.size w w' := by
  have b1 := bel1 w (.cells #[.string ⟨#[97]⟩, .bool false, .slice none 0 0] 24)
  have i1 := I3.new w (.string ⟨#[97]⟩) (.bool false) (.slice none 0 0)
  have B1 := Lib.hid b1
  have OF := Lib.hid (of_ok wX (.slice (some ⟨w.heap.size, 0, none⟩) 1 1) (w.alloc (.cells #[.string ⟨#[97]⟩, .bool false, .slice none 0 0] 24)) ⟨by decide, by decide, some ⟨w.heap.size, 0, none⟩, 1, rfl, by decide, ⟨_, _, _, rfl, i1.c0, i1.c1, i1.c2, ⟨by decide, by decide, none, 0, rfl, Nat.le_refl _, trivial⟩⟩, trivial⟩ may_wX (by rw [toks_wX]; decide) (by rw [toks_wX]; decide))
  clear b1 i1
  go_enter Try.func5, Try.ntmps5
  go_wp2_with fail
  refine OF.out.mono ?_
  rintro e w2 ⟨lv, rfl, tl, b2⟩
  rw [toks_wX] at tl
  obtain ⟨a, c, rfl, hc, hr⟩ := tl
  have SK := Lib.hid (skip_any [opn, wrd ⟨#[97]⟩, sht] (.slice a [opn, wrd ⟨#[97]⟩, sht].length c) w2 ⟨a, c, rfl, hc, hr⟩ (by decide))
  have HR := Lib.hid hr
  have B2 := Lib.hid (B1.out.trans (b2.mono (by simp)))
  have hc : 3 ≤ c := hc
  simp only [List.length_cons, List.length_nil, Nat.reduceAdd] at SK ⊢
  clear b2 hr
  go_wp2_with fail
  refine SK.out.mono ?_
  rintro e w3 ⟨rfl, b3⟩
  have B3 := Lib.hid (B2.out.trans (b3.mono B2.out.size))
  have hr := HR.out.bel b3
  obtain ⟨b, o, rfl, c0, _⟩ := hr 0 (by decide)
  obtain ⟨b', o', e1, _, c1⟩ := hr 1 (by decide)
  injection e1 with e1
  injection e1 with e1 e2
  subst e1 e2
  obtain ⟨b', o', e1, c2, _⟩ := hr 2 (by decide)
  injection e1 with e1
  injection e1 with e1 e2
  subst e1 e2
  have lb := lt_of_cell c0
  have s1 : skip0 [opn, wrd ⟨#[97]⟩, sht] = (3, 0) := by decide
  simp only [List.getElem_cons_zero, List.getElem_cons_succ, opn, wrd, sht, Nat.zero_mul, Nat.add_zero, Nat.one_mul, Nat.reduceMul] at c0 c1 c2
  rw [s1]
  clear b3 hr HR SK s1
  go_wp2
  go_ret
  exact ⟨rfl, B3.out⟩
end Go.Proofs.Ytegakecncpfnnaa
