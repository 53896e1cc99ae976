/-
  alive, what each statement of layer 8 asks first, over this seat's translation. No condition.
-/
import Derived.Test.YtdkeickcbpjedaaDoorItmJ
namespace Go.Proofs.YtdkeickcbpjedaaDoor
open Go.RowKit

def tA : T := .mk ⟨#[97]⟩ false []
def tE : T := .mk ⟨#[]⟩ false []
def tL : T := .mk ⟨#[]⟩ true []
def tX : T := .mk ⟨#[]⟩ true [tA, tE, tL]
theorem may_tX : T.may tX = true := by decide
theorem show_tX : showS tX = ⟨#[40, 54, 49, 32, 45, 32, 40, 41, 41]⟩ ∧ showE tX = 0 := by
  rw [showS, showE, may_tX, if_pos rfl, if_pos rfl]
  exact ⟨by decide, rfl⟩

theorem nine (w : World) (c : Array Value) (i : Nat) (v : Value) (h : c[i]? = some v) : (w.alloc (.cells c 24)).cell? ⟨w.heap.size, i, none⟩ = some v := (World.cell?_alloc_new w c _ i).trans h

theorem alive_any (w : World) :
    Calls Tryd.prog 5 #[] w fun e w' => e = .returned (.bool true) ∧ Below w.heap.size w w' := by
  have SX := Lib.hid show_tX
  go_enter Tryd.func5, Tryd.ntmps5
  go_wp2_with fail
  refine (text_any ⟨#[97]⟩ _ (by decide)).mono ?_
  rintro e w1 ⟨rfl, b1⟩
  have B1 := Lib.hid b1
  clear b1
  go_wp2_with fail
  refine (text_any ⟨#[]⟩ _ (by decide)).mono ?_
  rintro e w2 ⟨rfl, b2⟩
  have B2 := Lib.hid (below_then B1.out b2)
  clear b2
  go_wp2_with fail
  refine (list_any [] (.slice none 0 0) _ ⟨Nat.zero_le _, Nat.zero_le _, none, 0, rfl, trivial⟩ (by simp [T.cnts]) (by simp [T.sizs])).mono ?_
  rintro e w3 ⟨v, rfl, hv, b3⟩
  obtain ⟨p, p', rfl⟩ := hv.slice
  simp only [T.ts, List.length_nil] at hv ⊢
  have HV := Lib.hid hv
  have B3 := Lib.hid (below_then B2.out b3)
  clear hv b3
  go_wp2_with fail
  have c := nine w3 #[.string ⟨#[97]⟩, .bool false, .slice none 0 0, .string ⟨#[]⟩, .bool false, .slice none 0 0, .string ⟨#[]⟩, .bool true, .slice p 0 p']
  have hin : In (w3.alloc (.cells #[.string ⟨#[97]⟩, .bool false, .slice none 0 0, .string ⟨#[]⟩, .bool false, .slice none 0 0, .string ⟨#[]⟩, .bool true, .slice p 0 p'] 24)) (.mk ⟨#[]⟩ true [tA, tE, tL]) (.slice (some ⟨w3.heap.size, 0, none⟩) 3 3) := by
    refine ⟨by decide, by simp [maxLen], some ⟨w3.heap.size, 0, none⟩, 3, rfl, ⟨_, _, _, rfl, c 0 _ rfl, c 1 _ rfl, c 2 _ rfl, ⟨by decide, by simp [maxLen], none, 0, rfl, trivial⟩⟩,
      ⟨_, _, _, rfl, c 3 _ rfl, c 4 _ rfl, c 5 _ rfl, ⟨by decide, by simp [maxLen], none, 0, rfl, trivial⟩⟩, ⟨_, _, _, rfl, c 6 _ rfl, c 7 _ rfl, c 8 _ rfl, (InN.in _ _ HV.out).bel (bel1 _ _)⟩, trivial⟩
  refine (list_any [tA, tE, tL] _ _ hin (by decide) (by decide)).mono ?_
  clear c hin
  rintro e w4 ⟨v, rfl, hv, b4⟩
  have hv4 := InN.in _ _ hv
  obtain ⟨q, q', rfl⟩ := hv4.slice
  simp only [T.ts, List.length_cons, List.length_nil] at hv4 ⊢
  have HV4 := Lib.hid hv4
  have B4 := Lib.hid (B3.out.trans (((bel1 w3 _).mono B3.out.size).trans (b4.mono (by have := B3.out.size; simp; omega))))
  clear hv b4 hv4
  have e0 : tX.s = ⟨#[]⟩ := rfl
  have sh := show_top tX (.slice q (0 + 1 + 1 + 1) q') w4 HV4.out (by decide)
  rw [SX.out.1, SX.out.2] at sh
  have SH := Lib.hid sh
  clear sh e0
  go_wp2_with fail
  refine SH.out.mono ?_
  rintro e w5 ⟨rfl, b5⟩
  have B5 := Lib.hid (below_then B4.out b5)
  clear b5
  go_wp2
  go_ret
  exact ⟨rfl, B5.out⟩
end Go.Proofs.YtdkeickcbpjedaaDoor
