/-
  The contracts of walk's inner function that lays an item into the inmost open list (Build's closure), and of slices.Clip (layer 10) over this seat's translation. Conditions: rows of at most 100,000 items.
-/
import Derived.Test.YtegakecncpfnnaaWlkB
import Derived.Deep.Cut
import Derived.Deep.CutRange
namespace Go.Proofs.Ytegakecncpfnnaa
open Go.RowKit

/-- What a laying leaves. -/
def LayPost (B g r n : Nat) (fsv : Value) (xs : List Value) (x y z : Value) (w : World) (e : Ending) (w' : World) : Prop :=
  e = .returned (.tuple #[]) ∧ ∃ wA v', w' = wA.setCell ⟨g, r, none⟩ v' ∧ wA.ownsRow B 24 3 v' (n + 1) (xs ++ [x, y, z]) ∧ Fr (fun j => fsv.ownBlock = some j) w wA ∧ (v'.ownBlock = fsv.ownBlock ∨ ∀ j, v'.ownBlock = some j → w.heap.size ≤ j)

theorem clip_any (a : Option Addr) (n c : Nat) (hc : n ≤ c) (w : World) :
    Calls Try.prog 30 #[.slice a n c] w fun e w' => e = .returned (.slice a n n) ∧ w' = w := by
  have h1 : (n : Int) ≤ (c : Int) := by omega
  have h0 : (0 : Int) ≤ (n : Int) := by omega
  go_enter Try.func30, Try.ntmps30
  go_wp2
  go_ret
  exact ⟨rfl, rfl⟩

set_option maxRecDepth 100000 in
set_option maxHeartbeats 2000000 in
theorem lay_item (B b g c r n : Nat) (fsv : Value) (xs : List Value) (s : ByteArray) (l : Bool) (vp : Option Addr) (vl vc : Nat) (w : World) (hv : V w b 55 (.slice (some ⟨g, 0, none⟩) (r + 1) c)) (hc : w.cell? ⟨g, r, none⟩ = some fsv) (hf : w.frozen? ⟨g, r, none⟩ = false)
    (hg : g < w.heap.size) (hown : w.ownsRow B 24 3 fsv n xs) (hn : n ≤ 100000) (hr : r ≤ 100000) (hne : fsv.ownBlock ≠ some g) (hB : B ≤ w.heap.size) :
    Calls Try.prog 28 #[.agg #[.string s, .bool l, .slice vp vl vc], .pointer (some ⟨b, 0, none⟩)] w fun e w' => LayPost B g r n fsv xs (.string s) (.bool l) (.slice vp vl vc) w e w' := by
  have c0 := hv.cell
  have lb := hv.lt
  have HO := Lib.hid hown
  have HNE := Lib.hid hne
  have HB := Lib.hid hB
  have HC := Lib.hid hc
  have HF := Lib.hid hf
  have hxl := hown.1
  have HXL := Lib.hid hxl
  clear hv hown hne hB hc hf hxl
  go_enter Try.func28, Try.ntmps28
  go_upto_region 1 with fail
  --WALK
  go_wp2_with fail
  refine wp_region_held_drew (S := (fun W => I3 W w.heap.size (.string s) (.bool l) (.slice vp vl vc))) (by kernel_rfl) ((I3.new w (.string s) (.bool l) (.slice vp vl vc)).bel (Below.refl _ _).drew) (fun hHeld => ?_)
  obtain ⟨w1, hw1⟩ : ∃ w1, w1 = (w.alloc (.cells #[.string s, .bool l, .slice vp vl vc] 24)).drew := ⟨_, rfl⟩
  have FW : Fr (fun _ => False) w w1 := by rw [hw1]; exact ((Fr.refl _ w).alloc _).drew
  have z1 : w1.heap.size = w.heap.size + 1 := by rw [hw1]; simp [World.drew]
  rw [← hw1] at hHeld ⊢
  have G1 := cells_fr FW HC.out (by simp)
  have gf1 : w1.frozen? ⟨g, r, none⟩ = false := (FW.frozen (p := ⟨g, r, none⟩) hg (by simp)).trans HF.out
  have gl1 : g < w1.heap.size := by omega
  have HS1 := Lib.hid hHeld
  have NG := Lib.hid (show g ≠ w.heap.size by omega)
  obtain ⟨fa, fc, hfs⟩ : ∃ fa fc, fsv = .slice fa n fc := by
    rcases HO.out.2 with ⟨h, h0⟩ | ⟨_, _, _, h, _⟩
    · exact ⟨_, _, by rw [h, h0]⟩
    · exact ⟨_, _, h⟩
  have HFS := Lib.hid hfs
  have OWN1 := Lib.hid (show w1.ownsRow B 24 3 (.slice fa n fc) n xs from hfs ▸ own_keep HO.out FW (fun _ _ e => e))
  rw [hfs] at G1
  have FW := Lib.hid FW
  have Z1 := Lib.hid z1
  have GF1 := Lib.hid gf1
  clear hfs hw1 z1 gf1
  refine held_take 0 9 (v := .pointer (some ⟨g, r, none⟩)) rfl rfl (by kernel_rfl) (by kernel_rfl) (by kernel_rfl) (fun _ _ _ h => h) (by rfl) ?hyc1 hHeld ?restc1
  case hyc1 => (intro w hSw; clear hSw; go_simp; try with_reducible rfl)
  try simp only [Act.put, List.setIfInBounds_toArray, List.set_cons_zero, List.set_cons_succ]
  refine held_take 1 10 (v := .pointer (some ⟨g, r, none⟩)) rfl rfl (by kernel_rfl) (by kernel_rfl) (by kernel_rfl) (fun _ _ _ h => h) (by rfl) ?hyc2 hHeld ?restc2
  case hyc2 => (intro w hSw; clear hSw; go_simp; try with_reducible rfl)
  try simp only [Act.put, List.setIfInBounds_toArray, List.set_cons_zero, List.set_cons_succ]
  refine held_take 3 12 (v := .agg #[.string s, .bool l, .slice vp vl vc]) rfl rfl (by kernel_rfl) (by kernel_rfl) (by kernel_rfl) (fun _ _ _ h => h) (by rfl) ?hyc3 hHeld ?restc3
  case hyc3 => (intro w hSw; have hS0 := hSw.c0; have hS1 := hSw.c1; have hS2 := hSw.c2; have hSl := hSw.lt; clear hSw; go_simp; try with_reducible rfl)
  try simp only [Act.put, List.setIfInBounds_toArray, List.set_cons_zero, List.set_cons_succ]
  refine wpAnyH_ready (rs := [2, 5]) (by kernel_rfl) (by simp) ?_
  refine AllReadyH.cons rfl (fun K hK => ?_) (AllReadyH.cons rfl (fun K hK => ?_) AllReadyH.nil)
  · go_simp
    refine hK.out _ _ hHeld (fun hHeld => ?_)
    clear hK K
    try simp only [Act.put, List.setIfInBounds_toArray, List.set_cons_zero, List.set_cons_succ]
    refine held_take 4 13 (v := .int .i64 (n : Nat)) rfl rfl (by kernel_rfl) (by kernel_rfl) (by kernel_rfl) (fun _ _ _ h => h) (by rfl) ?hyc4 hHeld ?restc4
    case hyc4 => (intro w hSw; clear hSw; go_simp; try with_reducible rfl)
    try simp only [Act.put, List.setIfInBounds_toArray, List.set_cons_zero, List.set_cons_succ]
    refine wpAnyH_ready (rs := [5]) (by kernel_rfl) (by simp) ?_
    refine AllReadyH.cons rfl (fun K hK => ?_) AllReadyH.nil
    go_simp
    refine hK.out _ _ (hHeld.alloc (.cells #[.string ⟨#[]⟩, .bool false, .slice none 0 0] 24)) (fun hHeld => ?_)
    clear hK K
    try simp only [Act.put, List.setIfInBounds_toArray, List.set_cons_zero, List.set_cons_succ]
    have HS2 := hHeld
    have ap := append_item (w1.alloc (.cells #[.string ⟨#[]⟩, .bool false, .slice none 0 0] 24)) B n (.slice fa n fc) xs (OWN1.out.alloc _) w1.heap.size 1 (.string ⟨#[]⟩) (.bool false) (.slice none 0 0) (box0 _ _ _ _ _) (box1 _ _ _ _ _) (box2 _ _ _ _ _) (by intro u hu; simp at hu; rcases hu with rfl | rfl | rfl <;> rfl) hn (by have := HB.out; have := Z1.out; rw [size_push]; omega) 22
    obtain ⟨v', w8, hap, own8, gr8, ob8⟩ := ap
    obtain ⟨h, hc, rfl⟩ : ∃ h hc, v' = .slice (some ⟨h, 0, none⟩) (n + 1) hc := by
      rcases own8.2 with ⟨_, h0⟩ | ⟨h, hc, _, hv, _⟩
      · omega
      · exact ⟨h, hc, hv⟩
    have fg8 : Fr (fun j => fsv.ownBlock = some j) (w1.alloc (.cells #[.string ⟨#[]⟩, .bool false, .slice none 0 0] 24)) w8 := by rw [HFS.out]; exact fr_grown gr8
    rw [← HFS.out] at ob8
    have n1 : fsv.ownBlock ≠ some g := HNE.out
    have n2 : ∀ j, fsv.ownBlock = some j → j < w.heap.size := fun j e => (HO.out.lt j e).2
    have hx1 := hHeld.lt
    have n3 : h ≠ g ∧ h ≠ w.heap.size := by
      rcases ob8 with e | e
      · have e : fsv.ownBlock = some h := e.symm
        exact ⟨fun e2 => n1 (e2 ▸ e), by have := n2 h e; omega⟩
      · injection e with e
        rw [size_push] at e hx1
        have h5 : h = w1.heap.size + 1 := e
        have h6 := Z1.out
        exact ⟨by omega, by omega⟩
    have I8 := hHeld.fr fg8 (fun e => by have := n2 _ e; omega)
    refine wpAnyH_ready (rs := [6]) (by kernel_rfl) (by simp) ?_
    refine AllReadyH.cons rfl (fun K hK => ?_) AllReadyH.nil
    refine ready_append rfl _ _ 22 rfl _ _ rfl rfl _ w8 hap ?_
    have k0 := own8.cellAt (n * 3) (by omega)
    have k1 := own8.cellAt (n * 3 + 1) (by omega)
    have k2 := own8.cellAt (n * 3 + 2) (by omega)
    have hxl := HXL.out
    rw [List.getElem?_append_right (by omega), hxl, Nat.sub_self] at k0
    rw [List.getElem?_append_right (by omega), hxl, Nat.add_sub_cancel_left] at k1 k2
    simp only [List.getElem?_cons_zero, List.getElem?_cons_succ] at k0 k1 k2
    have kf0 := own8.frozenAt (n * 3)
    have kf1 := own8.frozenAt (n * 3 + 1)
    have kf2 := own8.frozenAt (n * 3 + 2)
    have hl8 := (own8.lt h rfl).2
    have g8 := cells_fr fg8 (w := w1.alloc (.cells #[.string ⟨#[]⟩, .bool false, .slice none 0 0] 24)) (b := g) (i := r) (v := .slice fa n fc) ((World.cell?_of_block (w := w1) (Below.heap_alloc w1 _ g gl1)).trans G1) (fun e => n1 e)
    have gf8 : w8.frozen? ⟨g, r, none⟩ = false := by
      rw [fg8.frozen (p := ⟨g, r, none⟩) (by rw [size_push]; exact Nat.lt_succ_of_lt gl1) (fun e => n1 e)]
      rw [World.frozen?_of_block (w := w1) (Below.heap_alloc w1 _ g gl1)]
      exact GF1.out
    have gl8 : g < w8.heap.size := Nat.lt_of_lt_of_le (by rw [size_push]; exact Nat.lt_succ_of_lt gl1) fg8.size
    have st8 := stored3 own8 hxl (.string s) (.bool l) (.slice vp vl vc)
    have DONE := Lib.hid (show LayPost B g r n fsv xs (.string s) (.bool l) (.slice vp vl vc) w (.returned (.tuple #[])) (((((w8.setCell ⟨h, n * 3, none⟩ (.string s)).setCell ⟨h, n * 3 + 1, none⟩ (.bool l)).setCell ⟨h, n * 3 + 2, none⟩ (.slice vp vl vc))).setCell ⟨g, r, none⟩ (.slice (some ⟨h, 0, none⟩) (n + 1) hc)) from by
      have fh : Fr (fun j => j = h) w8 (((w8.setCell ⟨h, n * 3, none⟩ (.string s)).setCell ⟨h, n * 3 + 1, none⟩ (.bool l)).setCell ⟨h, n * 3 + 2, none⟩ (.slice vp vl vc)) := ((fr_set _).trans (fr_set _)).trans (fr_set _)
      have hz := Z1.out
      refine ⟨rfl, _, _, rfl, st8, ?_, ?_⟩
      · have f1 : Fr (fun j => fsv.ownBlock = some j) w w8 := (FW.out.mono (fun _ _ e => e.elim)).trans (((Fr.refl (fun j => fsv.ownBlock = some j) w1).alloc _).trans fg8)
        refine f1.then_ fh ?_
        rintro j hj rfl
        rcases ob8 with e | e
        · exact e.symm
        · rw [size_push] at e
          injection e with e
          have e3 : j = w1.heap.size + 1 := e
          omega
      · rcases ob8 with e | e
        · exact .inl e
        · refine .inr fun j hj => ?_
          rw [e] at hj
          rw [size_push] at hj
          injection hj with hj
          omega)
    have hHeld9 : I3 (((w8.setCell ⟨h, n * 3, none⟩ (.string s)).setCell ⟨h, n * 3 + 1, none⟩ (.bool l)).setCell ⟨h, n * 3 + 2, none⟩ (.slice vp vl vc)) w.heap.size (.string s) (.bool l) (.slice vp vl vc) :=
      I8.fr (((fr_set (g := h) _).trans (fr_set _)).trans (fr_set _)) (fun e => n3.2 e.symm)
    have hHeld12 : I3 (w8.setCell ⟨g, r, none⟩ (.slice (some ⟨h, 0, none⟩) (n + 1) hc)) w.heap.size (.string s) (.bool l) (.slice vp vl vc) :=
      I8.fr (fr_set _) (fun e => NG.out e.symm)
    have hHeldZ : I3 ((((w8.setCell ⟨h, n * 3, none⟩ (.string s)).setCell ⟨h, n * 3 + 1, none⟩ (.bool l)).setCell ⟨h, n * 3 + 2, none⟩ (.slice vp vl vc)).setCell ⟨g, r, none⟩ (.slice (some ⟨h, 0, none⟩) (n + 1) hc)) w.heap.size (.string s) (.bool l) (.slice vp vl vc) :=
      hHeld9.fr (fr_set _) (fun e => NG.out e.symm)
    have nh := n3.1
    have nh' : g ≠ h := fun e => n3.1 e.symm
    clear own8 gr8 ob8 fg8 n1 n2 st8 hHeld HS2 hap hx1
    refine hK.out _ _ I8 (fun hHeld => ?_)
    clear hK K
    try simp only [Act.put, List.setIfInBounds_toArray]
    refine held_take 7 16 (v := .pointer (some ⟨h, n * 3, none⟩)) rfl rfl (by kernel_rfl) (by kernel_rfl) (by kernel_rfl) (fun _ _ _ h => h) (by rfl) ?hyc6 hHeld ?restc6
    case hyc6 => (intro w hSw; clear hSw; go_simp; intro hh; exfalso; omega; )
    try simp only [Act.put]
    refine held_take 9 17 (v := .pointer (some ⟨g, r, none⟩)) rfl rfl (by kernel_rfl) (by kernel_rfl) (by kernel_rfl) (fun _ _ _ h => h) (by rfl) ?hyc7 hHeld ?restc7
    case hyc7 => (intro w hSw; clear hSw; go_simp; try with_reducible rfl)
    try simp only [Act.put]
    refine wpAnyH_ready (rs := [8, 10]) (by kernel_rfl) (by simp) ?_
    refine AllReadyH.cons rfl (fun K hK => ?_) (AllReadyH.cons rfl (fun K hK => ?_) AllReadyH.nil)
    · go_simp
      refine hK.out _ _ hHeld9 (fun hHeld => ?_)
      clear hK K
      try simp only [Act.put, List.setIfInBounds_toArray, List.set_cons_zero, List.set_cons_succ]
      refine wpAnyH_ready (rs := [10]) (by kernel_rfl) (by simp) ?_
      refine AllReadyH.cons rfl (fun K hK => ?_) AllReadyH.nil
      go_simp
      refine hK.out _ _ hHeldZ (fun hHeld => ?_)
      clear hK K
      try simp only [Act.put, List.setIfInBounds_toArray, List.set_cons_zero, List.set_cons_succ]
      refine wpAnyH_done (by kernel_rfl) ?_ _
      try simp only [Act.put]
      go_end0
      exact DONE.out
    · go_simp
      refine hK.out _ _ hHeld12 (fun hHeld => ?_)
      clear hK K
      try simp only [Act.put, List.setIfInBounds_toArray, List.set_cons_zero, List.set_cons_succ]
      refine wpAnyH_ready (rs := [8]) (by kernel_rfl) (by simp) ?_
      refine AllReadyH.cons rfl (fun K hK => ?_) AllReadyH.nil
      go_simp
      rw [setCell_swap w8 (.slice (some ⟨h, 0, none⟩) (n + 1) hc) _ nh]
      rw [setCell_swap _ (.slice (some ⟨h, 0, none⟩) (n + 1) hc) _ nh]
      rw [setCell_swap _ (.slice (some ⟨h, 0, none⟩) (n + 1) hc) _ nh]
      refine hK.out _ _ hHeldZ (fun hHeld => ?_)
      clear hK K
      try simp only [Act.put, List.setIfInBounds_toArray, List.set_cons_zero, List.set_cons_succ]
      refine wpAnyH_done (by kernel_rfl) ?_ _
      try simp only [Act.put]
      go_end0
      exact DONE.out
  · go_simp
    refine hK.out _ _ (hHeld.alloc (.cells #[.string ⟨#[]⟩, .bool false, .slice none 0 0] 24)) (fun hHeld => ?_)
    clear hK K
    try simp only [Act.put, List.setIfInBounds_toArray, List.set_cons_zero, List.set_cons_succ]
    refine wpAnyH_ready (rs := [2]) (by kernel_rfl) (by simp) ?_
    refine AllReadyH.cons rfl (fun K hK => ?_) AllReadyH.nil
    have G2 := (World.cell?_of_block (a := ⟨g, r, none⟩) (w := w1) (Below.heap_alloc w1 (.cells #[.string ⟨#[]⟩, .bool false, .slice none 0 0] 24) g gl1)).trans G1
    go_simp
    refine hK.out _ _ hHeld (fun hHeld => ?_)
    clear hK K
    try simp only [Act.put, List.setIfInBounds_toArray, List.set_cons_zero, List.set_cons_succ]
    refine held_take 4 13 (v := .int .i64 (n : Nat)) rfl rfl (by kernel_rfl) (by kernel_rfl) (by kernel_rfl) (fun _ _ _ h => h) (by rfl) ?hyc5 hHeld ?restc5
    case hyc5 => (intro w hSw; clear hSw; go_simp; try with_reducible rfl)
    try simp only [Act.put, List.setIfInBounds_toArray, List.set_cons_zero, List.set_cons_succ]
    have HS2 := hHeld
    have ap := append_item (w1.alloc (.cells #[.string ⟨#[]⟩, .bool false, .slice none 0 0] 24)) B n (.slice fa n fc) xs (OWN1.out.alloc _) w1.heap.size 1 (.string ⟨#[]⟩) (.bool false) (.slice none 0 0) (box0 _ _ _ _ _) (box1 _ _ _ _ _) (box2 _ _ _ _ _) (by intro u hu; simp at hu; rcases hu with rfl | rfl | rfl <;> rfl) hn (by have := HB.out; have := Z1.out; rw [size_push]; omega) 22
    obtain ⟨v', w8, hap, own8, gr8, ob8⟩ := ap
    obtain ⟨h, hc, rfl⟩ : ∃ h hc, v' = .slice (some ⟨h, 0, none⟩) (n + 1) hc := by
      rcases own8.2 with ⟨_, h0⟩ | ⟨h, hc, _, hv, _⟩
      · omega
      · exact ⟨h, hc, hv⟩
    have fg8 : Fr (fun j => fsv.ownBlock = some j) (w1.alloc (.cells #[.string ⟨#[]⟩, .bool false, .slice none 0 0] 24)) w8 := by rw [HFS.out]; exact fr_grown gr8
    rw [← HFS.out] at ob8
    have n1 : fsv.ownBlock ≠ some g := HNE.out
    have n2 : ∀ j, fsv.ownBlock = some j → j < w.heap.size := fun j e => (HO.out.lt j e).2
    have hx1 := hHeld.lt
    have n3 : h ≠ g ∧ h ≠ w.heap.size := by
      rcases ob8 with e | e
      · have e : fsv.ownBlock = some h := e.symm
        exact ⟨fun e2 => n1 (e2 ▸ e), by have := n2 h e; omega⟩
      · injection e with e
        rw [size_push] at e hx1
        have h5 : h = w1.heap.size + 1 := e
        have h6 := Z1.out
        exact ⟨by omega, by omega⟩
    have I8 := hHeld.fr fg8 (fun e => by have := n2 _ e; omega)
    refine wpAnyH_ready (rs := [6]) (by kernel_rfl) (by simp) ?_
    refine AllReadyH.cons rfl (fun K hK => ?_) AllReadyH.nil
    refine ready_append rfl _ _ 22 rfl _ _ rfl rfl _ w8 hap ?_
    have k0 := own8.cellAt (n * 3) (by omega)
    have k1 := own8.cellAt (n * 3 + 1) (by omega)
    have k2 := own8.cellAt (n * 3 + 2) (by omega)
    have hxl := HXL.out
    rw [List.getElem?_append_right (by omega), hxl, Nat.sub_self] at k0
    rw [List.getElem?_append_right (by omega), hxl, Nat.add_sub_cancel_left] at k1 k2
    simp only [List.getElem?_cons_zero, List.getElem?_cons_succ] at k0 k1 k2
    have kf0 := own8.frozenAt (n * 3)
    have kf1 := own8.frozenAt (n * 3 + 1)
    have kf2 := own8.frozenAt (n * 3 + 2)
    have hl8 := (own8.lt h rfl).2
    have g8 := cells_fr fg8 (w := w1.alloc (.cells #[.string ⟨#[]⟩, .bool false, .slice none 0 0] 24)) (b := g) (i := r) (v := .slice fa n fc) ((World.cell?_of_block (w := w1) (Below.heap_alloc w1 _ g gl1)).trans G1) (fun e => n1 e)
    have gf8 : w8.frozen? ⟨g, r, none⟩ = false := by
      rw [fg8.frozen (p := ⟨g, r, none⟩) (by rw [size_push]; exact Nat.lt_succ_of_lt gl1) (fun e => n1 e)]
      rw [World.frozen?_of_block (w := w1) (Below.heap_alloc w1 _ g gl1)]
      exact GF1.out
    have gl8 : g < w8.heap.size := Nat.lt_of_lt_of_le (by rw [size_push]; exact Nat.lt_succ_of_lt gl1) fg8.size
    have st8 := stored3 own8 hxl (.string s) (.bool l) (.slice vp vl vc)
    have DONE := Lib.hid (show LayPost B g r n fsv xs (.string s) (.bool l) (.slice vp vl vc) w (.returned (.tuple #[])) (((((w8.setCell ⟨h, n * 3, none⟩ (.string s)).setCell ⟨h, n * 3 + 1, none⟩ (.bool l)).setCell ⟨h, n * 3 + 2, none⟩ (.slice vp vl vc))).setCell ⟨g, r, none⟩ (.slice (some ⟨h, 0, none⟩) (n + 1) hc)) from by
      have fh : Fr (fun j => j = h) w8 (((w8.setCell ⟨h, n * 3, none⟩ (.string s)).setCell ⟨h, n * 3 + 1, none⟩ (.bool l)).setCell ⟨h, n * 3 + 2, none⟩ (.slice vp vl vc)) := ((fr_set _).trans (fr_set _)).trans (fr_set _)
      have hz := Z1.out
      refine ⟨rfl, _, _, rfl, st8, ?_, ?_⟩
      · have f1 : Fr (fun j => fsv.ownBlock = some j) w w8 := (FW.out.mono (fun _ _ e => e.elim)).trans (((Fr.refl (fun j => fsv.ownBlock = some j) w1).alloc _).trans fg8)
        refine f1.then_ fh ?_
        rintro j hj rfl
        rcases ob8 with e | e
        · exact e.symm
        · rw [size_push] at e
          injection e with e
          have e3 : j = w1.heap.size + 1 := e
          omega
      · rcases ob8 with e | e
        · exact .inl e
        · refine .inr fun j hj => ?_
          rw [e] at hj
          rw [size_push] at hj
          injection hj with hj
          omega)
    have hHeld9 : I3 (((w8.setCell ⟨h, n * 3, none⟩ (.string s)).setCell ⟨h, n * 3 + 1, none⟩ (.bool l)).setCell ⟨h, n * 3 + 2, none⟩ (.slice vp vl vc)) w.heap.size (.string s) (.bool l) (.slice vp vl vc) :=
      I8.fr (((fr_set (g := h) _).trans (fr_set _)).trans (fr_set _)) (fun e => n3.2 e.symm)
    have hHeld12 : I3 (w8.setCell ⟨g, r, none⟩ (.slice (some ⟨h, 0, none⟩) (n + 1) hc)) w.heap.size (.string s) (.bool l) (.slice vp vl vc) :=
      I8.fr (fr_set _) (fun e => NG.out e.symm)
    have hHeldZ : I3 ((((w8.setCell ⟨h, n * 3, none⟩ (.string s)).setCell ⟨h, n * 3 + 1, none⟩ (.bool l)).setCell ⟨h, n * 3 + 2, none⟩ (.slice vp vl vc)).setCell ⟨g, r, none⟩ (.slice (some ⟨h, 0, none⟩) (n + 1) hc)) w.heap.size (.string s) (.bool l) (.slice vp vl vc) :=
      hHeld9.fr (fr_set _) (fun e => NG.out e.symm)
    have nh := n3.1
    have nh' : g ≠ h := fun e => n3.1 e.symm
    clear own8 gr8 ob8 fg8 n1 n2 st8 hHeld HS2 hap hx1
    refine hK.out _ _ I8 (fun hHeld => ?_)
    clear hK K
    try simp only [Act.put, List.setIfInBounds_toArray]
    refine held_take 7 16 (v := .pointer (some ⟨h, n * 3, none⟩)) rfl rfl (by kernel_rfl) (by kernel_rfl) (by kernel_rfl) (fun _ _ _ h => h) (by rfl) ?hyc8 hHeld ?restc8
    case hyc8 => (intro w hSw; clear hSw; go_simp; intro hh; exfalso; omega; )
    try simp only [Act.put]
    refine held_take 9 17 (v := .pointer (some ⟨g, r, none⟩)) rfl rfl (by kernel_rfl) (by kernel_rfl) (by kernel_rfl) (fun _ _ _ h => h) (by rfl) ?hyc9 hHeld ?restc9
    case hyc9 => (intro w hSw; clear hSw; go_simp; try with_reducible rfl)
    try simp only [Act.put]
    refine wpAnyH_ready (rs := [8, 10]) (by kernel_rfl) (by simp) ?_
    refine AllReadyH.cons rfl (fun K hK => ?_) (AllReadyH.cons rfl (fun K hK => ?_) AllReadyH.nil)
    · go_simp
      refine hK.out _ _ hHeld9 (fun hHeld => ?_)
      clear hK K
      try simp only [Act.put, List.setIfInBounds_toArray, List.set_cons_zero, List.set_cons_succ]
      refine wpAnyH_ready (rs := [10]) (by kernel_rfl) (by simp) ?_
      refine AllReadyH.cons rfl (fun K hK => ?_) AllReadyH.nil
      go_simp
      refine hK.out _ _ hHeldZ (fun hHeld => ?_)
      clear hK K
      try simp only [Act.put, List.setIfInBounds_toArray, List.set_cons_zero, List.set_cons_succ]
      refine wpAnyH_done (by kernel_rfl) ?_ _
      try simp only [Act.put]
      go_end0
      exact DONE.out
    · go_simp
      refine hK.out _ _ hHeld12 (fun hHeld => ?_)
      clear hK K
      try simp only [Act.put, List.setIfInBounds_toArray, List.set_cons_zero, List.set_cons_succ]
      refine wpAnyH_ready (rs := [8]) (by kernel_rfl) (by simp) ?_
      refine AllReadyH.cons rfl (fun K hK => ?_) AllReadyH.nil
      go_simp
      rw [setCell_swap w8 (.slice (some ⟨h, 0, none⟩) (n + 1) hc) _ nh]
      rw [setCell_swap _ (.slice (some ⟨h, 0, none⟩) (n + 1) hc) _ nh]
      rw [setCell_swap _ (.slice (some ⟨h, 0, none⟩) (n + 1) hc) _ nh]
      refine hK.out _ _ hHeldZ (fun hHeld => ?_)
      clear hK K
      try simp only [Act.put, List.setIfInBounds_toArray, List.set_cons_zero, List.set_cons_succ]
      refine wpAnyH_done (by kernel_rfl) ?_ _
      try simp only [Act.put]
      go_end0
      exact DONE.out
end Go.Proofs.Ytegakecncpfnnaa
