/-
  The contracts of package rlp's Next of bytes that are cut or not of the form, and of Get, over this seat's translation. Conditions: an item of at most 6,000 bytes and 1,200 items, bytes of at most 100,000.
-/
import Derived.Test.YtaddlobmmmafaaaRlpU
namespace Go.Proofs.Ytaddlobmmmafaaa
open Go.RowKit

set_option maxRecDepth 20000 in
set_option maxHeartbeats 4000000 in
/-- The first item's head is an error. -/
theorem nextErr_any (s : ByteArray) (depth items : Int) (ev : Nat) (hev : 0 < ev) (w : World)
    (hN : ∀ (B b : Nat) (X : Nat → Prop) (w' : World), Rs B X w' b s 0 (min depth 16) (min items 1024) [] (.slice none 0 0) → ∃ left', Calls Try.prog 25 #[.pointer (some ⟨b, 0, none⟩)] w' fun e w'' => NextPost B X b s 0 (min depth 16) left' [] (.slice none 0 0) (.tuple #[ZH, .int .i64 (ev : Int)]) w' e w'') :
    Calls Try.prog 16 #[.string s, .int .i64 depth, .int .i64 items] w fun e w' => e = .returned (.tuple #[ZV, .int .i64 0, .int .i64 (ev : Int)]) ∧ Below w.heap.size w w' := by
  obtain ⟨dm, hdm⟩ : ∃ dm, dm = min depth 16 := ⟨_, rfl⟩
  obtain ⟨im, him⟩ : ∃ im, im = min items 1024 := ⟨_, rfl⟩
  rw [← hdm, ← him] at hN
  have HN := Lib.hid hN
  have hdm' := hdm.symm
  have him' := him.symm
  have tev : ((ev : Int) != 0) = true := by simp; omega
  clear hN hdm him hev
  go_enter Try.func16, Try.ntmps16
  go_wp2
  have bb := bel2 w (.cells #[.string ⟨#[]⟩, .bool false, .slice none 0 0] 24) (.cells #[.string s, .int .i64 0, .int .i64 dm, .int .i64 im, .slice none 0 0] 47)
  have I0 := (I3.new w (.string ⟨#[]⟩) (.bool false) (.slice none 0 0)).alloc (.cells #[.string s, .int .i64 0, .int .i64 dm, .int .i64 im, .slice none 0 0] 47)
  have Q0 : R5 ((w.alloc (.cells #[.string ⟨#[]⟩, .bool false, .slice none 0 0] 24)).alloc (.cells #[.string s, .int .i64 0, .int .i64 dm, .int .i64 im, .slice none 0 0] 47)) (w.heap.size + 1) s 0 dm im (.slice none 0 0) := by
    have := heap_alloc_new (w.alloc (.cells #[.string ⟨#[]⟩, .bool false, .slice none 0 0] 24)) (.cells #[.string s, .int .i64 0, .int .i64 dm, .int .i64 im, .slice none 0 0] 47)
    rw [size_push] at this
    exact this
  have N0 : Rs (w.heap.size + 2) (fun j => j < w.heap.size + 2) ((w.alloc (.cells #[.string ⟨#[]⟩, .bool false, .slice none 0 0] 24)).alloc (.cells #[.string s, .int .i64 0, .int .i64 dm, .int .i64 im, .slice none 0 0] 47)) (w.heap.size + 1) s 0 dm im [] (.slice none 0 0) :=
    ⟨Q0, by omega, Stk.nil _ _ _, fun f hf => absurd hf List.not_mem_nil, List.Pairwise.nil, fun f hf => absurd hf List.not_mem_nil, fun j hj => by rcases hj with hj | ⟨f, hf, _⟩; cases hj; exact absurd hf List.not_mem_nil, by simp⟩
  obtain ⟨W0, hW0⟩ : ∃ W0, W0 = (w.alloc (.cells #[.string ⟨#[]⟩, .bool false, .slice none 0 0] 24)).alloc (.cells #[.string s, .int .i64 0, .int .i64 dm, .int .i64 im, .slice none 0 0] 47) := ⟨_, rfl⟩
  rw [← hW0] at N0 I0 bb ⊢
  have HN0 := Lib.hid N0
  have HI0 := Lib.hid I0
  have HB0 := Lib.hid bb
  clear hW0 N0 I0 Q0 bb hdm' him'
  go_loopg [10, 11, 12, 13] 1 (fun _ _ _ _ _ wr => Rs (w.heap.size + 2) (fun j => j < w.heap.size + 2) wr (w.heap.size + 1) s 0 dm im [] (.slice none 0 0) ∧ I3 wr w.heap.size (.string ⟨#[]⟩) (.bool false) (.slice none 0 0) ∧ Below w.heap.size w wr)
  case atStart => exact ⟨HN0.out, HI0.out, HB0.out⟩
  case round =>
    obtain ⟨hR, hI, hB⟩ := hrel
    have HR := Lib.hid hR
    have HI := Lib.hid hI
    have HB := Lib.hid hB
    obtain ⟨left', hnx⟩ := HN.out _ _ _ _ hR
    have HNX := Lib.hid hnx
    clear hR hI hB hnx
    go_wp2_with fail
    refine (HNX.out).mono ?_
    rintro e w1 ⟨rfl, r1, f1⟩
    have I1 := (HI.out.fr f1 (by omega)).alloc (.cells #[.bool false, .int .i64 0, .int .i64 0] 49)
    have B1 := (HB.out.trans (f1.below HB.out.size (fun j hj => by omega))).alloc (by have := HB.out.size; have := f1.size; omega) (.cells #[.bool false, .int .i64 0, .int .i64 0] 49)
    obtain ⟨w2, hw2⟩ : ∃ w2, w2 = w1.alloc (.cells #[.bool false, .int .i64 0, .int .i64 0] 49) := ⟨_, rfl⟩
    rw [← hw2] at I1 B1
    have q0 := I1.c0
    have q1 := I1.c1
    have q2 := I1.c2
    have g0 := I1.free 0
    have g1 := I1.free 1
    have g2 := I1.free 2
    have ql := I1.lt
    have Q := Lib.hid (And.intro (I1.put (.string ⟨#[]⟩) (.bool false) (.slice none 0 0)) (show Below w.heap.size w (((w2.setCell ⟨w.heap.size, 0, none⟩ (.string ⟨#[]⟩)).setCell ⟨w.heap.size, 1, none⟩ (.bool false)).setCell ⟨w.heap.size, 2, none⟩ (.slice none 0 0)) from bel_put B1 (Nat.le_refl _) _ _ _))
    unfold ZH
    clear I1 B1 r1 f1
    go_upto_region 3 with fail
    rw [← hw2]
    clear hw2
    go_wp2_with fail
    have z0 := Q.out.1.c0
    have z1 := Q.out.1.c1
    have z2 := Q.out.1.c2
    refine bodyPost_ret (v := .tuple #[ZV, .int .i64 0, .int .i64 (ev : Int)]) (by simp [results, Try.results16, go_sem, z0, z1, z2, ZV]) rfl ?_
    exact ⟨rfl, Q.out.2⟩

theorem restOf_nil (l : List UInt8) : restOf (bs l) 0 [] = bs l := by
  show (bs l).extract 0 (bs l).size = _
  rw [bs_tail, List.drop_zero]

/-- An item's bytes, cut. -/
theorem nextCut_any (x : T) (c : Nat) (w : World) (hz : T.siz x ≤ 6000) (hcn : T.cnt x ≤ 1200) (hc : c < (T.put x).length) :
    Calls Try.prog 16 #[.string (bs ((T.put x).take c)), .int .i64 16, .int .i64 1024] w fun e w' => e = .returned (.tuple #[ZV, .int .i64 0, .int .i64 2]) ∧ Below w.heap.size w w' := by
  have hpl := T.put_le x (by omega)
  have hq : restOf (bs ((T.put x).take c)) 0 [] = bs ((T.put x).take c) := restOf_nil _
  have hsz : (bs ((T.put x).take c)).size = c := by rw [bs_size, List.length_take]; omega
  refine nextErr_any _ 16 1024 2 (by decide) w fun B b X w' hR => ?_
  by_cases h0 : c = 0
  · subst h0
    exact ⟨_, next_early hR (by rw [hsz]; omega) (by omega) (by simp) (fun f r e => by cases e) [] (by rw [hq]; rfl) (by decide) (by decide) 2 (.inl ⟨rfl, rfl⟩)⟩
  · have hne : (T.put x).take c ≠ [] := fun e => by
      have := congrArg List.length e
      rw [List.length_take] at this
      simp only [List.length_nil] at this
      omega
    have key : ∀ (l : Bool) (body : List UInt8), T.put x = hd (hb l) body.length ++ body → body.length ≤ 60000 → ∀ W, Calls Try.prog 35 #[.string (bs ((T.put x).take c))] W fun e w' => e = .returned (.tuple #[ZH, .int .i64 2]) ∧ Below W.heap.size W w' := by
      intro l body hp hbl W
      rw [hp, List.length_append] at hc
      rw [hp]
      by_cases hcz : c < (hd (hb l) body.length).length
      · rw [List.take_append_of_le_length (by omega)]
        exact headed_cut l body.length hbl c (by omega) hcz W
      · obtain ⟨d, rfl⟩ : ∃ d, c = (hd (hb l) body.length).length + d := ⟨c - (hd (hb l) body.length).length, by omega⟩
        rw [List.take_length_add_append]
        have h1 := headed_full l body.length hbl (body.take d) (by rw [List.length_take]; omega) W
        rw [hdOut_no (by rw [List.length_take]; omega)] at h1
        exact h1
    refine ⟨_, next_short hR (by rw [hsz]; omega) (by omega) (by simp) (fun f r e => by cases e) _ hq hne (by rw [List.length_take]; omega) (by decide) (by decide) rfl ?_⟩
    obtain ⟨sB, l, ts⟩ := x
    cases l
    · have hput := T.put_text sB ts
      by_cases hbr : bare sB.data.toList = true
      · have : T.put (T.mk sB false ts) = sB.data.toList := by rw [hput]; unfold ptx; rw [hbr]; rfl
        rw [this, bare_len hbr] at hc
        omega
      · have hb' : bare sB.data.toList = false := by simpa using hbr
        have h1 : T.put (T.mk sB false ts) = hd 128 sB.data.toList.length ++ sB.data.toList := by rw [hput]; unfold ptx; rw [hb']; rfl
        exact key false _ h1 (by have := T.s_le_siz (T.mk sB false ts); rw [T.sz]; simp only [T.s] at this; omega)
    · exact key true _ (T.put_list sB ts) (by rw [T.put_list, List.length_append] at hpl; omega)

/-- One byte below 128 with a head. -/
theorem nextForm_any (w : World) : Calls Try.prog 16 #[.string ⟨#[129, 5]⟩, .int .i64 9, .int .i64 9] w fun e w' => e = .returned (.tuple #[ZV, .int .i64 0, .int .i64 3]) ∧ Below w.heap.size w w' := by
  have e0 : (⟨#[129, 5]⟩ : ByteArray) = bs [129, 5] := rfl
  have eh : ([129, 5] : List UInt8) = hd (hb false) 1 ++ [5] := by decide
  have hq : restOf (bs [129, 5]) 0 [] = bs [129, 5] := restOf_nil _
  have hsz : (bs [129, 5]).size = 2 := rfl
  rw [e0]
  refine nextErr_any _ 9 9 3 (by decide) w fun B b X w' hR => ?_
  have hH : ∀ W, Calls Try.prog 35 #[.string (bs [129, 5])] W fun e w' => e = .returned (.tuple #[.agg #[.bool false, .int .i64 ((1 : Nat) : Int), .int .i64 ((1 : Nat) : Int)], .int .i64 0]) ∧ Below W.heap.size W w' := fun W => by
    have h1 := headed_full false 1 (by decide) [5] (by decide) W
    rw [hdOut_ok (by decide)] at h1
    rw [eh]
    exact h1
  have h2 := next_text hR (by rw [hsz]; omega) (by omega) (by simp) (fun f r e => by cases e) [129, 5] hq (by simp) (by decide) (by decide) (by decide) 1 1 [5] (by decide) (by decide) (by rw [bs_extract]; rfl) hH
  exact ⟨_, h2⟩
end Go.Proofs.Ytaddlobmmmafaaa
