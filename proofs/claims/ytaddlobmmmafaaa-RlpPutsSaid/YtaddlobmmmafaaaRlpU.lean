/-
  The contract of package rlp's Next over this seat's translation, of bytes that begin with an item's. Conditions: an item of at most 6,000 bytes and 1,200 items, bytes of at most 100,000.
-/
import Derived.Test.YtaddlobmmmafaaaRlpT
namespace Go.Proofs.Ytaddlobmmmafaaa
open Go.RowKit

/-- What Next answers and leaves. -/
def NPost (x : T) (OUT : T.Out) (w : World) (e : Ending) (w' : World) : Prop :=
  Below w.heap.size w w' ∧ (∀ k, OUT = .ok k → ∃ vX, e = .returned (.tuple #[.agg #[.string x.s, .bool x.l, vX], .int .i64 ((T.put x).length : Nat), .int .i64 0]) ∧ InP w' (fun j => w.heap.size ≤ j) x vX) ∧
    (∀ ev : Nat, OUT = .err ev → e = .returned (.tuple #[ZV, .int .i64 0, .int .i64 (ev : Int)]))

theorem out_start (dep : Int) (x : T) (left : Int) : T.out dep [] x left = T.rd dep x 1 left := by
  unfold T.out
  simp only [List.length_nil]
  show (T.rd dep x (0 + 1) left).then_ (T.outs dep []) = _
  rw [Int.zero_add]
  cases T.rd dep x 1 left <;> rfl

section
set_option maxRecDepth 20000 in
set_option maxHeartbeats 4000000 in
theorem nextOf_any (x : T) (more : List UInt8) (depth items : Int) (w : World) (hr : T.rgt x = true) (hz : T.siz x ≤ 6000) (hcn : T.cnt x ≤ 1200) (hm : more.length ≤ 1000) (hdb : -1000 ≤ depth ∧ depth ≤ 100000) (hib : -1000 ≤ items ∧ items ≤ 100000) :
    Calls Try.prog 16 #[.string (bs (T.put x ++ more)), .int .i64 depth, .int .i64 items] w fun e w' => NPost x (T.rd (min depth 16) x 1 (min items 1024)) w e w' := by
  obtain ⟨dm, hdm⟩ : ∃ dm, dm = min depth 16 := ⟨_, rfl⟩
  obtain ⟨im, him⟩ : ∃ im, im = min items 1024 := ⟨_, rfl⟩
  obtain ⟨OUT, hOUT⟩ : ∃ O, O = T.rd (min depth 16) x 1 (min items 1024) := ⟨_, rfl⟩
  obtain ⟨full, hfull⟩ : ∃ f, f = T.put x ++ more := ⟨_, rfl⟩
  rw [← hOUT]
  rw [← hdm, ← him, ← out_start] at hOUT
  rw [← hfull]
  have hfl : full.length ≤ 100000 := by have := T.put_le x (by omega); rw [hfull, List.length_append]; omega
  have hd16 : -1000 ≤ dm ∧ dm ≤ 16 := by omega
  have hi10 : im ≤ 1024 := by omega
  have S0 : St full more x dm OUT 0 [] x im := ⟨rfl, by rw [List.drop_zero, hfull]; rfl, trivial, hOUT.symm, Nat.zero_le _⟩
  have S0 := Lib.hid S0
  have HF := Lib.hid hfull
  have H16 := Lib.hid hd16
  have H10 := Lib.hid hi10
  have HFL := Lib.hid hfl
  have hdm' := hdm.symm
  have him' := him.symm
  clear hOUT hfull hd16 hi10 hfl hdm him
  go_enter Try.func16, Try.ntmps16
  go_wp2
  have bb := bel2 w (.cells #[.string ⟨#[]⟩, .bool false, .slice none 0 0] 24) (.cells #[.string (bs full), .int .i64 0, .int .i64 dm, .int .i64 im, .slice none 0 0] 47)
  have I0 := (I3.new w (.string ⟨#[]⟩) (.bool false) (.slice none 0 0)).alloc (.cells #[.string (bs full), .int .i64 0, .int .i64 dm, .int .i64 im, .slice none 0 0] 47)
  have Q0 : R5 ((w.alloc (.cells #[.string ⟨#[]⟩, .bool false, .slice none 0 0] 24)).alloc (.cells #[.string (bs full), .int .i64 0, .int .i64 dm, .int .i64 im, .slice none 0 0] 47)) (w.heap.size + 1) (bs full) 0 dm im (.slice none 0 0) := by
    have := heap_alloc_new (w.alloc (.cells #[.string ⟨#[]⟩, .bool false, .slice none 0 0] 24)) (.cells #[.string (bs full), .int .i64 0, .int .i64 dm, .int .i64 im, .slice none 0 0] 47)
    rw [size_push] at this
    exact this
  have N0 : Rs (w.heap.size + 2) (fun j => j < w.heap.size + 2) ((w.alloc (.cells #[.string ⟨#[]⟩, .bool false, .slice none 0 0] 24)).alloc (.cells #[.string (bs full), .int .i64 0, .int .i64 dm, .int .i64 im, .slice none 0 0] 47)) (w.heap.size + 1) (bs full) 0 dm im [] (.slice none 0 0) :=
    ⟨Q0, by omega, Stk.nil _ _ _, fun f hf => absurd hf List.not_mem_nil, List.Pairwise.nil, fun f hf => absurd hf List.not_mem_nil, fun j hj => by rcases hj with hj | ⟨f, hf, _⟩; cases hj; exact absurd hf List.not_mem_nil, by simp⟩
  obtain ⟨W0, hW0⟩ : ∃ W0, W0 = (w.alloc (.cells #[.string ⟨#[]⟩, .bool false, .slice none 0 0] 24)).alloc (.cells #[.string (bs full), .int .i64 0, .int .i64 dm, .int .i64 im, .slice none 0 0] 47) := ⟨_, rfl⟩
  rw [← hW0] at N0 I0 bb ⊢
  have HN0 := Lib.hid N0
  have HI0 := Lib.hid I0
  have HB0 := Lib.hid bb
  clear hW0 N0 I0 Q0 bb hdm' him'
  go_loopg [10, 11, 12, 13] (full.length + 1) (fun g _ _ _ _ wr => ∃ at_ F sv y left, Rs (w.heap.size + 2) (fun j => j < w.heap.size + 2) wr (w.heap.size + 1) (bs full) at_ dm left F sv ∧ I3 wr w.heap.size (.string ⟨#[]⟩) (.bool false) (.slice none 0 0) ∧ Below w.heap.size w wr ∧ St full more x dm OUT at_ F y left ∧ left ≤ 1024 ∧ full.length + 1 ≤ g + at_)
  case atStart => exact ⟨0, [], _, x, im, HN0.out, HI0.out, HB0.out, S0.out, H10.out, by omega⟩
  case round =>
    obtain ⟨at_, F, sv, y, left, hR, hI, hB, hS, hl4, hg⟩ := hrel
    have HR := Lib.hid hR
    have HI := Lib.hid hI
    have HB := Lib.hid hB
    have HS := Lib.hid hS
    have HG := Lib.hid (And.intro hl4 hg)
    have hle := hS.le
    obtain ⟨hq, he, hbl⟩ := hS.rest
    have hbz : (bs full).size = full.length := bs_size _
    have hFl : F.length ≤ 1200 := by
      have := cnt_plug_le (pf F) y
      rw [pf_length, hS.plug] at this
      omega
    have hne : T.put y ++ behind F more ≠ [] := fun e => by
      have := T.put_pos y
      rw [List.append_eq_nil_iff] at e
      rw [e.1] at this
      exact absurd this (by decide)
    by_cases hearly : dm ≤ (F.length : Int) ∨ left ≤ 0
    · obtain ⟨ev, hOe, hNE⟩ : ∃ ev : Nat, OUT = .err ev ∧ 0 < ev ∧ ∀ w', Rs (w.heap.size + 2) (fun j => j < w.heap.size + 2) w' (w.heap.size + 1) (bs full) at_ dm left F sv →
          Calls Try.prog 25 #[.pointer (some ⟨w.heap.size + 1, 0, none⟩)] w' fun e w'' => NextPost (w.heap.size + 2) (fun j => j < w.heap.size + 2) (w.heap.size + 1) (bs full) at_ dm left F sv (.tuple #[ZH, .int .i64 (ev : Int)]) w' e w'' := by
        by_cases hdd : dm ≤ (F.length : Int)
        · refine ⟨6, ?_, by omega, fun w' h' => next_early h' (by rw [hbz]; have := HFL.out; omega) (by omega) (by omega) he _ hq (by have := H16.out; omega) hl4 6 (.inr (.inl ⟨hne, hdd, rfl⟩))⟩
          rw [← hS.out, T.out_deep (by rw [pf_length]; exact hdd)]
        · refine ⟨4, ?_, by omega, fun w' h' => next_early h' (by rw [hbz]; have := HFL.out; omega) (by omega) (by omega) he _ hq (by have := H16.out; omega) hl4 4 (.inr (.inr ⟨hne, by omega, by omega, rfl⟩))⟩
          rw [← hS.out, T.out_many (by rw [pf_length]; omega) (by omega)]
      have HE := Lib.hid hOe
      have HNE := Lib.hid hNE.2
      have tev : ((ev : Int) != 0) = true := by simp; omega
      clear hR hI hB hS hq he hbl hne hearly hOe hNE hg
      go_wp2_with fail
      refine (HNE.out _ HR.out).mono ?_
      rintro e w1 ⟨rfl, r1, f1⟩
      have I1 := (HI.out.fr f1 (by omega)).alloc (.cells #[.bool false, .int .i64 0, .int .i64 0] 49)
      have B1 := (HB.out.trans (f1.below HB.out.size (fun j hj => by omega))).alloc (by have := HB.out.size; have := f1.size; omega) (.cells #[.bool false, .int .i64 0, .int .i64 0] 49)
      obtain ⟨w2, hw2⟩ : ∃ w2, w2 = w1.alloc (.cells #[.bool false, .int .i64 0, .int .i64 0] 49) := ⟨_, rfl⟩
      rw [← hw2] at I1 B1
      have q0 := I1.c0
      have q1 := I1.c1
      have q2 := I1.c2
      have g0 := I1.free 0
      have g1 := I1.free 1
      have g2 := I1.free 2
      have ql := I1.lt
      have Q := Lib.hid (And.intro (I1.put (.string ⟨#[]⟩) (.bool false) (.slice none 0 0)) (show NPost x OUT w (.returned (.tuple #[ZV, .int .i64 0, .int .i64 (ev : Int)])) (((w2.setCell ⟨w.heap.size, 0, none⟩ (.string ⟨#[]⟩)).setCell ⟨w.heap.size, 1, none⟩ (.bool false)).setCell ⟨w.heap.size, 2, none⟩ (.slice none 0 0)) from
        ⟨bel_put B1 (Nat.le_refl _) _ _ _, fun k hk => (by rw [HE.out] at hk; cases hk), fun ev' h' => by rw [HE.out] at h'; injection h' with h'; subst h'; rfl⟩))
      unfold ZH
      clear I1 B1 r1 f1
      go_upto_region 3 with fail
      rw [← hw2]
      clear hw2
      go_wp2_with fail
      have z0 := Q.out.1.c0
      have z1 := Q.out.1.c1
      have z2 := Q.out.1.c2
      refine bodyPost_ret (v := .tuple #[ZV, .int .i64 0, .int .i64 (ev : Int)]) (by simp [results, Try.results16, go_sem, z0, z1, z2, ZV]) rfl ?_
      exact Q.out.2
    · have hd2 : (F.length : Int) < dm := Int.not_le.1 fun e => hearly (.inl e)
      have hl2 : 0 < left := Int.not_le.1 fun e => hearly (.inr e)
      obtain ⟨l, z, n, hnx, hps⟩ := step_any (B := w.heap.size + 2) (b := w.heap.size + 1) (X := fun j => j < w.heap.size + 2) (s := bs full) (sv := sv) hS HF.out rfl ⟨hd2, H16.out.2⟩ ⟨hl2, hl4⟩ hr hz hcn HFL.out (fun j hj e => by omega)
      have HNX := Lib.hid hnx
      have HPS := Lib.hid hps
      clear hR hI hB hS hq he hbl hne hearly hnx hps hg hd2 hl2 hle hbz hFl
      go_wp2_with fail
      refine (HNX.out _ HR.out).mono ?_
      rintro e w1 ⟨rfl, r1, f1⟩
      have hwb := HB.out.size
      have R2 := r1.bel (bel1 w1 (.cells #[.bool l, .int .i64 z, .int .i64 n] 49))
      have I2 := (HI.out.fr f1 (by omega)).alloc (.cells #[.bool l, .int .i64 z, .int .i64 n] 49)
      have B2 := (HB.out.trans (f1.below HB.out.size (fun j hj => by omega))).alloc (by have := f1.size; omega) (.cells #[.bool l, .int .i64 z, .int .i64 n] 49)
      have K2 := H3.new w1 (.bool l) (.int .i64 z) (.int .i64 n)
      obtain ⟨w2, hw2⟩ : ∃ w2, w2 = w1.alloc (.cells #[.bool l, .int .i64 z, .int .i64 n] 49) := ⟨_, rfl⟩
      rw [← hw2] at R2 I2 B2 K2
      have k0 := K2.c0
      have k1 := K2.c1
      have k2 := K2.c2
      have kl := K2.lt
      clear K2
      have R2 := Lib.hid R2
      have I2 := Lib.hid I2
      have B2 := Lib.hid B2
      clear r1 f1
      go_upto_region 3 with fail
      rw [← hw2]
      clear hw2
      go_wp2_with fail
      refine (HPS.out _ R2.out).mono ?_
      rintro e w3 ⟨f3, h3⟩
      have now : ∀ j, (j = w.heap.size + 1 ∨ Ow sv F j) → w.heap.size + 1 ≤ j := by
        rintro j (e | e)
        · omega
        · have := R2.out.ow j e; omega
      have I3' := I2.out.fr f3 (fun e => by have := now _ e; omega)
      have B3 := B2.out.trans (f3.below B2.out.size (fun j hj => by have := now j hj; omega))
      have hw3 := B3.size
      clear k0 k1 k2 kl
      rcases h3 with ⟨F', sv', y', at', rfl, r3, s3, hlt⟩ | ⟨vX, rfl, hin, ⟨sv', r3⟩, ⟨kk, hk⟩⟩
      · have CN := Lib.hid (show Rs (w.heap.size + 2) (fun j => j < w.heap.size + 2) (w3.alloc (.cells #[.string ⟨#[]⟩, .bool false, .slice none 0 0] 24)) (w.heap.size + 1) (bs full) at' dm (left - 1) F' sv' ∧ I3 (w3.alloc (.cells #[.string ⟨#[]⟩, .bool false, .slice none 0 0] 24)) w.heap.size (.string ⟨#[]⟩) (.bool false) (.slice none 0 0) ∧ Below w.heap.size w (w3.alloc (.cells #[.string ⟨#[]⟩, .bool false, .slice none 0 0] 24)) ∧ St full more x dm OUT at' F' y' (left - 1) ∧ left - 1 ≤ 1024 ∧ full.length + 1 ≤ (gk - 1) + at' from
          ⟨r3.bel (bel1 _ _), I3'.alloc _, B3.alloc hw3 _, s3, by have := HG.out; omega, by have := HG.out; omega⟩)
        have HGG := Lib.hid (show 1 ≤ gk from by have := HG.out; have := HS.out.le; omega)
        unfold ZV
        clear f3 now I3' B3 r3 s3 hlt
        go_wp2_with fail
        go_roundg (gk - 1)
        case measure => have := HGG.out; omega
        case rel => exact ⟨_, _, _, _, _, CN.out⟩
      · obtain ⟨xa, xc, rfl⟩ := hin.slice
        have I4 := I3'.alloc (.cells #[.string x.s, .bool x.l, .slice xa x.ts.length xc] 24)
        have J4 := I3.new w3 (.string x.s) (.bool x.l) (.slice xa x.ts.length xc)
        have R4 := r3.keep (Below.heap_alloc w3 (.cells #[.string x.s, .bool x.l, .slice xa x.ts.length xc] 24) _ r3.lt)
        have B4 := B3.alloc hw3 (.cells #[.string x.s, .bool x.l, .slice xa x.ts.length xc] 24)
        have N4 := InP.keep (w' := w3.alloc (.cells #[.string x.s, .bool x.l, .slice xa x.ts.length xc] 24)) (N' := fun j => ¬ j < w.heap.size + 2) (by simp) (fun j hj hl => ⟨hj, Below.heap_alloc w3 _ j hl⟩) x _ hin
        obtain ⟨w4, hw4⟩ : ∃ w4, w4 = w3.alloc (.cells #[.string x.s, .bool x.l, .slice xa x.ts.length xc] 24) := ⟨_, rfl⟩
        rw [← hw4] at I4 J4 R4 B4 N4
        have q0 := I4.c0
        have q1 := I4.c1
        have q2 := I4.c2
        have g0 := I4.free 0
        have g1 := I4.free 1
        have g2 := I4.free 2
        have ql := I4.lt
        have j0 := J4.c0
        have j1 := J4.c1
        have j2 := J4.c2
        have jl := J4.lt
        have c1 := R4.c1
        have lb := R4.lt
        have f5 : Fr (fun j => j = w.heap.size) w4 (((w4.setCell ⟨w.heap.size, 0, none⟩ (.string x.s)).setCell ⟨w.heap.size, 1, none⟩ (.bool x.l)).setCell ⟨w.heap.size, 2, none⟩ (.slice xa x.ts.length xc)) := fr_put _ _ _
        have Q := Lib.hid (And.intro ((I4.put (.string x.s) (.bool x.l) (.slice xa x.ts.length xc)).bel (show Below _ _ (((w4.setCell ⟨w.heap.size, 0, none⟩ (.string x.s)).setCell ⟨w.heap.size, 1, none⟩ (.bool x.l)).setCell ⟨w.heap.size, 2, none⟩ (.slice xa x.ts.length xc)).drew from (Below.refl _ _).drew)) (show NPost x OUT w (.returned (.tuple #[.agg #[.string x.s, .bool x.l, .slice xa x.ts.length xc], .int .i64 ((T.put x).length : Nat), .int .i64 0])) (((w4.setCell ⟨w.heap.size, 0, none⟩ (.string x.s)).setCell ⟨w.heap.size, 1, none⟩ (.bool x.l)).setCell ⟨w.heap.size, 2, none⟩ (.slice xa x.ts.length xc)).drew from
          ⟨(bel_put B4 (Nat.le_refl _) _ _ _).drew, fun k _ => ⟨_, rfl, InP.keep f5.drew.size (fun j hj hl => ⟨by have : ¬ j < w.heap.size + 2 := hj; omega, f5.drew.block j hl (by have : ¬ j < w.heap.size + 2 := hj; omega)⟩) x _ N4⟩, fun ev' h' => (by rw [hk] at h'; cases h')⟩))
        clear f3 now I3' B3 r3 hin I4 J4 R4 B4 N4 f5 hk
        go_upto_region 6 with fail
        rw [← hw4]
        clear hw4
        go_upto_region 7 with fail
        go_region
        go_wp2_with fail
        have z0 := Q.out.1.c0
        have z1 := Q.out.1.c1
        have z2 := Q.out.1.c2

        refine bodyPost_ret (v := .tuple #[.agg #[.string x.s, .bool x.l, .slice xa x.ts.length xc], .int .i64 ((T.put x).length : Nat), .int .i64 0]) (by simp [results, Try.results16, go_sem, z0, z1, z2]) rfl ?_
        exact Q.out.2
end
end Go.Proofs.Ytaddlobmmmafaaa
