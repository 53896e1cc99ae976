/-
  The contract of the document's Read over this seat's translation. Conditions: a line of at most 4,000 bytes.
-/
import Derived.Test.YtdkeickcbpjedaaDoorItmZl
import Derived.Test.YtdkeickcbpjedaaDoorItmRd
namespace Go.Proofs.YtdkeickcbpjedaaDoor
open Go.RowKit

theorem parse_any : ∀ d, d ≤ 17 → RefC d := by
  intro d
  induction d with
  | zero => exact fun _ l a w D hD hl ha => parse_end 0 l a w D hD hl ha (.inr rfl)
  | succ d ih =>
    intro hd l a w D hD hl ha
    by_cases h : a = l.length
    · exact parse_end _ l a w D hD hl ha (.inl h)
    · have hlt : a < l.length := by omega
      by_cases h45 : l[a] = 45
      · exact parse_dash _ l a w D hD hl hlt (by omega) h45
      · by_cases h40 : l[a] = 40
        · exact parse_list _ (by rw [Nat.add_sub_cancel]; exact ih (by omega)) l a w D hD hl hlt (by omega) hd h40
        · exact parse_text _ l a w D hD hl hlt (by omega) h45 h40

namespace T
mutual
theorem cnt_shw : ∀ t : T, rgt t = true → cnt t ≤ (shw t).length
  | mk s false ts, h => by
    obtain rfl := text_rgt h
    rw [shw_text]
    split
    · simp [cnt, cnts]
    · rename_i hz
      have : s.data.size = s.size := rfl
      rw [hexs_length, Array.length_toList]
      simp only [cnt, cnts]
      omega
  | mk s true ts, h => by
    have := cnts_shs ts (list_rgt h).2
    rw [shw_list]
    simp [cnt]
    omega
theorem cnts_shs : ∀ ts : List T, rgts ts = true → cnts ts ≤ (shs ts).length
  | [], _ => by simp [cnts]
  | t :: r, h => by
    simp only [rgts, Bool.and_eq_true] at h
    have h1 := cnt_shw t h.1
    have h2 := cnts_shs r h.2
    simp only [cnts, shs, List.length_cons, List.length_append]
    omega
end
end T

set_option maxRecDepth 20000 in
set_option maxHeartbeats 4000000 in
theorem refRead_any (l : List UInt8) (w : World) (hl : l.length ≤ 4000) :
    Calls Tryd.prog 12 #[.string (sb l)] w fun e w' => ReadPost l w e w' := by
  have HL := Lib.hid hl
  have R0 := Lib.hid (I3.new w (.string ⟨#[]⟩) (.bool false) (.slice none 0 0))
  have zl : (sb l).size = l.length := sb_size l
  go_enter Tryd.func12, Tryd.ntmps12
  go_wp2_with fail
  refine (parse_any 16 (by omega) l 0 _ 1 (by omega) (by have := HL.out; omega) (Nat.zero_le _)).mono ?_
  rintro e w2 ⟨b2, h2⟩
  have R2 := R0.out.bel b2
  have B2 := (bel1 w (.cells #[.string ⟨#[]⟩, .bool false, .slice none 0 0] 24)).trans (b2.mono (by simp))
  rcases h2 with ⟨x, v, nx, rfl, hs, hlt, hle, hv, hun⟩ | ⟨rfl, hno⟩
  case inr =>
    have BX := B2.trans ((bel1 w2 (.cells #[.string ⟨#[]⟩, .bool false, .slice none 0 0] 24)).mono B2.size)
    have RX := R2.alloc (.cells #[.string ⟨#[]⟩, .bool false, .slice none 0 0] 24)
    obtain ⟨w3, hw3⟩ : ∃ w3, w3 = w2.alloc (.cells #[.string ⟨#[]⟩, .bool false, .slice none 0 0] 24) := ⟨_, rfl⟩
    rw [← hw3] at BX RX
    have x0 := RX.c0
    have x1 := RX.c1
    have x2 := RX.c2
    have lx := RX.lt
    have p0 := RX.free 0
    have p1 := RX.free 1
    have p2 := RX.free 2
    have Q := Lib.hid (show ReadPost l w (.returned (.tuple #[ZV, .int .i64 3])) _ from ⟨bel_put (g := w.heap.size) BX (Nat.le_refl _) (.string ⟨#[]⟩) (.bool false) (.slice none 0 0), .inr ⟨rfl, fun x' hm he => hno 1024 x' [] (may_val hm he)⟩⟩)
    have Z := Lib.hid (RX.put (.string ⟨#[]⟩) (.bool false) (.slice none 0 0))
    have t1 : ((-1 : Int) != (l.length : Int)) = true := by rw [bne_iff_ne]; omega
    clear BX RX R2 B2 hno b2
    unfold ZV
    go_upto_region 3 with fail
    rw [← hw3]
    clear hw3
    go_wp2_with fail
    have z0 := Z.out.c0
    have z1 := Z.out.c1
    have z2 := Z.out.c2
    refine bodyPost_ret (v := .tuple #[ZV, .int .i64 3]) (by simp [results, Tryd.results12, go_sem, z0, z1, z2, ZV]) rfl ?_
    exact Q.out
  case inl =>
    obtain ⟨vp, vq, rfl⟩ := hv.slice
    rw [List.drop_zero] at hs hun
    have BX := B2.trans ((bel1 w2 (.cells #[.string (T.s x), .bool (T.l x), .slice vp x.ts.length vq] 24)).mono B2.size)
    have RX := R2.alloc (.cells #[.string (T.s x), .bool (T.l x), .slice vp x.ts.length vq] 24)
    have XX := I3.new w2 (.string (T.s x)) (.bool (T.l x)) (.slice vp x.ts.length vq)
    have VX := InP.fr (N' := fun j => w.heap.size < j) hv ((Fr.refl (fun _ => False) w2).alloc (.cells #[.string (T.s x), .bool (T.l x), .slice vp x.ts.length vq] 24)) (fun g hg _ => ⟨by simp at hg; omega, id⟩)
    have hlt2 := R2.lt
    obtain ⟨w3, hw3⟩ : ∃ w3, w3 = w2.alloc (.cells #[.string (T.s x), .bool (T.l x), .slice vp x.ts.length vq] 24) := ⟨_, rfl⟩
    rw [← hw3] at BX RX XX VX
    by_cases hr : nx = l.length
    · have t1 : ((nx : Int) != (l.length : Int)) = false := by rw [bne_eq_false_iff_eq]; omega
      have hr0 : l.drop nx = [] := by rw [hr, List.drop_length]
      rw [hr0] at hs hun
      have hsh : T.shw x = l := by have := hs.1; rwa [List.append_nil] at this
      have hcn : T.cnt x ≤ 1000000 := by have := T.cnt_shw x hs.2.1; rw [hsh] at this; omega
      have MC := Lib.hid (fun W h => refMay_any x (.slice vp x.ts.length vq) W h hcn)
      have IV := Lib.hid (InP.in x _ VX)
      have x0 := XX.c0
      have x1 := XX.c1
      have x2 := XX.c2
      have lx := XX.lt
      have HX := Lib.hid (And.intro BX (And.intro RX (And.intro XX VX)))
      have HS := Lib.hid (And.intro hsh hun)
      have HW := Lib.hid hlt2
      obtain ⟨g, hg⟩ : ∃ g, g = w2.heap.size := ⟨_, rfl⟩
      rw [← hg] at x0 x1 x2 lx HX HW
      clear BX RX XX VX hs hun hsh hcn b2 hv R2 B2 hr0 hlt2
      go_upto_region 2 with fail
      rw [← hw3, ← hg]
      clear hw3 hg
      go_wp2_with fail
      refine (MC.out _ IV.out).mono ?_
      rintro e w4 ⟨rfl, b4⟩
      have B4 := below_then HX.out.1 b4
      have R4 := HX.out.2.1.bel b4
      have X4 := HX.out.2.2.1.bel b4
      have V4 := InP.keep (N' := fun j => w.heap.size < j) b4.size (fun g hg hl => ⟨hg, b4.block g hl⟩) x _ HX.out.2.2.2
      clear x0 x1 x2 lx b4
      have r0 := R4.c0
      have r1 := R4.c1
      have r2 := R4.c2
      have lr := R4.lt
      have p0 := R4.free 0
      have p1 := R4.free 1
      have p2 := R4.free 2
      have x0 := X4.c0
      have x1 := X4.c1
      have x2 := X4.c2
      have lx := X4.lt
      by_cases hm : T.may x = true
      · have Q := Lib.hid (show ReadPost l w (.returned (.tuple #[.agg #[.string (T.s x), .bool (T.l x), .slice vp x.ts.length vq], .int .i64 0])) _ from
          ⟨bel_put (g := w.heap.size) B4 (Nat.le_refl _) (.string (T.s x)) (.bool (T.l x)) (.slice vp x.ts.length vq), .inl ⟨x, _, rfl, hm, HS.out.1, InP.in x _ (InP.fr (N' := fun _ => True) V4 (fr_put (g := w.heap.size) _ _ _) (fun g hg _ => ⟨trivial, by omega⟩)),
            fun x' hm' he => (HS.out.2 1024 x' [] (may_val hm' he)).1⟩⟩)
        have Z := Lib.hid (R4.put (.string (T.s x)) (.bool (T.l x)) (.slice vp x.ts.length vq))
        rw [hm]
        clear R4 X4 V4 B4 MC IV hm
        go_wp2_with fail
        have z0 := Z.out.c0
        have z1 := Z.out.c1
        have z2 := Z.out.c2
        refine bodyPost_ret (v := .tuple #[.agg #[.string (T.s x), .bool (T.l x), .slice vp x.ts.length vq], .int .i64 0]) (by simp [results, Tryd.results12, go_sem, z0, z1, z2]) rfl ?_
        exact Q.out
      · have hm' : T.may x = false := by simpa using hm
        have Q := Lib.hid (show ReadPost l w (.returned (.tuple #[ZV, .int .i64 3])) _ from ⟨bel_put (g := w.heap.size) B4 (Nat.le_refl _) (.string ⟨#[]⟩) (.bool false) (.slice none 0 0), .inr ⟨rfl, fun x' h1 he => by
          rw [(HS.out.2 1024 x' [] (may_val h1 he)).1, hm'] at h1; cases h1⟩⟩)
        have Z := Lib.hid (R4.put (.string ⟨#[]⟩) (.bool false) (.slice none 0 0))
        rw [hm']
        clear R4 X4 V4 B4 MC IV hm hm'
        go_wp2_with fail
        have z0 := Z.out.c0
        have z1 := Z.out.c1
        have z2 := Z.out.c2
        refine bodyPost_ret (v := .tuple #[ZV, .int .i64 3]) (by simp [results, Tryd.results12, go_sem, z0, z1, z2, ZV]) rfl ?_
        exact Q.out
    · have t1 : ((nx : Int) != (l.length : Int)) = true := by rw [bne_iff_ne]; omega
      have x0 := RX.c0
      have x1 := RX.c1
      have x2 := RX.c2
      have lx := RX.lt
      have p0 := RX.free 0
      have p1 := RX.free 1
      have p2 := RX.free 2
      have Q := Lib.hid (show ReadPost l w (.returned (.tuple #[ZV, .int .i64 3])) _ from ⟨bel_put (g := w.heap.size) BX (Nat.le_refl _) (.string ⟨#[]⟩) (.bool false) (.slice none 0 0), .inr ⟨rfl, fun x' hm he => by
        have h1 := (hun 1024 x' [] (may_val hm he)).2
        have h2 := congrArg List.length h1
        rw [List.length_drop, List.length_nil] at h2
        omega⟩⟩)
      have Z := Lib.hid (RX.put (.string ⟨#[]⟩) (.bool false) (.slice none 0 0))
      clear BX RX R2 B2 hun hs b2 hv XX VX
      go_upto_region 3 with fail
      rw [← hw3]
      clear hw3
      go_wp2_with fail
      have z0 := Z.out.c0
      have z1 := Z.out.c1
      have z2 := Z.out.c2
      refine bodyPost_ret (v := .tuple #[ZV, .int .i64 3]) (by simp [results, Tryd.results12, go_sem, z0, z1, z2, ZV]) rfl ?_
      exact Q.out
end Go.Proofs.YtdkeickcbpjedaaDoor
