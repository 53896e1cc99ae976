/-
  The contracts of package item's reading of an item, and of Read, over this seat's translation. Conditions: a line of at most 100,000 bytes.
-/
import Derived.Test.YtdkeickcbpjedaaDoorItmX
namespace Go.Proofs.YtdkeickcbpjedaaDoor
open Go.RowKit

theorem hd_hexs : ∀ (bs r : List UInt8), nd r → hd (hexs bs ++ r) = hexs bs
  | [], r, h => by
    simp only [hexs, List.nil_append, hd]
    rcases r with _ | ⟨a, q⟩
    · rfl
    · rw [List.takeWhile_cons, if_neg (by rw [h a q rfl]; decide)]
  | x :: bs, r, h => by
    have h1 := (hv_dg (x.toNat / 16) (by have := UInt8.toNat_lt x; omega)).2
    have h2 := (hv_dg (x.toNat % 16) (by omega)).2
    have := hd_hexs bs r h
    unfold hd at this ⊢
    simp only [hexs, List.cons_append]
    rw [List.takeWhile_cons, if_pos h1, List.takeWhile_cons, if_pos h2, this]
theorem text_must {d K : Nat} {l : List UInt8} (h40 : ∀ q, l ≠ 40 :: q) (h45 : ∀ q, l ≠ 45 :: q) {x : T} {r : List UInt8} (h : T.Val d K l x r) : (hd l).length % 2 = 0 ∧ hd l ≠ [] := by
  rcases l with _ | ⟨a, q⟩
  · exact absurd h (fun h => T.val_nil h)
  · obtain ⟨s, rfl, h1⟩ := T.val_text h (fun e => h40 q (by rw [e]))
    rcases h1 with ⟨_, h2, _⟩ | ⟨h2, h3⟩
    · exact absurd (by rw [h2]) (h45 q)
    · rw [← h3, hd_hexs _ _ h.2.2.2.1.nd, hexs_length]
      refine ⟨by omega, fun e => T.toList_ne_nil h2 ?_⟩
      have := congrArg List.length e
      rw [hexs_length, List.length_nil] at this
      exact List.length_eq_zero_iff.1 (by omega)

set_option maxRecDepth 20000 in
set_option maxHeartbeats 4000000 in
theorem item_rd : ∀ d, d ≤ 17 → ItemC d := by
  intro d
  induction d with
  | zero =>
    intro _ b K l w D hD hrg hl hK
    obtain rfl : D = 17 := by omega
    have c1 := hrg.c1
    have lb := hrg.lt
    have i0 := I3.new w (.string ⟨#[]⟩) (.bool false) (.slice none 0 0)
    have FF := (Fr.refl (fun j => j = b) w).alloc (.cells #[.string ⟨#[]⟩, .bool false, .slice none 0 0] 24)
    have gg := hrg.alloc (.cells #[.string ⟨#[]⟩, .bool false, .slice none 0 0] 24)
    obtain ⟨W0, hW0⟩ : ∃ W0, W0 = w.alloc (.cells #[.string ⟨#[]⟩, .bool false, .slice none 0 0] 24) := ⟨_, rfl⟩
    rw [← hW0] at FF gg i0
    have x0 := i0.c0
    have x1 := i0.c1
    have x2 := i0.c2
    have lx := i0.lt
    have p0 := i0.free 0
    have p1 := i0.free 1
    have p2 := i0.free 2
    have Q := Lib.hid (show ItemPost 0 K l b w (.returned (.tuple #[ZV, .bool false])) _ from
      ⟨FF.then_ (fr_put (g := w.heap.size) (.string ⟨#[]⟩) (.bool false) (.slice none 0 0)) (fun j hj h => by omega), .inr ⟨rfl, ⟨_, _, gg.fr (fr_put (g := w.heap.size) _ _ _) (by omega)⟩, fun x' r' h => T.val_zero h⟩⟩)
    have Z := Lib.hid (i0.put (.string ⟨#[]⟩) (.bool false) (.slice none 0 0))
    clear FF gg hrg i0
    go_enter Tryd.func23, Tryd.ntmps23
    go_upto_region 2 with fail
    rw [← hW0]
    clear hW0
    go_wp2_with fail
    have z0 := Z.out.c0
    have z1 := Z.out.c1
    have z2 := Z.out.c2
    refine bodyPost_ret (v := .tuple #[ZV, .bool false]) (by simp [results, Tryd.results23, go_sem, z0, z1, z2, ZV]) rfl ?_
    exact Q.out
  | succ d ih =>
    intro hd17 b K l w D hD hrg hl hK
    have IC := Lib.hid (ih (by omega))
    have HD := Lib.hid (And.intro hD (And.intro hd17 (And.intro hl hK)))
    have lb := hrg.lt
    have HB := Lib.hid hrg.lt
    have i0 := I3.new w (.string ⟨#[]⟩) (.bool false) (.slice none 0 0)
    have c1 := hrg.c1
    have f1 := hrg.free 1
    have FA := Lib.hid ((Fr.refl (fun j => j = b) w).alloc (.cells #[.string ⟨#[]⟩, .bool false, .slice none 0 0] 24))
    have GA := Lib.hid (hrg.alloc (.cells #[.string ⟨#[]⟩, .bool false, .slice none 0 0] 24))
    have I0 := Lib.hid i0
    have t16 : decide (16 < D) = false := by simp; omega
    clear ih hD hl hK
    by_cases hk0 : K = 0
    · subst hk0
      obtain ⟨W0, hW0⟩ : ∃ W0, W0 = w.alloc (.cells #[.string ⟨#[]⟩, .bool false, .slice none 0 0] 24) := ⟨_, rfl⟩
      have FA := FA.out
      have GA := GA.out
      rw [← hW0] at FA GA i0
      have x0 := i0.c0
      have x1 := i0.c1
      have x2 := i0.c2
      have lx := i0.lt
      have p0 := i0.free 0
      have p1 := i0.free 1
      have p2 := i0.free 2
      have Q := Lib.hid (show ItemPost (d + 1) 0 l b w (.returned (.tuple #[ZV, .bool false])) _ from
        ⟨FA.then_ (fr_put (g := w.heap.size) (.string ⟨#[]⟩) (.bool false) (.slice none 0 0)) (fun j hj h => by omega), .inr ⟨rfl, ⟨_, _, GA.fr (fr_put (g := w.heap.size) _ _ _) (by omega)⟩, fun x' r' h => T.val_none h⟩⟩)
      have Z := Lib.hid (i0.put (.string ⟨#[]⟩) (.bool false) (.slice none 0 0))
      clear i0 hrg FA GA I0
      go_enter Tryd.func23, Tryd.ntmps23
      go_upto_region 2 with fail
      rw [← hW0]
      clear hW0
      go_wp2_with fail
      have z0 := Z.out.c0
      have z1 := Z.out.c1
      have z2 := Z.out.c2
      refine bodyPost_ret (v := .tuple #[ZV, .bool false]) (by simp [results, Tryd.results23, go_sem, z0, z1, z2, ZV]) rfl ?_
      exact Q.out
    · have tk : ((K : Int) == 0) = false := by simpa using hk0
      have e1 : (K : Int) - 1 = ((K - 1 : Nat) : Int) := by omega
      have W1 := Lib.hid (show Rg ((w.setCell ⟨b, 1, none⟩ (.int .i64 ((K : Int) - 1))).alloc (.cells #[.string ⟨#[]⟩, .bool false, .slice none 0 0] 24)) b l (K - 1) ∧
          Fr (fun j => j = b) w ((w.setCell ⟨b, 1, none⟩ (.int .i64 ((K : Int) - 1))).alloc (.cells #[.string ⟨#[]⟩, .bool false, .slice none 0 0] 24)) ∧
          I3 ((w.setCell ⟨b, 1, none⟩ (.int .i64 ((K : Int) - 1))).alloc (.cells #[.string ⟨#[]⟩, .bool false, .slice none 0 0] 24)) w.heap.size (.string ⟨#[]⟩) (.bool false) (.slice none 0 0) from by
        rw [e1]
        refine ⟨(hrg.left _).alloc _, (fr_set _).alloc _, ?_⟩
        have := I3.new (w.setCell ⟨b, 1, none⟩ (.int .i64 ((K - 1 : Nat) : Int))) (.string ⟨#[]⟩) (.bool false) (.slice none 0 0)
        simpa [World.setCell] using this)
      clear i0 hrg e1
      go_enter Tryd.func23, Tryd.ntmps23
      have hKb : 1 ≤ K ∧ K ≤ 1024 := by have := HD.out; omega
      go_wp2_with fail
      refine (skip_any b l _ 40 _ W1.out.1).mono ?_
      rintro e w1 ⟨rfl, h1, g1⟩
      have F1 := Lib.hid (W1.out.2.1.trans g1)
      have R1 := Lib.hid (W1.out.2.2.fr g1 (by have := HB.out; omega))
      have G1 := Lib.hid h1
      clear h1 g1 W1 c1 f1 lb
      cases hc : cutb l 40
      case true =>
        obtain ⟨q, rfl⟩ : ∃ r, l = 40 :: r := by
          rcases l with _ | ⟨a, r⟩
          · cases hc
          · exact ⟨r, by rw [of_decide_eq_true hc]⟩
        have G2 := G1.out
        rw [show cutl (40 :: q) 40 = q by simp [cutl]] at G2
        have G2 := Lib.hid G2
        clear hc
        go_wp2_with fail
        refine (list_rd (d + 1) (by rw [Nat.add_sub_cancel]; exact IC.out) b K q _ D HD.out.1 (by omega) HD.out.2.1 (by omega) G2.out (by have := HD.out.2.2.1; rw [List.length_cons] at this; omega) HD.out.2.2.2).mono ?_
        rintro e w2 ⟨f2, h2⟩
        have R2 := R1.out.fr f2 (by have := HB.out; omega)
        have F2 := F1.out.trans f2
        have x0 := R2.c0
        have x1 := R2.c1
        have x2 := R2.c2
        have lx := R2.lt
        have p0 := R2.free 0
        have p1 := R2.free 1
        have p2 := R2.free 2
        have hs1 := F1.out.size
        rcases h2 with ⟨x, v, r, rfl, hs, hcx, hv, hrg, hun⟩ | ⟨rfl, ⟨l', k', hrg⟩, hno⟩
        case inl =>
          obtain ⟨vp, vq, rfl⟩ := hv.slice
          have Q := Lib.hid (show ItemPost (d + 1) K (40 :: q) b w (.returned (.tuple #[.agg #[.string (T.s x), .bool (T.l x), .slice vp x.ts.length vq], .bool true])) _ from
            ⟨F2.then_ (fr_put (g := w.heap.size) (.string (T.s x)) (.bool (T.l x)) (.slice vp x.ts.length vq)) (fun j hj h => by omega), .inl ⟨x, _, r, rfl, hs, hcx,
              InP.fr (N' := fun j => w.heap.size ≤ j) hv (fr_put (g := w.heap.size) _ _ _) (fun g hg _ => ⟨by omega, by have := R1.out.lt; omega⟩), hrg.fr (fr_put (g := w.heap.size) _ _ _) (by have := HB.out; omega), hun⟩⟩)
          have Z := Lib.hid (R2.put (.string (T.s x)) (.bool (T.l x)) (.slice vp x.ts.length vq))
          clear hs hcx hv hrg hun R2 F2 f2
          go_wp2_with fail
          have z0 := Z.out.c0
          have z1 := Z.out.c1
          have z2 := Z.out.c2
          refine bodyPost_ret (v := .tuple #[.agg #[.string (T.s x), .bool (T.l x), .slice vp x.ts.length vq], .bool true]) (by simp [results, Tryd.results23, go_sem, z0, z1, z2]) rfl ?_
          exact Q.out
        case inr =>
          have Q := Lib.hid (show ItemPost (d + 1) K (40 :: q) b w (.returned (.tuple #[ZV, .bool false])) _ from
            ⟨F2.then_ (fr_put (g := w.heap.size) (.string ⟨#[]⟩) (.bool false) (.slice none 0 0)) (fun j hj h => by omega), .inr ⟨rfl, ⟨_, _, hrg.fr (fr_put (g := w.heap.size) _ _ _) (by have := HB.out; omega)⟩, hno⟩⟩)
          have Z := Lib.hid (R2.put (.string ⟨#[]⟩) (.bool false) (.slice none 0 0))
          clear hrg hno R2 F2 f2
          unfold ZV
          go_wp2_with fail
          have z0 := Z.out.c0
          have z1 := Z.out.c1
          have z2 := Z.out.c2
          refine bodyPost_ret (v := .tuple #[ZV, .bool false]) (by simp [results, Tryd.results23, go_sem, z0, z1, z2, ZV]) rfl ?_
          exact Q.out
      case false =>
        have h40 : ∀ q, l ≠ 40 :: q := by
          rintro r rfl
          simp [cutb] at hc
        have hcl : cutl l 40 = l := by
          rcases l with _ | ⟨a, r⟩
          · rfl
          · simp only [cutb, decide_eq_false_iff_not] at hc
            simp [cutl, hc]
        have G2 := G1.out
        rw [hcl] at G2
        have G2 := Lib.hid G2
        have H40 := Lib.hid h40
        clear hcl hc h40
        go_wp2_with fail
        refine (text_rd b l _ _ G2.out HD.out.2.2.1).mono ?_
        rintro e w2 ⟨f2, h2⟩
        have R2 := R1.out.fr f2 (by have := HB.out; omega)
        have F2 := F1.out.trans f2
        have x0 := R2.c0
        have x1 := R2.c1
        have x2 := R2.c2
        have lx := R2.lt
        have p0 := R2.free 0
        have p1 := R2.free 1
        have p2 := R2.free 2
        rcases h2 with ⟨r, rfl, rfl, hrg⟩ | ⟨h45, hev, hne, rfl, hrg⟩ | ⟨h45, hbad, rfl, hrg⟩
        · have Q := Lib.hid (show ItemPost (d + 1) K (45 :: r) b w (.returned (.tuple #[.agg #[.string ⟨#[]⟩, .bool false, .slice none 0 0], .bool true])) _ from
            ⟨F2.then_ (fr_put (g := w.heap.size) (.string ⟨#[]⟩) (.bool false) (.slice none 0 0)) (fun j hj h => by omega), .inl ⟨.mk ⟨#[]⟩ false [], .slice none 0 0, r, rfl, T.snd_of_empty r (by omega), by simp [T.cnt, T.cnts]; omega,
              ⟨Nat.zero_le _, by simp [maxLen], none, 0, rfl, trivial⟩, by simpa [T.cnt, T.cnts] using hrg.fr (fr_put (g := w.heap.size) _ _ _) (by have := HB.out; omega), fun x' r' h => T.only_empty h⟩⟩)
          have Z := Lib.hid (R2.put (.string ⟨#[]⟩) (.bool false) (.slice none 0 0))
          clear hrg R2 F2 f2
          go_wp2_with fail
          have z0 := Z.out.c0
          have z1 := Z.out.c1
          have z2 := Z.out.c2
          refine bodyPost_ret (v := .tuple #[.agg #[.string ⟨#[]⟩, .bool false, .slice none 0 0], .bool true]) (by simp [results, Tryd.results23, go_sem, z0, z1, z2]) rfl ?_
          exact Q.out
        · have hdl : hexs (dec (hd l)) ++ tl l = l := by rw [dec_hexs _ hev (hd_all l), hd_tl]
          have hdn : dec (hd l) ≠ [] := by
            intro e
            have := dec_length (hd l)
            rw [e, List.length_nil] at this
            exact hne (List.length_eq_zero_iff.1 (by omega))
          have Q := Lib.hid (show ItemPost (d + 1) K l b w (.returned (.tuple #[.agg #[.string (sb (dec (hd l))), .bool false, .slice none 0 0], .bool true])) _ from
            ⟨F2.then_ (fr_put (g := w.heap.size) (.string (sb (dec (hd l)))) (.bool false) (.slice none 0 0)) (fun j hj h => by omega), .inl ⟨.mk (sb (dec (hd l))) false [], .slice none 0 0, tl l, rfl, by
              have := T.snd_of_text (d := d + 1) (dec (hd l)) (tl l) (by omega) hdn
              rwa [hdl] at this, by simp [T.cnt, T.cnts]; omega,
              ⟨by
                have h1 := dec_length (hd l)
                have h2 := congrArg List.length (hd_tl l)
                have h3 := HD.out.2.2.1
                rw [List.length_append] at h2
                rw [sb_size]
                unfold maxLen
                omega, by simp [maxLen], none, 0, rfl, trivial⟩, by simpa [T.cnt, T.cnts] using hrg.fr (fr_put (g := w.heap.size) _ _ _) (by have := HB.out; omega), fun x' r' h => T.only_text hdn (tl_nd l) (by rw [hdl]; exact h)⟩⟩)
          have Z := Lib.hid (R2.put (.string (sb (dec (hd l)))) (.bool false) (.slice none 0 0))
          clear hrg R2 F2 f2 hdl hdn hev hne h45
          go_wp2_with fail
          have z0 := Z.out.c0
          have z1 := Z.out.c1
          have z2 := Z.out.c2
          refine bodyPost_ret (v := .tuple #[.agg #[.string (sb (dec (hd l))), .bool false, .slice none 0 0], .bool true]) (by simp [results, Tryd.results23, go_sem, z0, z1, z2]) rfl ?_
          exact Q.out
        · have Q := Lib.hid (show ItemPost (d + 1) K l b w (.returned (.tuple #[ZV, .bool false])) _ from
            ⟨F2.then_ (fr_put (g := w.heap.size) (.string ⟨#[]⟩) (.bool false) (.slice none 0 0)) (fun j hj h => by omega), .inr ⟨rfl, ⟨_, _, hrg.fr (fr_put (g := w.heap.size) _ _ _) (by have := HB.out; omega)⟩, fun x' r' h => by
              obtain ⟨e1, e2⟩ := text_must H40.out h45 h
              rcases hbad with h | h
              · exact h e1
              · exact e2 h⟩⟩)
          have Z := Lib.hid (R2.put (.string ⟨#[]⟩) (.bool false) (.slice none 0 0))
          clear hrg R2 F2 f2 hbad h45
          go_wp2_with fail
          have z0 := Z.out.c0
          have z1 := Z.out.c1
          have z2 := Z.out.c2
          refine bodyPost_ret (v := .tuple #[ZV, .bool false]) (by simp [results, Tryd.results23, go_sem, z0, z1, z2, ZV]) rfl ?_
          exact Q.out
end Go.Proofs.YtdkeickcbpjedaaDoor
