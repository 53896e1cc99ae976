/-
  The contracts of walk's nesting, Skip and may (layer 10) over this seat's translation. Conditions: a row of at most 100,000 tokens.
-/
import Derived.Test.YtegakecncpfnnaaWlkT
namespace Go.Proofs.Ytegakecncpfnnaa
open Go.RowKit

theorem nesting_any (w : World) :
    Calls Try.prog 38 #[] w fun e w' => e = .returned (.func (.func 51) #[] #[.pointer (some ⟨w.heap.size, 0, none⟩)]) ∧ V w' w.heap.size 3 (.int .i64 0) ∧ Below w.heap.size w w' := by
  have v1 := V.new w 3 (.int .i64 0)
  have b1 := bel1 w (.cells #[.int .i64 0] 3)
  have R := Lib.hid (And.intro v1 b1)
  clear v1 b1
  go_enter Try.func38, Try.ntmps38
  go_wp2
  go_ret
  exact ⟨rfl, R.out.1, R.out.2⟩

theorem pass_any (g : Nat) (o : Int) (k : Int) (s : ByteArray) (w : World) (h : V w g 3 (.int .i64 o)) (h1 : -1000000 ≤ o) (h2 : o ≤ 1000000) :
    Calls Try.prog 51 #[.agg #[.int .i64 k, .string s], .pointer (some ⟨g, 0, none⟩)] w fun e w' =>
      e = .returned (.int .i64 (o + stp ⟨k, s⟩)) ∧ V w' g 3 (.int .i64 (o + stp ⟨k, s⟩)) ∧ Fr (fun j => j = g) w w' := by
  have c := h.cell
  have l := h.lt
  have f := h.free
  have r1 : IntKind.i64.wrap (o + 1) = o + 1 := IntWalk.i64_in _ (by omega)
  have r2 : IntKind.i64.wrap (o - 1) = o - 1 := IntWalk.i64_in _ (by omega)
  have H := Lib.hid h
  have A : ∀ (o' : Int) (x : Obj), V ((w.setCell ⟨g, 0, none⟩ (.int .i64 o')).alloc x) g 3 (.int .i64 o') ∧ Fr (fun j => j = g) w ((w.setCell ⟨g, 0, none⟩ (.int .i64 o')).alloc x) := fun o' x =>
    ⟨(H.out.set _).alloc _, (fr_set _).alloc _⟩
  have A := Lib.hid A
  clear h
  by_cases k1 : k = 1
  · subst k1
    have e : stp ⟨1, s⟩ = 1 := by simp [stp]
    rw [e]
    go_enter Try.func51, Try.ntmps51
    go_wp2
    go_ret
    exact ⟨rfl, A.out _ _⟩
  · by_cases k2 : k = 2
    · subst k2
      have e : stp ⟨2, s⟩ = -1 := by simp [stp]
      rw [e]
      rw [show o + -1 = o - 1 by omega]
      go_enter Try.func51, Try.ntmps51
      go_wp2
      go_ret
      exact ⟨rfl, A.out _ _⟩
    · have e : stp ⟨k, s⟩ = 0 := by simp [stp, k1, k2]
      have t1 : (k == (1 : Int)) = false := by simpa using k1
      have t2 : (k == (2 : Int)) = false := by simpa using k2
      rw [e, Int.add_zero]
      go_enter Try.func51, Try.ntmps51
      go_wp2
      go_ret
      exact ⟨rfl, H.out.alloc _, ((Fr.refl _ w).alloc _)⟩

theorem skip_any (l : List Tok) (v : Value) (w : World) (hl : TSl w v l) (hn : l.length ≤ 100000) :
    Calls Try.prog 11 #[v, .int .i64 0] w fun e w' => e = .returned (.tuple #[.int .i64 (skip0 l).1, .int .i64 (skip0 l).2]) ∧ Below w.heap.size w w' := by
  obtain ⟨a, c, rfl, hc, hr⟩ := hl
  match l, hr, hn, hc with
  | [], _, _, _ =>
    go_enter Try.func11, Try.ntmps11
    go_wp2
    go_ret2
    exact ⟨rfl, Below.refl _ _⟩
  | d :: r, hr, hn, hc =>
    obtain ⟨b, o, rfl, c0, _⟩ := hr 0 (by simp)
    rw [Nat.zero_mul, Nat.add_zero] at c0
    simp only [List.getElem_cons_zero] at c0
    have lb := lt_of_cell c0
    have HR := Lib.hid hr
    obtain ⟨n, hnn⟩ : ∃ n, n = (d :: r).length := ⟨_, rfl⟩
    rw [← hnn] at hn hc ⊢
    have n0 : 0 < n := by rw [hnn]; simp
    have nz : ¬ n = 0 := by omega
    have HN := Lib.hid hnn
    clear hr hnn
    have lt0 : (0 : Int) < (n : Int) := by omega
    by_cases hk : d.k = 1 ∨ d.k = 3
    · go_enter Try.func11, Try.ntmps11
      have SK := Lib.hid (show skip0 (d :: r) = (match skp (d :: r) 0 0 with | some n => (n, 0) | none => (0, 3)) from if_pos hk)
      obtain ⟨L, hL⟩ : ∃ L, L = d :: r := ⟨_, rfl⟩
      rw [← hL] at HR HN SK ⊢
      have st : ∀ (i : Nat) (h : i < n) (o : Int), skp (L.drop i) o i = if o + stp (L[i]'(by have := HN.out; omega)) = 0 then some (i + 1) else skp (L.drop (i + 1)) (o + stp (L[i]'(by have := HN.out; omega))) (i + 1) := fun i h o => by
        rw [List.drop_eq_getElem_cons (by have := HN.out; omega), skp]
      have ST := Lib.hid st
      clear st hL
      rcases hk with hk | hk
      all_goals
        rw [hk] at c0
        clear hk
        go_wp2_with fail
        refine (nesting_any _).mono ?_
        rintro e w1 ⟨rfl, v1, b1⟩
        have R1 := Lib.hid (And.intro v1 b1)
        have lw1 := v1.lt
        clear v1 b1
        obtain ⟨g, hg⟩ : ∃ g, g = w.heap.size := ⟨_, rfl⟩
        rw [← hg] at R1 lw1 ⊢
        have HG := Lib.hid hg
        clear hg
        go_wp2
        go_loopw [34] (fun v wr => ∃ (i : Nat) (o : Int), v = .int .i64 i ∧ i ≤ n ∧ V wr g 3 (.int .i64 o) ∧ skp (L.drop i) o i = skp L 0 0 ∧ -(i : Int) ≤ o ∧ o ≤ i ∧ Below g w wr) (fun i _ => n - (intOf i).toNat)
        case atStart => exact ⟨0, 0, rfl, Nat.zero_le _, R1.out.1, rfl, by omega, by omega, R1.out.2⟩
        case round =>
          obtain ⟨i, q, rfl, hi, hv, hs, hq1, hq2, hb⟩ := hrel
          have VV := Lib.hid hv
          have HS := Lib.hid hs
          have HB := Lib.hid hb
          clear hv hs hb
          by_cases hlt : i < n
          · have hb0 := HB.out
            rw [HG.out] at hb0
            have hiL : i < L.length := by have := HN.out; omega
            obtain ⟨b', o', e', d0, d1⟩ := (HR.out.bel hb0) i hiL
            cases e'
            have lb' := lt_of_cell d0
            have S := Lib.hid (ST.out i hlt q)
            obtain ⟨tk, htk⟩ : ∃ tk, tk = L[i] := ⟨_, rfl⟩
            rw [← htk] at d0 d1 S
            obtain ⟨kk, ss⟩ := tk
            simp only at d0 d1
            clear htk hb0
            go_wp2_with fail
            have sb : -1 ≤ stp ⟨kk, ss⟩ ∧ stp ⟨kk, ss⟩ ≤ 1 := by unfold stp; split <;> (try split) <;> omega
            refine (pass_any g q kk ss _ (VV.out.alloc _) (by omega) (by omega)).mono ?_
            obtain ⟨Q, hQ⟩ : ∃ Q, Q = q + stp ⟨kk, ss⟩ := ⟨_, rfl⟩
            rw [← hQ] at S ⊢
            rintro e w2 ⟨rfl, v2, f2⟩
            have B2 := Lib.hid (HB.out.trans ((((Fr.refl (fun j => j = g) wr).alloc (.cells #[.int .i64 kk, .string ss] 48)).trans f2).below (B := g) (by have := VV.out.lt; omega) (fun j hj => by omega)))
            have V2 := Lib.hid v2
            have q1 : -((i : Int) + 1) ≤ Q := by omega
            have q2 : Q ≤ (i : Int) + 1 := by omega
            clear f2 v2 VV HB hQ d0 d1 sb
            by_cases z : Q = 0
            · have z1 : (Q == (0 : Int)) = true := by simpa using z
              have E := S.out
              rw [if_pos z, HS.out] at E
              have E1 := Lib.hid E
              clear z E S
              go_wp2
              go_ret2
              refine ⟨?_, by rw [← HG.out]; exact B2.out⟩
              rw [SK.out, E1.out]
              simp
            · have z1 : (Q == (0 : Int)) = false := by simpa using z
              have E := S.out
              rw [if_neg z, HS.out] at E
              have E1 := Lib.hid E
              clear z E S
              go_wp2
              go_roundw
              case rel => exact ⟨i + 1, Q, by go_num, by omega, V2.out, E1.out.symm, by omega, by omega, B2.out⟩
              case measure => (simp [intOf]) <;> omega
          · obtain rfl : i = n := by omega
            have E := HS.out
            rw [HN.out, List.drop_length, skp] at E
            have E1 := Lib.hid E
            have B2 := Lib.hid HB.out
            clear E HS
            go_wp2
            go_ret2
            refine ⟨?_, by rw [← HG.out]; exact B2.out⟩
            rw [SK.out, ← E1.out]
            simp
    · have e : skip0 (d :: r) = (0, 3) := by simp only [skip0]; rw [if_neg hk]
      have t1 : (d.k != (1 : Int)) = true := by simp only [bne_iff_ne, ne_eq]; exact fun h => hk (.inl h)
      have t3 : (d.k != (3 : Int)) = true := by simp only [bne_iff_ne, ne_eq]; exact fun h => hk (.inr h)
      rw [e]
      clear e hk
      go_enter Try.func11, Try.ntmps11
      go_wp2
      go_ret2
      exact ⟨rfl, Below.refl _ _⟩

set_option maxRecDepth 100000 in
theorem mayk_any (l : List Tok) (v : Value) (w : World) (hl : TSl w v l) (hn : l.length ≤ 100000) :
    Calls Try.prog 27 #[v] w fun e w' => e = .returned (.bool (mayk l)) ∧ Below w.heap.size w w' := by
  have HL := Lib.hid hl
  have SK := Lib.hid (skip_any l v w hl hn)
  obtain ⟨a, c, rfl, hc, hr⟩ := hl
  have HE := Lib.hid (show mayk l = (decide (skip0 l = (l.length, 0)) && chk l 0 0) from rfl)
  have SI := Lib.hid (fun (h : skip0 l = (l.length, 0)) => skip0_inv h)
  have SL := Lib.hid (fun h1 h2 => show (skip0 l).1 ≤ l.length from by
    revert h1 h2
    cases l with
    | nil => simp [skip0]
    | cons d r =>
      intro _ _
      unfold skip0
      simp only
      split
      · split
        · rename_i n h; have := skp_le _ _ _ _ h; simpa using this
        · simp
      · simp : (skip0 l).2 = 0 → True → (skip0 l).1 ≤ l.length)
  obtain ⟨n, hnn⟩ : ∃ n, n = l.length := ⟨_, rfl⟩
  have HN := Lib.hid hnn
  rw [← hnn] at hn hc ⊢
  clear hr hnn
  go_enter Try.func27, Try.ntmps27
  go_wp2_with fail
  rw [HN.out]
  refine SK.out.mono ?_
  rw [← HN.out]
  obtain ⟨p, hp⟩ : ∃ p, p = (skip0 l).1 := ⟨_, rfl⟩
  obtain ⟨q, hq⟩ : ∃ q, q = (skip0 l).2 := ⟨_, rfl⟩
  have HP := Lib.hid (And.intro hp hq)
  rw [← hp, ← hq]
  clear hp hq
  rintro e w1 ⟨rfl, b1⟩
  have B1 := Lib.hid b1
  clear b1
  by_cases hq0 : q = 0
  · subst hq0
    by_cases hpn : p < n
    · have t1 : decide (p < n) = true := by simpa using hpn
      have E0 := Lib.hid (show mayk l = false from by
        rw [HE.out, show decide (skip0 l = (l.length, 0)) = false from decide_eq_false (fun h => by have h1 := HP.out.1; have h2 := HN.out; rw [h] at h1; simp at h1; omega)]
        rfl)
      go_wp2
      go_ret
      exact ⟨by rw [E0.out]; rfl, B1.out⟩
    · have t1 : decide (p < n) = false := by simpa using hpn
      have hpe : skip0 l = (l.length, 0) := by
        have h1 := HP.out
        have h2 := SL.out h1.2.symm trivial
        have h3 := HN.out
        refine Prod.ext ?_ h1.2.symm
        simp only
        omega
      have E0 := Lib.hid (show mayk l = chk l 0 0 from by rw [HE.out, decide_eq_true hpe]; rfl)
      clear hpe hpn
      go_wp2_with fail
      refine (nesting_any _).mono ?_
      rintro e w2 ⟨rfl, v2, b2⟩
      obtain ⟨g, hg⟩ : ∃ g, g = w1.heap.size := ⟨_, rfl⟩
      have b2' := B1.out.trans (b2.mono B1.out.size)
      rw [← hg] at v2 ⊢
      have R1 := Lib.hid (And.intro v2 b2')
      have HG := Lib.hid (show w.heap.size ≤ g by rw [hg]; exact B1.out.size)
      clear hg v2 b2 b2' t1
      go_wp2
      go_loopw [26, 6] (fun v x wr => ∃ (i k : Nat) (o : Int), v = .int .i64 i ∧ x = .int .i64 k ∧ k ≤ i ∧ i ≤ n ∧ V wr g 3 (.int .i64 o) ∧ chk (l.drop i) o k = chk l 0 0 ∧ -(i : Int) ≤ o ∧ o ≤ i ∧ Below w.heap.size w wr) (fun i _ _ => n - (intOf i).toNat)
      case atStart => exact ⟨0, 0, 0, rfl, rfl, Nat.le_refl _, Nat.zero_le _, R1.out.1, rfl, by omega, by omega, R1.out.2⟩
      case round =>
        clear R1
        obtain ⟨i, k, q, rfl, rfl, hk, hi, hv, hs, hq1, hq2, hb⟩ := hrel
        have VV := Lib.hid hv
        have HS := Lib.hid hs
        have HB := Lib.hid hb
        clear hv hs hb
        by_cases hlt : i < n
        · have hiL : i < l.length := by have := HN.out; omega
          obtain ⟨a', c', e', _, hr⟩ := HL.out
          have ha : a = a' := by injection e'
          subst ha
          obtain ⟨b', o', e', d0, d1⟩ := (hr.bel HB.out) i hiL
          subst e'
          have lb' := lt_of_cell d0
          have st : chk (l.drop i) q k = chk (l[i] :: l.drop (i + 1)) q k := by rw [List.drop_eq_getElem_cons hiL]
          rw [HS.out] at st
          obtain ⟨tk, htk⟩ : ∃ tk, tk = l[i] := ⟨_, rfl⟩
          rw [← htk] at d0 d1 st
          obtain ⟨kk, ss⟩ := tk
          simp only at d0 d1
          have S := Lib.hid st
          clear htk hr st
          go_wp2_with fail
          have sb : -1 ≤ stp ⟨kk, ss⟩ ∧ stp ⟨kk, ss⟩ ≤ 1 := by unfold stp; split <;> (try split) <;> omega
          refine (pass_any g q kk ss _ (VV.out.alloc _) (by omega) (by omega)).mono ?_
          obtain ⟨Q, hQ⟩ : ∃ Q, Q = q + stp ⟨kk, ss⟩ := ⟨_, rfl⟩
          rw [← hQ]
          rintro e w2 ⟨rfl, v2, f2⟩
          have x2 := (B2.new wr 48 (.int .i64 kk) (.string ss)).fr f2 (by have := VV.out.lt; omega)
          have B2 := Lib.hid (HB.out.trans ((((Fr.refl (fun j => j = g) wr).alloc (.cells #[.int .i64 kk, .string ss] 48)).trans f2).below (B := w.heap.size) (by have := HB.out.size; omega) (fun j hj => by have := HG.out; omega)))
          have V2 := Lib.hid v2
          have y0 := x2.c0
          have y1 := x2.c1
          have ly := x2.lt
          have q1 : -((i : Int) + 1) ≤ Q := by omega
          have q2 : Q ≤ (i : Int) + 1 := by omega
          have HQ := Lib.hid hQ
          clear f2 v2 VV HB hQ d0 d1 sb x2 HS hq1 hq2
          by_cases k3 : kk = 3
          · subst k3
            by_cases z1 : Q + 1 ≤ 16
            · have t1 : decide (16 < Q + 1) = false := by simp; omega
              by_cases z2 : k + 1 ≤ 1024
              · have E := S.out
                rw [chk, if_pos rfl, ← HQ.out, decide_eq_true z1, decide_eq_true z2, Bool.true_and, Bool.true_and] at E
                have E1 := Lib.hid E.symm
                clear E S
                have t2 : decide ((1024 : Int) < (k : Int) + 1) = false := by simp; omega
                go_wp2
                go_roundw
                case rel => exact ⟨i + 1, k + 1, Q, by go_num, by go_num, by omega, by omega, V2.out, E1.out, by omega, by omega, B2.out⟩
                case measure => (simp [intOf]) <;> omega
              · have E := S.out
                rw [chk, if_pos rfl, ← HQ.out, decide_eq_false z2, Bool.false_and, Bool.and_false] at E
                have E1 := Lib.hid E
                clear E S
                have t2 : decide ((1024 : Int) < (k : Int) + 1) = true := by simp; omega
                go_wp2
                go_ret
                exact ⟨by rw [E0.out, E1.out]; rfl, B2.out⟩
            · have E := S.out
              rw [chk, if_pos rfl, ← HQ.out, decide_eq_false z1, Bool.false_and] at E
              have E1 := Lib.hid E
              clear E S
              have t1 : decide (16 < Q + 1) = true := by simp; omega
              go_wp2
              go_ret
              exact ⟨by rw [E0.out, E1.out]; rfl, B2.out⟩
          · have t3 : (kk == (3 : Int)) = false := by simpa using k3
            by_cases hss : ss = ⟨#[]⟩
            · subst hss
              by_cases k1 : kk = 1
              · subst k1
                by_cases z1 : Q ≤ 16
                · have t1 : decide (16 < Q) = false := by simp; omega
                  by_cases z2 : k + 1 ≤ 1024
                  · have E := S.out
                    rw [chk, if_neg k3, if_pos (show ByteArray.size _ = 0 from rfl), if_pos rfl, ← HQ.out, decide_eq_true z1, decide_eq_true z2, Bool.true_and, Bool.true_and] at E
                    have E1 := Lib.hid E.symm
                    clear E S k3
                    have t2 : decide ((1024 : Int) < (k : Int) + 1) = false := by simp; omega
                    go_wp2
                    go_roundw
                    case rel => exact ⟨i + 1, k + 1, Q, by go_num, by go_num, by omega, by omega, V2.out, E1.out, by omega, by omega, B2.out⟩
                    case measure => (simp [intOf]) <;> omega
                  · have E := S.out
                    rw [chk, if_neg k3, if_pos (show ByteArray.size _ = 0 from rfl), if_pos rfl, ← HQ.out, decide_eq_false z2, Bool.false_and, Bool.and_false] at E
                    have E1 := Lib.hid E
                    clear E S k3
                    have t2 : decide ((1024 : Int) < (k : Int) + 1) = true := by simp; omega
                    go_wp2
                    go_ret
                    exact ⟨by rw [E0.out, E1.out]; rfl, B2.out⟩
                · have E := S.out
                  rw [chk, if_neg k3, if_pos (show ByteArray.size _ = 0 from rfl), if_pos rfl, ← HQ.out, decide_eq_false z1, Bool.false_and] at E
                  have E1 := Lib.hid E
                  clear E S k3
                  have t1 : decide (16 < Q) = true := by simp; omega
                  go_wp2
                  go_ret
                  exact ⟨by rw [E0.out, E1.out]; rfl, B2.out⟩
              · have t4 : (kk == (1 : Int)) = false := by simpa using k1
                by_cases k2 : kk = 2
                · subst k2
                  by_cases z1 : Q ≤ 16
                  · have t1 : decide (16 < Q) = false := by simp; omega
                    by_cases z2 : k ≤ 1024
                    · have E := S.out
                      rw [chk, if_neg k3, if_pos (show ByteArray.size _ = 0 from rfl), if_neg k1, if_pos rfl, ← HQ.out, decide_eq_true z1, decide_eq_true z2, Bool.true_and, Bool.true_and] at E
                      have E1 := Lib.hid E.symm
                      clear E S k3 k1
                      have t2 : decide ((1024 : Int) < (k : Int)) = false := by simp; omega
                      go_wp2
                      go_roundw
                      case rel => exact ⟨i + 1, k, Q, by go_num, rfl, by omega, by omega, V2.out, E1.out, by omega, by omega, B2.out⟩
                      case measure => (simp [intOf]) <;> omega
                    · have E := S.out
                      rw [chk, if_neg k3, if_pos (show ByteArray.size _ = 0 from rfl), if_neg k1, if_pos rfl, ← HQ.out, decide_eq_false z2, Bool.false_and, Bool.and_false] at E
                      have E1 := Lib.hid E
                      clear E S k3 k1
                      have t2 : decide ((1024 : Int) < (k : Int)) = true := by simp; omega
                      go_wp2
                      go_ret
                      exact ⟨by rw [E0.out, E1.out]; rfl, B2.out⟩
                  · have E := S.out
                    rw [chk, if_neg k3, if_pos (show ByteArray.size _ = 0 from rfl), if_neg k1, if_pos rfl, ← HQ.out, decide_eq_false z1, Bool.false_and] at E
                    have E1 := Lib.hid E
                    clear E S k3 k1
                    have t1 : decide (16 < Q) = true := by simp; omega
                    go_wp2
                    go_ret
                    exact ⟨by rw [E0.out, E1.out]; rfl, B2.out⟩
                · have t5 : (kk != (2 : Int)) = true := by simpa using k2
                  have E := S.out
                  rw [chk, if_neg k3, if_pos (show ByteArray.size _ = 0 from rfl), if_neg k1, if_neg k2] at E
                  have E1 := Lib.hid E
                  clear E S k3 k1 k2
                  go_wp2
                  go_ret
                  exact ⟨by rw [E0.out, E1.out]; rfl, B2.out⟩
            · have t6 := isEmptyL ss hss
              have E := S.out
              rw [chk, if_neg k3, if_neg (by intro h; exact hss (by obtain ⟨⟨m⟩⟩ := ss; cases m with | nil => rfl | cons b r => simp [ByteArray.size] at h))] at E
              have E1 := Lib.hid E
              clear E S k3 hss
              go_wp2
              go_ret
              exact ⟨by rw [E0.out, E1.out]; rfl, B2.out⟩
        · obtain rfl : i = n := by omega
          have E := HS.out
          rw [HN.out, List.drop_length, chk] at E
          have E1 := Lib.hid E.symm
          have B2 := Lib.hid HB.out
          clear E HS
          go_wp2
          go_ret
          exact ⟨by rw [E0.out, E1.out]; rfl, B2.out⟩
  · have t1 : ((q : Int) != 0) = true := by simp only [bne_iff_ne, ne_eq]; omega
    have E0 := Lib.hid (show mayk l = false from by
      rw [HE.out, show decide (skip0 l = (l.length, 0)) = false from decide_eq_false (fun h => by have h1 := HP.out.2; rw [h] at h1; exact hq0 h1)]
      rfl)
    clear hq0
    go_wp2
    go_ret
    exact ⟨by rw [E0.out]; rfl, B1.out⟩
end Go.Proofs.Ytegakecncpfnnaa
