/-
  The contract of slices.Backward over a row of tokens (layer 10): it tells them with their places, the last one first. Conditions: a row of at most 100,000 tokens, which no round turns.
-/
import Derived.Test.YtegakecncpfnnaaWlkS
import Derived.Test.YtegakecncpfnnaaRfo
import Derived.OwnWalkIn
import Derived.TacticsInMore
import Derived.LoopNIn
import Derived.LoopIn
namespace Go.Proofs.Ytegakecncpfnnaa
open Go.RowKit

/-- What comes i-th, from behind. -/
def backs (l : List Tok) (i : Nat) : Array Value := match l.reverse[i]? with
  | some a => #[.int .i64 ((l.length - 1 - i : Nat) : Int), .agg #[.int .i64 a.k, .string a.t]]
  | none => #[.nilIface, .nilIface]
theorem backs_at (l : List Tok) (i k : Nat) (hk : k < l.length) (h : k + i + 1 = l.length) : backs l i = #[.int .i64 (k : Int), .agg #[.int .i64 l[k].k, .string l[k].t]] := by
  have h1 : l.reverse[i]? = some l[k] := by
    rw [List.getElem?_reverse (by omega), show l.length - 1 - i = k by omega, List.getElem?_eq_getElem hk]
  rw [backs, h1, show l.length - 1 - i = k by omega]
theorem backs_size (l : List Tok) (i : Nat) : (backs l i).size = 2 := by unfold backs; split <;> rfl

theorem backward_any (a : Option Addr) (n c : Nat) (w : World) :
    Calls Try.prog 44 #[.slice a n c] w fun e w' => e = .returned (.func (.func 57) #[] #[.pointer (some ⟨w.heap.size, 0, none⟩)]) ∧ w' = w.alloc (.cells #[.slice a n c] 27) := by
  go_enter Try.func44, Try.ntmps44
  go_wp2
  go_ret
  exact ⟨rfl, rfl⟩

set_option maxRecDepth 100000 in
set_option maxHeartbeats 1000000 in
theorem backward_tells (l : List Tok) (a : Option Addr) (c bi : Nat) (S : Nat → Prop) (w : World) (hc : w.cell? ⟨bi, 0, none⟩ = some (.slice a l.length c)) (hr : TRow w a l) (hn : l.length ≤ 100000) (hS : ¬ S bi) (hSa : ∀ b o, a = some ⟨b, o, none⟩ → ¬ S b) :
    Tells Try.prog 57 #[.pointer (some ⟨bi, 0, none⟩)] l.length (backs l) S w := by
  intro y J W0 hB hsz hJ hY h0
  show Calls Try.prog 57 #[.func (.yield y) #[] #[], .pointer (some ⟨bi, 0, none⟩)] W0 _
  have lbi := lt_of_cell hc
  have F0 : Fr (fun j => S j ∨ w.heap.size ≤ j) w W0 := (Fr.ofBelow (S := fun _ => False) hB).mono (fun _ _ h => h.elim)
  have hrl : ∀ b o, a = some ⟨b, o, none⟩ → 0 < l.length → b < w.heap.size := fun b o e h => by
    obtain ⟨b', o', e', d, _⟩ := hr 0 h
    rw [e] at e'
    injection e' with e'
    injection e' with e1 e2
    rw [e1]
    exact lt_of_cell d
  obtain ⟨n, hnn⟩ : ∃ n, n = l.length := ⟨_, rfl⟩
  have HN := Lib.hid hnn
  have RD := Lib.hid (fun W (f : Fr (fun j => S j ∨ w.heap.size ≤ j) w W) => show W.cell? ⟨bi, 0, none⟩ = some (.slice a n c) ∧ ∀ k (h : k < n), ∃ b o, a = some ⟨b, o, none⟩ ∧ W.cell? ⟨b, o + k * 2, none⟩ = some (.int .i64 (l[k]'(HN.out ▸ h)).k) ∧ W.cell? ⟨b, o + k * 2 + 1, none⟩ = some (.string (l[k]'(HN.out ▸ h)).t) from
    ⟨by rw [hnn]; exact cells_fr f hc (by rintro (h | h); exact hS h; omega), fun k h => (hr.fr f (fun b o e => by
      rintro (h2 | h2)
      · exact hSa b o e h2
      · have := hrl b o e (by omega); omega)) k (hnn ▸ h)⟩)
  have BK := Lib.hid (backs_at l)
  rw [← hnn] at hn hY ⊢
  have HJ := Lib.hid hJ
  have HY := Lib.hid hY
  have H0 := Lib.hid (And.intro F0 h0)
  have c0 := (RD.out W0 F0).1
  clear hJ hY h0 hc hr hS hSa F0 hrl hB hnn
  refine (callsIn_wide (n := 2)).1 (callsIn_of_wp Try.func57 rfl trivial ?_ rfl)
  simp only [Try.ntmps57, List.size_toArray, List.length_cons, List.length_nil, Nat.reduceAdd, Nat.reduceSub, Array.replicate_succ, Array.replicate_zero, List.push_toArray, List.append_toArray, List.nil_append, List.cons_append]
  gi_wp2
  gi_loopw [3] (fun v3 wr => ∃ (i : Nat) (Y : Nat → Prop), v3 = .int .i64 ((n : Int) - 1 - i) ∧ i ≤ n ∧ Fr (fun j => S j ∨ w.heap.size ≤ j) w wr ∧ W0.heap.size ≤ wr.heap.size ∧ (∀ j, Y j → W0.heap.size ≤ j) ∧ J i Y wr) (fun v _ => (intOf v + 1).toNat)
  case atStart => exact ⟨0, _, by simp, Nat.zero_le _, H0.out.1, Nat.le_refl _, fun _ h => h.elim, H0.out.2⟩
  case round =>
    obtain ⟨i, Y, rfl, hi, hF, hFsz, hYs, hJi⟩ := hrel
    by_cases hlt : i < n
    · obtain ⟨k, hk⟩ : ∃ k : Nat, k = n - 1 - i := ⟨_, rfl⟩
      have hk1 : (n : Int) - 1 - i = (k : Int) := by omega
      have hkn : k < n := by omega
      rw [hk1]
      obtain ⟨b', o', e', d0, d1⟩ := (RD.out wr hF).2 k hkn
      subst e'
      have c1 := (RD.out wr hF).1
      have lb' := lt_of_cell d0
      have hkl : k < l.length := by have := HN.out; omega
      have hki : k + i + 1 = l.length := by have := HN.out; omega
      have bk := BK.out i k hkl hki
      have HYi := HY.out i Y wr hlt hJi
      rw [bk] at HYi
      have R := Lib.hid (And.intro hF hYs)
      obtain ⟨fn, tmps, assign, body, hy, hR⟩ := HYi
      have HK := Lib.hid (And.intro hk hk1)
      clear hF hYs hJi bk hk hk1 hki
      gi_wp2_with fail
      refine hR.mono ?_
      rintro e w4 ⟨rfl, Y', hJ4, hY4, f4⟩
      have R4 := Lib.hid (show Fr (fun j => S j ∨ w.heap.size ≤ j) w w4 ∧ W0.heap.size ≤ w4.heap.size ∧ (∀ j, Y' j → W0.heap.size ≤ j) ∧ J (i + 1) Y' w4 from by
        have h1 := R.out.1
        have h2 := R.out.2
        have hw := h1.size
        refine ⟨h1.then_ f4 ?_, Nat.le_trans hFsz f4.size, ?_, hJ4⟩
        · rintro j hj (e | e | e)
          · exact .inl e
          · exact .inr e.1
          · exact .inr (by have := h2 j e; omega)
        · intro j hj
          rcases (hY4 j hj).1 with e | e
          · exact h2 j e
          · have := hFsz; omega)
      clear hy hR hJ4 hY4 f4 R
      gi_wp2
      go_roundw
      case rel => exact ⟨i + 1, Y', by rw [show (n : Int) - 1 - ((i + 1 : Nat) : Int) = (k : Int) - 1 by have := HK.out.1; omega], by omega, R4.out.1, R4.out.2.1, R4.out.2.2.1, R4.out.2.2.2⟩
      case measure => (simp [intOf]) <;> omega
    · obtain rfl : i = n := by omega
      have R := Lib.hid hJi
      clear hF hYs hJi
      gi_wp2
      go_end0
      exact ⟨⟨_, rfl⟩, Y, R.out⟩
end Go.Proofs.Ytegakecncpfnnaa
