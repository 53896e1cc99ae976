/-
  A range over a function in plain walks, for a loop that makes and turns memory of its own while the iterator makes and turns its own: the statement by one law. Plain lemmas about the model's statement, no program. No condition beyond those named.
-/
import Derived.Test.YtegakecncpfnnaaRfn
namespace Go.Proofs.Ytegakecncpfnnaa
open Go.RowKit

/-- Where a round ends: off its end; what the caller holds goes on; of what lay only blocks of S, and the caller's own, have changed. -/
def roundTo (I : Nat → (Nat → Prop) → World → Prop) (S Y : Nat → Prop) (i : Nat) (W : World) : Exit → Act → World → Prop
  | .normal, _, W' => ∃ Y' : Nat → Prop, I (i + 1) Y' W' ∧ (∀ j, Y' j → (Y j ∨ W.heap.size ≤ j) ∧ j < W'.heap.size) ∧ Fr (fun j => S j ∨ Y j) W W'
  | _, _, _ => False
theorem roundTo_shut {I : Nat → (Nat → Prop) → World → Prop} {S Y : Nat → Prop} {i : Nat} {W : World} : ¬ LetsOut (roundTo I S Y i W) := fun ⟨_, _, h⟩ => h
theorem roundTo_then {I : Nat → (Nat → Prop) → World → Prop} {S Y : Nat → Prop} {i : Nat} {W : World} {K : Act → World → Prop} : ¬ LetsOut (Exit.then K (roundTo I S Y i W)) := fun ⟨_, _, h⟩ => h

/-- What an iterator promises that tells N times: whatever the caller holds goes from 0 to N, one step a round; the iterator turns nothing of the start's, and none of the caller's own blocks Y; a round turns only S, what the statement itself has made, and the caller's own. -/
def Tells (P : Program) (gf : Nat) (lb : Array Value) (N : Nat) (encs : Nat → Array Value) (S : Nat → Prop) (w : World) : Prop :=
  ∀ (l : Nat) (J : Nat → (Nat → Prop) → World → Prop) (W0 : World), Below w.heap.size w W0 → w.heap.size ≤ W0.heap.size →
    (∀ i Y A B, J i Y A → Fr (fun j => W0.heap.size ≤ j ∧ ¬ Y j) A B → J i Y B) →
    (∀ i Y W, i < N → J i Y W → YieldAt Fence.wide 1 P l (encs i) W fun e W' => e = .returned (.bool true) ∧ ∃ Y' : Nat → Prop, J (i + 1) Y' W' ∧ (∀ j, Y' j → (Y j ∨ W.heap.size ≤ j) ∧ j < W'.heap.size) ∧
      Fr (fun j => S j ∨ (w.heap.size ≤ j ∧ j < W0.heap.size) ∨ Y j) W W') →
    J 0 (fun _ => False) W0 → Calls P gf (#[.func (.yield l) #[] #[]] ++ lb) W0 fun e W' => (∃ v, e = .returned v) ∧ ∃ Y, J N Y W'

theorem wp_rangeOwn {P : Program} {Q : Exit → Act → World → Prop} {g : Operand} {ps : Array Tmp} {assign body : Code} {a : Act} {w : World} {gf : Nat} {lb : Array Value}
    (hg : a.eval g = .func (.func gf) #[] lb) (eg : ∀ args w, (callFunc gf args).run P w = .ok (.enter gf args) w)
    {N : Nat} {encs : Nat → Array Value} {S : Nat → Prop} (hseq : Tells P gf lb N encs S w) (hS : ∀ j, S j → j < w.heap.size) (hps : ∀ i, (encs i).size = ps.size)
    (I : Nat → (Nat → Prop) → World → Prop) (hI : ∀ i Y A B, I i Y A → Fr (fun j => w.heap.size ≤ j ∧ ¬ Y j) A B → I i Y B) (h0 : I 0 (fun _ => False) w)
    (hround : ∀ (l i : Nat) (Y : Nat → Prop) (W : World), w.heap.size + 1 < W.heap.size → I i Y W → (∀ j, Y j → w.heap.size + 2 ≤ j ∧ j < W.heap.size) → i < N →
      assign.wpIn (Fence.wide.inRound l) 1 P (Exit.then (fun a1 W1 => Fr (fun _ => False) W W1 ∧ ∀ W2, Fr (fun j => j = w.heap.size + 1) W1 W2 → body.wpIn (Fence.wide.inRound l) 1 P (roundTo I S Y i W2) a1 W2) (fun _ _ _ => False))
        { tmps := (ps.zip (encs i)).foldl (fun t (p, v) => t.setIfInBounds p v) a.tmps, defers := [] } W)
    (hdone : ∀ (D : Nat) (Y : Nat → Prop) (W : World), w.heap.size ≤ D → D < W.heap.size → ¬ Y D → I N Y W → W.heap[D]? = some (.deferred (some [])) → Q .normal { a with defers := { target := .collected D, args := #[] } :: a.defers } W) :
    (Code.rangeFunc g ps assign body).wp P Q a w := by
  refine (wpIn_wide (n := 3)).1 (wpIn_rangeFunc ?_)
  intro fn hfn
  obtain ⟨rec, hrec⟩ : ∃ rec : LoopState → Option Code → Loop, rec = fun st pe => { state := st, pending := pe, fn, tmps := a.tmps, params := ps, assign, body, defers := w.heap.size } := ⟨_, rfl⟩
  obtain ⟨W1, hW1⟩ : ∃ W1, W1 = (w.alloc (.deferred (some []))).alloc (.loop (rec .ready none)) := ⟨_, rfl⟩
  have z1 : W1.heap.size = w.heap.size + 1 + 1 := by rw [hW1]; simp
  have hL1 : W1.heap[w.heap.size + 1]? = some (.loop (rec .ready none)) := by
    rw [hW1]
    have := World.alloc_heap_new (w.alloc (.deferred (some []))) (.loop (rec .ready none))
    rwa [World.size_alloc] at this
  have hD1 : W1.heap[w.heap.size]? = some (.deferred (some [])) := by
    rw [hW1]
    exact (Below.heap_alloc _ _ _ (by simp)).trans (World.alloc_heap_new w _)
  have F1 : Fr (fun _ => False) w W1 := by rw [hW1]; exact ((Fr.refl _ w).alloc _).alloc _
  refine ⟨w.heap.size + 1, [{ target := .collected w.heap.size, args := #[] }], W1, { target := .fn (.func gf) lb, args := #[.func (.yield (w.heap.size + 1)) #[] #[]] }, W1, gf,
    #[.func (.yield (w.heap.size + 1)) #[] #[]] ++ lb, W1, ?_, ?_, fun _ _ => trivial, ?_, fun h => by simp [Fence.wide] at h, callsIn_wide.2 ?_⟩
  · rw [hW1, hrec]
    exact run_enterLoop_outer _ _ _ _ _
  · simp only [resolve, hg]
    simp [go_sem]
  · simp [invoke, go_sem, eg]
  · refine (hseq (w.heap.size + 1) (fun i Y W => I i Y W ∧ W.heap[w.heap.size + 1]? = some (.loop (rec .ready none)) ∧ W.heap[w.heap.size]? = some (.deferred (some [])) ∧ ∀ j, Y j → w.heap.size + 2 ≤ j ∧ j < W.heap.size) W1
      (F1.below (Nat.le_refl _) fun _ h => h.elim) (by omega) ?_ ?_ ⟨hI 0 _ _ _ h0 (F1.mono fun _ _ h => h.elim), hL1, hD1, fun _ h => h.elim⟩).mono ?_
    · rintro i Y A B ⟨h1, h2, h3, h4⟩ hf
      refine ⟨hI i Y A B h1 (hf.mono fun j _ hj => ⟨by omega, hj.2⟩), ?_, ?_, fun j hj => ⟨(h4 j hj).1, Nat.lt_of_lt_of_le (h4 j hj).2 hf.size⟩⟩
      · exact (hf.block _ (Array.getElem?_eq_some_iff.1 h2).1 (fun e => by omega)).trans h2
      · exact (hf.block _ (Array.getElem?_eq_some_iff.1 h3).1 (fun e => by omega)).trans h3
    · rintro i Y W hi ⟨hiW, hl, hk, hY⟩
      have hlt : w.heap.size + 1 < W.heap.size := (Array.getElem?_eq_some_iff.1 hl).1
      have hy := run_yield (P := P) (args := encs i) hl (by rw [hrec]; exact hps i)
      rw [hrec] at hy
      refine ⟨fn, _, assign, body, hy, roundIn_of_wpIn hfn (Go.wpIn_mono (hround (w.heap.size + 1) i Y W hlt hiW hY hi) ?_)⟩
      rintro e a1 Wa hp
      cases e with
      | normal =>
        obtain ⟨fa, hbody⟩ := hp
        have hla : Wa.heap[w.heap.size + 1]? = some (.loop (rec .ready none)) := (fa.block _ hlt (fun h => h)).trans hl
        have hka : Wa.heap[w.heap.size]? = some (.deferred (some [])) := (fa.block _ (by omega) (fun h => h)).trans hk
        have hlta : w.heap.size + 1 < Wa.heap.size := (Array.getElem?_eq_some_iff.1 hla).1
        obtain ⟨W2, hW2⟩ : ∃ W2, W2 = Wa.putObj (w.heap.size + 1) (.loop { rec .ready none with state := .busy }) := ⟨_, rfl⟩
        have hl2 : W2.heap[w.heap.size + 1]? = some (.loop { rec .ready none with state := .busy }) := by rw [hW2]; exact World.putObj_heap_same hlta
        have hk2 : W2.heap[w.heap.size]? = some (.deferred (some [])) := by rw [hW2]; exact (World.putObj_heap_other (by omega)).trans hka
        have f2 : Fr (fun j => j = w.heap.size + 1) Wa W2 := by rw [hW2]; exact fr_putObj (S := fun j => j = w.heap.size + 1) (Fr.refl _ Wa) (.inl rfl) _
        refine ⟨_, run_beginRound hla (by rw [hrec]), ?_⟩
        rw [← hW2]
        refine Go.wpIn_mono (hbody W2 f2) ?_
        rintro e a3 W3 hp
        have hz2 : W2.heap.size = Wa.heap.size := by rw [hW2]; simp
        cases e with
        | normal =>
          obtain ⟨Y', hi3, hY3, f3⟩ := hp
          have nl : ¬ (S (w.heap.size + 1) ∨ Y (w.heap.size + 1)) := by
            rintro (e | e)
            · have := hS _ e; omega
            · have := (hY _ e).1; omega
          have nd : ¬ (S w.heap.size ∨ Y w.heap.size) := by
            rintro (e | e)
            · have := hS _ e; omega
            · have := (hY _ e).1; omega
          have hl3 : W3.heap[w.heap.size + 1]? = some (.loop { rec .ready none with state := .busy }) := (f3.block _ (by omega) nl).trans hl2
          have hk3 : W3.heap[w.heap.size]? = some (.deferred (some [])) := (f3.block _ (by omega) nd).trans hk2
          have hr := run_endRound (P := P) none hl3
          have f4 : ∀ o, Fr (fun j => j = w.heap.size + 1) W3 (W3.putObj (w.heap.size + 1) o) := fun o => fr_putObj (S := fun j => j = w.heap.size + 1) (Fr.refl _ W3) (.inl rfl) _
          have hY4 : ∀ j, Y' j → w.heap.size + 2 ≤ j ∧ j < W3.heap.size := fun j hj => by
            obtain ⟨h1, h2⟩ := hY3 j hj
            have := fa.size
            rcases h1 with h1 | h1
            · exact ⟨(hY j h1).1, h2⟩
            · exact ⟨by omega, h2⟩
          refine ⟨_, _, hr, rfl, Y', ⟨hI _ _ _ _ hi3 ((f4 _).mono fun j _ hj => ⟨by omega, fun e => by have := (hY4 j e).1; omega⟩), ?_, ?_, fun j hj => ⟨(hY4 j hj).1, by have := (hY4 j hj).2; simpa using this⟩⟩, ?_, ?_⟩
          · rw [World.putObj_heap_same (Array.getElem?_eq_some_iff.1 hl3).1, hrec]
            rfl
          · exact (World.putObj_heap_other (by omega)).trans hk3
          · intro j hj
            obtain ⟨h1, h2⟩ := hY3 j hj
            have := fa.size
            refine ⟨h1.elim .inl (fun h => .inr (by omega)), by simpa using h2⟩
          · refine (((fa.mono fun j _ h => h.elim).trans (f2.mono fun j _ hj => .inr (.inl ⟨by omega, by omega⟩))).trans (f3.mono fun j _ hj => ?_)).trans ((f4 _).mono fun j _ hj => .inr (.inl ⟨by omega, by omega⟩))
            rcases hj with hj | hj
            · exact .inl hj
            · exact .inr (.inr hj)
        | ret => exact hp.elim
        | exit id => exact hp.elim
        | goto t => exact hp.elim
        | panic ch => exact hp.elim
        | outgrown => exact hp.elim
      | ret => exact hp.elim
      | exit id => exact hp.elim
      | goto t => exact hp.elim
      | panic ch => exact hp.elim
      | outgrown => exact hp.elim
    · rintro e W2 ⟨⟨v, rfl⟩, Y, hi, hl, hk, hY⟩
      have hr := run_endLoop (P := P) hl (by rw [hrec]; simp)
      rw [hrec] at hr
      have hD : w.heap.size < W2.heap.size := (Array.getElem?_eq_some_iff.1 hk).1
      exact ⟨none, _, hr, hdone _ Y _ (Nat.le_refl _) (by simpa using hD) (fun e => by have := (hY _ e).1; omega) (hI _ _ _ _ hi (fr_putObj (S := fun j => w.heap.size ≤ j ∧ ¬ Y j) (Fr.refl _ W2) (.inl ⟨by omega, fun e => by have := (hY _ e).1; omega⟩) _)) ((World.putObj_heap_other (by omega)).trans hk)⟩
theorem zip1 (p : Tmp) (x : Value) (t : Array Value) : ((#[p] : Array Tmp).zip #[x]).foldl (fun t (p, v) => t.setIfInBounds p v) t = t.setIfInBounds p x := by simp
theorem zip2 (p q : Tmp) (x y : Value) (t : Array Value) : ((#[p, q] : Array Tmp).zip #[x, y]).foldl (fun t (p, v) => t.setIfInBounds p v) t = (t.setIfInBounds p x).setIfInBounds q y := by simp
end Go.Proofs.Ytegakecncpfnnaa
