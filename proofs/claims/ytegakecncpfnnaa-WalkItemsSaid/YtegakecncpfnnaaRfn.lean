/-
  A range over a function in plain walks: the statement by one law, for an iterator that keeps cells of its own and a loop body that never leaves early; a region within a round, walked as everywhere. Plain lemmas about the model's statement, no program. No condition beyond those named.
-/
import Derived.Test.YtegakecncpfnnaaFr
import Derived.Test.YtegakecncpfnnaaHeld
import Derived.Test.YtegakecncpfnnaaQuit
import Derived.RangeFuncRecord
import Derived.RangeFuncSeq
import Derived.OrdersIn
import Derived.TacticsIn
namespace Go.Proofs.Ytegakecncpfnnaa
open Go.RowKit

theorem fr_putObj {S : Nat → Prop} {a w : World} (h : Fr S a w) {l : Nat} (hl : S l ∨ a.heap.size ≤ l) (o : Obj) : Fr S a (w.putObj l o) :=
  h.then_ (T := fun j => j = l) ⟨rfl, rfl, rfl, by simp, fun j _ hne => World.putObj_heap_other hne⟩
    fun j hj e => by
      subst e
      rcases hl with hl | hl
      · exact hl
      · exact absurd hj (Nat.not_lt.2 hl)

/-! A region within a round. -/
/-- No operation of the region is a 'defer'. -/
def noDefer (ops : Array Oper) : Bool := ops.all fun o => match o.op with | .defer _ => false | _ => true
theorem noDefer_at {ops : Array Oper} (h : noDefer ops = true) {i : Nat} {o : Oper} (ho : ops[i]? = some o) (c : Call) : o.op ≠ .defer c := by
  intro e
  have := Array.all_eq_true_iff_forall_mem.1 h o (Array.mem_of_getElem? ho)
  rw [e] at this
  cases this

section
variable {P : Program} {ops : Array Oper} {Q : Exit → Act → World → Prop} {md : Region.Mode} {l n : Nat}
theorem round_oper {o : Oper} {a : Act} {w : World} {K : Act → World → Prop} (hd : ∀ c, o.op ≠ .defer c) (h : o.wp P a w K Q) : o.wpIn (Fence.wide.inRound l) n P a w K Q := by
  refine ⟨fun _ _ => trivial, ?_⟩
  rw [Fence.inRound_round, Oper.semAt_some l _ _ hd]
  unfold Oper.wp at h
  generalize (execOp a.eval o).run P w = r at *
  cases r with
  | ok x w' =>
    cases x <;> simp only [Oper.upon] at h <;> simp only [Oper.uponIn] <;>
      first
        | exact h
        | exact ⟨fun hh => by simp [Fence.wide] at hh, callsIn_wide.2 h⟩
        | exact ⟨fun hh => by simp [Fence.wide] at hh, fun c cs _ => let ⟨v, w1, r, s⟩ := h c cs; ⟨v, w1, r, stepsIn_wide.2 s⟩⟩
  | halt x w' => cases x <;> simp only [Oper.upon] at h <;> simp only [Oper.uponIn] <;> exact h

theorem round_op {i : Nat} {a : Act} {w : World} {K K' : Act → World → Prop} (hd : noDefer ops = true) (hQ : ¬ LetsOut Q) (hK : ∀ a w, K a w → K' a w) (h : wpOp P ops Q i K a w) : wpOpIn (Fence.wide.inRound l) n P ops Q i K' a w := by
  unfold wpOp at h
  unfold wpOpIn
  cases ho : ops[i]? with
  | none => simp only [ho] at h; exact hK _ _ h
  | some o =>
    simp only [ho] at h
    show if Region.wanted o (yielded ops a.tmps) = true then _ else _
    split
    · rename_i hw
      rw [if_pos hw] at h
      rcases h with h | h
      · exact round_oper (noDefer_at hd ho) (Oper.wp_mono hK h)
      · exact absurd h.2 hQ
    · rename_i hw
      rw [if_neg hw] at h
      exact ⟨fun _ _ => trivial, hK _ _ h⟩

theorem round_any (hd : noDefer ops = true) (hQ : ¬ LetsOut Q) : ∀ (fuel : Nat) (listed : Array Bool) (a : Act) (w : World), wpAny P md ops Q fuel listed a w → wpAnyIn (Fence.wide.inRound l) n P md ops Q fuel listed a w
  | 0, _, _, _, h => h
  | fuel + 1, _, _, _, h => ⟨h.1, fun i hi => round_op hd hQ (fun a' w' h' => round_any hd hQ fuel _ a' w' h') (h.2 i hi)⟩

/-- A region that draws its order, within a round, in the words of the held regions. -/
theorem round_region_held {S : World → Prop} {id : Nat} {a : Act} {w : World} (hm : P.follows .mixedOrders = true) (hd : noDefer ops = true) (hQ : ¬ LetsOut Q) (hS : S w.drew)
    (h : S w.drew → wpAnyH P .any ops Q S ops.size (Array.replicate ops.size false) a w.drew) : (Code.region id ops true).wpIn (Fence.wide.inRound l) n P Q a w :=
  wpIn_region_any hm (round_any hd hQ _ _ _ _ (wpAny_of_held _ _ _ _ (h hS)))

/-- .. in the words of quiet regions with a last part. -/
theorem round_quiet_tail {id : Nat} {a : Act} {w : World} {k : List Oper} (m : Nat) (hm : P.follows .mixedOrders = true) (hB : Region.lexTailB .any k.toArray m = true) (hd : noDefer k.toArray = true) (hQ : ¬ LetsOut Q) (W : World) (hW : W = w)
    (h : wpQuiet P k.toArray (fun w' => ∃ q, w' = W.drewN q) (fun a' => ∀ q, wpList P k.toArray Q (k.drop m) a' (W.drewN q)) (k.take m) a) : (Code.region id k.toArray true).wpIn (Fence.wide.inRound l) n P Q a w := by
  subst hW
  exact wpIn_region_any hm (round_any hd hQ _ _ _ _ (any_quiet_tail m hB h))

theorem round_list (hQ : ¬ LetsOut Q) : ∀ (k : List Oper), noDefer k.toArray = true → ∀ (a : Act) (w : World), wpList P ops Q k a w → wpListIn (Fence.wide.inRound l) n P ops Q k a w
  | [], _, _, _, h => h
  | o :: k, hk, a, w, h => by
    have hk' : noDefer k.toArray = true := by
      simp only [noDefer, List.all_toArray, List.all_cons, Bool.and_eq_true] at hk ⊢
      exact hk.2
    unfold wpList at h
    unfold wpListIn
    split
    · rename_i hw
      rw [if_pos hw] at h
      rcases h with h | h
      · exact round_oper (noDefer_at hk (i := 0) rfl) (Oper.wp_mono (fun a' w' h' => round_list hQ k hk' a' w' h') h)
      · exact absurd h.2 hQ
    · rename_i hw
      rw [if_neg hw] at h
      exact ⟨fun _ _ => trivial, round_list hQ k hk' _ _ h⟩
/-- A region that keeps its order, within a round. -/
theorem round_region {id : Nat} {k : List Oper} {a : Act} {w : World} (hd : noDefer k.toArray = true) (hQ : ¬ LetsOut Q) (h : wpList P k.toArray Q k a w) : (Code.region id k.toArray false).wpIn (Fence.wide.inRound l) n P Q a w :=
  wpIn_region_lit (round_list hQ k hd a w h)
end

/-- A region outside a round, to be walked with what calls a round. -/
theorem dip {P : Program} {Q : Exit → Act → World → Prop} {id : Nat} {ops : Array Oper} {d : Bool} {a : Act} {w : World} (h : (Code.region id ops d).wpIn Fence.wide 2 P Q a w) : (Code.region id ops d).wp P Q a w := wpIn_wide.1 h

theorem dip_seq {P : Program} {Q : Exit → Act → World → Prop} {id : Nat} {ops : Array Oper} {d : Bool} {c : Code} {a : Act} {w : World}
    (h : ∀ K : Act → World → Prop, (∀ a w, c.wp P Q a w → K a w) → (Code.region id ops d).wpIn Fence.wide 2 P (Exit.then K Q) a w) : (Code.seq (Code.region id ops d) c).wp P Q a w :=
  wp_seq (wpIn_wide.1 (h _ fun _ _ hh => hh))

/-! The statement. -/
/-- Where a round ends: off its end; what the caller holds goes on; of what lay only blocks below B have changed. -/
def roundEnds (I : Nat → World → Prop) (B i : Nat) (W : World) : Exit → Act → World → Prop
  | .normal, _, W' => I (i + 1) W' ∧ Fr (fun j => j < B) W W'
  | _, _, _ => False
theorem roundEnds_shut {I : Nat → World → Prop} {B i : Nat} {W : World} : ¬ LetsOut (roundEnds I B i W) := fun ⟨_, _, h⟩ => h
theorem roundEnds_then {I : Nat → World → Prop} {B i : Nat} {W : World} {K : Act → World → Prop} : ¬ LetsOut (Exit.then K (roundEnds I B i W)) := fun ⟨_, _, h⟩ => h

/-- What an iterator promises that tells N times: whatever the caller holds (J, which lets blocks beyond the start change) goes from 0 to N, one step a round. -/
def Told (P : Program) (gf : Nat) (lb : Array Value) (N : Nat) (encs : Nat → Array Value) (w : World) : Prop :=
  ∀ (l : Nat) (J : Nat → World → Prop) (W0 : World), Below w.heap.size w W0 → w.heap.size ≤ W0.heap.size →
    (∀ i A B, J i A → Fr (fun j => W0.heap.size ≤ j) A B → J i B) →
    (∀ i W, i < N → J i W → YieldAt Fence.wide 1 P l (encs i) W fun e W' => e = .returned (.bool true) ∧ J (i + 1) W' ∧ Fr (fun j => j < W0.heap.size) W W') →
    J 0 W0 → Calls P gf (#[.func (.yield l) #[] #[]] ++ lb) W0 fun e W' => (∃ v, e = .returned v) ∧ J N W'

theorem wp_rangeFr {P : Program} {Q : Exit → Act → World → Prop} {g : Operand} {ps : Array Tmp} {assign body : Code} {a : Act} {w : World} {gf : Nat} {lb : Array Value}
    (hg : a.eval g = .func (.func gf) #[] lb) (eg : ∀ args w, (callFunc gf args).run P w = .ok (.enter gf args) w)
    {N : Nat} {encs : Nat → Array Value} (hseq : Told P gf lb N encs w) (hps : ∀ i, (encs i).size = ps.size)
    (I : Nat → World → Prop) (hI : ∀ i A B, I i A → Fr (fun j => w.heap.size ≤ j) A B → I i B) (h0 : I 0 w) (a₁ : Nat → Act)
    (hassign : ∀ (l i : Nat) (W : World) (K : Act → World → Prop), K (a₁ i) W →
      assign.wpIn (Fence.wide.inRound l) 1 P (Exit.then K (fun _ _ _ => False)) { tmps := (ps.zip (encs i)).foldl (fun t (p, v) => t.setIfInBounds p v) a.tmps, defers := [] } W)
    (hbody : ∀ (l i : Nat) (W : World), w.heap.size < W.heap.size → I i W → i < N → body.wpIn (Fence.wide.inRound l) 1 P (roundEnds I w.heap.size i W) (a₁ i) W)
    (hdone : ∀ (D : Nat) (W : World), w.heap.size ≤ D → I N W → W.heap[D]? = some (.deferred (some [])) → Q .normal { a with defers := { target := .collected D, args := #[] } :: a.defers } W) :
    (Code.rangeFunc g ps assign body).wp P Q a w := by
  refine (wpIn_wide (n := 3)).1 (wpIn_rangeFunc ?_)
  intro fn hfn
  obtain ⟨rec, hrec⟩ : ∃ rec : LoopState → Option Code → Loop, rec = fun st pe => { state := st, pending := pe, fn, tmps := a.tmps, params := ps, assign, body, defers := w.heap.size } := ⟨_, rfl⟩
  obtain ⟨W1, hW1⟩ : ∃ W1, W1 = (w.alloc (.deferred (some []))).alloc (.loop (rec .ready none)) := ⟨_, rfl⟩
  have z1 : W1.heap.size = w.heap.size + 1 + 1 := by rw [hW1]; simp
  have hL1 : W1.heap[w.heap.size + 1]? = some (.loop (rec .ready none)) := by
    rw [hW1]
    have := World.alloc_heap_new (w.alloc (.deferred (some []))) (.loop (rec .ready none))
    rwa [World.size_alloc] at this
  have hD1 : W1.heap[w.heap.size]? = some (.deferred (some [])) := by
    rw [hW1]
    exact (Below.heap_alloc _ _ _ (by simp)).trans (World.alloc_heap_new w _)
  have F1 : Fr (fun j => w.heap.size ≤ j) w W1 := by rw [hW1]; exact ((Fr.refl _ w).alloc _).alloc _
  refine ⟨w.heap.size + 1, [{ target := .collected w.heap.size, args := #[] }], W1, { target := .fn (.func gf) lb, args := #[.func (.yield (w.heap.size + 1)) #[] #[]] }, W1, gf,
    #[.func (.yield (w.heap.size + 1)) #[] #[]] ++ lb, W1, ?_, ?_, fun _ _ => trivial, ?_, fun h => by simp [Fence.wide] at h, callsIn_wide.2 ?_⟩
  · rw [hW1, hrec]
    exact run_enterLoop_outer _ _ _ _ _
  · simp only [resolve, hg]
    simp [go_sem]
  · simp [invoke, go_sem, eg]
  · have bring : ∀ {A B : World} {r : Nat} {o : Obj}, A.heap[r]? = some o → r < W1.heap.size → Fr (fun j => W1.heap.size ≤ j) A B → B.heap[r]? = some o := fun hA hr hf =>
      (hf.block _ (Array.getElem?_eq_some_iff.1 hA).1 (Nat.not_le.2 hr)).trans hA
    refine (hseq (w.heap.size + 1) (fun i W => I i W ∧ W.heap[w.heap.size + 1]? = some (.loop (rec .ready none)) ∧ W.heap[w.heap.size]? = some (.deferred (some []))) W1
      (F1.below (Nat.le_refl _) fun _ h => h) (by omega)
      (fun i A B hJ hf => ⟨hI i A B hJ.1 (hf.mono fun j _ hj => by omega), bring hJ.2.1 (by omega) hf, bring hJ.2.2 (by omega) hf⟩) ?_ ⟨hI 0 _ _ h0 F1, hL1, hD1⟩).mono ?_
    · rintro i W hi ⟨hiW, hl, hk⟩
      have hlt : w.heap.size + 1 < W.heap.size := (Array.getElem?_eq_some_iff.1 hl).1
      have hy := run_yield (P := P) (args := encs i) hl (by rw [hrec]; exact hps i)
      rw [hrec] at hy
      refine ⟨fn, _, assign, body, hy, roundIn_of_wpIn hfn (hassign _ i W _ ⟨_, run_beginRound hl (by rw [hrec]), ?_⟩)⟩
      obtain ⟨W2, hW2⟩ : ∃ W2, W2 = W.putObj (w.heap.size + 1) (.loop { rec .ready none with state := .busy }) := ⟨_, rfl⟩
      have hl2 : W2.heap[w.heap.size + 1]? = some (.loop { rec .ready none with state := .busy }) := by rw [hW2]; exact World.putObj_heap_same hlt
      have hk2 : W2.heap[w.heap.size]? = some (.deferred (some [])) := by rw [hW2]; exact (World.putObj_heap_other (by omega)).trans hk
      have f2 : ∀ S : Nat → Prop, S (w.heap.size + 1) → Fr S W W2 := fun S hS => by rw [hW2]; exact fr_putObj (Fr.refl _ W) (.inl hS) _
      have z2 : w.heap.size < W2.heap.size := by rw [hW2]; simp; omega
      rw [← hW2]
      refine Go.wpIn_mono (hbody _ i W2 z2 (hI i _ _ hiW (f2 _ (Nat.le_succ _))) hi) ?_
      rintro e a3 W3 hp
      cases e with
      | normal =>
        obtain ⟨hi3, f3⟩ := hp
        have hz2 : w.heap.size + 1 < W2.heap.size := (Array.getElem?_eq_some_iff.1 hl2).1
        have hl3 : W3.heap[w.heap.size + 1]? = some (.loop { rec .ready none with state := .busy }) := (f3.block _ hz2 (Nat.not_lt.2 (Nat.le_succ _))).trans hl2
        have hk3 : W3.heap[w.heap.size]? = some (.deferred (some [])) := (f3.block _ z2 (Nat.lt_irrefl _)).trans hk2
        have hr := run_endRound (P := P) none hl3
        refine ⟨_, _, hr, rfl, ⟨hI _ _ _ hi3 (fr_putObj (Fr.refl _ W3) (.inl (Nat.le_succ _)) _), ?_, ?_⟩, ?_⟩
        · rw [World.putObj_heap_same (Array.getElem?_eq_some_iff.1 hl3).1, hrec]
          rfl
        · exact (World.putObj_heap_other (by omega)).trans hk3
        · refine fr_putObj ((f2 (fun j => j < W1.heap.size) (show w.heap.size + 1 < W1.heap.size by omega)).trans (f3.mono fun j _ hj => ?_)) (.inl ?_) _
          · show j < W1.heap.size
            omega
          · show w.heap.size + 1 < W1.heap.size
            omega
      | ret => exact hp.elim
      | exit id => exact hp.elim
      | goto t => exact hp.elim
      | panic ch => exact hp.elim
      | outgrown => exact hp.elim
    · rintro e W2 ⟨⟨v, rfl⟩, hi, hl, hk⟩
      have hr := run_endLoop (P := P) hl (by rw [hrec]; simp)
      rw [hrec] at hr
      exact ⟨none, _, hr, hdone _ _ (Nat.le_refl _) (hI _ _ _ hi (fr_putObj (Fr.refl _ W2) (.inl (Nat.le_succ _)) _)) ((World.putObj_heap_other (by omega)).trans hk)⟩
end Go.Proofs.Ytegakecncpfnnaa
