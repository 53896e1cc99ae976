/-
  What package rlp's reading holds in memory: its variable, the stack of lists that are open, their rows of items. Plain lemmas about the model's worlds, no program. No condition.
-/
import Derived.Test.YtaddlobmmmafaaaRlpH
import Derived.Test.YtaddlobmmmafaaaRlpS
namespace Go.Proofs.Ytaddlobmmmafaaa
open Go.RowKit

/-- Block b is a reading. -/
def R5 (w : World) (b : Nat) (s : ByteArray) (at_ : Nat) (depth left : Int) (sv : Value) : Prop :=
  w.heap[b]? = some (.cells #[.string s, .int .i64 at_, .int .i64 depth, .int .i64 left, sv] 47 (0, 0))
section
variable {w w' : World} {b at_ : Nat} {s : ByteArray} {depth left : Int} {sv : Value}
theorem R5.lt (h : R5 w b s at_ depth left sv) : b < w.heap.size := lt_of_block h
theorem R5.c0 (h : R5 w b s at_ depth left sv) : w.cell? ⟨b, 0, none⟩ = some (.string s) := by unfold R5 at h; simp [World.cell?, h]
theorem R5.c1 (h : R5 w b s at_ depth left sv) : w.cell? ⟨b, 1, none⟩ = some (.int .i64 at_) := by unfold R5 at h; simp [World.cell?, h]
theorem R5.c2 (h : R5 w b s at_ depth left sv) : w.cell? ⟨b, 2, none⟩ = some (.int .i64 depth) := by unfold R5 at h; simp [World.cell?, h]
theorem R5.c3 (h : R5 w b s at_ depth left sv) : w.cell? ⟨b, 3, none⟩ = some (.int .i64 left) := by unfold R5 at h; simp [World.cell?, h]
theorem R5.c4 (h : R5 w b s at_ depth left sv) : w.cell? ⟨b, 4, none⟩ = some sv := by unfold R5 at h; simp [World.cell?, h]
theorem R5.free (h : R5 w b s at_ depth left sv) (i : Nat) : w.frozen? ⟨b, i, none⟩ = false := by unfold R5 at h; simp [World.frozen?, h]
theorem R5.keep (h : R5 w b s at_ depth left sv) (hb : w'.heap[b]? = w.heap[b]?) : R5 w' b s at_ depth left sv := hb.trans h
theorem R5.set1 (h : R5 w b s at_ depth left sv) (n : Nat) : R5 (w.setCell ⟨b, 1, none⟩ (.int .i64 n)) b s n depth left sv := (set_cells (i := 1) h _).trans rfl
theorem R5.set3 (h : R5 w b s at_ depth left sv) (n : Int) : R5 (w.setCell ⟨b, 3, none⟩ (.int .i64 n)) b s at_ depth n sv := (set_cells (i := 3) h _).trans rfl
theorem R5.set4 (h : R5 w b s at_ depth left sv) (u : Value) : R5 (w.setCell ⟨b, 4, none⟩ u) b s at_ depth left u := (set_cells (i := 4) h _).trans rfl
end

/-- A list that is open while it is read: where it ends, what was read of it, what is still to come behind the next item; its row. -/
structure Fo where
  e : Nat
  done : List T
  todo : List T
  sv : Value
  xs : List Value
def Fo.p (f : Fo) : Value × Value := (.int .i64 f.e, f.sv)
/-- The plain frames. -/
def pf (F : List Fo) : List T.Fr2 := F.map fun f => (f.done, f.todo)
theorem pf_length (F : List Fo) : (pf F).length = F.length := by simp [pf]
/-- Block j belongs to the stack, or to a row of an open list. -/
def Ow (sv : Value) (F : List Fo) (j : Nat) : Prop := sv.ownBlock = some j ∨ ∃ f ∈ F, f.sv.ownBlock = some j
/-- The blocks in which whole items lie. -/
def Nn (B : Nat) (X : Nat → Prop) (sv : Value) (F : List Fo) (j : Nat) : Prop := B ≤ j ∧ ¬ X j ∧ ¬ Ow sv F j
/-- The memory of a reading, all of it but its variable in blocks from B on, none of X. -/
structure Rs (B : Nat) (X : Nat → Prop) (w : World) (b : Nat) (s : ByteArray) (at_ : Nat) (depth left : Int) (F : List Fo) (sv : Value) : Prop where
  r : R5 w b s at_ depth left sv
  bB : b < B
  own : Stk w B 69 sv (F.map Fo.p)
  rows : ∀ f ∈ F, w.ownsRow B 24 3 f.sv f.done.length f.xs ∧ Got w (Nn B X sv F) f.done f.xs
  apart : F.Pairwise (fun f g => ∀ j, f.sv.ownBlock = some j → g.sv.ownBlock ≠ some j)
  stk : ∀ f ∈ F, ∀ j, f.sv.ownBlock = some j → sv.ownBlock ≠ some j
  nx : ∀ j, Ow sv F j → ¬ X j
  sz : B ≤ w.heap.size

section
variable {B b at_ : Nat} {X : Nat → Prop} {w w' : World} {s : ByteArray} {depth left : Int} {F r : List Fo} {f : Fo} {sv : Value}
theorem Rs.ow (h : Rs B X w b s at_ depth left F sv) : ∀ j, Ow sv F j → B ≤ j ∧ j < w.heap.size := by
  rintro j (e | ⟨f, hf, e⟩)
  · exact h.own.block j e
  · exact (h.rows f hf).1.lt j e
/-- What turns no block of the reading's, and no item's. -/
theorem Rs.keep (h : Rs B X w b s at_ depth left F sv) (hs : w.heap.size ≤ w'.heap.size) (hb : w'.heap[b]? = w.heap[b]?) (hk : ∀ j, B ≤ j → j < w.heap.size → ¬ X j → w'.heap[j]? = w.heap[j]?) : Rs B X w' b s at_ depth left F sv := by
  have hko : ∀ j, Ow sv F j → w'.heap[j]? = w.heap[j]? := fun j hj => hk j (h.ow j hj).1 (h.ow j hj).2 (h.nx j hj)
  refine ⟨h.r.keep hb, h.bB, ?_, fun f hf => ⟨?_, ?_⟩, h.apart, h.stk, h.nx, Nat.le_trans h.sz hs⟩
  · refine ⟨h.own.1, ?_⟩
    rcases h.own.2 with g | ⟨g, cap, cur, hv, hb, hg, hr⟩
    · exact .inl g
    · exact .inr ⟨g, cap, cur, hv, hb, (hko g (.inl (by rw [hv]; rfl))).trans hg, hr⟩
  · refine ⟨(h.rows f hf).1.1, ?_⟩
    rcases (h.rows f hf).1.2 with g | ⟨g, cap, cur, hv, hb, hg, hr⟩
    · exact .inl g
    · exact .inr ⟨g, cap, cur, hv, hb, (hko g (.inr ⟨f, hf, by rw [hv]; rfl⟩)).trans hg, hr⟩
  · exact (h.rows f hf).2.keep hs fun g hg hl => ⟨hg, hk g hg.1 hl hg.2.1⟩
theorem Rs.bel (h : Rs B X w b s at_ depth left F sv) (f : Below w.heap.size w w') : Rs B X w' b s at_ depth left F sv :=
  h.keep f.size (f.block b h.r.lt) fun j _ hj _ => f.block j hj
/-- More blocks are none of its. -/
theorem Rs.more (h : Rs B X w b s at_ depth left F sv) {Y : Nat → Prop} (hY : ∀ j, j < w.heap.size → Y j → X j) : Rs B Y w b s at_ depth left F sv :=
  ⟨h.r, h.bB, h.own, fun f hf => ⟨(h.rows f hf).1, (h.rows f hf).2.keep (Nat.le_refl _) fun _ hg hl => ⟨⟨hg.1, fun hy => hg.2.1 (hY _ hl hy), hg.2.2⟩, rfl⟩⟩, h.apart, h.stk, fun j hj hy => h.nx j hj (hY j (h.ow j hj).2 hy), h.sz⟩
/-- The variable is turned. -/
theorem Rs.turn (h : Rs B X w b s at_ depth left F sv) {at' : Nat} {left' : Int} (hr : R5 w' b s at' depth left' sv) (f : Fr (fun j => j = b) w w') : Rs B X w' b s at' depth left' F sv := by
  have hb := h.bB
  have hko : ∀ j, Ow sv F j → w'.heap[j]? = w.heap[j]? := fun j hj => f.block j (h.ow j hj).2 (by have := (h.ow j hj).1; omega)
  refine ⟨hr, h.bB, h.own.fr f (fun j hj e => by have := h.own.block j hj; omega), fun g hg => ⟨own_fr (h.rows g hg).1 f (fun j e => by omega), ?_⟩, h.apart, h.stk, h.nx, Nat.le_trans h.sz f.size⟩
  exact (h.rows g hg).2.keep f.size fun j hj hl => ⟨hj, f.block j hl (by have := hj.1; omega)⟩
end
end Go.Proofs.Ytaddlobmmmafaaa
