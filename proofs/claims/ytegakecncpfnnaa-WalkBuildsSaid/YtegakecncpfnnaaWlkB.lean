/-
  What walk's Build holds in memory (layer 10): a stack of rows of items, one of each list that is open; a row of tokens of one's own that grows. Plain lemmas about the model's worlds, and the operation append. No condition.
-/
import Derived.Test.YtegakecncpfnnaaWlkT
import Derived.Test.YtegakecncpfnnaaRlpS
namespace Go.Proofs.Ytegakecncpfnnaa
open Go.RowKit

/-- The slice sv owns these values, one a cell (the inmost one first). -/
def Sk1 (w : World) (B : Nat) (e : TypeId) (sv : Value) (l : List Value) : Prop := w.ownsRow B e 1 sv l.length l.reverse
section
variable {w w' : World} {B : Nat} {e : TypeId} {sv x : Value} {l r : List Value}
theorem Sk1.slice (h : Sk1 w B e sv l) : ∃ a c, sv = .slice a l.length c := by
  rcases h.2 with ⟨h, h0⟩ | ⟨g, cap, cur, h, _⟩
  · exact ⟨_, _, by rw [h, h0]⟩
  · exact ⟨_, _, h⟩
theorem Sk1.block (h : Sk1 w B e sv l) : ∀ j, sv.ownBlock = some j → B ≤ j ∧ j < w.heap.size := fun j hj => h.lt j hj
theorem Sk1.fr (h : Sk1 w B e sv l) {S : Nat → Prop} (f : Fr S w w') (hs : ∀ j, sv.ownBlock = some j → ¬ S j) : Sk1 w' B e sv l := own_keep h f hs
theorem Sk1.form (h : Sk1 w B e sv (x :: r)) : ∃ g c, sv = .slice (some ⟨g, 0, none⟩) (r.length + 1) c ∧ r.length + 1 ≤ c := by
  rcases h.2 with ⟨_, h0⟩ | ⟨g, cap, cur, hv, _, _, hc, _⟩
  · simp at h0
  · exact ⟨g, cap, hv, hc⟩
variable {g c : Nat}
theorem Sk1.lt (h : Sk1 w B e (.slice (some ⟨g, 0, none⟩) (r.length + 1) c) (x :: r)) : B ≤ g ∧ g < w.heap.size := h.block g rfl
theorem Sk1.top (h : Sk1 w B e (.slice (some ⟨g, 0, none⟩) (r.length + 1) c) (x :: r)) : w.cell? ⟨g, r.length, none⟩ = some x := by
  rw [World.ownsRow.cellAt h r.length (by simp), List.reverse_cons, List.getElem?_append_right (by simp)]
  simp
theorem Sk1.free (h : Sk1 w B e (.slice (some ⟨g, 0, none⟩) (r.length + 1) c) (x :: r)) (j : Nat) : w.frozen? ⟨g, j, none⟩ = false := World.ownsRow.frozenAt h j
theorem Sk1.set (h : Sk1 w B e (.slice (some ⟨g, 0, none⟩) (r.length + 1) c) (x :: r)) (u : Value) : Sk1 (w.setCell ⟨g, r.length, none⟩ u) B e (.slice (some ⟨g, 0, none⟩) (r.length + 1) c) (u :: r) := by
  have := (World.ownsRow.stored h r.length u).1
  rw [List.reverse_cons, show r.length = r.reverse.length + 0 by simp, set_app] at this
  unfold Sk1
  rw [List.reverse_cons]
  rw [show r.reverse.length + 0 = r.length by simp] at this
  exact this
theorem Sk1.pop (h : Sk1 w B e (.slice (some ⟨g, 0, none⟩) (r.length + 1) c) (x :: r)) : Sk1 w B e (.slice (some ⟨g, 0, none⟩) r.length c) r := by
  refine ⟨by simp, ?_⟩
  rcases h.2 with ⟨h, _⟩ | ⟨g', cap', cur, h', hb, hg, hc, hm, hz, htake⟩
  · cases h
  · injection h' with h1 _ h3
    injection h1 with h1
    injection h1 with h1
    subst h1 h3
    refine .inr ⟨g, c, cur, rfl, hb, hg, by simp only [List.length_cons] at hc; omega, hm, hz, ?_⟩
    have h2 := congrArg (List.take (r.length * 1)) htake
    rw [List.take_take, Nat.min_eq_left (by simp only [List.length_cons]; omega), List.reverse_cons, List.take_append_of_le_length (by simp), List.take_of_length_le (l := r.reverse) (by simp)] at h2
    exact h2
end
/-- append of one value: the row is the old one, or a new block. -/
theorem append_one (w : World) (B : Nat) (t ty e : TypeId) (z : Value) (nb : Nat) (hnb : nb ≤ 64) (ht : Try.prog.underlying t = some (.slice e)) (hinfo : (Try.prog.info? e).map (fun i => (i.zero, i.size, i.bytes)) = some (some z, 1, nb)) (hzc : z.cells.size = 1)
    (v : Value) (l : List Value) (hown : Sk1 w B e v l) (a : Nat) (c : Nat) (x : Value)
    (hx : w.cell? ⟨a, 0, none⟩ = some x) (o1 : x.oneCell' = true) (hn : l.length ≤ 100000) (hB : B ≤ w.heap.size) :
    ∃ v' w', (Builtin.append_ #[t, t] ty #[v, .slice (some ⟨a, 0, none⟩) 1 c]).run Try.prog w = .ok v' w' ∧ Sk1 w' B e v' (x :: l) ∧ w.grownBy w' v.ownBlock ∧
      (v'.ownBlock = v.ownBlock ∨ v'.ownBlock = some w.heap.size) := by
  obtain ⟨i0, hi, hz0, hz1, hz2⟩ := info_parts hinfo
  have hnews : ∀ j u, [x][j]? = some u → w.cell? ((⟨a, 0, none⟩ : Addr).add j) = some u := by
    intro j u h
    match j, h with
    | 0, h => simp at h; subst h; rw [Addr.add_lit]; exact hx
  have o1' : ∀ u ∈ [x], u.oneCell' = true := by intro u hu; simp at hu; rw [hu]; exact o1
  have hb1 : (l.length + 1) * nb ≤ 64 * 100001 := Nat.le_trans (Nat.mul_le_mul (show l.length + 1 ≤ 100001 by omega) hnb) (by omega)
  obtain ⟨v', w', h1, h2, h3, _⟩ := run_append_own (P := Try.prog) w B t ty e i0 z 1 nb ht hi hz0 hz1 hz2 hzc (by decide) v l.length l.reverse hown ⟨a, 0, none⟩ 1 c [x] rfl hnews o1' (by unfold maxLen; omega) (by omega) hB
  refine ⟨v', w', h1, by unfold Sk1; rw [List.reverse_cons]; exact h2, h3, ?_⟩
  rcases hown.2 with ⟨rfl, h0⟩ | ⟨g, cap, cur, rfl, hbg, hg, hnc, hcm, hcs, htake⟩
  · have hr := run_append_nil (P := Try.prog) w t ty e i0 z ht hi hz0 ⟨a, 0, none⟩ 1 c [x] (by rw [hz1]; rfl) hnews (by omega) (by omega) (by rw [hz2]; omega)
    rw [h1] at hr
    injection hr with hr _
    right
    rw [hr]
    rfl
  · by_cases hroom : l.length + 1 ≤ cap
    · have hr := run_append_room (P := Try.prog) w t ty e i0 ht hi g l.length cap cur hg ⟨a, 0, none⟩ 1 c [x] (by rw [hz1]; rfl) hnews o1' hroom (by rw [hz1, hcs]; simp; omega)
      rw [h1] at hr
      injection hr with hr _
      left
      rw [hr]
      rfl
    · have hr := run_append_grow (P := Try.prog) w t ty e i0 z ht hi hz0 ⟨g, 0, none⟩ l.length cap l.reverse (by rw [hz1]; exact hown.1) (World.ownsRow.cells hown (g := g) rfl) ⟨a, 0, none⟩ 1 c [x] (by rw [hz1]; rfl) hnews (by omega) (by omega) (growslice_fits (by omega) (by rw [hz2]; omega))
      rw [h1] at hr
      injection hr with hr _
      right
      rw [hr]
      rfl

/-- A list that is open while it is built: what it has, its row. -/
structure Fb where
  done : List T
  sv : Value
  xs : List Value
/-- Block j belongs to the stack, or to a row of an open list. -/
def Ob (sv : Value) (F : List Fb) (j : Nat) : Prop := sv.ownBlock = some j ∨ ∃ f ∈ F, f.sv.ownBlock = some j
/-- The blocks in which whole items lie. -/
def Nb (B : Nat) (X : Nat → Prop) (sv : Value) (F : List Fb) (j : Nat) : Prop := B ≤ j ∧ ¬ X j ∧ ¬ Ob sv F j
/-- The memory of a building: its variable b, and all else in blocks from B on, none of X. -/
structure Bs (B : Nat) (X : Nat → Prop) (w : World) (b : Nat) (F : List Fb) (sv : Value) : Prop where
  v : V w b 55 sv
  xb : X b
  own : Sk1 w B 22 sv (F.map Fb.sv)
  rows : ∀ f ∈ F, w.ownsRow B 24 3 f.sv f.done.length f.xs ∧ Got w (Nb B X sv F) f.done f.xs
  apart : F.Pairwise (fun f g => ∀ j, f.sv.ownBlock = some j → g.sv.ownBlock ≠ some j)
  stk : ∀ f ∈ F, ∀ j, f.sv.ownBlock = some j → sv.ownBlock ≠ some j
  nx : ∀ j, Ob sv F j → ¬ X j
  sz : B ≤ w.heap.size

section
variable {B b : Nat} {X : Nat → Prop} {w w' : World} {F r : List Fb} {f : Fb} {sv : Value}
theorem Bs.ow (h : Bs B X w b F sv) : ∀ j, Ob sv F j → B ≤ j ∧ j < w.heap.size := by
  rintro j (e | ⟨f, hf, e⟩)
  · exact h.own.block j e
  · exact (h.rows f hf).1.lt j e
/-- What turns no block of the building's, and no item's. -/
theorem Bs.bel (h : Bs B X w b F sv) (f : Below w.heap.size w w') : Bs B X w' b F sv := by
  have ff : Fr (fun _ => False) w w' := Fr.ofBelow f
  exact ⟨h.v.bel f h.v.lt, h.xb, h.own.fr ff (fun _ _ e => e), fun g hg => ⟨own_keep (h.rows g hg).1 ff (fun _ _ e => e), (h.rows g hg).2.keep f.size fun j hj hl => ⟨hj, f.block j hl⟩⟩, h.apart, h.stk, h.nx, Nat.le_trans h.sz f.size⟩
theorem Bs.top {c g : Nat} (h : Bs B X w b (f :: r) (.slice (some ⟨g, 0, none⟩) (r.length + 1) c)) : w.cell? ⟨g, r.length, none⟩ = some f.sv ∧ (∀ j, w.frozen? ⟨g, j, none⟩ = false) ∧ B ≤ g ∧ g < w.heap.size := by
  have h1 : Sk1 w B 22 (.slice (some ⟨g, 0, none⟩) (r.length + 1) c) (f.sv :: r.map Fb.sv) := h.own
  rw [show r.length = (r.map Fb.sv).length by simp] at h1
  have h2 := h1.top
  rw [List.length_map] at h2
  exact ⟨h2, fun j => h1.free j, h1.lt⟩
theorem Bs.form (h : Bs B X w b (f :: r) sv) : ∃ g c, sv = .slice (some ⟨g, 0, none⟩) (r.length + 1) c ∧ r.length + 1 ≤ c := by
  have h1 : Sk1 w B 22 sv (f.sv :: r.map Fb.sv) := h.own
  have := h1.form
  rwa [List.length_map] at this
variable {g c : Nat}
/-- The inmost list has got one more item, its row perhaps a new one. -/
theorem Bs.grow (h : Bs B X w b (f :: r) (.slice (some ⟨g, 0, none⟩) (r.length + 1) c)) {x : T} {vx : Value} (hx : InP w (Nb B X (.slice (some ⟨g, 0, none⟩) (r.length + 1) c) (f :: r)) x vx)
    (v' : Value) (own' : w'.ownsRow B 24 3 v' (f.done.length + 1) (f.xs ++ [.string x.s, .bool x.l, vx])) (gr : Fr (fun j => f.sv.ownBlock = some j) w w')
    (ob : v'.ownBlock = f.sv.ownBlock ∨ ∀ j, v'.ownBlock = some j → w.heap.size ≤ j) (hX : ∀ j, w.heap.size ≤ j → ¬ X j) :
    Bs B X (w'.setCell ⟨g, r.length, none⟩ v') b (⟨f.done ++ [x], v', f.xs ++ [.string x.s, .bool x.l, vx]⟩ :: r) (.slice (some ⟨g, 0, none⟩) (r.length + 1) c) ∧
    Fr (fun j => f.sv.ownBlock = some j ∨ j = g) w (w'.setCell ⟨g, r.length, none⟩ v') := by
  have hfm : f ∈ f :: r := List.mem_cons_self
  have hgB := h.own.block g rfl
  have nf : ∀ j, f.sv.ownBlock = some j → B ≤ j ∧ j < w.heap.size := fun j hj => (h.rows f hfm).1.lt j hj
  have hfg : f.sv.ownBlock ≠ some g := fun e => h.stk f hfm g e rfl
  have nb : ∀ j, Ob (.slice (some ⟨g, 0, none⟩) (r.length + 1) c) (f :: r) j → j ≠ b := fun j hj e => h.nx j hj (e ▸ h.xb)
  have fs : Fr (fun j => j = g) w' (w'.setCell ⟨g, r.length, none⟩ v') := fr_set _
  have ff : Fr (fun j => f.sv.ownBlock = some j ∨ j = g) w (w'.setCell ⟨g, r.length, none⟩ v') := (gr.mono fun j _ e => .inl e).then_ fs fun j _ e => .inr e
  have hv : ∀ j, v'.ownBlock = some j → B ≤ j ∧ (f.sv.ownBlock = some j ∨ w.heap.size ≤ j) := fun j hj => by
    rcases ob with e | e
    · exact ⟨(nf j (e ▸ hj)).1, .inl (e ▸ hj)⟩
    · exact ⟨Nat.le_trans h.sz (e j hj), .inr (e j hj)⟩
  have har := List.pairwise_cons.1 h.apart
  have hvg : v'.ownBlock ≠ some g := fun e => by
    rcases (hv g e).2 with e | e
    · exact hfg e
    · omega
  have hvr : ∀ q ∈ r, ∀ j, v'.ownBlock = some j → q.sv.ownBlock ≠ some j := fun q hq j hj e => by
    rcases (hv j hj).2 with e' | e'
    · exact har.1 q hq j e' e
    · have := ((h.rows q (List.mem_cons_of_mem _ hq)).1.lt j e).2; omega
  have nn : ∀ j, Nb B X (.slice (some ⟨g, 0, none⟩) (r.length + 1) c) (f :: r) j → j < w.heap.size →
      Nb B X (.slice (some ⟨g, 0, none⟩) (r.length + 1) c) (⟨f.done ++ [x], v', f.xs ++ [.string x.s, .bool x.l, vx]⟩ :: r) j ∧ (w'.setCell ⟨g, r.length, none⟩ v').heap[j]? = w.heap[j]? := by
    rintro j ⟨h1, h2, h3⟩ hl
    have e1 : f.sv.ownBlock ≠ some j := fun e => h3 (.inr ⟨f, hfm, e⟩)
    have e2 : j ≠ g := fun e => h3 (.inl (by rw [e]; rfl))
    refine ⟨⟨h1, h2, ?_⟩, ff.block j hl (by rintro (e | e); exact e1 e; exact e2 e)⟩
    rintro (e | ⟨q, hq, e⟩)
    · exact h3 (.inl e)
    · rcases List.mem_cons.1 hq with rfl | hq
      · rcases (hv j e).2 with e | e
        · exact e1 e
        · omega
      · exact h3 (.inr ⟨q, List.mem_cons_of_mem _ hq, e⟩)
  refine ⟨⟨h.v.keep (ff.block b h.v.lt ?_), h.xb, ?_, ?_, ?_, ?_, ?_, Nat.le_trans h.sz ff.size⟩, ff⟩
  · rintro (e | e)
    · exact nb b (.inr ⟨f, hfm, e⟩) rfl
    · exact nb b (.inl (by rw [e]; rfl)) rfl
  · have h1 : Sk1 w' B 22 (.slice (some ⟨g, 0, none⟩) (r.length + 1) c) (f.sv :: r.map Fb.sv) := h.own.fr gr (fun j hj e => by
      have : j = g := by injection hj with hj; exact hj.symm
      subst this
      exact hfg e)
    rw [show r.length = (r.map Fb.sv).length by simp] at h1 ⊢
    exact h1.set v'
  · intro q hq
    rcases List.mem_cons.1 hq with rfl | hq
    · refine ⟨?_, ?_⟩
      · have := own_keep own' fs (fun j hj e => hvg (e ▸ hj))
        rwa [show f.done.length + 1 = (f.done ++ [x]).length by simp] at this
      · exact Got.more ((h.rows f hfm).2.keep ff.size nn) (h.rows f hfm).1.1 (InP.keep ff.size nn x vx hx)
    · have hq' := h.rows q (List.mem_cons_of_mem _ hq)
      refine ⟨own_keep hq'.1 ff ?_, hq'.2.keep ff.size nn⟩
      rintro j hj (e | e)
      · exact har.1 q hq j e hj
      · exact h.stk q (List.mem_cons_of_mem _ hq) j hj (by rw [e]; rfl)
  · exact List.pairwise_cons.2 ⟨fun q hq j hj => hvr q hq j hj, har.2⟩
  · intro q hq j hj
    rcases List.mem_cons.1 hq with rfl | hq
    · intro e
      have : j = g := by injection e with e; exact e.symm
      subst this
      exact hvg hj
    · exact h.stk q (List.mem_cons_of_mem _ hq) j hj
  · rintro j (e | ⟨q, hq, e⟩)
    · exact h.nx j (.inl e)
    · rcases List.mem_cons.1 hq with rfl | hq
      · rcases (hv j e).2 with e | e
        · exact h.nx j (.inr ⟨f, hfm, e⟩)
        · exact hX j e
      · exact h.nx j (.inr ⟨q, List.mem_cons_of_mem _ hq, e⟩)
/-- The inmost list is closed: it is an item now. -/
theorem Bs.shut (h : Bs B X w b (f :: r) (.slice (some ⟨g, 0, none⟩) (r.length + 1) c)) :
    Bs B X (w.setCell ⟨b, 0, none⟩ (.slice (some ⟨g, 0, none⟩) r.length c)) b r (.slice (some ⟨g, 0, none⟩) r.length c) ∧
    (f.done.length ≤ 100000 → ∀ a n c1 c2, f.sv = .slice a n c1 → InP (w.setCell ⟨b, 0, none⟩ (.slice (some ⟨g, 0, none⟩) r.length c)) (Nb B X (.slice (some ⟨g, 0, none⟩) r.length c) r) (.mk ⟨#[]⟩ true f.done) (.slice a n c2)) := by
  have hfm : f ∈ f :: r := List.mem_cons_self
  have ff : Fr (fun j => j = b) w (w.setCell ⟨b, 0, none⟩ (.slice (some ⟨g, 0, none⟩) r.length c)) := fr_set _
  have har := List.pairwise_cons.1 h.apart
  have hp : Sk1 w B 22 (.slice (some ⟨g, 0, none⟩) r.length c) (r.map Fb.sv) := by
    have h1 : Sk1 w B 22 (.slice (some ⟨g, 0, none⟩) (r.length + 1) c) (f.sv :: r.map Fb.sv) := h.own
    rw [show r.length = (r.map Fb.sv).length by simp] at h1 ⊢
    exact h1.pop
  have ow : ∀ j, Ob (.slice (some ⟨g, 0, none⟩) r.length c) r j → Ob (.slice (some ⟨g, 0, none⟩) (r.length + 1) c) (f :: r) j := by
    rintro j (e | ⟨q, hq, e⟩)
    · exact .inl e
    · exact .inr ⟨q, List.mem_cons_of_mem _ hq, e⟩
  have nb : ∀ j, Ob (.slice (some ⟨g, 0, none⟩) (r.length + 1) c) (f :: r) j → j ≠ b := fun j hj e => h.nx j hj (e ▸ h.xb)
  have nn : ∀ j, Nb B X (.slice (some ⟨g, 0, none⟩) (r.length + 1) c) (f :: r) j → j < w.heap.size → Nb B X (.slice (some ⟨g, 0, none⟩) r.length c) r j ∧ (w.setCell ⟨b, 0, none⟩ (.slice (some ⟨g, 0, none⟩) r.length c)).heap[j]? = w.heap[j]? :=
    fun j hj hl => ⟨⟨hj.1, hj.2.1, fun e => hj.2.2 (ow j e)⟩, ff.block j hl (fun e => hj.2.1 (e ▸ h.xb))⟩
  refine ⟨⟨h.v.set _, h.xb, ?_, ?_, har.2, fun q hq j hj e => h.stk q (List.mem_cons_of_mem _ hq) j hj e, fun j hj => h.nx j (ow j hj), Nat.le_trans h.sz ff.size⟩, ?_⟩
  · exact hp.fr ff (fun j hj e => nb j (.inl hj) e)
  · intro q hq
    have hq' := h.rows q (List.mem_cons_of_mem _ hq)
    exact ⟨own_keep hq'.1 ff (fun j hj e => nb j (.inr ⟨q, List.mem_cons_of_mem _ hq, hj⟩) e), hq'.2.keep ff.size nn⟩
  · intro hdl a n c1 c2 hs
    have hf := h.rows f hfm
    have hl : InP (w.setCell ⟨b, 0, none⟩ (.slice (some ⟨g, 0, none⟩) r.length c)) (Nb B X (.slice (some ⟨g, 0, none⟩) r.length c) r) (.mk ⟨#[]⟩ true f.done) f.sv := by
      refine Got.list (hf.2.keep ff.size nn) (own_keep hf.1 ff (fun j hj e => nb j (.inr ⟨f, hfm, hj⟩) e)) ?_ (by unfold maxLen; omega) _ (by decide) _
      intro j hj
      refine ⟨(hf.1.lt j hj).1, h.nx j (.inr ⟨f, hfm, hj⟩), ?_⟩
      rintro (e | ⟨q, hq, e⟩)
      · exact h.stk f hfm j hj e
      · exact har.1 q hq j hj e
    rw [hs] at hl
    obtain ⟨h1, h2, a', c', hv, hr⟩ := hl
    injection hv with e1 e2 e3
    subst e1 e2
    exact ⟨h1, h2, _, _, rfl, hr⟩
/-- One more list is open. -/
theorem Bs.open (h : Bs B X w b F sv) {sv' : Value} (own' : Sk1 w' B 22 sv' (.slice none 0 0 :: F.map Fb.sv)) (gr : Fr (fun j => sv.ownBlock = some j) w w')
    (ob : sv'.ownBlock = sv.ownBlock ∨ ∀ j, sv'.ownBlock = some j → w.heap.size ≤ j) (hX : ∀ j, w.heap.size ≤ j → ¬ X j) :
    Bs B X (w'.setCell ⟨b, 0, none⟩ sv') b (⟨[], .slice none 0 0, []⟩ :: F) sv' ∧ Fr (fun j => sv.ownBlock = some j ∨ j = b) w (w'.setCell ⟨b, 0, none⟩ sv') := by
  have nb : ∀ j, Ob sv F j → j ≠ b := fun j hj e => h.nx j hj (e ▸ h.xb)
  have fs : Fr (fun j => j = b) w' (w'.setCell ⟨b, 0, none⟩ sv') := fr_set _
  have ff : Fr (fun j => sv.ownBlock = some j ∨ j = b) w (w'.setCell ⟨b, 0, none⟩ sv') := (gr.mono fun j _ e => .inl e).then_ fs fun j _ e => .inr e
  have hbl := h.v.lt
  have hs' : ∀ j, sv'.ownBlock = some j → sv.ownBlock = some j ∨ w.heap.size ≤ j := fun j hj => by
    rcases ob with e | e
    · exact .inl (e ▸ hj)
    · exact .inr (e j hj)
  have nn : ∀ j, Nb B X sv F j → j < w.heap.size → Nb B X sv' (⟨[], .slice none 0 0, []⟩ :: F) j ∧ (w'.setCell ⟨b, 0, none⟩ sv').heap[j]? = w.heap[j]? := by
    rintro j ⟨h1, h2, h3⟩ hl
    refine ⟨⟨h1, h2, ?_⟩, ff.block j hl ?_⟩
    · rintro (e | ⟨q, hq, e⟩)
      · rcases hs' j e with e | e
        · exact h3 (.inl e)
        · omega
      · rcases List.mem_cons.1 hq with rfl | hq
        · cases e
        · exact h3 (.inr ⟨q, hq, e⟩)
    · rintro (e | e)
      · exact h3 (.inl e)
      · exact h2 (e ▸ h.xb)
  refine ⟨⟨?_, h.xb, ?_, ?_, ?_, ?_, ?_, Nat.le_trans h.sz ff.size⟩, ff⟩
  · exact V.set (h.v.keep (gr.block b hbl (fun e => nb b (.inl e) rfl))) _
  · refine Sk1.fr (w := w') own' fs (fun j hj e => ?_)
    rcases hs' j hj with e' | e'
    · exact nb j (.inl e') e
    · omega
  · intro q hq
    rcases List.mem_cons.1 hq with rfl | hq
    · exact ⟨World.ownsRow_nil _ _ _ _, Got.nil _ _⟩
    · have hq' := h.rows q hq
      refine ⟨own_keep hq'.1 ff ?_, hq'.2.keep ff.size nn⟩
      rintro j hj (e | e)
      · exact h.stk q hq j hj e
      · exact nb j (.inr ⟨q, hq, hj⟩) e
  · exact List.pairwise_cons.2 ⟨fun q hq j hj => (by cases hj), h.apart⟩
  · intro q hq j hj
    rcases List.mem_cons.1 hq with rfl | hq
    · cases hj
    · intro e
      rcases hs' j e with e | e
      · exact h.stk q hq j hj e
      · have := ((h.rows q hq).1.lt j hj).2; omega
  · rintro j (e | ⟨q, hq, e⟩)
    · rcases hs' j e with e | e
      · exact h.nx j (.inl e)
      · exact hX j e
    · rcases List.mem_cons.1 hq with rfl | hq
      · cases e
      · exact h.nx j (.inr ⟨q, hq, e⟩)
end

/-- The cells of tokens, one behind the other. -/
def cellsT : List Tok → List Value | [] => [] | a :: r => .int .i64 a.k :: .string a.t :: cellsT r
theorem cellsT_append (a b : List Tok) : cellsT (a ++ b) = cellsT a ++ cellsT b := by
  induction a with
  | nil => rfl
  | cons p r ih => simp [cellsT, ih]
theorem cellsT_length (a : List Tok) : (cellsT a).length = a.length * 2 := by
  induction a with
  | nil => rfl
  | cons p r ih => simp only [cellsT, List.length_cons, ih]; omega
theorem cellsT_at : ∀ (l : List Tok) (i : Nat) (h : i < l.length), (cellsT l)[i * 2]? = some (.int .i64 l[i].k) ∧ (cellsT l)[i * 2 + 1]? = some (.string l[i].t)
  | a :: r, 0, _ => by simp [cellsT]
  | a :: r, i + 1, h => by
    have := cellsT_at r i (by simpa using h)
    rw [show (i + 1) * 2 = i * 2 + 1 + 1 by omega]
    simpa [cellsT] using this
/-- v owns a row of these tokens. -/
def Tw (w : World) (B : Nat) (e : TypeId) (v : Value) (l : List Tok) : Prop := w.ownsRow B e 2 v l.length (cellsT l)
section
variable {w w' : World} {B : Nat} {e : TypeId} {v : Value} {l : List Tok}
theorem Tw.nil (w : World) (B : Nat) (e : TypeId) : Tw w B e (.slice none 0 0) [] := World.ownsRow_nil _ _ _ _
theorem Tw.slice (h : Tw w B e v l) : ∃ a c, v = .slice a l.length c := by
  rcases h.2 with ⟨h, h0⟩ | ⟨g, cap, cur, h, _⟩
  · exact ⟨_, _, by rw [h, h0]⟩
  · exact ⟨_, _, h⟩
theorem Tw.block (h : Tw w B e v l) : ∀ j, v.ownBlock = some j → B ≤ j ∧ j < w.heap.size := fun j hj => h.lt j hj
theorem Tw.fr (h : Tw w B e v l) {S : Nat → Prop} (f : Fr S w w') (hs : ∀ j, v.ownBlock = some j → ¬ S j) : Tw w' B e v l := own_keep h f hs
theorem Tw.tsl (h : Tw w B e v l) : TSl w v l := by
  rcases h.2 with ⟨hv, h0⟩ | ⟨g, cap, cur, hv, hb, hg, hc, hm, hz, ht⟩
  · exact ⟨none, 0, by rw [hv, h0], by omega, fun i hi => by omega⟩
  · refine ⟨some ⟨g, 0, none⟩, cap, hv, hc, fun i hi => ⟨g, 0, rfl, ?_⟩⟩
    obtain ⟨c0, c1⟩ := cellsT_at l i hi
    rw [hv] at h
    rw [Nat.zero_add, World.ownsRow.cellAt h (i * 2) (by omega), World.ownsRow.cellAt h (i * 2 + 1) (by omega)]
    exact ⟨c0, c1⟩
end
/-- append of one token: the row is the old one, or a new block. -/
theorem append_tok (w : World) (B : Nat) (t ty e : TypeId) (z : Value) (ht : Try.prog.underlying t = some (.slice e)) (hinfo : (Try.prog.info? e).map (fun i => (i.zero, i.size, i.bytes)) = some (some z, 2, 24)) (hzc : z.cells.size = 2)
    (v : Value) (l : List Tok) (hown : Tw w B e v l) (a : Nat) (c : Nat) (x : Tok)
    (hx : w.cell? ⟨a, 0, none⟩ = some (.int .i64 x.k)) (hy : w.cell? ⟨a, 1, none⟩ = some (.string x.t)) (hn : l.length ≤ 100000) (hB : B ≤ w.heap.size) :
    ∃ v' w', (Builtin.append_ #[t, t] ty #[v, .slice (some ⟨a, 0, none⟩) 1 c]).run Try.prog w = .ok v' w' ∧ Tw w' B e v' (l ++ [x]) ∧ w.grownBy w' v.ownBlock ∧
      (v'.ownBlock = v.ownBlock ∨ v'.ownBlock = some w.heap.size) := by
  obtain ⟨i0, hi, hz0, hz1, hz2⟩ := info_parts hinfo
  have hnews : ∀ j u, [Value.int .i64 x.k, Value.string x.t][j]? = some u → w.cell? ((⟨a, 0, none⟩ : Addr).add j) = some u := by
    intro j u h
    match j, h with
    | 0, h => simp at h; subst h; rw [Addr.add_lit]; exact hx
    | 1, h => simp at h; subst h; rw [Addr.add_lit]; exact hy
  have o1 : ∀ u ∈ [Value.int .i64 x.k, Value.string x.t], u.oneCell' = true := by intro u hu; simp at hu; rcases hu with rfl | rfl <;> rfl
  obtain ⟨v', w', h1, h2, h3, _⟩ := run_append_own (P := Try.prog) w B t ty e i0 z 2 24 ht hi hz0 hz1 hz2 hzc (by decide) v l.length (cellsT l) hown ⟨a, 0, none⟩ 1 c [Value.int .i64 x.k, Value.string x.t] rfl hnews o1 (by unfold maxLen; omega) (by omega) hB
  refine ⟨v', w', h1, by unfold Tw; rw [cellsT_append, List.length_append]; exact h2, h3, ?_⟩
  rcases hown.2 with ⟨rfl, h0⟩ | ⟨g, cap, cur, rfl, hbg, hg, hnc, hcm, hcs, htake⟩
  · have hr := run_append_nil (P := Try.prog) w t ty e i0 z ht hi hz0 ⟨a, 0, none⟩ 1 c [Value.int .i64 x.k, Value.string x.t] (by rw [hz1]; rfl) hnews (by omega) (by omega) (by rw [hz2]; omega)
    rw [h1] at hr
    injection hr with hr _
    right
    rw [hr]
    rfl
  · by_cases hroom : l.length + 1 ≤ cap
    · have hr := run_append_room (P := Try.prog) w t ty e i0 ht hi g l.length cap cur hg ⟨a, 0, none⟩ 1 c [Value.int .i64 x.k, Value.string x.t] (by rw [hz1]; rfl) hnews o1 hroom (by rw [hz1, hcs]; simp; omega)
      rw [h1] at hr
      injection hr with hr _
      left
      rw [hr]
      rfl
    · have hr := run_append_grow (P := Try.prog) w t ty e i0 z ht hi hz0 ⟨g, 0, none⟩ l.length cap (cellsT l) (by rw [hz1]; exact hown.1) (World.ownsRow.cells hown (g := g) rfl) ⟨a, 0, none⟩ 1 c [Value.int .i64 x.k, Value.string x.t] (by rw [hz1]; rfl) hnews (by omega) (by omega) (growslice_fits (by omega) (by rw [hz2]; omega))
      rw [h1] at hr
      injection hr with hr _
      right
      rw [hr]
      rfl
end Go.Proofs.Ytegakecncpfnnaa
