/-
  What package rlp's close turns in memory: an item is laid into the inmost open list, which may then be closed itself. Plain lemmas about the model's worlds, no program. No condition.
-/
import Derived.Test.YtaddlobmmmafaaaRlpN
namespace Go.Proofs.Ytaddlobmmmafaaa
open Go.RowKit

/-- Where open lists end, if the next byte behind the item at hand is at p. -/
def Ends : List Fo → Nat → Prop | [], _ => True | f :: r, p => f.e = p + (T.puts f.todo).length ∧ Ends r f.e
theorem cnt_plug : ∀ (F : List T.Fr2) (y : T), F.length + T.cnt y ≤ T.cnt (T.plug F y)
  | [], y => by simp [T.plug]
  | (d, rest) :: F, y => by
    have h1 := cnt_plug F (T.mk ⟨#[]⟩ true (d ++ y :: rest))
    simp only [T.plug, List.length_cons, T.cnt, T.cnts_append, T.cnts] at h1 ⊢
    omega
theorem cnt_top (d rest : List T) (F : List T.Fr2) (y : T) : F.length + T.cnts d + T.cnt y + T.cnts rest + 1 ≤ T.cnt (T.plug ((d, rest) :: F) y) := by
  have h1 := cnt_plug F (T.mk ⟨#[]⟩ true (d ++ y :: rest))
  simp only [T.plug, T.cnt, T.cnts_append, T.cnts] at h1 ⊢
  omega
theorem own_keep {w w' : World} {B n size : Nat} {e : TypeId} {v : Value} {xs : List Value} (h : w.ownsRow B e size v n xs) {S : Nat → Prop} (f : Fr S w w') (hs : ∀ j, v.ownBlock = some j → ¬ S j) : w'.ownsRow B e size v n xs := by
  refine ⟨h.1, ?_⟩
  rcases h.2 with h | ⟨g, cap, cur, hv, hb, hg, hr⟩
  · exact .inl h
  · exact .inr ⟨g, cap, cur, hv, hb, (f.block g (lt_of_block hg) (hs g (by rw [hv]; rfl))).trans hg, hr⟩
theorem stored3 {w : World} {B n g cap : Nat} {e : TypeId} {xs : List Value} {x y z : Value} (h : w.ownsRow B e 3 (.slice (some ⟨g, 0, none⟩) (n + 1) cap) (n + 1) (xs ++ [x, y, z])) (hl : xs.length = n * 3) (x' y' z' : Value) :
    (((w.setCell ⟨g, n * 3, none⟩ x').setCell ⟨g, n * 3 + 1, none⟩ y').setCell ⟨g, n * 3 + 2, none⟩ z').ownsRow B e 3 (.slice (some ⟨g, 0, none⟩) (n + 1) cap) (n + 1) (xs ++ [x', y', z']) := by
  have h1 := (h.stored (n * 3) x').1
  rw [show n * 3 = xs.length + 0 by omega, set_app] at h1
  have h2 := (h1.stored (n * 3 + 1) y').1
  rw [show n * 3 + 1 = xs.length + 1 by omega, set_app] at h2
  have h3 := (h2.stored (n * 3 + 2) z').1
  rw [show n * 3 + 2 = xs.length + 2 by omega, set_app] at h3
  rw [show n * 3 = xs.length by omega]
  exact h3

section
variable {B b at_ : Nat} {X : Nat → Prop} {w w' : World} {s : ByteArray} {depth left : Int} {r : List Fo} {f : Fo} {g c : Nat}
/-- The inmost list has got one more item, its row perhaps a new one. -/
theorem Rs.grow (h : Rs B X w b s at_ depth left (f :: r) (.slice (some ⟨g, 0, none⟩) (r.length + 1) c)) {x : T} {vx : Value} (hx : InP w (Nn B X (.slice (some ⟨g, 0, none⟩) (r.length + 1) c) (f :: r)) x vx)
    (v' : Value) (own' : w'.ownsRow B 24 3 v' (f.done.length + 1) (f.xs ++ [.string x.s, .bool x.l, vx])) (gr : Fr (fun j => f.sv.ownBlock = some j) w w')
    (ob : v'.ownBlock = f.sv.ownBlock ∨ ∀ j, v'.ownBlock = some j → w.heap.size ≤ j) (hX : ∀ j, w.heap.size ≤ j → ¬ X j) :
    Rs B X (w'.setCell ⟨g, r.length * 2 + 1, none⟩ v') b s at_ depth left (⟨f.e, f.done ++ [x], f.todo, v', f.xs ++ [.string x.s, .bool x.l, vx]⟩ :: r) (.slice (some ⟨g, 0, none⟩) (r.length + 1) c) ∧
    Fr (fun j => f.sv.ownBlock = some j ∨ j = g) w (w'.setCell ⟨g, r.length * 2 + 1, none⟩ v') := by
  have hfm : f ∈ f :: r := List.mem_cons_self
  have hgB := h.own.block g rfl
  have nf : ∀ j, f.sv.ownBlock = some j → B ≤ j ∧ j < w.heap.size := fun j hj => (h.rows f hfm).1.lt j hj
  have hfg : f.sv.ownBlock ≠ some g := fun e => h.stk f hfm g e rfl
  have hbB := h.bB
  have fs : Fr (fun j => j = g) w' (w'.setCell ⟨g, r.length * 2 + 1, none⟩ v') := fr_set _
  have ff : Fr (fun j => f.sv.ownBlock = some j ∨ j = g) w (w'.setCell ⟨g, r.length * 2 + 1, none⟩ v') := (gr.mono fun j _ e => .inl e).then_ fs fun j _ e => .inr e
  have hv : ∀ j, v'.ownBlock = some j → B ≤ j ∧ (f.sv.ownBlock = some j ∨ w.heap.size ≤ j) := fun j hj => by
    rcases ob with e | e
    · exact ⟨(nf j (e ▸ hj)).1, .inl (e ▸ hj)⟩
    · exact ⟨Nat.le_trans h.sz (e j hj), .inr (e j hj)⟩
  have hvg : v'.ownBlock ≠ some g := fun e => by
    rcases (hv g e).2 with e | e
    · exact hfg e
    · omega
  have har := List.pairwise_cons.1 h.apart
  have hvr : ∀ q ∈ r, ∀ j, v'.ownBlock = some j → q.sv.ownBlock ≠ some j := fun q hq j hj e => by
    rcases (hv j hj).2 with e' | e'
    · exact har.1 q hq j e' e
    · have := ((h.rows q (List.mem_cons_of_mem _ hq)).1.lt j e).2; omega
  have nn : ∀ j, Nn B X (.slice (some ⟨g, 0, none⟩) (r.length + 1) c) (f :: r) j → j < w.heap.size →
      Nn B X (.slice (some ⟨g, 0, none⟩) (r.length + 1) c) (⟨f.e, f.done ++ [x], f.todo, v', f.xs ++ [.string x.s, .bool x.l, vx]⟩ :: r) j ∧ (w'.setCell ⟨g, r.length * 2 + 1, none⟩ v').heap[j]? = w.heap[j]? := by
    rintro j ⟨h1, h2, h3⟩ hl
    have e1 : f.sv.ownBlock ≠ some j := fun e => h3 (.inr ⟨f, hfm, e⟩)
    have e2 : j ≠ g := fun e => h3 (.inl (by rw [e]; rfl))
    refine ⟨⟨h1, h2, ?_⟩, ff.block j hl (by rintro (e | e); exact e1 e; exact e2 e)⟩
    rintro (e | ⟨q, hq, e⟩)
    · exact h3 (.inl e)
    · rcases List.mem_cons.1 hq with rfl | hq
      · rcases (hv j e).2 with e | e
        · exact e1 e
        · omega
      · exact h3 (.inr ⟨q, List.mem_cons_of_mem _ hq, e⟩)
  refine ⟨⟨h.r.keep (ff.block b h.r.lt ?_), hbB, ?_, ?_, ?_, ?_, ?_, Nat.le_trans h.sz ff.size⟩, ff⟩
  · rintro (e | e)
    · have := nf b e; omega
    · omega
  · have h1 : Stk w' B 69 (.slice (some ⟨g, 0, none⟩) (r.length + 1) c) (Fo.p f :: r.map Fo.p) := h.own.fr gr (fun j hj e => by
      have : j = g := by injection hj with hj; exact hj.symm
      subst this
      exact hfg e)
    rw [show r.length = (r.map Fo.p).length by simp] at h1 ⊢
    exact h1.set1 v'
  · intro q hq
    rcases List.mem_cons.1 hq with rfl | hq
    · refine ⟨?_, ?_⟩
      · have := own_keep own' fs (fun j hj e => hvg (e ▸ hj))
        rwa [show f.done.length + 1 = (f.done ++ [x]).length by simp] at this
      · exact Got.more ((h.rows f hfm).2.keep ff.size nn) (h.rows f hfm).1.1 (InP.keep ff.size nn x vx hx)
    · have hq' := h.rows q (List.mem_cons_of_mem _ hq)
      refine ⟨own_keep hq'.1 ff ?_, hq'.2.keep ff.size nn⟩
      rintro j hj (e | e)
      · exact har.1 q hq j e hj
      · exact h.stk q (List.mem_cons_of_mem _ hq) j hj (by rw [e]; rfl)
  · exact List.pairwise_cons.2 ⟨fun q hq j hj => hvr q hq j hj, har.2⟩
  · intro q hq j hj
    rcases List.mem_cons.1 hq with rfl | hq
    · intro e
      have : j = g := by injection e with e; exact e.symm
      subst this
      exact hvg hj
    · exact h.stk q (List.mem_cons_of_mem _ hq) j hj
  · rintro j (e | ⟨q, hq, e⟩)
    · exact h.nx j (.inl e)
    · rcases List.mem_cons.1 hq with rfl | hq
      · rcases (hv j e).2 with e | e
        · exact h.nx j (.inr ⟨f, hfm, e⟩)
        · exact hX j e
      · exact h.nx j (.inr ⟨q, List.mem_cons_of_mem _ hq, e⟩)
/-- The inmost list is closed: it is an item now. -/
theorem Rs.shut (h : Rs B X w b s at_ depth left (f :: r) (.slice (some ⟨g, 0, none⟩) (r.length + 1) c)) :
    Rs B X (w.setCell ⟨b, 4, none⟩ (.slice (some ⟨g, 0, none⟩) r.length c)) b s at_ depth left r (.slice (some ⟨g, 0, none⟩) r.length c) ∧
    (f.done.length ≤ 100000 → ∀ a n c1 c2, f.sv = .slice a n c1 → InP (w.setCell ⟨b, 4, none⟩ (.slice (some ⟨g, 0, none⟩) r.length c)) (Nn B X (.slice (some ⟨g, 0, none⟩) r.length c) r) (.mk ⟨#[]⟩ true f.done) (.slice a n c2)) := by
  have hfm : f ∈ f :: r := List.mem_cons_self
  have hbB := h.bB
  have ff : Fr (fun j => j = b) w (w.setCell ⟨b, 4, none⟩ (.slice (some ⟨g, 0, none⟩) r.length c)) := fr_set _
  have har := List.pairwise_cons.1 h.apart
  have hp : Stk w B 69 (.slice (some ⟨g, 0, none⟩) r.length c) (r.map Fo.p) := by
    have h1 : Stk w B 69 (.slice (some ⟨g, 0, none⟩) (r.length + 1) c) (Fo.p f :: r.map Fo.p) := h.own
    rw [show r.length = (r.map Fo.p).length by simp] at h1 ⊢
    exact h1.pop
  have ow : ∀ j, Ow (.slice (some ⟨g, 0, none⟩) r.length c) r j → Ow (.slice (some ⟨g, 0, none⟩) (r.length + 1) c) (f :: r) j := by
    rintro j (e | ⟨q, hq, e⟩)
    · exact .inl e
    · exact .inr ⟨q, List.mem_cons_of_mem _ hq, e⟩
  have nn : ∀ j, Nn B X (.slice (some ⟨g, 0, none⟩) (r.length + 1) c) (f :: r) j → j < w.heap.size → Nn B X (.slice (some ⟨g, 0, none⟩) r.length c) r j ∧ (w.setCell ⟨b, 4, none⟩ (.slice (some ⟨g, 0, none⟩) r.length c)).heap[j]? = w.heap[j]? :=
    fun j hj hl => ⟨⟨hj.1, hj.2.1, fun e => hj.2.2 (ow j e)⟩, ff.block j hl (by have := hj.1; omega)⟩
  refine ⟨⟨h.r.set4 _, hbB, ?_, ?_, har.2, fun q hq j hj e => h.stk q (List.mem_cons_of_mem _ hq) j hj e, fun j hj => h.nx j (ow j hj), Nat.le_trans h.sz ff.size⟩, ?_⟩
  · exact hp.fr ff (fun j hj e => by have := hp.block j hj; omega)
  · intro q hq
    have hq' := h.rows q (List.mem_cons_of_mem _ hq)
    exact ⟨own_keep hq'.1 ff (fun j hj e => by have := (hq'.1.lt j hj).1; omega), hq'.2.keep ff.size nn⟩
  · intro hdl a n c1 c2 hs
    have hf := h.rows f hfm
    have hl : InP (w.setCell ⟨b, 4, none⟩ (.slice (some ⟨g, 0, none⟩) r.length c)) (Nn B X (.slice (some ⟨g, 0, none⟩) r.length c) r) (.mk ⟨#[]⟩ true f.done) f.sv := by
      refine Got.list (hf.2.keep ff.size nn) (own_keep hf.1 ff (fun j hj e => by have := (hf.1.lt j hj).1; omega)) ?_ (by unfold maxLen; omega) _ (by decide) _
      intro j hj
      refine ⟨(hf.1.lt j hj).1, h.nx j (.inr ⟨f, hfm, hj⟩), ?_⟩
      rintro (e | ⟨q, hq, e⟩)
      · exact h.stk f hfm j hj e
      · exact har.1 q hq j hj e
    rw [hs] at hl
    obtain ⟨h1, h2, a', c', hv, hr⟩ := hl
    injection hv with e1 e2 e3
    subst e1 e2
    exact ⟨h1, h2, _, _, rfl, hr⟩
end
end Go.Proofs.Ytaddlobmmmafaaa
