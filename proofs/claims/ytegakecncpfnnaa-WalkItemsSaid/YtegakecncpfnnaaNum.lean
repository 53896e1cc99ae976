/-
  A block in memory that holds numbers of one kind, known whole: plain lemmas about the model's memory, no program. No condition beyond the places named.
-/
import Derived.Test.YtegakecncpfnnaaFr
import Derived.Laws.Rows
import Derived.Laws.Tables
import Derived.Deep.WholeRow
import Derived.Deep.MidRow
import Derived.Still
namespace Go.Proofs.Ytegakecncpfnnaa
open Go.RowKit

/-- Block g holds these numbers of kind k, and nothing else; its cells may be written. -/
def Nums (k : IntKind) (t : TypeId) (w : World) (g : Nat) (l : List Nat) : Prop :=
  w.heap[g]? = some (.cells (l.map fun (n : Nat) => Value.int k (n : Int)).toArray t (0, 0))

section
variable {k : IntKind} {t : TypeId} {w w' : World} {g : Nat} {l : List Nat}
theorem Nums.lt (h : Nums k t w g l) : g < w.heap.size := lt_of_block h
theorem Nums.cell (h : Nums k t w g l) (i : Nat) (hi : i < l.length) : w.cell? ⟨g, i, none⟩ = some (.int k (l[i] : Int)) := by
  unfold Nums at h
  simp [World.cell?, h, hi]
theorem Nums.cellD (h : Nums k t w g l) (i : Nat) (hi : i < l.length) : w.cell? ⟨g, i, none⟩ = some (.int k (l.getD i 0 : Nat)) := by
  rw [h.cell i hi]
  simp [List.getD, hi]
theorem Nums.free (h : Nums k t w g l) (i : Nat) : w.frozen? ⟨g, i, none⟩ = false := by
  unfold Nums at h
  simp [World.frozen?, h]
theorem Nums.keep (h : Nums k t w g l) (hb : w'.heap[g]? = w.heap[g]?) : Nums k t w' g l := hb.trans h
theorem Nums.drew (h : Nums k t w g l) : Nums k t w.drew g l := h
theorem Nums.drewN (h : Nums k t w g l) (n : Nat) : Nums k t (w.drewN n) g l := h
theorem Nums.alloc (h : Nums k t w g l) (o : Obj) : Nums k t (w.alloc o) g l := h.keep (Below.heap_alloc w o g h.lt)
theorem Nums.frame {S : Nat → Prop} (h : Nums k t w g l) (hf : Fr S w w') (hs : ¬ S g) : Nums k t w' g l := h.keep (hf.block g h.lt hs)
theorem Nums.bel (h : Nums k t w g l) (hb : Below w.heap.size w w') : Nums k t w' g l := h.keep (hb.block g h.lt)
theorem Nums.far (h : Nums k t w g l) {p : Addr} (hp : g ≠ p.block) (u : Value) : Nums k t (w.setCell p u) g l := h.keep (Below.heap_setCell w p u g hp)
theorem Nums.new (k : IntKind) (t : TypeId) (w : World) (l : List Nat) : Nums k t (w.alloc (.cells (l.map fun (n : Nat) => Value.int k (n : Int)).toArray t)) w.heap.size l := heap_alloc_new w _
theorem Nums.zeros (k : IntKind) (t : TypeId) (w : World) (n : Nat) : Nums k t (w.alloc (.cells (Array.replicate n (.int k 0)) t)) w.heap.size (List.replicate n 0) := by
  have := Nums.new k t w (List.replicate n 0)
  simpa using this
theorem Nums.set (h : Nums k t w g l) (i v : Nat) : Nums k t (w.setCell ⟨g, i, none⟩ (.int k (v : Int))) g (l.set i v) := by
  unfold Nums at h ⊢
  have hm : (l.map fun (n : Nat) => Value.int k (n : Int)).toArray.setIfInBounds i (.int k (v : Int)) = ((l.set i v).map fun (n : Nat) => Value.int k (n : Int)).toArray := by
    apply Array.toList_inj.1
    simp [List.map_set]
  rw [← hm]
  simp [World.setCell, Array.getElem?_modify, h]
theorem Nums.size (l : List Nat) : ((l.map fun (n : Nat) => Value.int k (n : Int)).toArray).size = l.length := by simp
/-- The whole block, loaded. -/
theorem Nums.load {P : Program} {ty : TypeId} {d : TypeDesc} (h : Nums k t w g l) (hu : P.underlying ty = some d) (hd : (match d with | .struct _ | .array _ _ => true | _ => false) = true) (hi : (P.info? ty).map (·.size) = some l.length) :
    (loadVar ty ⟨g, 0, none⟩).run P w = .ok (.agg (l.map fun (n : Nat) => Value.int k (n : Int)).toArray) w :=
  run_loadVar_row w g t ty _ (0, 0) d h hu hd (by rw [Nums.size]; exact hi)
theorem Nums.setRow (h : Nums k t w g l) (m : List Nat) : Nums k t (w.setRow g (m.map fun (n : Nat) => Value.int k (n : Int)).toArray) g m := by
  unfold Nums at h ⊢
  simp [World.setRow, Array.getElem?_modify, h]
/-- The whole block, stored. -/
theorem Nums.store {P : Program} {ty : TypeId} (h : Nums k t w g l) (m : List Nat) (hm : l.length = m.length) (hi : (P.info? ty).map (·.size) = some m.length) :
    (storeVar ty ⟨g, 0, none⟩ (.agg (m.map fun (n : Nat) => Value.int k (n : Int)).toArray)).run P w = .ok () (w.setRow g (m.map fun (n : Nat) => Value.int k (n : Int)).toArray) :=
  run_storeVar_row w g t ty _ _ h (by rw [Nums.size]; exact hi) (by rw [Nums.size, Nums.size]; exact hm) (by simp [Value.oneCell'])
end

theorem fr_setRow {S : Nat → Prop} {a w : World} {g : Nat} (h : Fr S a w) (hg : S g ∨ a.heap.size ≤ g) (c : Array Value) : Fr S a (w.setRow g c) :=
  h.then_ (T := fun j => j = g) ⟨rfl, rfl, rfl, by simp [World.setRow], fun j _ hne => by
    simp only [World.setRow, Array.getElem?_modify]
    rw [if_neg (fun e => hne e.symm)]⟩
    fun j hj e => by
      subst e
      rcases hg with hg | hg
      · exact hg
      · exact absurd hj (Nat.not_lt.2 hg)

theorem results_one_cell {fn : Func} {p : Tmp} {ty : TypeId} (h : fn.results = #[.cell p ty]) (tmps : Array Value) (P : Program) (w : World) :
    (results fn tmps).run P w = ((asAddr (tmps.getD p undef)).run P w).andThen fun a w₁ => (loadVar ty a).run P w₁ := by
  simp only [results, h]
  simp [Sem.run_bind, Result.andThen]

theorem results_of_cell {fn : Func} {p : Tmp} {ty : TypeId} {tmps : Array Value} {P : Program} {w : World} {V : Value} {a : Addr} (h : fn.results = #[.cell p ty]) (hp : tmps.getD p undef = .pointer (some a)) (hl : (loadVar ty a).run P w = .ok V w) :
    (results fn tmps).run P w = .ok V w := by
  rw [results_one_cell h, hp]
  simpa [asAddr, Result.andThen] using hl

theorem results_two_one {fn : Func} {p q : Tmp} {ty : TypeId} (h : fn.results = #[.cell p ty, .tmp q]) (tmps : Array Value) (P : Program) (w : World) :
    (results fn tmps).run P w = ((asAddr (tmps.getD p undef)).run P w).andThen fun a w₁ => ((loadVar ty a).run P w₁).andThen fun V w₂ => .ok (.tuple #[V, tmps.getD q undef]) w₂ := by
  simp only [results, h]
  simp [Sem.run_bind, Result.andThen]
theorem results_cell_tmp {fn : Func} {p q : Tmp} {ty : TypeId} {tmps : Array Value} {P : Program} {w : World} {V : Value} {a : Addr} (h : fn.results = #[.cell p ty, .tmp q]) (hp : tmps.getD p undef = .pointer (some a)) (hl : (loadVar ty a).run P w = .ok V w) :
    (results fn tmps).run P w = .ok (.tuple #[V, tmps.getD q undef]) w := by
  rw [results_two_one h, hp]
  simp [asAddr, Result.andThen, hl]

/-- Words as a value. -/
def wordsOf (k : IntKind) (l : List Nat) : Value := .agg (l.map fun (n : Nat) => Value.int k (n : Int)).toArray

section
variable {P : Program} {ops : Array Oper} {rest : List Oper} {o : Oper} {a : Act} {w : World} {Q : Exit → Act → World → Prop} {k : IntKind} {t : TypeId} {g : Nat} {l m : List Nat} {d : TypeDesc}
/-- A whole block is loaded: its value under a name of its own. -/
theorem wpList_load_nums (hgd : o.guard = none) (ty : TypeId) (x : Operand) (ho : o.op = .load ty x) (hx : a.eval x = .pointer (some ⟨g, 0, none⟩)) (hN : Nums k t w g l)
    (hu : P.underlying ty = some d) (hd : (match d with | .struct _ | .array _ _ => true | _ => false) = true) (hi : (P.info? ty).map (·.size) = some l.length) (V : Value) (hV : V = wordsOf k l)
    (h : wpList P ops Q rest (a.put o.dst V) w) : wpList P ops Q (o :: rest) a w :=
  wpList_load_row hgd ty x ho g hx t _ (0, 0) d hN hu hd (by rw [Nums.size]; exact hi) (by rw [hV] at h; exact h)
/-- A part of a block is loaded. -/
theorem wpList_load_part (hgd : o.guard = none) (ty : TypeId) (x : Operand) (ho : o.op = .load ty x) (s n : Nat) (hx : a.eval x = .pointer (some ⟨g, s, none⟩)) (hN : Nums k t w g l)
    (hu : P.underlying ty = some d) (hd : d.isRow = true) (hl : s + n ≤ l.length) (hi : (P.info? ty).map (·.size) = some n) (V : Value) (hV : V = wordsOf k ((l.drop s).take n))
    (h : wpList P ops Q rest (a.put o.dst V) w) : wpList P ops Q (o :: rest) a w := by
  refine wpList_load_mid hgd ty x ho g s hx (((l.drop s).take n).map fun (n : Nat) => Value.int k (n : Int)) d ?_ hu hd ?_ (by rw [hV] at h; exact h)
  · intro j v hv
    rw [List.getElem?_map, Option.map_eq_some_iff] at hv
    obtain ⟨m, hm, rfl⟩ := hv
    rw [List.getElem?_take] at hm
    split at hm
    · rename_i hj
      rw [List.getElem?_drop] at hm
      have hjl : s + j < l.length := by omega
      rw [hN.cell (s + j) hjl]
      rw [List.getElem?_eq_getElem hjl] at hm
      injection hm with hm
      rw [hm]
    · cases hm
  · rw [List.length_map, List.length_take, List.length_drop, hi]
    congr 1
    omega
/-- A whole block is loaded in a region that draws its order. -/
theorem still_load_nums {next : Act → Prop} (ty : TypeId) (x : Operand) (ho : o.op = .load ty x) (hx : a.eval x = .pointer (some ⟨g, 0, none⟩)) (hN : Nums k t w g l)
    (hu : P.underlying ty = some d) (hd : (match d with | .struct _ | .array _ _ => true | _ => false) = true) (hi : (P.info? ty).map (·.size) = some l.length) (V : Value) (hV : V = wordsOf k l)
    (h : next (a.put o.dst V)) : o.still P a w next := by
  have hl := hN.load hu hd hi
  unfold Oper.still execOp
  simp only [ho, hx, Instr.loadAt, Instr.sureAddr, Sem.run_bind, Sem.run_pure, Result.andThen_ok, hl]
  rw [hV] at h
  exact ⟨rfl, h⟩
theorem exec_load_nums (ty : TypeId) (x : Operand) (ho : o.op = .load ty x) (hx : a.eval x = .pointer (some ⟨g, 0, none⟩)) (hN : Nums k t w g l)
    (hu : P.underlying ty = some d) (hd : (match d with | .struct _ | .array _ _ => true | _ => false) = true) (hi : (P.info? ty).map (·.size) = some l.length) (V : Value) (hV : V = wordsOf k l) :
    (execOp a.eval o).run P w = .ok (.value V) w := by
  have hl := hN.load hu hd hi
  unfold execOp
  simp only [ho, hx, Instr.loadAt, Instr.sureAddr, Sem.run_bind, Sem.run_pure, Result.andThen_ok, hl]
  rw [hV]
  rfl
theorem exec_load_part (ty : TypeId) (x : Operand) (ho : o.op = .load ty x) (s n : Nat) (hx : a.eval x = .pointer (some ⟨g, s, none⟩)) (hN : Nums k t w g l)
    (hu : P.underlying ty = some d) (hd : d.isRow = true) (hl : s + n ≤ l.length) (hi : (P.info? ty).map (·.size) = some n) (V : Value) (hV : V = wordsOf k ((l.drop s).take n)) :
    (execOp a.eval o).run P w = .ok (.value V) w := by
  have hr : (loadVar ty ⟨g, s, none⟩).run P w = .ok (.agg (((l.drop s).take n).map fun (n : Nat) => Value.int k (n : Int)).toArray) w := by
    refine run_loadVar_mid w g s ty _ d ?_ hu hd ?_
    · intro j v hv
      rw [List.getElem?_map, Option.map_eq_some_iff] at hv
      obtain ⟨m, hm, rfl⟩ := hv
      rw [List.getElem?_take] at hm
      split at hm
      · rename_i hj
        rw [List.getElem?_drop] at hm
        have hjl : s + j < l.length := by omega
        rw [hN.cell (s + j) hjl]
        rw [List.getElem?_eq_getElem hjl] at hm
        injection hm with hm
        rw [hm]
      · cases hm
    · rw [List.length_map, List.length_take, List.length_drop, hi]
      congr 1
      omega
  unfold execOp
  simp only [ho, hx, Instr.loadAt, Instr.sureAddr, Sem.run_bind, Sem.run_pure, Result.andThen_ok, hr]
  rw [hV]
  rfl
theorem wpStill_load_nums {L : Act → Prop} (hgd : o.guard = none) (ty : TypeId) (x : Operand) (ho : o.op = .load ty x) (hx : a.eval x = .pointer (some ⟨g, 0, none⟩)) (hN : Nums k t w g l)
    (hu : P.underlying ty = some d) (hd : (match d with | .struct _ | .array _ _ => true | _ => false) = true) (hi : (P.info? ty).map (·.size) = some l.length) (V : Value) (hV : V = wordsOf k l)
    (h : wpStill P ops w L rest (a.put o.dst V)) : wpStill P ops w L (o :: rest) a := by
  have hw : Region.wanted o (yielded ops a.tmps) = true := by simp [Region.wanted, hgd]
  show if Region.wanted o (yielded ops a.tmps) then o.still P a w (wpStill P ops w L rest) else wpStill P ops w L rest (a.put o.dst undef)
  rw [if_pos hw]
  exact still_load_nums ty x ho hx hN hu hd hi V hV h
/-- A whole block is stored: the world behind it under a name of its own. -/
theorem wpList_store_nums (hgd : o.guard = none) (ty : TypeId) (x y : Operand) (ho : o.op = .store ty x y) (hx : a.eval x = .pointer (some ⟨g, 0, none⟩)) (V : Value) (hy : a.eval y = V) (hV : V = wordsOf k m)
    (hN : Nums k t w g l) (hl : l.length = m.length) (hi : (P.info? ty).map (·.size) = some m.length) (W : World) (hW : W = w.setRow g (m.map fun (n : Nat) => Value.int k (n : Int)).toArray)
    (h : wpList P ops Q rest (a.put o.dst undef) W) : wpList P ops Q (o :: rest) a w :=
  wpList_store_row hgd ty x y ho g _ hx (hy.trans hV) t _ hN (by rw [Nums.size]; exact hi) (by rw [Nums.size, Nums.size]; exact hl) (by simp [Value.oneCell']) (by rw [hW] at h; exact h)
theorem wp_store_nums {K : Act → World → Prop} (ty : TypeId) (x y : Operand) (ho : o.op = .store ty x y) (hx : a.eval x = .pointer (some ⟨g, 0, none⟩)) (V : Value) (hy : a.eval y = V) (hV : V = wordsOf k m)
    (hN : Nums k t w g l) (hl : l.length = m.length) (hi : (P.info? ty).map (·.size) = some m.length) (W : World) (hW : W = w.setRow g (m.map fun (n : Nat) => Value.int k (n : Int)).toArray)
    (h : K (a.put o.dst undef) W) : o.wp P a w K Q :=
  wp_store_row ty x y ho g _ hx (hy.trans hV) t _ hN (by rw [Nums.size]; exact hi) (by rw [Nums.size, Nums.size]; exact hl) (by simp [Value.oneCell']) (by rw [hW] at h; exact h)
theorem wp_load_nums {K : Act → World → Prop} (ty : TypeId) (x : Operand) (ho : o.op = .load ty x) (hx : a.eval x = .pointer (some ⟨g, 0, none⟩)) (hN : Nums k t w g l)
    (hu : P.underlying ty = some d) (hd : (match d with | .struct _ | .array _ _ => true | _ => false) = true) (hi : (P.info? ty).map (·.size) = some l.length) (V : Value) (hV : V = wordsOf k l) (h : K (a.put o.dst V) w) : o.wp P a w K Q := by
  unfold Oper.wp
  rw [exec_load_nums ty x ho hx hN hu hd hi V hV]
  exact h
/-- A result through a cell that holds numbers. -/
theorem load_nums (hN : Nums k t w g l) (ty : TypeId) (hu : P.underlying ty = some d) (hd : (match d with | .struct _ | .array _ _ => true | _ => false) = true) (hi : (P.info? ty).map (·.size) = some l.length) (V : Value) (hV : V = wordsOf k l) :
    (loadVar ty ⟨g, 0, none⟩).run P w = .ok V w := by
  rw [hV]
  exact hN.load hu hd hi
end
end Go.Proofs.Ytegakecncpfnnaa
