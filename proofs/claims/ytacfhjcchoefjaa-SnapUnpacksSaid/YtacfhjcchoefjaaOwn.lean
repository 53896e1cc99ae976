/-
  Bytes that are appended to a slice of the call's own, over this seat's translation. Conditions: at most a million bytes.
-/
import Derived.Test.YtacfhjcchoefjaaRow
import Derived.Laws.AppendOwn
namespace Go.Proofs.Ytacfhjcchoefjaa
open Go.RowKit Go.Sort

/-- The slice v owns these bytes, in a block from base on. -/
def Own8 (w : World) (base : Nat) (v : Value) (l : List UInt8) : Prop := w.ownsRow base 5 1 v l.length (l.map enc8)

section
variable {w w' : World} {base : Nat} {v : Value} {l : List UInt8}
theorem Own8.nil (w : World) (base : Nat) : Own8 w base (.slice none 0 0) [] := World.ownsRow_nil _ _ _ _
theorem Own8.alloc (h : Own8 w base v l) (o : Obj) : Own8 (w.alloc o) base v l := World.ownsRow.alloc h o
theorem Own8.kept {row : Option Nat} (h : Own8 w base v l) (hg : w.grownBy w' row) (hne : v.ownBlock = none ∨ v.ownBlock ≠ row) : Own8 w' base v l := World.ownsRow.kept h hg hne
theorem Own8.lt (h : Own8 w base v l) : ∀ k, v.ownBlock = some k → base ≤ k ∧ k < w.heap.size := World.ownsRow.lt h
theorem Own8.row (h : Own8 w base v l) (hl : 0 < l.length) : ∃ g c, v = .slice (some ⟨g, 0, none⟩) l.length c ∧ base ≤ g ∧ Row8 w g l := by
  rcases h.2 with ⟨_, h0⟩ | ⟨g, cap, cur, rfl, hb, hg, _, _, hs, ht⟩
  · omega
  · refine ⟨g, cap, rfl, hb, row8_of_block hg (fun i hi => ?_) (fun i _ => by omega)⟩
    have h1 : (cur.toList.take (l.length * 1))[i]? = (l.map enc8)[i]? := by rw [ht]
    rw [List.getElem?_take, if_pos (by omega), List.getElem?_map, List.getElem?_eq_getElem hi] at h1
    simpa [enc8] using h1
end

theorem fr_grown {S : Nat → Prop} {a w w' : World} {row : Option Nat} (h : Fr S a w) (hg : w.grownBy w' row) (hS : ∀ k, row = some k → S k ∨ a.heap.size ≤ k) : Fr S a w' :=
  ⟨hg.os.trans h.os, hg.tape.trans h.tape, hg.output.trans h.output, Nat.le_trans h.size hg.size, fun j hj hs => by
    rw [hg.block j (Nat.lt_of_lt_of_le hj h.size) (fun e => by
      rcases hS j e.symm with h1 | h1
      · exact hs h1
      · exact absurd hj (Nat.not_lt.2 h1))]
    exact h.block j hj hs⟩

theorem own_info : (Try.prog.info? 5).map (fun i => (i.zero, i.size, i.bytes)) = some (some (.int .u8 0), 1, 1) := by kernel_rfl

/-- 'append(b, c..)' on a slice of the call's own. -/
theorem wpList_append8 {ops : Array Oper} {rest : List Oper} {o : Oper} {a : Act} {w : World} {Q : Exit → Act → World → Prop} (hgd : o.guard = none) (s x : Operand)
    (ho : o.op = .call { callee := .builtin .append, args := #[s, x], argTypes := #[34, 34] })
    (base : Nat) (v : Value) (l l2 : List UInt8) (hs : a.eval s = v) (hown : Own8 w base v l) (ga m c : Nat) (hx : a.eval x = .slice (some ⟨ga, 0, none⟩) m c) (hm : l2.length = m) (hr : Row8 w ga l2)
    (hlen : l.length + m ≤ 1000000) (hbase : base ≤ w.heap.size)
    (h : ∀ v' w', Own8 w' base v' (l ++ l2) → w.grownBy w' v.ownBlock → wpList Try.prog ops Q rest (a.put o.dst v') w') : wpList Try.prog ops Q (o :: rest) a w := by
  obtain ⟨i, hi, hz, hsz, hb⟩ := info_parts own_info
  refine wpList_append_own _ hgd s x 34 ho base 5 i (.int .u8 0) 1 1 Try.underlying34 hi hz hsz hb rfl (by decide) v l.length (l.map enc8) hs hown ⟨ga, 0, none⟩ m c (l2.map enc8) hx (by rw [List.length_map, hm, Nat.mul_one]) ?_ ?_ (by unfold maxLen; omega) (by omega) hbase ?_
  · intro j u hu
    rw [List.getElem?_map, Option.map_eq_some_iff] at hu
    obtain ⟨b, hb, rfl⟩ := hu
    have hj : j < l2.length := by
      rcases Nat.lt_or_ge j l2.length with h | h
      · exact h
      · rw [List.getElem?_eq_none h] at hb; cases hb
    have hadd : (⟨ga, 0, none⟩ : Addr).add j = ⟨ga, j, none⟩ := by unfold Addr.add; split <;> simp_all
    rw [hadd, hr.cell j hj]
    rw [List.getElem?_eq_getElem hj] at hb
    injection hb with hb
    rw [← hb]
    rfl
  · intro u hu
    obtain ⟨b, _, rfl⟩ := List.mem_map.1 hu
    rfl
  · intro v' w' h1 h2 _
    refine h v' w' ?_ h2
    unfold Own8
    rw [List.length_append, List.map_append, hm]
    exact h1
end Go.Proofs.Ytacfhjcchoefjaa
