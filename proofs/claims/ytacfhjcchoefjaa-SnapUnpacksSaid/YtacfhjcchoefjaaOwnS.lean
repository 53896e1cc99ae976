/-
  A text that is appended to bytes of the call's own, and what keeps such bytes, over this seat's translation. Conditions: at most 2^46 bytes.
-/
import Derived.Test.YtacfhjcchoefjaaOwn
import Derived.Lib.AppendStr
namespace Go.Proofs.Ytacfhjcchoefjaa
open Go.RowKit Go.Sort

theorem Own8.fr {w w' : World} {base : Nat} {v : Value} {l : List UInt8} (h : Own8 w base v l) {S : Nat → Prop} (f : Fr S w w') (hs : ∀ j, base ≤ j → ¬ S j) : Own8 w' base v l := by
  refine ⟨h.1, ?_⟩
  rcases h.2 with h | ⟨g, cap, cur, hv, hb, hg, hr⟩
  · exact .inl h
  · exact .inr ⟨g, cap, cur, hv, hb, (f.block g (lt_of_block hg) (hs g hb)).trans hg, hr⟩
theorem Own8.form {w : World} {base : Nat} {v : Value} {l : List UInt8} (h : Own8 w base v l) : ∃ ao c, v = .slice ao l.length c := by
  rcases h.2 with ⟨hv, h0⟩ | ⟨g, cap, cur, hv, _⟩
  · exact ⟨none, 0, by rw [hv, h0]⟩
  · exact ⟨_, _, hv⟩
theorem Own8.drew {w : World} {base : Nat} {v : Value} {l : List UInt8} (h : Own8 w base v l) : Own8 w.drew base v l := h
theorem Own8.drewN {w : World} {base : Nat} {v : Value} {l : List UInt8} (h : Own8 w base v l) (n : Nat) : Own8 (w.drewN n) base v l := h

/-- 'append(b, s...)' on a slice of the call's own. -/
theorem wpList_append8s {ops : Array Oper} {rest : List Oper} {o : Oper} {a : Act} {w : World} {Q : Exit → Act → World → Prop} (hgd : o.guard = none) (sl x : Operand)
    (ho : o.op = .call { callee := .builtin .append, args := #[sl, x], argTypes := #[34, 9] })
    (base : Nat) (v : Value) (l : List UInt8) (hs : a.eval sl = v) (hown : Own8 w base v l) (s : ByteArray) (hx : a.eval x = .string s)
    (hlen : l.length + s.size ≤ 70368744177664) (hbase : base ≤ w.heap.size)
    (h : ∀ v' w', Own8 w' base v' (l ++ s.data.toList) → w.grownBy w' v.ownBlock → wpList Try.prog ops Q rest (a.put o.dst v') w') : wpList Try.prog ops Q (o :: rest) a w := by
  obtain ⟨i, hi, hz, hsz, hb⟩ := info_parts own_info
  refine Lib.wpList_append_own_string _ hgd sl x 34 9 ho base 5 i Try.underlying34 Try.underlying9 hi hz hsz hb v l.length (l.map enc8) hs hown s hx (by unfold maxLen; omega) (by omega) hbase ?_
  intro v' w' h1 h2 _
  refine h v' w' ?_ h2
  unfold Own8
  rw [List.length_append, List.map_append, Array.length_toList]
  exact h1
end Go.Proofs.Ytacfhjcchoefjaa
