/-
  Items as plain data (layer 8): how many, how deep, whether one may be. Plain functions, no program. No condition.
-/
namespace Go.Proofs.Ytegakecncpfnnaa

/-- An item: its text, whether it is a list, what it has. -/
inductive T where
  | mk (s : ByteArray) (l : Bool) (ts : List T)

namespace T
def s : T → ByteArray | mk s _ _ => s
def l : T → Bool | mk _ l _ => l
def ts : T → List T | mk _ _ ts => ts
mutual
def cnt : T → Nat | mk _ _ ts => cnts ts + 1
def cnts : List T → Nat | [] => 0 | t :: r => cnt t + cnts r
end
mutual
def dep : T → Nat | mk _ _ ts => deps ts + 1
def deps : List T → Nat | [] => 0 | t :: r => max (dep t) (deps r)
end
mutual
def siz : T → Nat | mk s _ ts => s.size + sizs ts
def sizs : List T → Nat | [] => 0 | t :: r => siz t + sizs r
end
/-- Is it a text without items, or a list without a text? -/
def own (s : ByteArray) (l : Bool) (ts : List T) : Bool := if l then s.size == 0 else ts.isEmpty
mutual
def rgt : T → Bool | mk s l ts => own s l ts && rgts ts
def rgts : List T → Bool | [] => true | t :: r => rgt t && rgts r
end
/-- May it be? -/
def may (t : T) : Bool := rgt t && decide (dep t ≤ 16) && decide (cnt t ≤ 1024)

mutual
theorem ind_ {P : T → Prop} (h : ∀ s l ts, (∀ t ∈ ts, P t) → P (mk s l ts)) : ∀ t, P t
  | mk s l ts => h s l ts (inds_ h ts)
theorem inds_ {P : T → Prop} (h : ∀ s l ts, (∀ t ∈ ts, P t) → P (mk s l ts)) : ∀ ts : List T, ∀ t ∈ ts, P t
  | [], _, hm => absurd hm (List.not_mem_nil)
  | t :: r, u, hm => (List.mem_cons.1 hm).elim (fun e => e ▸ ind_ h t) (fun hr => inds_ h r u hr)
end

theorem cnt_pos : ∀ t : T, 0 < cnt t
  | mk _ _ _ => by simp [cnt]
theorem dep_pos : ∀ t : T, 0 < dep t
  | mk _ _ _ => by simp [dep]
theorem cnts_append (a b : List T) : cnts (a ++ b) = cnts a + cnts b := by
  induction a with
  | nil => simp [cnts]
  | cons t r ih => simp [cnts, ih, Nat.add_assoc]
theorem deps_append (a b : List T) : deps (a ++ b) = max (deps a) (deps b) := by
  induction a with
  | nil => simp [deps]
  | cons t r ih => simp [deps, ih, Nat.max_assoc]
theorem sizs_append (a b : List T) : sizs (a ++ b) = sizs a + sizs b := by
  induction a with
  | nil => simp [sizs]
  | cons t r ih => simp [sizs, ih, Nat.add_assoc]
theorem rgts_append (a b : List T) : rgts (a ++ b) = (rgts a && rgts b) := by
  induction a with
  | nil => simp [rgts]
  | cons t r ih => simp [rgts, ih, Bool.and_assoc]
theorem take_more (ts : List T) (i : Nat) (h : i < ts.length) : ts.take (i + 1) = ts.take i ++ [ts[i]] := by
  rw [List.take_add_one, List.getElem?_eq_getElem h]; rfl
theorem cnts_take (ts : List T) (i : Nat) (h : i < ts.length) : cnts (ts.take (i + 1)) = cnts (ts.take i) + cnt ts[i] := by
  rw [take_more ts i h, cnts_append]; simp [cnts]
theorem deps_take (ts : List T) (i : Nat) (h : i < ts.length) : deps (ts.take (i + 1)) = max (deps (ts.take i)) (dep ts[i]) := by
  rw [take_more ts i h, deps_append]; simp [deps]
theorem sizs_take (ts : List T) (i : Nat) (h : i < ts.length) : sizs (ts.take (i + 1)) = sizs (ts.take i) + siz ts[i] := by
  rw [take_more ts i h, sizs_append]; simp [sizs]
theorem rgts_take (ts : List T) (i : Nat) (h : i < ts.length) : rgts (ts.take (i + 1)) = (rgts (ts.take i) && rgt ts[i]) := by
  rw [take_more ts i h, rgts_append]; simp [rgts]
theorem cnts_take_le (ts : List T) (i : Nat) : cnts (ts.take i) ≤ cnts ts := by
  rw [show cnts ts = cnts (ts.take i ++ ts.drop i) by rw [List.take_append_drop], cnts_append]; omega
theorem deps_take_le (ts : List T) (i : Nat) : deps (ts.take i) ≤ deps ts := by
  rw [show deps ts = deps (ts.take i ++ ts.drop i) by rw [List.take_append_drop], deps_append]; omega
theorem sizs_take_le (ts : List T) (i : Nat) : sizs (ts.take i) ≤ sizs ts := by
  rw [show sizs ts = sizs (ts.take i ++ ts.drop i) by rw [List.take_append_drop], sizs_append]; omega
theorem cnt_le_of_mem : ∀ (ts : List T) (t : T), t ∈ ts → cnt t ≤ cnts ts
  | [], _, hm => absurd hm List.not_mem_nil
  | u :: r, t, hm => (List.mem_cons.1 hm).elim (fun e => by subst e; simp [cnts]) (fun hr => by have := cnt_le_of_mem r t hr; simp [cnts]; omega)
theorem dep_le_of_mem : ∀ (ts : List T) (t : T), t ∈ ts → dep t ≤ deps ts
  | [], _, hm => absurd hm List.not_mem_nil
  | u :: r, t, hm => (List.mem_cons.1 hm).elim (fun e => by subst e; simp [deps]; omega) (fun hr => by have := dep_le_of_mem r t hr; simp [deps]; omega)
theorem siz_le_of_mem : ∀ (ts : List T) (t : T), t ∈ ts → siz t ≤ sizs ts
  | [], _, hm => absurd hm List.not_mem_nil
  | u :: r, t, hm => (List.mem_cons.1 hm).elim (fun e => by subst e; simp [sizs]) (fun hr => by have := siz_le_of_mem r t hr; simp [sizs]; omega)
theorem s_le_siz : ∀ t : T, t.s.size ≤ siz t
  | mk _ _ _ => by simp [siz, s]
theorem cnt_eq : ∀ t : T, cnt t = cnts t.ts + 1
  | mk _ _ _ => rfl
theorem siz_eq : ∀ t : T, siz t = t.s.size + sizs t.ts
  | mk _ _ _ => rfl
theorem rgts_false : ∀ (ts : List T) (t : T), t ∈ ts → rgt t = false → rgts ts = false
  | [], _, hm, _ => absurd hm List.not_mem_nil
  | u :: r, t, hm, hf => (List.mem_cons.1 hm).elim (fun e => by subst e; simp [rgts, hf]) (fun hr => by simp [rgts, rgts_false r t hr hf])
theorem length_le_cnts : ∀ ts : List T, ts.length ≤ cnts ts
  | [] => by simp [cnts]
  | t :: r => by have := length_le_cnts r; have := cnt_pos t; simp [cnts]; omega
mutual
theorem dep_le_cnt : ∀ t : T, dep t ≤ cnt t
  | mk _ _ ts => by have := deps_le_cnts ts; simp [dep, cnt]; omega
theorem deps_le_cnts : ∀ ts : List T, deps ts ≤ cnts ts
  | [] => by simp [deps]
  | t :: r => by have := dep_le_cnt t; have := deps_le_cnts r; simp [deps, cnts]; omega
end
theorem cnts_rest (ts : List T) (j : Nat) : cnts (ts.take (j + 1)) + (ts.length - (j + 1)) ≤ cnts ts := by
  have h1 : cnts ts = cnts (ts.take (j + 1)) + cnts (ts.drop (j + 1)) := by rw [← cnts_append, List.take_append_drop]
  have h2 := length_le_cnts (ts.drop (j + 1))
  rw [List.length_drop] at h2
  omega
end T
end Go.Proofs.Ytegakecncpfnnaa
