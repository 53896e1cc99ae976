/-
  Blocks, unpacked (layer 11), as plain data: elements, what they lay, sizes. Plain functions, no program. No condition.
-/
import Derived.Test.YtacfhjcchoefjaaLebM
import Derived.Test.YtacfhjcchoefjaaFixM
namespace Go.Proofs.Ytacfhjcchoefjaa

/-- How many bytes an element's head has, from its first byte. -/
def hdb (b : Nat) : Nat := if b % 4 = 0 then (if 60 ≤ b / 4 then b / 4 - 58 else 1) else if b % 4 = 1 then 2 else if b % 4 = 2 then 3 else 5
theorem hdb_pos (b : Nat) : 0 < hdb b := by unfold hdb; split <;> (try split) <;> (try split) <;> (try split) <;> omega
theorem hdb_le (b : Nat) (h : b < 256) : hdb b ≤ 5 := by unfold hdb; split <;> (try split) <;> (try split) <;> (try split) <;> omega
/-- What a copy lays behind what is laid. -/
def cpy : Nat → Nat → List UInt8 → List UInt8
  | 0, _, out => out
  | n + 1, back, out => cpy n back (out ++ [out.getD (out.length - back) 0])
theorem cpy_length : ∀ (n back : Nat) (out : List UInt8), (cpy n back out).length = out.length + n
  | 0, _, _ => rfl
  | n + 1, back, out => by rw [cpy, cpy_length n]; simp; omega
theorem cpy_more : ∀ (n back : Nat) (out : List UInt8), cpy (n + 1) back out = cpy n back out ++ [(cpy n back out).getD ((cpy n back out).length - back) 0]
  | 0, _, _ => rfl
  | n + 1, back, out => by rw [cpy, cpy_more n, cpy]
theorem cpy_keep : ∀ (n back : Nat) (out : List UInt8) (i : Nat), i < out.length → (cpy n back out).getD i 0 = out.getD i 0
  | 0, _, _, _, _ => rfl
  | n + 1, back, out, i, h => by
    rw [cpy, cpy_keep n back _ i (by simp; omega)]
    simp [List.getD, List.getElem?_append_left h]
theorem cpy_at (n back : Nat) (out : List UInt8) (hb : 0 < back) (i : Nat) (h1 : out.length ≤ i) (h2 : i < out.length + n) : (cpy n back out).getD i 0 = (cpy n back out).getD (i - back) 0 := by
  induction n with
  | zero => omega
  | succ n ih =>
    have hl := cpy_length n back out
    have hm := cpy_more n back out
    by_cases he : i < out.length + n
    · have hk : ∀ j, j < out.length + n → (cpy (n + 1) back out).getD j 0 = (cpy n back out).getD j 0 := fun j hj => by
        rw [hm]
        simp [List.getD, List.getElem?_append_left (show j < (cpy n back out).length by omega)]
      rw [hk i he, hk (i - back) (by omega)]
      exact ih he
    · by_cases hz : i = 0
      · rw [show i - back = i by omega]
      obtain rfl : i = out.length + n := by omega
      have hk : (cpy (n + 1) back out).getD (out.length + n - back) 0 = (cpy n back out).getD (out.length + n - back) 0 ∨ out.length + n < back := by
        by_cases hb2 : back ≤ out.length + n
        · left
          rw [hm]
          simp [List.getD, List.getElem?_append_left (show out.length + n - back < (cpy n back out).length by omega)]
        · right; omega
      rw [hm]
      simp only [List.getD]
      rw [List.getElem?_append_right (by omega), hl, Nat.sub_self]
      simp only [List.getElem?_cons_zero, Option.getD_some]
      by_cases hb2 : out.length + n - back < (cpy n back out).length
      · rw [List.getElem?_append_left hb2]
      · omega
/-- What a copy from the beginning lays comes round. -/
theorem cpy_round (s : List UInt8) (k i : Nat) (h0 : 0 < s.length) (hi : i < s.length + k) : (cpy k s.length s).getD i 0 = s.getD (i % s.length) 0 := by
  induction i using Nat.strongRecOn with
  | _ i ih =>
    by_cases h : i < s.length
    · rw [cpy_keep _ _ _ _ h, Nat.mod_eq_of_lt h]
    · rw [cpy_at k s.length s h0 i (by omega) hi, ih (i - s.length) (by omega) (by omega), ← Nat.mod_eq_sub_mod (by omega)]

/-- How many bytes a literal lays; how many a copy lays, and how far back it goes. -/
def ltn (b : UInt8) (r : List UInt8) : Nat := if 60 ≤ b.toNat / 4 then num (r.take (hdb b.toNat - 1)) + 1 else b.toNat / 4 + 1
def cpn (b : UInt8) : Nat := if b.toNat % 4 = 1 then 4 + b.toNat / 4 % 8 else b.toNat / 4 + 1
def bck (b : UInt8) (r : List UInt8) : Nat := if b.toNat % 4 = 1 then b.toNat / 4 / 8 * 256 + num (r.take (hdb b.toNat - 1)) else num (r.take (hdb b.toNat - 1))
/-- One element of bytes that aren't none: the error, or the bytes behind it and what is laid. -/
def stp1 (b : UInt8) (r : List UInt8) (size : Nat) (out : List UInt8) : Except Nat (List UInt8 × List UInt8) :=
  if r.length + 1 < hdb b.toNat then .error 2
  else if b.toNat % 4 = 0 then
    if size - out.length < ltn b r then .error 3
    else if (r.drop (hdb b.toNat - 1)).length < ltn b r then .error 2
    else .ok ((r.drop (hdb b.toNat - 1)).drop (ltn b r), out ++ (r.drop (hdb b.toNat - 1)).take (ltn b r))
  else
    if bck b r = 0 ∨ out.length < bck b r ∨ size - out.length < cpn b then .error 3
    else .ok (r.drop (hdb b.toNat - 1), cpy (cpn b) (bck b r) out)
theorem stp1_ok {b : UInt8} {r : List UInt8} {size : Nat} {out s' out' : List UInt8} (h : stp1 b r size out = .ok (s', out')) :
    s'.length ≤ r.length ∧ out.length < out'.length ∧ (out.length ≤ size → out'.length ≤ size) := by
  unfold stp1 at h
  have hl : 0 < ltn b r := by unfold ltn; split <;> omega
  have hc : 0 < cpn b := by unfold cpn; split <;> omega
  by_cases h1 : r.length + 1 < hdb b.toNat
  · rw [if_pos h1] at h; exact nomatch h
  rw [if_neg h1] at h
  by_cases h2 : b.toNat % 4 = 0
  · rw [if_pos h2] at h
    by_cases h3 : size - out.length < ltn b r
    · rw [if_pos h3] at h; exact nomatch h
    rw [if_neg h3] at h
    by_cases h4 : (r.drop (hdb b.toNat - 1)).length < ltn b r
    · rw [if_pos h4] at h; exact nomatch h
    rw [if_neg h4] at h
    have h5 := Except.ok.inj h
    have h6 := congrArg Prod.fst h5
    have h7 := congrArg Prod.snd h5
    simp only at h6 h7
    subst h6 h7
    simp only [List.length_drop, List.length_append, List.length_take] at h4 ⊢
    omega
  · rw [if_neg h2] at h
    by_cases h3 : bck b r = 0 ∨ out.length < bck b r ∨ size - out.length < cpn b
    · rw [if_pos h3] at h; exact nomatch h
    rw [if_neg h3] at h
    have h5 := Except.ok.inj h
    have h6 := congrArg Prod.fst h5
    have h7 := congrArg Prod.snd h5
    simp only at h6 h7
    subst h6 h7
    rw [cpy_length]
    simp only [List.length_drop]
    omega
theorem stp1_less {b : UInt8} {r : List UInt8} {size : Nat} {out s' out' : List UInt8} (h : stp1 b r size out = .ok (s', out')) : s'.length ≤ r.length := (stp1_ok h).1
theorem stp1_size {b : UInt8} {r : List UInt8} {size : Nat} {out s' out' : List UInt8} (h : stp1 b r size out = .ok (s', out')) (ho : out.length ≤ size) : out'.length ≤ size := (stp1_ok h).2.2 ho
theorem stp1_err {b : UInt8} {r : List UInt8} {size : Nat} {out : List UInt8} {e : Nat} (h : stp1 b r size out = .error e) : e = 2 ∨ e = 3 := by
  unfold stp1 at h
  by_cases h1 : r.length + 1 < hdb b.toNat
  · rw [if_pos h1] at h; exact .inl (Except.error.inj h).symm
  rw [if_neg h1] at h
  by_cases h2 : b.toNat % 4 = 0
  · rw [if_pos h2] at h
    by_cases h3 : size - out.length < ltn b r
    · rw [if_pos h3] at h; exact .inr (Except.error.inj h).symm
    rw [if_neg h3] at h
    by_cases h4 : (r.drop (hdb b.toNat - 1)).length < ltn b r
    · rw [if_pos h4] at h; exact .inl (Except.error.inj h).symm
    rw [if_neg h4] at h; exact nomatch h
  · rw [if_neg h2] at h
    by_cases h3 : bck b r = 0 ∨ out.length < bck b r ∨ size - out.length < cpn b
    · rw [if_pos h3] at h; exact .inr (Except.error.inj h).symm
    rw [if_neg h3] at h; exact nomatch h
/-- What elements lay behind what is laid, with so much fuel. -/
def elm : Nat → List UInt8 → Nat → List UInt8 → List UInt8 × Nat
  | _, [], size, out => if out.length < size then ([], 2) else (out, 0)
  | 0, _ :: _, _, _ => ([], 0)
  | f + 1, b :: r, size, out => match stp1 b r size out with | .error e => ([], e) | .ok (s', out') => elm f s' size out'
theorem elm_fuel : ∀ (f g : Nat) (s : List UInt8) (size : Nat) (out : List UInt8), s.length ≤ f → s.length ≤ g → elm f s size out = elm g s size out
  | f, g, [], size, out, _, _ => by cases f <;> cases g <;> rfl
  | 0, _, _ :: _, _, _, h, _ => by simp at h
  | _ + 1, 0, _ :: _, _, _, _, h => by simp at h
  | f + 1, g + 1, b :: r, size, out, h1, h2 => by
    simp only [elm]
    cases hs : stp1 b r size out with
    | error e => rfl
    | ok p =>
      obtain ⟨s', out'⟩ := p
      have := stp1_less hs
      simp only [List.length_cons] at h1 h2
      exact elm_fuel f g s' size out' (by omega) (by omega)
/-- What elements lay behind what is laid. -/
def els (s : List UInt8) (size : Nat) (out : List UInt8) : List UInt8 × Nat := elm s.length s size out
theorem els_nil (size : Nat) (out : List UInt8) : els [] size out = if out.length < size then ([], 2) else (out, 0) := rfl
theorem els_cons (b : UInt8) (r : List UInt8) (size : Nat) (out : List UInt8) : els (b :: r) size out = match stp1 b r size out with | .error e => ([], e) | .ok (s', out') => els s' size out' := by
  unfold els
  simp only [List.length_cons, elm]
  cases hs : stp1 b r size out with
  | error e => rfl
  | ok p =>
    obtain ⟨s', out'⟩ := p
    exact elm_fuel _ _ _ _ _ (stp1_less hs) (Nat.le_refl _)
/-- What is laid without an error has the size. -/
theorem els_size : ∀ (n : Nat) (s : List UInt8) (size : Nat) (out : List UInt8), s.length ≤ n → out.length ≤ size → (els s size out).2 = 0 → (els s size out).1.length = size
  | _, [], size, out, _, ho, h => by
    rw [els_nil] at h ⊢
    split at h
    · cases h
    · rename_i h2; rw [if_neg h2]; simp only; omega
  | 0, _ :: _, _, _, hn, _, _ => by simp at hn
  | n + 1, b :: r, size, out, hn, ho, h => by
    rw [els_cons] at h ⊢
    cases hs : stp1 b r size out with
    | error e => rw [hs] at h; simp only at h; subst h; rcases stp1_err hs with h | h <;> exact absurd h (by decide)
    | ok p =>
      obtain ⟨s', out'⟩ := p
      rw [hs] at h
      simp only at h ⊢
      have := stp1_less hs
      simp only [List.length_cons] at hn
      exact els_size n s' size out' (by omega) (stp1_size hs ho) h

/-- A block's size, as bytes tell it. -/
def szs (s : List UInt8) : Nat × Nat × Nat := if (nx s 0 0).2.2 = 0 then (if 4294967295 < (nx s 0 0).1 then (0, 0, 5) else nx s 0 0) else (0, 0, (nx s 0 0).2.2)
/-- What a block of at most so many bytes unpacks to. -/
def upk (s : List UInt8) (most : Int) : List UInt8 × Nat := if (szs s).2.2 = 0 then (if most < ((szs s).1 : Int) then ([], 5) else els (s.drop (szs s).2.1) (szs s).1 []) else ([], (szs s).2.2)

/-- A literal alone. -/
theorem els_one (b : UInt8) (h t : List UInt8) (hb : b.toNat % 4 = 0) (hh : h.length + 1 = hdb b.toNat) (hn : (if 60 ≤ b.toNat / 4 then num h + 1 else b.toNat / 4 + 1) = t.length) (ht : 0 < t.length) : els (b :: (h ++ t)) t.length [] = (t, 0) := by
  have hk : hdb b.toNat - 1 = h.length := by omega
  have hl : ltn b (h ++ t) = t.length := by
    unfold ltn
    rw [hk, List.take_left' rfl]
    exact hn
  have hs : stp1 b (h ++ t) t.length [] = .ok ([], t) := by
    unfold stp1
    rw [if_neg (by rw [List.length_append]; omega), if_pos hb, hl, hk, List.drop_left' rfl]
    rw [if_neg (by simp), if_neg (by omega), List.drop_length, List.take_length]
    rfl
  rw [els_cons, hs]
  simp only [els_nil]
  rw [if_neg (by omega)]
end Go.Proofs.Ytacfhjcchoefjaa
