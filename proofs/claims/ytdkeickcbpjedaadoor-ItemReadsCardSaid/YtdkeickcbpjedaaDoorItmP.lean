/-
  An item's line, as plain data. Plain functions, no program. No condition.
-/
import Derived.Test.YtdkeickcbpjedaaDoorItmM
namespace Go.Proofs.YtdkeickcbpjedaaDoor

/-- The digits of base 16. -/
def DG : List UInt8 := [48, 49, 50, 51, 52, 53, 54, 55, 56, 57, 97, 98, 99, 100, 101, 102]
def dg (n : Nat) : UInt8 := DG.getD n 0
/-- Each byte as two digits. -/
def hexs : List UInt8 → List UInt8
  | [] => []
  | b :: r => dg (b.toNat / 16) :: dg (b.toNat % 16) :: hexs r
theorem hexs_append (a b : List UInt8) : hexs (a ++ b) = hexs a ++ hexs b := by
  induction a with
  | nil => rfl
  | cons x r ih => simp [hexs, ih]
theorem hexs_length (a : List UInt8) : (hexs a).length = 2 * a.length := by
  induction a with
  | nil => rfl
  | cons x r ih => simp [hexs, ih]; omega
theorem hexs_take (l : List UInt8) (j : Nat) (h : j < l.length) : hexs (l.take (j + 1)) = hexs (l.take j) ++ [dg (l[j].toNat / 16), dg (l[j].toNat % 16)] := by
  rw [List.take_add_one, List.getElem?_eq_getElem h, hexs_append]; rfl

namespace T
mutual
/-- The line of an item. -/
def shw : T → List UInt8 | mk s l ts => if l then 40 :: ((shs ts).tail ++ [41]) else if s.size = 0 then [45] else hexs s.data.toList
/-- The lines of items, a blank ahead of each. -/
def shs : List T → List UInt8 | [] => [] | t :: r => 32 :: (shw t ++ shs r)
end
theorem shs_append (a b : List T) : shs (a ++ b) = shs a ++ shs b := by
  induction a with
  | nil => simp [shs]
  | cons t r ih => simp [shs, ih]
theorem shs_take (ts : List T) (j : Nat) (h : j < ts.length) : shs (ts.take (j + 1)) = shs (ts.take j) ++ 32 :: shw ts[j] := by
  rw [take_more ts j h, shs_append]; simp [shs]
theorem shs_ne (ts : List T) (j : Nat) (h : j < ts.length) (hj : 0 < j) : shs (ts.take j) ≠ [] := by
  rcases ts with _ | ⟨t, r⟩
  · simp at h
  · obtain ⟨k, rfl⟩ : ∃ k, j = k + 1 := ⟨j - 1, by omega⟩
    simp [shs]
theorem shs_first (ts : List T) (h : 0 < ts.length) : (shs (ts.take 1)).tail = shw ts[0] := by
  rw [shs_take ts 0 h]; simp [shs]
theorem shs_next (ts : List T) (j : Nat) (h : j < ts.length) (hj : 0 < j) : (shs (ts.take (j + 1))).tail = (shs (ts.take j)).tail ++ 32 :: shw ts[j] := by
  rw [shs_take ts j h, List.tail_append_of_ne_nil (shs_ne ts j h hj)]
mutual
theorem shw_length : ∀ t : T, (shw t).length + 1 ≤ 2 * siz t + 3 * cnt t
  | mk s l ts => by
    have := shs_length ts
    simp only [shw, siz, cnt]
    split
    · simp; omega
    · split
      · simp; omega
      · rw [hexs_length, Array.length_toList]
        have : s.data.size = s.size := rfl
        omega
theorem shs_length : ∀ ts : List T, (shs ts).length ≤ 2 * sizs ts + 3 * cnts ts
  | [] => by simp [shs]
  | t :: r => by
    have h1 := shw_length t
    have h2 := shs_length r
    have h3 := cnt_pos t
    simp only [shs, sizs, cnts, List.length_cons, List.length_append]
    omega
end
end T
end Go.Proofs.YtdkeickcbpjedaaDoor
