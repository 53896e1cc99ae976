/-
  Items as bytes (layer 9), as plain data: heads, the bytes of an item, how they are laid from the last one on, and what a reading tells. Plain functions, no program. No condition.
-/
import Derived.Test.YtegakecncpfnnaaFixM
import Derived.Test.YtegakecncpfnnaaItmM
namespace Go.Proofs.Ytegakecncpfnnaa

/-- A head by so much, of n bytes behind it. -/
def hd (by_ n : Nat) : List UInt8 := if n ≤ 55 then [UInt8.ofNat (by_ + n)] else UInt8.ofNat (by_ + 55 + digs n) :: least n
/-- Is it a text that is its own byte? -/
def bare (l : List UInt8) : Bool := match l with | [b] => decide (b.toNat < 128) | _ => false
theorem bare_len {l : List UInt8} (h : bare l = true) : l.length = 1 := by
  match l, h with
  | [_], _ => rfl
/-- A text's bytes. -/
def ptx (l : List UInt8) : List UInt8 := if bare l then l else hd 128 l.length ++ l
namespace T
mutual
/-- An item's bytes. -/
def put : T → List UInt8 | mk s l ts => if l then hd 192 (puts ts).length ++ puts ts else ptx s.data.toList
def puts : List T → List UInt8 | [] => [] | t :: r => put t ++ puts r
end
theorem put_text (s : ByteArray) (ts : List T) : put (mk s false ts) = ptx s.data.toList := by simp [put]
theorem put_list (s : ByteArray) (ts : List T) : put (mk s true ts) = hd 192 (puts ts).length ++ puts ts := by simp [put]
theorem puts_append (a b : List T) : puts (a ++ b) = puts a ++ puts b := by
  induction a with
  | nil => rfl
  | cons t r ih => simp [puts, ih]
theorem puts_take (ts : List T) (i : Nat) (h : i < ts.length) : puts (ts.take (i + 1)) = puts (ts.take i) ++ put ts[i] := by
  rw [take_more ts i h, puts_append]; simp [puts]
end T
theorem digs1 {n : Nat} (h : n ≠ 0) : 1 ≤ digs n := by rw [digs_pos h]; omega
theorem digs2 {n : Nat} (h : n ≤ 60000) : digs n ≤ 2 := digs_le.2 (by omega)
theorem least_len (n : Nat) : (least n).length = digs n := rfl
theorem hd_pos (b n : Nat) : 0 < (hd b n).length := by unfold hd; split <;> simp
theorem hd_le {b n : Nat} (h : n ≤ 60000) : (hd b n).length ≤ 3 := by
  unfold hd
  split
  · simp
  · have := digs2 h
    simp only [List.length_cons, least_len]; omega
theorem ptx_le {l : List UInt8} (h : l.length ≤ 60000) : (ptx l).length ≤ l.length + 3 := by
  unfold ptx
  split
  · omega
  · have := hd_le (b := 128) h; rw [List.length_append]; omega
theorem ptx_pos (l : List UInt8) : 0 < (ptx l).length := by
  unfold ptx
  split
  · rename_i h; rw [bare_len h]; omega
  · have := hd_pos 128 l.length; rw [List.length_append]; omega
namespace T
theorem put_pos : ∀ t : T, 0 < (put t).length
  | mk s l ts => by
    cases l
    · rw [put_text]; exact ptx_pos _
    · rw [put_list, List.length_append]; have := hd_pos 192 (puts ts).length; omega
theorem sz (s : ByteArray) : s.data.toList.length = s.size := by simp
mutual
theorem put_le : ∀ t : T, siz t + 3 * cnt t ≤ 60000 → (put t).length ≤ siz t + 3 * cnt t
  | mk s l ts, h => by
    simp only [siz, cnt] at h ⊢
    have h2 := puts_le ts (by omega)
    cases l
    · rw [put_text]
      have := ptx_le (l := s.data.toList) (by rw [sz]; omega)
      rw [sz] at this
      omega
    · rw [put_list, List.length_append]
      have := hd_le (b := 192) (n := (puts ts).length) (by omega)
      omega
theorem puts_le : ∀ ts : List T, sizs ts + 3 * cnts ts ≤ 60000 → (puts ts).length ≤ sizs ts + 3 * cnts ts
  | [], _ => by simp [puts]
  | t :: r, h => by
    simp only [sizs, cnts] at h ⊢
    have h1 := put_le t (by omega)
    have h2 := puts_le r (by omega)
    simp only [puts, List.length_append]
    omega
end

/-! What is laid, from the last byte on: lists that are open, each with what is still to be laid and how many bytes stand behind it. -/
/-- What becomes of these open lists (the inmost one first) and the bytes that are laid. -/
def fin : List (List T × Nat) → List UInt8 → List UInt8
  | [], acc => acc
  | (rest, bh) :: r, acc => fin r (hd 192 ((puts rest).length + acc.length - bh) ++ puts rest ++ acc)
theorem fin_list (s : ByteArray) (ts : List T) (F : List (List T × Nat)) (acc : List UInt8) : fin ((ts, acc.length) :: F) acc = fin F (put (mk s true ts) ++ acc) := by
  simp only [fin, put_list]
  rw [Nat.add_sub_cancel, List.append_assoc]
theorem fin_last (r : List T) (z : T) (bh : Nat) (F : List (List T × Nat)) (acc : List UInt8) : fin ((r ++ [z], bh) :: F) acc = fin ((r, bh) :: F) (put z ++ acc) := by
  simp only [fin, puts_append, puts, List.append_nil, List.length_append, List.append_assoc]
  congr 3
  omega
theorem fin_end (bh : Nat) (F : List (List T × Nat)) (acc : List UInt8) : fin (([], bh) :: F) acc = fin F (hd 192 (acc.length - bh) ++ acc) := by
  simp [fin, puts]
theorem fin_len : ∀ (F : List (List T × Nat)) (acc : List UInt8), acc.length ≤ (fin F acc).length
  | [], _ => Nat.le_refl _
  | (rest, bh) :: r, acc => by
    have := fin_len r (hd 192 ((puts rest).length + acc.length - bh) ++ puts rest ++ acc)
    simp only [fin]
    refine Nat.le_trans ?_ this
    simp only [List.length_append]; omega
/-- How much is still to be done. -/
def todo : List (List T × Nat) → Nat | [] => 0 | (rest, _) :: r => 2 * cnts rest + 1 + todo r

/-! What is read: lists that are open (the inmost one first), each with what was read and what is still to come. -/
/-- An item, so deep, with so many left: how many are left then, or the error. -/
inductive Out where
  | ok (left : Int)
  | err (e : Nat)
def Out.then_ (o : Out) (f : Int → Out) : Out := match o with | .ok l => f l | .err e => .err e
mutual
def rd (dp : Int) : T → Int → Int → Out
  | mk _ _ ts, deep, left => if dp < deep then .err 6 else if left ≤ 0 then .err 4 else rds dp ts (deep + 1) (left - 1)
def rds (dp : Int) : List T → Int → Int → Out
  | [], _, left => .ok left
  | t :: r, deep, left => (rd dp t deep left).then_ fun l => rds dp r deep l
end
theorem rd_eq (dp : Int) (t : T) (deep left : Int) : rd dp t deep left = if dp < deep then .err 6 else if left ≤ 0 then .err 4 else rds dp t.ts (deep + 1) (left - 1) := by
  cases t; rw [rd]; rfl
mutual
theorem rd_ok (dp : Int) : ∀ (t : T) (deep left : Int), deep + dep t ≤ dp + 1 → (cnt t : Int) ≤ left → rd dp t deep left = .ok (left - cnt t)
  | mk s l ts, deep, left, h1, h2 => by
    simp only [dep, cnt] at h1 h2 ⊢
    rw [rd, if_neg (by omega), if_neg (by omega), rds_ok dp ts (deep + 1) (left - 1) (by omega) (by omega)]
    congr 1; omega
theorem rds_ok (dp : Int) : ∀ (ts : List T) (deep left : Int), deep + deps ts ≤ dp + 1 → (cnts ts : Int) ≤ left → rds dp ts deep left = .ok (left - cnts ts)
  | [], _, _, _, _ => by simp [rds, cnts]
  | t :: r, deep, left, h1, h2 => by
    simp only [deps, cnts] at h1 h2 ⊢
    rw [rds, rd_ok dp t deep left (by omega) (by omega)]
    simp only [Out.then_]
    rw [rds_ok dp r deep _ (by omega) (by omega)]
    congr 1; omega
end
mutual
theorem rd_deep (dp : Int) : ∀ (t : T) (deep left : Int), dp + 1 < deep + dep t → (cnt t : Int) ≤ left → rd dp t deep left = .err 6
  | mk s l ts, deep, left, h1, h2 => by
    simp only [dep, cnt] at h1 h2 ⊢
    by_cases h : dp < deep
    · rw [rd, if_pos h]
    · rw [rd, if_neg h, if_neg (by omega)]
      exact rds_deep dp ts (deep + 1) (left - 1) (by omega) (by omega) (by omega)
theorem rds_deep (dp : Int) : ∀ (ts : List T) (deep left : Int), dp + 1 < deep + deps ts → (cnts ts : Int) ≤ left → deep ≤ dp + 1 → rds dp ts deep left = .err 6
  | [], deep, _, h1, _, h3 => by simp only [deps] at h1; omega
  | t :: r, deep, left, h1, h2, h3 => by
    simp only [deps, cnts] at h1 h2 ⊢
    by_cases h : dp + 1 < deep + dep t
    · rw [rds, rd_deep dp t deep left h (by omega)]; rfl
    · rw [rds, rd_ok dp t deep left (by omega) (by omega)]
      simp only [Out.then_]
      exact rds_deep dp r deep _ (by omega) (by omega) h3
end
mutual
theorem rd_many (dp : Int) : ∀ (t : T) (deep left : Int), deep + dep t ≤ dp + 1 → left < (cnt t : Int) → rd dp t deep left = .err 4
  | mk s l ts, deep, left, h1, h2 => by
    simp only [dep, cnt] at h1 h2 ⊢
    by_cases h : left ≤ 0
    · rw [rd, if_neg (by omega), if_pos h]
    · rw [rd, if_neg (by omega), if_neg h]
      exact rds_many dp ts (deep + 1) (left - 1) (by omega) (by omega) (by omega)
theorem rds_many (dp : Int) : ∀ (ts : List T) (deep left : Int), deep + deps ts ≤ dp + 1 → left < (cnts ts : Int) → 0 ≤ left → rds dp ts deep left = .err 4
  | [], deep, _, _, h2, h3 => by simp only [cnts] at h2; omega
  | t :: r, deep, left, h1, h2, h3 => by
    simp only [deps, cnts] at h1 h2 ⊢
    by_cases h : left < (cnt t : Int)
    · rw [rds, rd_many dp t deep left (by omega) h]; rfl
    · rw [rds, rd_ok dp t deep left (by omega) (by omega)]
      simp only [Out.then_]
      exact rds_many dp r deep _ (by omega) (by omega) (by omega)
end

/-- An open list: what was read of it, and what is still to come behind the item that is next. -/
abbrev Fr2 := List T × List T
/-- The whole, with y next. -/
def plug : List Fr2 → T → T
  | [], y => y
  | (done, rest) :: F, y => plug F (mk ⟨#[]⟩ true (done ++ y :: rest))
/-- What is behind the next item, up to the whole's end. -/
def tail : List Fr2 → List UInt8
  | [] => []
  | (_, rest) :: F => puts rest ++ tail F
/-- What is told behind the next item. -/
def outs (dp : Int) : List Fr2 → Int → Out
  | [], left => .ok left
  | (_, rest) :: F, left => (rds dp rest ((F.length : Int) + 2) left).then_ (outs dp F)
/-- What is told with y next. -/
def out (dp : Int) (F : List Fr2) (y : T) (left : Int) : Out := (rd dp y ((F.length : Int) + 1) left).then_ (outs dp F)

theorem Out.assoc (o : Out) (f g : Int → Out) : (o.then_ f).then_ g = o.then_ fun l => (f l).then_ g := by cases o <;> rfl
theorem out_deep {dp : Int} {F : List Fr2} {y : T} {left : Int} (h : dp ≤ (F.length : Int)) : out dp F y left = .err 6 := by
  unfold out; rw [rd_eq, if_pos (by omega)]; rfl
theorem out_many {dp : Int} {F : List Fr2} {y : T} {left : Int} (h : (F.length : Int) < dp) (h2 : left ≤ 0) : out dp F y left = .err 4 := by
  unfold out; rw [rd_eq, if_neg (by omega), if_pos h2]; rfl
theorem out_leaf {dp : Int} {F : List Fr2} {y : T} {left : Int} (h : (F.length : Int) < dp) (h2 : 0 < left) (hy : y.ts = []) : out dp F y left = outs dp F (left - 1) := by
  unfold out; rw [rd_eq, if_neg (by omega), if_neg (by omega), hy, rds]; rfl
theorem out_open {dp : Int} {F : List Fr2} {s : ByteArray} {z : T} {zs : List T} {left : Int} (h : (F.length : Int) < dp) (h2 : 0 < left) :
    out dp F (mk s true (z :: zs)) left = out dp (([], zs) :: F) z (left - 1) := by
  unfold out
  rw [rd_eq, if_neg (by omega), if_neg (by omega)]
  simp only [ts, rds, outs, List.length_cons]
  rw [Out.assoc, show ((F.length + 1 : Nat) : Int) + 1 = (F.length : Int) + 1 + 1 by omega]
  simp only [show (F.length : Int) + 2 = (F.length : Int) + 1 + 1 by omega]
theorem outs_end (dp : Int) (d : List T) (F : List Fr2) (left : Int) : outs dp ((d, []) :: F) left = outs dp F left := by simp [outs, rds, Out.then_]
theorem outs_next (dp : Int) (d d' : List T) (z : T) (zs : List T) (F : List Fr2) (left : Int) : outs dp ((d, z :: zs) :: F) left = out dp ((d', zs) :: F) z left := by
  unfold out
  simp only [outs, rds, List.length_cons]
  rw [Out.assoc, show ((F.length + 1 : Nat) : Int) + 1 = (F.length : Int) + 2 by omega]
/-- What is behind y in its list, and that list closed, and so on: the next item, or the whole. -/
theorem plug_next (d : List T) (y z : T) (zs : List T) (F : List Fr2) : plug ((d, z :: zs) :: F) y = plug ((d ++ [y], zs) :: F) z := by simp [plug]
theorem plug_end (d : List T) (y : T) (F : List Fr2) : plug ((d, []) :: F) y = plug F (mk ⟨#[]⟩ true (d ++ [y])) := by simp [plug]
end T
end Go.Proofs.Ytegakecncpfnnaa
