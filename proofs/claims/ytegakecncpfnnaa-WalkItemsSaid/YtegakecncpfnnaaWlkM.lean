/-
  Items as rows of tokens (layer 10), as plain data: the tokens of an item, which rows are an item's, how a row is passed, checked, built, measured and laid. Plain functions, no program. No condition.
-/
import Derived.Test.YtegakecncpfnnaaRlpM
namespace Go.Proofs.Ytegakecncpfnnaa

/-- A token: its kind, its text. -/
structure Tok where
  k : Int
  t : ByteArray
def opn : Tok := ⟨1, ⟨#[]⟩⟩
def sht : Tok := ⟨2, ⟨#[]⟩⟩
def wrd (s : ByteArray) : Tok := ⟨3, s⟩
namespace T
mutual
/-- The tokens of an item. -/
def toks : T → List Tok | mk s l ts => if l then opn :: (tokss ts ++ [sht]) else [wrd s]
def tokss : List T → List Tok | [] => [] | t :: r => toks t ++ tokss r
end
theorem toks_text (s : ByteArray) (ts : List T) : toks (mk s false ts) = [wrd s] := by simp [toks]
theorem toks_list (s : ByteArray) (ts : List T) : toks (mk s true ts) = opn :: (tokss ts ++ [sht]) := by simp [toks]
theorem tokss_append (a b : List T) : tokss (a ++ b) = tokss a ++ tokss b := by
  induction a with
  | nil => rfl
  | cons t r ih => simp [tokss, ih]
theorem tokss_one (a : List T) (t : T) : tokss (a ++ [t]) = tokss a ++ toks t := by rw [tokss_append]; simp [tokss]
theorem rgt_text {s : ByteArray} {ts : List T} (h : rgt (mk s false ts) = true) : ts = [] := by
  simp only [rgt, own, Bool.and_eq_true] at h
  simpa using h.1
theorem rgt_list {s : ByteArray} {ts : List T} (h : rgt (mk s true ts) = true) : s = ⟨#[]⟩ ∧ rgts ts = true := by
  simp only [rgt, own, Bool.and_eq_true] at h
  refine ⟨?_, h.2⟩
  have h1 : s.size = 0 := by simpa using h.1
  obtain ⟨⟨l⟩⟩ := s
  cases l with
  | nil => rfl
  | cons b m => simp [ByteArray.size] at h1
theorem rgts_mem : ∀ (ts : List T), rgts ts = true → ∀ t ∈ ts, rgt t = true
  | [], _, _, hm => absurd hm List.not_mem_nil
  | u :: r, h, t, hm => by
    simp only [rgts, Bool.and_eq_true] at h
    rcases List.mem_cons.1 hm with e | hr
    · rw [e]; exact h.1
    · exact rgts_mem r h.2 t hr
theorem toks_head : ∀ t : T, ∃ a r, toks t = a :: r ∧ a.k ≠ 2
  | mk s l ts => by
    cases l
    · exact ⟨_, _, toks_text s ts, by simp [wrd]⟩
    · exact ⟨_, _, toks_list s ts, by decide⟩
theorem toks_pos (t : T) : 0 < (toks t).length := by
  obtain ⟨a, r, h, _⟩ := toks_head t
  rw [h]; simp

/-- One row of tokens begins with the tokens of at most one item. -/
theorem toks_inj : ∀ (t u : T) (x y : List Tok), rgt t = true → rgt u = true → toks t ++ x = toks u ++ y → t = u ∧ x = y := by
  refine ind_ ?_
  intro s l ts ih u x y hr hu h
  obtain ⟨s', l', us⟩ := u
  cases l <;> cases l'
  · rw [toks_text, toks_text] at h
    rw [rgt_text hr, rgt_text hu]
    simp only [List.cons_append, List.nil_append, List.cons.injEq, wrd, Tok.mk.injEq, true_and] at h
    exact ⟨by rw [h.1], h.2⟩
  · rw [toks_text, toks_list] at h
    simp [wrd, opn] at h
  · rw [toks_text, toks_list] at h
    simp [wrd, opn] at h
  · rw [toks_list, toks_list] at h
    obtain ⟨rfl, hr'⟩ := rgt_list hr
    obtain ⟨rfl, hu'⟩ := rgt_list hu
    simp only [List.cons_append, List.append_assoc, List.nil_append, List.cons.injEq, true_and] at h
    have key : ∀ (ts us : List T), (∀ t ∈ ts, ∀ (u : T) (x y : List Tok), rgt t = true → rgt u = true → toks t ++ x = toks u ++ y → t = u ∧ x = y) → rgts ts = true → rgts us = true →
        tokss ts ++ sht :: x = tokss us ++ sht :: y → ts = us ∧ x = y := by
      intro ts
      induction ts with
      | nil =>
        intro us _ _ _ h
        cases us with
        | nil => simp only [tokss, List.nil_append, List.cons.injEq, true_and] at h; exact ⟨rfl, h⟩
        | cons u r =>
          obtain ⟨a, q, e, ha⟩ := toks_head u
          simp only [tokss, e, List.nil_append, List.cons_append, List.cons.injEq] at h
          exact absurd (by rw [← h.1]; rfl) ha
      | cons t r ih2 =>
        intro us hi h1 h2 h
        cases us with
        | nil =>
          obtain ⟨a, q, e, ha⟩ := toks_head t
          simp only [tokss, e, List.nil_append, List.cons_append, List.cons.injEq] at h
          exact absurd (by rw [h.1]; rfl) ha
        | cons u r2 =>
          simp only [tokss, List.append_assoc] at h
          simp only [rgts, Bool.and_eq_true] at h1 h2
          obtain ⟨e1, e2⟩ := hi t (List.mem_cons_self ..) u _ _ h1.1 h2.1 h
          obtain ⟨e3, e4⟩ := ih2 r2 (fun t ht => hi t (List.mem_cons_of_mem _ ht)) h1.2 h2.2 e2
          exact ⟨by rw [e1, e3], e4⟩
    obtain ⟨e1, e2⟩ := key ts us ih hr' hu' h
    exact ⟨by rw [e1], e2⟩
/-- Items that stand at a list's beginning are its first ones. -/
theorem tokss_pre : ∀ (a us : List T) (x y : List Tok), rgts a = true → rgts us = true → tokss a ++ x = tokss us ++ sht :: y → (∀ c q, x = c :: q → True) → ∃ vs, us = a ++ vs ∧ x = tokss vs ++ sht :: y
  | [], us, x, y, _, _, h, _ => ⟨us, rfl, h⟩
  | t :: r, [], x, y, _, _, h, _ => by
    obtain ⟨a, q, e, ha⟩ := toks_head t
    simp only [tokss, e, List.nil_append, List.cons_append, List.cons.injEq] at h
    exact absurd (by rw [h.1]; rfl) ha
  | t :: r, u :: r2, x, y, h1, h2, h, h3 => by
    simp only [tokss, List.append_assoc] at h
    simp only [rgts, Bool.and_eq_true] at h1 h2
    obtain ⟨rfl, e2⟩ := toks_inj t u _ _ h1.1 h2.1 h
    obtain ⟨vs, rfl, hx⟩ := tokss_pre r r2 x y h1.2 h2.2 e2 h3
    exact ⟨vs, rfl, hx⟩
mutual
theorem toks_le : ∀ t : T, (toks t).length ≤ 2 * cnt t
  | mk s l ts => by
    have := tokss_le ts
    cases l
    · rw [toks_text]; simp [cnt]; omega
    · rw [toks_list]; simp [cnt]; omega
theorem tokss_le : ∀ ts : List T, (tokss ts).length ≤ 2 * cnts ts
  | [] => by simp [tokss]
  | t :: r => by have := toks_le t; have := tokss_le r; simp [tokss, cnts]; omega
end
end T

/-- By how much a token changes how many lists are open. -/
def stp (a : Tok) : Int := if a.k = 1 then 1 else if a.k = 2 then -1 else 0
/-- Where the item that begins a row ends. -/
def skp : List Tok → Int → Nat → Option Nat
  | [], _, _ => none
  | a :: r, o, i => if o + stp a = 0 then some (i + 1) else skp r (o + stp a) (i + 1)
/-- What Skip of a row at its beginning tells. -/
def skip0 (l : List Tok) : Nat × Nat := match l with
  | [] => (0, 1)
  | a :: _ => if a.k = 1 ∨ a.k = 3 then (match skp l 0 0 with | some n => (n, 0) | none => (0, 3)) else (0, 3)
/-- Whether a row's tokens, one by one, may be, behind so many open lists and items. -/
def chk : List Tok → Int → Nat → Bool
  | [], _, _ => true
  | a :: r, o, n =>
    if a.k = 3 then decide (o + stp a + 1 ≤ 16) && (decide (n + 1 ≤ 1024) && chk r (o + stp a) (n + 1))
    else if a.t.size = 0 then
      (if a.k = 1 then decide (o + stp a ≤ 16) && (decide (n + 1 ≤ 1024) && chk r (o + stp a) (n + 1))
       else if a.k = 2 then decide (o + stp a ≤ 16) && (decide (n ≤ 1024) && chk r (o + stp a) n) else false)
    else false
theorem skp_le : ∀ (l : List Tok) (o : Int) (i n : Nat), skp l o i = some n → n ≤ i + l.length
  | [], _, _, _, h => by cases h
  | a :: r, o, i, n, h => by
    unfold skp at h
    split at h
    · injection h with h; simp; omega
    · have := skp_le r _ _ _ h; simp; omega
/-- Whether a row is an item's that may be. -/
def mayk (l : List Tok) : Bool := decide (skip0 l = (l.length, 0)) && chk l 0 0

theorem chk_word (s : ByteArray) (r : List Tok) (o : Int) (n : Nat) : chk (wrd s :: r) o n = true ↔ o + 1 ≤ 16 ∧ n + 1 ≤ 1024 ∧ chk r o (n + 1) = true := by
  simp [chk, wrd, stp, Bool.and_eq_true]
theorem chk_open (r : List Tok) (o : Int) (n : Nat) : chk (opn :: r) o n = true ↔ o + 1 ≤ 16 ∧ n + 1 ≤ 1024 ∧ chk r (o + 1) (n + 1) = true := by
  simp [chk, opn, stp, ByteArray.size, Bool.and_eq_true]
theorem chk_shut (r : List Tok) (o : Int) (n : Nat) : chk (sht :: r) o n = true ↔ o - 1 ≤ 16 ∧ n ≤ 1024 ∧ chk r (o - 1) n = true := by
  simp [chk, sht, stp, ByteArray.size, Bool.and_eq_true, Int.sub_eq_add_neg]
theorem chk_inv (a : Tok) (r : List Tok) (o : Int) (n : Nat) (h : chk (a :: r) o n = true) : (∃ s, a = wrd s) ∨ a = opn ∨ a = sht := by
  obtain ⟨k, t⟩ := a
  unfold chk at h
  split at h
  · rename_i h1; simp only at h1; exact .inl ⟨t, by rw [h1]; rfl⟩
  · split at h
    · rename_i h1
      have ht : t = ⟨#[]⟩ := by
        obtain ⟨⟨l⟩⟩ := t
        cases l with
        | nil => rfl
        | cons b m => simp [ByteArray.size] at h1
      split at h
      · rename_i h2; simp only at h2; exact .inr (.inl (by rw [h2, ht]; rfl))
      · split at h
        · rename_i h2; simp only at h2; exact .inr (.inr (by rw [h2, ht]; rfl))
        · cases h
    · cases h
theorem skp_in : ∀ (t : T) (o : Int) (i : Nat) (r : List Tok), 1 ≤ o → skp (T.toks t ++ r) o i = skp r o (i + (T.toks t).length) := by
  refine T.ind_ ?_
  intro s l ts ih o i r ho
  cases l
  · rw [T.toks_text]
    simp only [List.cons_append, List.nil_append, skp, stp, wrd, List.length_cons, List.length_nil]
    rw [if_neg (by simp; omega)]
    simp
  · have key : ∀ (ts : List T), (∀ t ∈ ts, ∀ (o : Int) (i : Nat) (r : List Tok), 1 ≤ o → skp (T.toks t ++ r) o i = skp r o (i + (T.toks t).length)) →
        ∀ (o : Int) (i : Nat) (r : List Tok), 1 ≤ o → skp (T.tokss ts ++ r) o i = skp r o (i + (T.tokss ts).length) := by
      intro ts
      induction ts with
      | nil => intro _ o i r _; simp [T.tokss]
      | cons t q ih2 =>
        intro hi o i r ho
        simp only [T.tokss, List.append_assoc, List.length_append]
        rw [hi t (List.mem_cons_self ..) o i _ ho, ih2 (fun t ht => hi t (List.mem_cons_of_mem _ ht)) o _ r ho, Nat.add_assoc]
    rw [T.toks_list]
    simp only [List.cons_append, List.append_assoc, List.nil_append, List.length_cons, List.length_append, List.length_nil]
    rw [skp, if_neg (by simp [stp, opn]; omega)]
    rw [show o + stp opn = o + 1 from by simp [stp, opn], key ts ih (o + 1) _ _ (by omega), skp, if_neg (by simp [stp, sht]; omega), show o + 1 + stp sht = o by simp [stp, sht]; omega]
    congr 1
    omega
theorem skp_ins (ts : List T) (o : Int) (i : Nat) (r : List Tok) (ho : 1 ≤ o) : skp (T.tokss ts ++ r) o i = skp r o (i + (T.tokss ts).length) := by
  induction ts generalizing i with
  | nil => simp [T.tokss]
  | cons t q ih =>
    simp only [T.tokss, List.append_assoc, List.length_append]
    rw [skp_in t o i _ ho, ih, Nat.add_assoc]
theorem skip0_toks (t : T) : skip0 (T.toks t) = ((T.toks t).length, 0) := by
  obtain ⟨s, l, ts⟩ := t
  cases l
  · rw [T.toks_text]; simp [skip0, skp, stp, wrd]
  · rw [T.toks_list]
    have h : skp (opn :: (T.tokss ts ++ [sht])) 0 0 = some (opn :: (T.tokss ts ++ [sht])).length := by
      rw [skp, if_neg (by simp [stp, opn]), show (0 : Int) + stp opn = 1 by simp [stp, opn], skp_ins ts 1 _ _ (by omega), skp, if_pos (by simp [stp, sht])]
      simp; omega
    unfold skip0
    simp only [h]
    rw [if_pos (by left; rfl)]
theorem chk_in : ∀ (t : T) (o : Int) (n : Nat) (r : List Tok), T.rgt t = true → (chk (T.toks t ++ r) o n = true ↔ o + T.dep t ≤ 16 ∧ n + T.cnt t ≤ 1024 ∧ chk r o (n + T.cnt t) = true) := by
  refine T.ind_ ?_
  intro s l ts ih o n r hr
  cases l
  · obtain rfl := T.rgt_text hr
    rw [T.toks_text]
    simp only [List.cons_append, List.nil_append, chk_word]
    simp [T.dep, T.deps, T.cnt, T.cnts]
  · have key : ∀ (ts : List T), (∀ t ∈ ts, ∀ (o : Int) (n : Nat) (r : List Tok), T.rgt t = true → (chk (T.toks t ++ r) o n = true ↔ o + T.dep t ≤ 16 ∧ n + T.cnt t ≤ 1024 ∧ chk r o (n + T.cnt t) = true)) → T.rgts ts = true →
        ∀ (o : Int) (n : Nat) (r : List Tok), o ≤ 16 → n ≤ 1024 → (chk (T.tokss ts ++ r) o n = true ↔ o + T.deps ts ≤ 16 ∧ n + T.cnts ts ≤ 1024 ∧ chk r o (n + T.cnts ts) = true) := by
      intro ts
      induction ts with
      | nil => intro _ _ o n r ho hn; simp [T.tokss, T.deps, T.cnts, ho, hn]
      | cons t q ih2 =>
        intro hi hg o n r ho hn
        simp only [T.rgts, Bool.and_eq_true] at hg
        simp only [T.tokss, List.append_assoc, T.deps, T.cnts]
        rw [hi t (List.mem_cons_self ..) o n _ hg.1]
        constructor
        · rintro ⟨h1, h2, h3⟩
          rw [ih2 (fun t ht => hi t (List.mem_cons_of_mem _ ht)) hg.2 o _ r ho h2] at h3
          obtain ⟨h4, h5, h6⟩ := h3
          exact ⟨by omega, by omega, by rwa [← Nat.add_assoc]⟩
        · rintro ⟨h1, h2, h3⟩
          refine ⟨by omega, by omega, ?_⟩
          rw [ih2 (fun t ht => hi t (List.mem_cons_of_mem _ ht)) hg.2 o _ r ho (by omega)]
          exact ⟨by omega, by omega, by rwa [Nat.add_assoc]⟩
    obtain ⟨_, hg⟩ := T.rgt_list hr
    rw [T.toks_list]
    simp only [List.cons_append, List.append_assoc, List.nil_append, chk_open, T.dep, T.cnt]
    constructor
    · rintro ⟨h1, h2, h3⟩
      rw [key ts ih hg (o + 1) _ _ h1 h2, chk_shut] at h3
      obtain ⟨h4, h5, h6, h7, h8⟩ := h3
      refine ⟨by omega, by omega, ?_⟩
      rw [show o + 1 - 1 = o by omega] at h8
      rwa [show n + (T.cnts ts + 1) = n + 1 + T.cnts ts by omega]
    · rintro ⟨h1, h2, h3⟩
      refine ⟨by omega, by omega, ?_⟩
      rw [key ts ih hg (o + 1) _ _ (by omega) (by omega), chk_shut]
      refine ⟨by omega, by omega, by omega, by omega, ?_⟩
      rw [show o + 1 - 1 = o by omega]
      rwa [show n + 1 + T.cnts ts = n + (T.cnts ts + 1) by omega]
/-- The tokens of lists that are open, the inmost one first. -/
def flt : List (List T) → List Tok
  | [] => []
  | s :: q => flt q ++ opn :: T.tokss s
theorem parse_ex : ∀ (r : List Tok) (st : List (List T)) (i n : Nat), st ≠ [] → (∀ s ∈ st, T.rgts s = true) → skp r st.length i = some (i + r.length) → chk r st.length n = true → ∃ t, T.rgt t = true ∧ flt st ++ r = T.toks t
  | [], _, _, _, _, _, h, _ => by cases h
  | a :: r, st, i, n, hne, hg, h, hc => by
    have hpos : 1 ≤ st.length := List.length_pos_iff.2 hne
    have hl : i + (a :: r).length = i + 1 + r.length := by simp; omega
    rcases chk_inv a r _ n hc with ⟨s, rfl⟩ | rfl | rfl
    · obtain ⟨h1, h2, h3⟩ := (chk_word s r _ n).1 hc
      match st, hne with
      | u :: q, _ =>
        rw [skp, if_neg (by simp [stp, wrd]; omega), show ((u :: q).length : Int) + stp (wrd s) = (u :: q).length by simp [stp, wrd], hl] at h
        obtain ⟨t, e1, e2⟩ := parse_ex r ((u ++ [.mk s false []]) :: q) (i + 1) (n + 1) (by simp) (by
          intro v hv
          rcases List.mem_cons.1 hv with rfl | hv
          · rw [T.rgts_append, hg u (List.mem_cons_self ..)]; simp [T.rgts, T.rgt, T.own]
          · exact hg v (List.mem_cons_of_mem _ hv)) h h3
        refine ⟨t, e1, ?_⟩
        rw [← e2, flt, flt, T.tokss_one, T.toks_text]
        simp
    · obtain ⟨h1, h2, h3⟩ := (chk_open r _ n).1 hc
      rw [skp, if_neg (by simp [stp, opn]; omega), show (st.length : Int) + stp opn = (([] :: st : List (List T)).length : Nat) by simp [stp, opn], hl] at h
      rw [show (st.length : Int) + 1 = (([] :: st : List (List T)).length : Nat) by simp] at h3
      obtain ⟨t, e1, e2⟩ := parse_ex r ([] :: st) (i + 1) (n + 1) (by simp) (by
          intro v hv
          rcases List.mem_cons.1 hv with rfl | hv
          · rfl
          · exact hg v hv) h h3
      refine ⟨t, e1, ?_⟩
      rw [← e2, flt]
      simp [T.tokss]
    · obtain ⟨h1, h2, h3⟩ := (chk_shut r _ n).1 hc
      match st, hne with
      | [u], _ =>
        rw [skp, if_pos (by simp [stp, sht]), hl] at h
        injection h with h
        have : r = [] := List.length_eq_zero_iff.1 (by omega)
        subst this
        refine ⟨.mk ⟨#[]⟩ true u, ?_, ?_⟩
        · simp [T.rgt, T.own, ByteArray.size, hg u (List.mem_cons_self ..)]
        · rw [T.toks_list]; simp [flt]
      | u :: v :: q, _ =>
        rw [skp, if_neg (by simp [stp, sht]; omega), show ((u :: v :: q).length : Int) + stp sht = (((v ++ [T.mk ⟨#[]⟩ true u]) :: q).length : Nat) by simp [stp, sht]; omega, hl] at h
        rw [show ((u :: v :: q).length : Int) - 1 = (((v ++ [T.mk ⟨#[]⟩ true u]) :: q).length : Nat) by simp] at h3
        obtain ⟨t, e1, e2⟩ := parse_ex r ((v ++ [.mk ⟨#[]⟩ true u]) :: q) (i + 1) n (by simp) (by
          intro x hx
          rcases List.mem_cons.1 hx with rfl | hx
          · rw [T.rgts_append, hg v (by simp)]; simp [T.rgts, T.rgt, T.own, ByteArray.size, hg u (List.mem_cons_self ..)]
          · exact hg x (List.mem_cons_of_mem _ (List.mem_cons_of_mem _ hx))) h h3
        refine ⟨t, e1, ?_⟩
        rw [← e2, flt, flt, flt, T.tokss_one, T.toks_list]
        simp
theorem skip0_inv {l : List Tok} (h : skip0 l = (l.length, 0)) : ∃ a r, l = a :: r ∧ (a.k = 1 ∨ a.k = 3) ∧ skp l 0 0 = some l.length := by
  match l, h with
  | [], h => simp [skip0] at h
  | a :: r, h =>
    unfold skip0 at h
    simp only at h
    split at h
    · rename_i hk
      refine ⟨a, r, rfl, hk, ?_⟩
      split at h
      · rename_i n hn; rw [hn]; simp at h; simp [h]
      · simp at h
    · simp at h
/-- A row is an item's that may be, or it isn't. -/
theorem mayk_iff (l : List Tok) : mayk l = true ↔ ∃ t, T.may t = true ∧ l = T.toks t := by
  unfold mayk T.may
  simp only [Bool.and_eq_true, decide_eq_true_eq]
  constructor
  · rintro ⟨h1, h2⟩
    obtain ⟨a, r, rfl, hk, hs⟩ := skip0_inv h1
    have key : ∃ t, T.rgt t = true ∧ a :: r = T.toks t := by
      rcases chk_inv a r 0 0 h2 with ⟨s, rfl⟩ | rfl | rfl
      · rw [skp, if_pos (by simp [stp, wrd])] at hs
        injection hs with hs
        have : r = [] := List.length_eq_zero_iff.1 (by rw [List.length_cons] at hs; omega)
        subst this
        exact ⟨.mk s false [], by simp [T.rgt, T.own, T.rgts], (T.toks_text s []).symm⟩
      · obtain ⟨_, _, h3⟩ := (chk_open r 0 0).1 h2
        rw [skp, if_neg (by simp [stp, opn]), show (0 : Int) + stp opn = (([[]] : List (List T)).length : Nat) by simp [stp, opn], show (opn :: r).length = 1 + r.length by simp; omega] at hs
        obtain ⟨t, e1, e2⟩ := parse_ex r [[]] 1 1 (by simp) (by simp [T.rgts]) hs h3
        exact ⟨t, e1, by rw [← e2]; simp [flt, T.tokss]⟩
      · rcases hk with hk | hk <;> exact absurd hk (by decide)
    obtain ⟨t, e1, e2⟩ := key
    rw [e2] at h2
    have h4 := (chk_in t 0 0 [] e1).1 (by rw [List.append_nil]; exact h2)
    exact ⟨t, ⟨⟨e1, by omega⟩, by omega⟩, e2⟩
  · rintro ⟨t, ⟨⟨h1, h2⟩, h3⟩, rfl⟩
    refine ⟨skip0_toks t, ?_⟩
    have := (chk_in t 0 0 [] h1).2 ⟨by omega, by omega, rfl⟩
    rwa [List.append_nil] at this

/-- A row built into lists that are open, the inmost one first. -/
def mach : List Tok → List (List T) → List (List T)
  | [], st => st
  | a :: r, st =>
    if a.k = 3 then (match st with | s :: q => mach r ((s ++ [.mk a.t false []]) :: q) | [] => [])
    else if a.k = 1 then mach r ([] :: st)
    else if a.k = 2 then (match st with | s :: v :: q => mach r ((v ++ [.mk ⟨#[]⟩ true s]) :: q) | _ => [])
    else []
theorem mach_word (s : ByteArray) (r : List Tok) (u : List T) (q : List (List T)) : mach (⟨3, s⟩ :: r) (u :: q) = mach r ((u ++ [.mk s false []]) :: q) := by simp [mach]
theorem mach_word_nil (s : ByteArray) (r : List Tok) : mach (⟨3, s⟩ :: r) [] = [] := by simp [mach]
theorem mach_open (s : ByteArray) (r : List Tok) (st : List (List T)) : mach (⟨1, s⟩ :: r) st = mach r ([] :: st) := by simp [mach]
theorem mach_shut (s : ByteArray) (r : List Tok) (u v : List T) (q : List (List T)) : mach (⟨2, s⟩ :: r) (u :: v :: q) = mach r ((v ++ [.mk ⟨#[]⟩ true u]) :: q) := by simp [mach]
theorem mach_shut_one (s : ByteArray) (r : List Tok) (u : List T) : mach (⟨2, s⟩ :: r) [u] = [] := by simp [mach]
theorem mach_shut_nil (s : ByteArray) (r : List Tok) : mach (⟨2, s⟩ :: r) [] = [] := by simp [mach]
theorem mach_else (k : Int) (s : ByteArray) (r : List Tok) (st : List (List T)) (h3 : k ≠ 3) (h1 : k ≠ 1) (h2 : k ≠ 2) : mach (⟨k, s⟩ :: r) st = [] := by simp [mach, h3, h1, h2]
theorem mach_in : ∀ (t : T) (r : List Tok) (s : List T) (q : List (List T)), T.rgt t = true → mach (T.toks t ++ r) (s :: q) = mach r ((s ++ [t]) :: q) := by
  refine T.ind_ ?_
  intro s l ts ih r u q hr
  cases l
  · obtain rfl := T.rgt_text hr
    rw [T.toks_text]
    simp [mach, wrd]
  · obtain ⟨rfl, hg⟩ := T.rgt_list hr
    have key : ∀ (ts : List T), (∀ t ∈ ts, ∀ (r : List Tok) (s : List T) (q : List (List T)), T.rgt t = true → mach (T.toks t ++ r) (s :: q) = mach r ((s ++ [t]) :: q)) → T.rgts ts = true →
        ∀ (r : List Tok) (s : List T) (q : List (List T)), mach (T.tokss ts ++ r) (s :: q) = mach r ((s ++ ts) :: q) := by
      intro ts
      induction ts with
      | nil => intro _ _ r s q; simp [T.tokss]
      | cons t p ih2 =>
        intro hi hg r s q
        simp only [T.rgts, Bool.and_eq_true] at hg
        simp only [T.tokss, List.append_assoc]
        rw [hi t (List.mem_cons_self ..) _ s q hg.1, ih2 (fun t ht => hi t (List.mem_cons_of_mem _ ht)) hg.2]
        simp
    rw [T.toks_list]
    simp only [List.cons_append, List.append_assoc, List.nil_append]
    rw [mach, if_neg (by decide), if_pos (by rfl), key ts ih hg, mach, if_neg (by decide), if_neg (by decide), if_pos (by rfl)]
    simp
theorem mach_all (t : T) (h : T.rgt t = true) : mach (T.toks t) [[]] = [[t]] := by
  have := mach_in t [] [] [] h
  rw [List.append_nil] at this
  rw [this]; rfl

/-- The sizes of lists, found from behind: over the tokens, the last one first, so many bytes behind each open list, and behind all; and what was found. -/
def bm : List Tok → List Nat → Nat → List Nat → Option (List Nat × Nat)
  | [], _, all, acc => some (acc, all)
  | a :: r, bh, all, acc =>
    if a.k = 3 then bm r bh (all + (ptx a.t.data.toList).length) (0 :: acc)
    else if a.k = 2 then bm r (all :: bh) all (0 :: acc)
    else if a.k = 1 then (match bh with | [] => none | b :: q => if all < b then none else bm r q (all + (hd 192 (all - b)).length) ((all - b) :: acc))
    else none
namespace T
mutual
/-- How many bytes the items of each list have, by the place of its Open. -/
def wth : T → List Nat | mk _ l ts => if l then (puts ts).length :: (wths ts ++ [0]) else [0]
def wths : List T → List Nat | [] => [] | t :: r => wth t ++ wths r
end
theorem wth_text (s : ByteArray) (ts : List T) : wth (mk s false ts) = [0] := by simp [wth]
theorem wth_list (s : ByteArray) (ts : List T) : wth (mk s true ts) = (puts ts).length :: (wths ts ++ [0]) := by simp [wth]
mutual
theorem wth_length : ∀ t : T, (wth t).length = (toks t).length
  | mk s l ts => by
    have := wths_length ts
    cases l
    · rw [wth_text, toks_text]; rfl
    · rw [wth_list, toks_list]; simp [this]
theorem wths_length : ∀ ts : List T, (wths ts).length = (tokss ts).length
  | [] => rfl
  | t :: r => by simp [wths, tokss, wth_length t, wths_length r]
end
end T
theorem bm_shut (r : List Tok) (bh : List Nat) (all : Nat) (acc : List Nat) : bm (sht :: r) bh all acc = bm r (all :: bh) all (0 :: acc) := by simp [bm, sht]
theorem bm_open (r : List Tok) (b : Nat) (q : List Nat) (all : Nat) (acc : List Nat) (h : b ≤ all) : bm (opn :: r) (b :: q) all acc = bm r q (all + (hd 192 (all - b)).length) ((all - b) :: acc) := by
  simp only [bm, opn]
  rw [if_neg (by decide), if_neg (by decide), if_pos trivial, if_neg (by omega)]
theorem bm_in : ∀ (t : T) (r : List Tok) (bh : List Nat) (all : Nat) (acc : List Nat), bm ((T.toks t).reverse ++ r) bh all acc = bm r bh (all + (T.put t).length) (T.wth t ++ acc) := by
  refine T.ind_ ?_
  intro s l ts ih r bh all acc
  cases l
  · rw [T.toks_text, T.put_text, T.wth_text]
    simp [bm, wrd]
  · have key : ∀ (ts : List T), (∀ t ∈ ts, ∀ (r : List Tok) (bh : List Nat) (all : Nat) (acc : List Nat), bm ((T.toks t).reverse ++ r) bh all acc = bm r bh (all + (T.put t).length) (T.wth t ++ acc)) →
        ∀ (r : List Tok) (bh : List Nat) (all : Nat) (acc : List Nat), bm ((T.tokss ts).reverse ++ r) bh all acc = bm r bh (all + (T.puts ts).length) (T.wths ts ++ acc) := by
      intro ts
      induction ts with
      | nil => intro _ r bh all acc; simp [T.tokss, T.puts, T.wths]
      | cons t p ih2 =>
        intro hi r bh all acc
        simp only [T.tokss, List.reverse_append, List.append_assoc, T.puts, T.wths, List.length_append]
        rw [ih2 (fun t ht => hi t (List.mem_cons_of_mem _ ht)), hi t (List.mem_cons_self ..)]
        congr 1
        omega
    rw [T.toks_list, T.put_list, T.wth_list]
    simp only [List.reverse_cons, List.reverse_append, List.append_assoc, List.cons_append, List.nil_append, List.reverse_nil]
    rw [bm_shut, key ts ih, bm_open _ _ _ _ _ (by omega)]
    simp only [Nat.add_sub_cancel_left, List.length_append]
    congr 1
    omega
theorem bm_all (t : T) : bm (T.toks t).reverse [] 0 [] = some (T.wth t, (T.put t).length) := by
  have := bm_in t [] [] 0 []
  rw [List.append_nil, List.append_nil, Nat.zero_add] at this
  rw [this]; rfl

/-- What is laid for a row, by the sizes. -/
def pm : List Tok → List Nat → List UInt8
  | a :: r, n :: ns => (if a.k = 1 then hd 192 n else if a.k = 3 then ptx a.t.data.toList else []) ++ pm r ns
  | _, _ => []
theorem pm_in : ∀ (t : T) (r : List Tok) (ns : List Nat), pm (T.toks t ++ r) (T.wth t ++ ns) = T.put t ++ pm r ns := by
  refine T.ind_ ?_
  intro s l ts ih r ns
  cases l
  · rw [T.toks_text, T.put_text, T.wth_text]
    simp [pm, wrd]
  · have key : ∀ (ts : List T), (∀ t ∈ ts, ∀ (r : List Tok) (ns : List Nat), pm (T.toks t ++ r) (T.wth t ++ ns) = T.put t ++ pm r ns) →
        ∀ (r : List Tok) (ns : List Nat), pm (T.tokss ts ++ r) (T.wths ts ++ ns) = T.puts ts ++ pm r ns := by
      intro ts
      induction ts with
      | nil => intro _ r ns; simp [T.tokss, T.puts, T.wths]
      | cons t p ih2 =>
        intro hi r ns
        simp only [T.tokss, List.append_assoc, T.puts, T.wths]
        rw [hi t (List.mem_cons_self ..), ih2 (fun t ht => hi t (List.mem_cons_of_mem _ ht))]
    rw [T.toks_list, T.put_list, T.wth_list]
    simp only [List.append_assoc, List.cons_append, List.nil_append]
    rw [pm, if_pos (by rfl), key ts ih, pm, if_neg (by decide), if_neg (by decide)]
    simp
theorem pm_all (t : T) : pm (T.toks t) (T.wth t) = T.put t := by
  have := pm_in t [] []
  rw [List.append_nil, List.append_nil] at this
  rw [this]; simp [pm]

/-- What is still to be told behind lists that are open, the inmost one first. -/
def bhd : List (List T) → List Tok
  | [] => []
  | b :: q => sht :: (T.tokss b ++ bhd q)

/-- How many bytes a row's texts have. -/
def tsz : List Tok → Nat
  | [] => 0
  | a :: r => a.t.size + tsz r
theorem tsz_append (a b : List Tok) : tsz (a ++ b) = tsz a + tsz b := by
  induction a with
  | nil => simp [tsz]
  | cons t r ih => simp [tsz, ih, Nat.add_assoc]
theorem tsz_mem : ∀ (l : List Tok) (a : Tok), a ∈ l → a.t.size ≤ tsz l
  | [], _, hm => absurd hm List.not_mem_nil
  | b :: r, a, hm => by
    rcases List.mem_cons.1 hm with rfl | h
    · simp [tsz]
    · have := tsz_mem r a h; simp [tsz]; omega
mutual
theorem tsz_toks : ∀ t : T, T.rgt t = true → tsz (T.toks t) = T.siz t
  | .mk s l ts, hr => by
    cases l
    · obtain rfl := T.rgt_text hr
      rw [T.toks_text]; simp [tsz, wrd, T.siz, T.sizs]
    · obtain ⟨rfl, hg⟩ := T.rgt_list hr
      rw [T.toks_list]; simp [tsz, tsz_append, opn, sht, T.siz, ByteArray.size, tsz_tokss ts hg]
theorem tsz_tokss : ∀ ts : List T, T.rgts ts = true → tsz (T.tokss ts) = T.sizs ts
  | [], _ => rfl
  | t :: r, h => by
    simp only [T.rgts, Bool.and_eq_true] at h
    simp [T.tokss, tsz_append, T.sizs, tsz_toks t h.1, tsz_tokss r h.2]
end
mutual
theorem cnt_toks : ∀ t : T, T.rgt t = true → T.cnt t ≤ (T.toks t).length
  | .mk s l ts, hr => by
    cases l
    · obtain rfl := T.rgt_text hr
      rw [T.toks_text]; simp [T.cnt, T.cnts]
    · obtain ⟨_, hg⟩ := T.rgt_list hr
      have := cnts_tokss ts hg
      rw [T.toks_list]; simp [T.cnt]; omega
theorem cnts_tokss : ∀ ts : List T, T.rgts ts = true → T.cnts ts ≤ (T.tokss ts).length
  | [], _ => by simp [T.cnts]
  | t :: r, h => by
    simp only [T.rgts, Bool.and_eq_true] at h
    have := cnt_toks t h.1
    have := cnts_tokss r h.2
    simp [T.tokss, T.cnts]; omega
end
end Go.Proofs.Ytegakecncpfnnaa
