/-
  Lines and the items that they are, as plain data. Plain functions, no program. No condition.
-/
import Derived.Test.YtdkeickcbpjedaaDoorItmP
namespace Go.Proofs.YtdkeickcbpjedaaDoor

/-- Is a byte a digit? -/
def isd (b : UInt8) : Bool := DG.contains b
/-- What a digit stands for. -/
def hv (b : UInt8) : Nat := DG.idxOf b
theorem hv_dg : ∀ n, n < 16 → hv (dg n) = n ∧ isd (dg n) = true := by
  have : ∀ f : Fin 16, hv (dg f.1) = f.1 ∧ isd (dg f.1) = true := by decide
  exact fun n h => this ⟨n, h⟩
set_option maxRecDepth 20000 in
theorem dg_hv (b : UInt8) (h : isd b = true) : dg (hv b) = b ∧ hv b < 16 := by
  have : ∀ f : Fin 256, isd (UInt8.ofNat f.1) = true → dg (hv (UInt8.ofNat f.1)) = UInt8.ofNat f.1 ∧ hv (UInt8.ofNat f.1) < 16 := by decide
  have := this ⟨b.toNat, UInt8.toNat_lt b⟩
  simp only [UInt8.ofNat_toNat] at this
  exact this h

/-- Behind an item: nothing, a blank, or a closing bracket. -/
def okr (r : List UInt8) : Prop := r = [] ∨ ∃ q, r = 32 :: q ∨ r = 41 :: q
/-- Not a digit next. -/
def nd (r : List UInt8) : Prop := ∀ b q, r = b :: q → isd b = false
theorem okr.nd {r : List UInt8} (h : okr r) : nd r := by
  intro b q hb
  rcases h with h | ⟨q', h | h⟩
  · rw [h] at hb; cases hb
  · rw [h] at hb; injection hb with h1 _; subst h1; decide
  · rw [h] at hb; injection hb with h1 _; subst h1; decide

theorem dg_inj {a b : UInt8} (h1 : dg (a.toNat / 16) = dg (b.toNat / 16)) (h2 : dg (a.toNat % 16) = dg (b.toNat % 16)) : a = b := by
  have ha := UInt8.toNat_lt a
  have hb := UInt8.toNat_lt b
  have e1 := (hv_dg (a.toNat / 16) (by omega)).1
  have e2 := (hv_dg (b.toNat / 16) (by omega)).1
  have e3 := (hv_dg (a.toNat % 16) (by omega)).1
  have e4 := (hv_dg (b.toNat % 16) (by omega)).1
  rw [h1, e2] at e1
  rw [h2, e4] at e3
  exact UInt8.toNat_inj.1 (by omega)
theorem hexs_unique : ∀ (a b r q : List UInt8), hexs a ++ r = hexs b ++ q → nd r → nd q → a = b ∧ r = q
  | [], [], r, q, h, _, _ => ⟨rfl, h⟩
  | [], y :: b, r, q, h, hr, _ => by
    have := hr _ _ h
    rw [(hv_dg (y.toNat / 16) (by have := UInt8.toNat_lt y; omega)).2] at this
    cases this
  | x :: a, [], r, q, h, _, hq => by
    have := hq _ _ h.symm
    rw [(hv_dg (x.toNat / 16) (by have := UInt8.toNat_lt x; omega)).2] at this
    cases this
  | x :: a, y :: b, r, q, h, hr, hq => by
    simp only [hexs, List.cons_append, List.cons.injEq] at h
    obtain ⟨h1, h2⟩ := hexs_unique a b r q h.2.2 hr hq
    exact ⟨by rw [dg_inj h.1 h.2.1, h1], h2⟩

/-- Two digits as a byte. -/
def two (a b : UInt8) : UInt8 := UInt8.ofNat (16 * hv a + hv b)
theorem two_hex (a b : UInt8) (ha : isd a = true) (hb : isd b = true) : hexs [two a b] = [a, b] := by
  obtain ⟨h1, h2⟩ := dg_hv a ha
  obtain ⟨h3, h4⟩ := dg_hv b hb
  have e : (two a b).toNat = 16 * hv a + hv b := by simp [two]; omega
  simp only [hexs, e]
  rw [show (16 * hv a + hv b) / 16 = hv a by omega, show (16 * hv a + hv b) % 16 = hv b by omega, h1, h3]

namespace T
/-- x and what is behind it are s, and x may stand so deep, and be so many. -/
def Val (d K : Nat) (s : List UInt8) (x : T) (r : List UInt8) : Prop := shw x ++ r = s ∧ rgt x = true ∧ dep x ≤ d ∧ okr r ∧ cnt x ≤ K

theorem text_rgt {s : ByteArray} {ts : List T} (h : rgt (mk s false ts) = true) : ts = [] := by
  simp only [rgt, own, Bool.and_eq_true] at h
  simpa using h.1
theorem list_rgt {s : ByteArray} {ts : List T} (h : rgt (mk s true ts) = true) : s = ⟨#[]⟩ ∧ rgts ts = true := by
  simp only [rgt, own, Bool.and_eq_true, if_true, beq_iff_eq] at h
  exact ⟨ByteArray.size_eq_zero_iff.1 h.1, h.2⟩
/-- The first byte of a text's line, and of a list's. -/
theorem shw_text {s : ByteArray} (ts : List T) : shw (mk s false ts) = if s.size = 0 then [45] else hexs s.data.toList := by simp [shw]
theorem shw_list (s : ByteArray) (ts : List T) : shw (mk s true ts) = 40 :: ((shs ts).tail ++ [41]) := by simp [shw]
theorem hexs_head {b : UInt8} {l q r : List UInt8} (h : hexs l ++ r = b :: q) (hl : l ≠ []) : isd b = true := by
  rcases l with _ | ⟨x, l⟩
  · exact absurd rfl hl
  · simp only [hexs, List.cons_append, List.cons.injEq] at h
    rw [← h.1]
    exact (hv_dg _ (by have := UInt8.toNat_lt x; omega)).2
theorem toList_ne_nil {s : ByteArray} (h : ¬ s.size = 0) : s.data.toList ≠ [] := fun e => h (by
  have h2 : s.data.toList.length = 0 := by rw [e]; rfl
  rwa [Array.length_toList] at h2)
/-- A line that begins with an opening bracket is a list's; others are texts'. -/
theorem val_list {d K : Nat} {q r : List UInt8} {x : T} (h : Val d K (40 :: q) x r) : ∃ ts, x = mk ⟨#[]⟩ true ts ∧ (shs ts).tail ++ 41 :: r = q ∧ rgts ts = true ∧ deps ts + 1 ≤ d ∧ okr r ∧ cnts ts + 1 ≤ K := by
  obtain ⟨s, l, ts⟩ := x
  obtain ⟨h1, h2, h3, h4⟩ := h
  cases l
  · rw [shw_text] at h1
    split at h1
    · cases h1
    · rename_i hz
      have := hexs_head h1 (toList_ne_nil hz)
      exact absurd this (by decide)
  · obtain ⟨rfl, h5⟩ := list_rgt h2
    rw [shw_list] at h1
    simp only [List.cons_append, List.append_assoc, List.nil_append, List.cons.injEq, true_and] at h1
    exact ⟨ts, rfl, h1, h5, h3, h4⟩
theorem val_text {d K : Nat} {b : UInt8} {q r : List UInt8} {x : T} (h : Val d K (b :: q) x r) (hb : b ≠ 40) : ∃ s, x = mk s false [] ∧ ((s.size = 0 ∧ b = 45 ∧ r = q) ∨ (s.size ≠ 0 ∧ hexs s.data.toList ++ r = b :: q)) := by
  obtain ⟨s, l, ts⟩ := x
  obtain ⟨h1, h2, h3, h4⟩ := h
  cases l
  · obtain rfl := text_rgt h2
    refine ⟨s, rfl, ?_⟩
    rw [shw_text] at h1
    split at h1
    · rename_i hz
      simp only [List.cons_append, List.nil_append, List.cons.injEq] at h1
      exact .inl ⟨hz, h1.1.symm, h1.2⟩
    · rename_i hz
      exact .inr ⟨hz, h1⟩
  · rw [shw_list] at h1
    simp only [List.cons_append, List.cons.injEq] at h1
    exact absurd h1.1.symm hb
theorem val_nil {d K : Nat} {r : List UInt8} {x : T} (h : Val d K [] x r) : False := by
  obtain ⟨s, l, ts⟩ := x
  obtain ⟨h1, h2, h3, h4⟩ := h
  cases l
  · rw [shw_text] at h1
    split at h1
    · cases h1
    · rename_i hz
      have := toList_ne_nil hz
      rcases hc : s.data.toList with _ | ⟨a, q⟩
      · exact this hc
      · rw [hc] at h1; simp [hexs] at h1
  · rw [shw_list] at h1
    cases h1
theorem val_zero {K : Nat} {s r : List UInt8} {x : T} (h : Val 0 K s x r) : False := by
  have := dep_pos x
  have := h.2.2.1
  omega
theorem val_none {d : Nat} {s r : List UInt8} {x : T} (h : Val d 0 s x r) : False := by
  have := cnt_pos x
  have := h.2.2.2.2
  omega
/-- x is what s begins with. -/
def Snd (d : Nat) (s : List UInt8) (x : T) (r : List UInt8) : Prop := shw x ++ r = s ∧ rgt x = true ∧ dep x ≤ d
/-- The line that a text is. -/
theorem snd_of_text {d : Nat} (bs r : List UInt8) (hd : 1 ≤ d) (hb : bs ≠ []) : Snd d (hexs bs ++ r) (mk ⟨bs.toArray⟩ false []) r := by
  refine ⟨?_, by simp [rgt, own, rgts], by simp [dep, deps]; omega⟩
  rw [shw_text, if_neg]
  intro h
  apply hb
  have : bs.toArray.size = 0 := h
  simpa using this
theorem snd_of_empty {d : Nat} (r : List UInt8) (hd : 1 ≤ d) : Snd d (45 :: r) (mk ⟨#[]⟩ false []) r := by
  refine ⟨?_, by simp [rgt, own, rgts], by simp [dep, deps]; omega⟩
  rw [shw_text, if_pos (show (⟨#[]⟩ : ByteArray).size = 0 from rfl)]
  rfl
/-- A text that is read is the only one that there may be. -/
theorem only_text {d K : Nat} {bs r : List UInt8} (hb : bs ≠ []) (hr : nd r) {x' : T} {r' : List UInt8} (h : Val d K (hexs bs ++ r) x' r') : x' = mk ⟨bs.toArray⟩ false [] ∧ r' = r := by
  rcases hl : bs with _ | ⟨a, l⟩
  · exact absurd hl hb
  · rw [← hl]
    have hh : hexs bs ++ r = dg (a.toNat / 16) :: (dg (a.toNat % 16) :: hexs l ++ r) := by rw [hl]; rfl
    have hd := (hv_dg (a.toNat / 16) (by have := UInt8.toNat_lt a; omega)).2
    obtain ⟨s, rfl, h1⟩ := val_text (hh ▸ h) (by intro e; rw [e] at hd; exact absurd hd (by decide))
    rcases h1 with ⟨_, h2, _⟩ | ⟨_, h2⟩
    · rw [h2] at hd; exact absurd hd (by decide)
    · rw [← hh] at h2
      obtain ⟨h3, h4⟩ := hexs_unique _ _ _ _ h2 h.2.2.2.1.nd hr
      refine ⟨?_, h4⟩
      congr 1
      apply ByteArray.ext
      apply Array.toList_inj.1
      rw [h3]
theorem only_empty {d K : Nat} {r : List UInt8} {x' : T} {r' : List UInt8} (h : Val d K (45 :: r) x' r') : x' = mk ⟨#[]⟩ false [] ∧ r' = r := by
  obtain ⟨s, rfl, h1⟩ := val_text h (by decide)
  rcases h1 with ⟨h2, _, h3⟩ | ⟨h2, h3⟩
  · rw [ByteArray.size_eq_zero_iff.1 h2]
    exact ⟨rfl, h3⟩
  · exact absurd (hexs_head h3 (toList_ne_nil h2)) (by decide)
/-- What a list has and what is behind it are q. -/
def LVal (d K : Nat) (q : List UInt8) (ts : List T) (r : List UInt8) : Prop := (shs ts).tail ++ 41 :: r = q ∧ rgts ts = true ∧ deps ts + 1 ≤ d ∧ okr r ∧ cnts ts + 1 ≤ K
/-- What of the lines us is still to come behind ys. -/
def rem (ys us : List T) : List UInt8 := if ys.isEmpty then (shs us).tail else shs us
/-- Behind the items ys the rest is cur. -/
structure LInv (d K : Nat) (q : List UInt8) (ys : List T) (cur : List UInt8) : Prop where
  snd : (shs ys).tail ++ cur = q
  rg : rgts ys = true
  dp : deps ys + 1 ≤ d
  cmp : ∀ ts r, LVal d K q ts r → ∃ us, ts = ys ++ us ∧ rem ys us ++ 41 :: r = cur
theorem LInv.start {d K : Nat} {q : List UInt8} (hd : 1 ≤ d) : LInv d K q [] q :=
  ⟨by simp [shs], rfl, by simpa [deps] using hd, fun ts r h => ⟨ts, rfl, h.1⟩⟩
theorem shw_head (x : T) (h : rgt x = true) : ∃ b l, shw x = b :: l ∧ b ≠ 41 ∧ b ≠ 32 := by
  obtain ⟨s, l, ts⟩ := x
  cases l
  · rw [shw_text]
    split
    · exact ⟨45, [], rfl, by decide, by decide⟩
    · rename_i hz
      rcases hl : s.data.toList with _ | ⟨a, q⟩
      · exact absurd hl (toList_ne_nil hz)
      · have hd := (hv_dg (a.toNat / 16) (by have := UInt8.toNat_lt a; omega)).2
        exact ⟨_, _, rfl, by intro e; rw [e] at hd; exact absurd hd (by decide), by intro e; rw [e] at hd; exact absurd hd (by decide)⟩
  · exact ⟨40, _, shw_list s ts, by decide, by decide⟩
theorem shs_tail_ne (ys : List T) (y : T) (h : ys ≠ []) : (shs (ys ++ [y])).tail = (shs ys).tail ++ 32 :: shw y := by
  rcases ys with _ | ⟨a, b⟩
  · exact absurd rfl h
  · simp [shs, shs_append]
theorem okr_rest (us : List T) (r : List UInt8) : okr (shs us ++ 41 :: r) := by
  rcases us with _ | ⟨a, b⟩
  · exact .inr ⟨r, .inr rfl⟩
  · exact .inr ⟨_, .inl rfl⟩
/-- What is next within the list. -/
def Nxt (ys : List T) (cur cur' : List UInt8) : Prop := (ys = [] ∧ cur' = cur) ∨ (ys ≠ [] ∧ cur = 32 :: cur')
theorem LInv.more {d K : Nat} {q cur cur' : List UInt8} {ys : List T} (h : LInv d K q ys cur) (hn : Nxt ys cur cur') (hc : ∀ l, cur ≠ 41 :: l) {ts : List T} {r : List UInt8} (hv : LVal d K q ts r) :
    ∃ y us, ts = ys ++ y :: us ∧ Val (d - 1) (K - 1 - cnts ys) cur' y (shs us ++ 41 :: r) := by
  obtain ⟨us, rfl, he⟩ := h.cmp ts r hv
  obtain ⟨h1, h2, h3, h4, h5⟩ := hv
  rcases us with _ | ⟨y, us⟩
  · exfalso
    have e0 : rem ys [] = [] := by unfold rem; split <;> simp [shs]
    rw [e0] at he
    exact hc r he.symm
  · refine ⟨y, us, rfl, ?_, ?_, ?_, okr_rest us r, ?_⟩
    · rcases hn with ⟨rfl, rfl⟩ | ⟨hy, rfl⟩
      · rw [← he]
        simp [rem, shs]
      · have : rem ys (y :: us) = 32 :: (shw y ++ shs us) := by
          unfold rem
          rw [if_neg (by simpa using hy)]
          rfl
        rw [this] at he
        simp only [List.cons_append, List.cons.injEq, true_and, List.append_assoc] at he
        exact he
    · rw [rgts_append] at h2
      simp only [rgts, Bool.and_eq_true] at h2
      exact h2.2.1
    · rw [deps_append] at h3
      simp only [deps] at h3
      omega
    · rw [cnts_append] at h5
      simp only [cnts] at h5
      omega
theorem LInv.next {d K : Nat} {q cur cur' rest : List UInt8} {ys : List T} {y : T} (h : LInv d K q ys cur) (hn : Nxt ys cur cur') (hc : ∀ l, cur ≠ 41 :: l) (hs : Snd (d - 1) cur' y rest)
    (hu : ∀ x' r', Val (d - 1) (K - 1 - cnts ys) cur' x' r' → x' = y ∧ r' = rest) : LInv d K q (ys ++ [y]) rest := by
  refine ⟨?_, ?_, ?_, fun ts r hv => ?_⟩
  · rw [← h.snd]
    rcases hn with ⟨rfl, rfl⟩ | ⟨hy, rfl⟩
    · rw [← hs.1]
      simp [shs]
    · rw [shs_tail_ne ys y hy, ← hs.1]
      simp
  · rw [rgts_append, h.rg]
    simp [rgts, hs.2.1]
  · have := h.dp
    have := hs.2.2
    have := dep_pos y
    rw [deps_append]
    simp only [deps]
    omega
  · obtain ⟨y', us, rfl, hv'⟩ := h.more hn hc hv
    obtain ⟨rfl, h2⟩ := hu _ _ hv'
    refine ⟨us, by simp, ?_⟩
    rw [← h2]
    simp [rem]
theorem LInv.fail {d K : Nat} {q cur cur' : List UInt8} {ys : List T} (h : LInv d K q ys cur) (hn : Nxt ys cur cur') (hc : ∀ l, cur ≠ 41 :: l)
    (hu : ∀ x' r', ¬ Val (d - 1) (K - 1 - cnts ys) cur' x' r') (ts : List T) (r : List UInt8) : ¬ LVal d K q ts r := fun hv => by
  obtain ⟨y', us, rfl, hv'⟩ := h.more hn hc hv
  exact hu _ _ hv'
theorem LInv.blank {d K : Nat} {q cur : List UInt8} {ys : List T} (h : LInv d K q ys cur) (hy : ys ≠ []) (hc : ∀ l, cur ≠ 41 :: l) (hb : ∀ l, cur ≠ 32 :: l) (ts : List T) (r : List UInt8) : ¬ LVal d K q ts r := fun hv => by
  obtain ⟨us, rfl, he⟩ := h.cmp ts r hv
  unfold rem at he
  rw [if_neg (by simpa using hy)] at he
  rcases us with _ | ⟨u, us⟩
  · exact hc _ he.symm
  · exact hb _ he.symm
theorem LInv.empty {d K : Nat} {q : List UInt8} {ys : List T} (h : LInv d K q ys []) (ts : List T) (r : List UInt8) : ¬ LVal d K q ts r := fun hv => by
  obtain ⟨us, rfl, he⟩ := h.cmp ts r hv
  have := congrArg List.length he
  simp at this
theorem LInv.done {d K : Nat} {q r0 : List UInt8} {ys : List T} (h : LInv d K q ys (41 :: r0)) : Snd d (40 :: q) (T.mk ⟨#[]⟩ true ys) r0 ∧ ∀ x' r', Val d K (40 :: q) x' r' → x' = T.mk ⟨#[]⟩ true ys ∧ r' = r0 := by
  refine ⟨⟨?_, ?_, h.dp⟩, fun x' r' hv => ?_⟩
  · rw [shw_list, ← h.snd]
    simp
  · rw [rgt, own, h.rg]; rfl
  · obtain ⟨ts, rfl, hl⟩ := val_list hv
    obtain ⟨us, rfl, he⟩ := h.cmp ts r' hl
    rcases us with _ | ⟨y, us⟩
    · have e0 : rem ys [] = [] := by unfold rem; split <;> simp [shs]
      rw [e0] at he
      simp only [List.nil_append, List.cons.injEq, true_and] at he
      exact ⟨by rw [List.append_nil], he⟩
    · exfalso
      have hr := hl.2.1
      rw [rgts_append] at hr
      simp only [rgts, Bool.and_eq_true] at hr
      obtain ⟨b, l, hb, h1, h2⟩ := shw_head y hr.2.1
      unfold rem at he
      split at he
      · simp only [shs, List.tail_cons, hb, List.cons_append, List.cons.injEq] at he
        exact h1 he.1
      · simp only [shs, List.cons_append, List.cons.injEq] at he
        exact absurd he.1 (by decide)
theorem LInv.none {d K : Nat} {q : List UInt8} (h : ∀ ts r, ¬ LVal d K q ts r) (x' : T) (r' : List UInt8) : ¬ Val d K (40 :: q) x' r' := fun hv => by
  obtain ⟨ts, _, hl⟩ := val_list hv
  exact h ts r' hl

end T
end Go.Proofs.YtdkeickcbpjedaaDoor
