/-
  The contract of the closure in package snap's lay that says what must hold, and of head in terms of the bytes that are left, over this seat's translation. Conditions: the reader's own block, a text of at most 2^47 bytes.
-/
import Derived.Test.YtacfhjcchoefjaaSnpA
namespace Go.Proofs.Ytacfhjcchoefjaa
open Go.RowKit Go.Sort

/-- The fault behind a condition: the first one stays. -/
def mst (hb : Bool) (d e : Int) : Int := if hb = true then d else if d = 0 then e else d

theorem must_any (p b : Nat) (s : ByteArray) (k : Nat) (d v : Int) (hb : Bool) (w : World) (h : Rd w b s k d) (cr : w.cell? ⟨p, 0, none⟩ = some (.pointer (some ⟨b, 0, none⟩))) :
    Calls Try.prog 29 #[.bool hb, .int .i64 v, .pointer (some ⟨p, 0, none⟩)] w fun e w' => e = .returned (.tuple #[]) ∧ Rd w' b s k (mst hb d v) ∧ Fr (fun j => j = b) w w' := by
  have H := Lib.hid h
  clear h
  cases hb
  · by_cases hd : d = 0
    · subst hd
      go_enter Try.func29, Try.ntmps29
      go_wp2_with fail
      refine (fail_do b s k _ H.out v).mono ?_
      rintro e w1 ⟨rfl, r1, f1⟩
      have Q := Lib.hid (And.intro r1 f1)
      clear r1 f1
      go_wp2
      go_end0
      exact ⟨rfl, Q.out⟩
    · have HD := Lib.hid hd
      clear hd
      go_enter Try.func29, Try.ntmps29
      go_wp2_with fail
      refine (fail_skip b s k d _ H.out HD.out v).mono ?_
      rintro e w1 ⟨rfl, r1, f1⟩
      have Q := Lib.hid (And.intro r1 f1)
      clear r1 f1
      go_wp2
      go_end0
      refine ⟨rfl, ?_, Q.out.2⟩
      rw [mst, if_neg (by decide), if_neg HD.out]
      exact Q.out.1
  · go_enter Try.func29, Try.ntmps29
    go_wp2
    go_end0
    exact ⟨rfl, H.out, Fr.refl _ _⟩

/-- What a head tells: that it is cut, or the element. -/
def Headed (c : UInt8) (r : List UInt8) (k : Nat) (cc : Bool) (n d : Int) (k1 : Nat) (e0 : Int) : Prop :=
  (e0 = 2 ∧ k1 = k + 1 ∧ r.length + 1 < hdb c.toNat) ∨
  (e0 = 0 ∧ k1 = k + hdb c.toNat ∧ hdb c.toNat ≤ r.length + 1 ∧ cc = decide (c.toNat % 4 ≠ 0) ∧
    (cc = false → n = (ltn c r : Nat)) ∧ (cc = true → n = (cpn c : Nat) ∧ d = (bck c r : Nat)))

theorem head_any (b : Nat) (s : ByteArray) (k : Nat) (c : UInt8) (r : List UInt8) (w : World) (h : Rd w b s k 0) (hs : s.size ≤ 140737488355328) (hd : s.data.toList.drop k = c :: r) :
    Calls Try.prog 31 #[.pointer (some ⟨b, 0, none⟩)] w fun e w' => ∃ cc n d k1 e0, e = .returned (.agg #[.bool cc, .int .i64 n, .int .i64 d]) ∧ Headed c r k cc n d k1 e0 ∧ Rd w' b s k1 e0 ∧ Fr (fun j => j = b) w w' := by
  have hlen : s.size - k = r.length + 1 := by have := congrArg List.length hd; simpa using this
  have hk : k < s.size := by omega
  have hc : s[k] = c := by
    have h1 : (s.data.toList.drop k)[0]? = some c := by rw [hd]; rfl
    rw [List.getElem?_drop] at h1
    have h2 : s.data.toList[k + 0]'(by simpa using hk) = c := by
      rw [List.getElem?_eq_getElem (by simpa using hk)] at h1
      exact Option.some.inj h1
    rw [← h2]
    simp; rfl
  have hr : s.data.toList.drop (k + 1) = r := by rw [← List.drop_drop, hd]; rfl
  obtain ⟨x, hx⟩ : ∃ x, c.toNat = x := ⟨_, rfl⟩
  have hsx : s[k].toNat = x := by rw [hc, hx]
  have hxb : x < 256 := by rw [← hx]; exact c.toNat_lt
  have h4 : x % 4 = 0 ∨ x % 4 = 1 ∨ x % 4 = 2 ∨ x % 4 = 3 := by omega
  rcases h4 with h0 | h0 | h0 | h0
  · by_cases h6 : x / 4 < 60
    · have hh : hdb x = 1 := by unfold hdb; rw [if_pos h0, if_neg (by omega)]
      refine (head_small b s k x w h hs hk hsx h0 h6).mono ?_
      rintro e w' ⟨rfl, hR, hF⟩
      refine ⟨_, _, _, _, _, rfl, .inr ⟨rfl, by rw [hx, hh], by rw [hx, hh]; omega, ?_, ?_, ?_⟩, hR, hF⟩
      · simp [hx, h0]
      · intro _
        unfold ltn
        rw [hx, if_neg (by omega)]
      · intro h; cases h
    · have hh : hdb x = x / 4 - 59 + 1 := by unfold hdb; rw [if_pos h0, if_pos (by omega)]; omega
      by_cases hl : k + 1 + (x / 4 - 59) ≤ s.size
      · refine (head_long_ok b s k x w h hs hk hsx h0 (by omega) hl _ rfl).mono ?_
        rintro e w' ⟨rfl, hR, hF⟩
        refine ⟨_, _, _, _, _, rfl, .inr ⟨rfl, by rw [hx, hh]; omega, by rw [hx, hh]; omega, ?_, ?_, ?_⟩, hR, hF⟩
        · simp [hx, h0]
        · intro _
          unfold ltn
          rw [hx, if_pos (by omega), hr, hh, Nat.add_sub_cancel]
        · intro h; cases h
      · refine (head_long_short b s k x w h hs hk hsx h0 (by omega) (by omega)).mono ?_
        rintro e w' ⟨n, d, rfl, hR, hF⟩
        exact ⟨_, _, _, _, _, rfl, .inl ⟨rfl, rfl, by rw [hx, hh]; omega⟩, hR, hF⟩
  · have hh : hdb x = 2 := by unfold hdb; rw [if_neg (by omega), if_pos h0]
    by_cases hl : k + 1 + 1 ≤ s.size
    · refine (head_near_ok b s k x w h hs hk hsx h0 hl _ rfl).mono ?_
      rintro e w' ⟨rfl, hR, hF⟩
      refine ⟨_, _, _, _, _, rfl, .inr ⟨rfl, by rw [hx, hh], by rw [hx, hh]; omega, ?_, ?_, ?_⟩, hR, hF⟩
      · simp [hx, h0]
      · intro h; cases h
      · intro _
        unfold cpn bck
        rw [hx, if_pos h0, if_pos h0, hr, hh]
        exact ⟨rfl, rfl⟩
    · refine (head_near_short b s k x w h hs hk hsx h0 (by omega)).mono ?_
      rintro e w' ⟨n, d, rfl, hR, hF⟩
      exact ⟨_, _, _, _, _, rfl, .inl ⟨rfl, rfl, by rw [hx, hh]; omega⟩, hR, hF⟩
  · have hh : hdb x = 3 := by unfold hdb; rw [if_neg (by omega), if_neg (by omega), if_pos h0]
    by_cases hl : k + 1 + 2 ≤ s.size
    · refine (head_mid_ok b s k x w h hs hk hsx h0 hl _ rfl).mono ?_
      rintro e w' ⟨rfl, hR, hF⟩
      refine ⟨_, _, _, _, _, rfl, .inr ⟨rfl, by rw [hx, hh], by rw [hx, hh]; omega, ?_, ?_, ?_⟩, hR, hF⟩
      · simp [hx, h0]
      · intro h; cases h
      · intro _
        unfold cpn bck
        rw [hx, if_neg (by omega), if_neg (by omega), hr, hh]
        exact ⟨rfl, rfl⟩
    · refine (head_mid_short b s k x w h hs hk hsx h0 (by omega)).mono ?_
      rintro e w' ⟨n, d, rfl, hR, hF⟩
      exact ⟨_, _, _, _, _, rfl, .inl ⟨rfl, rfl, by rw [hx, hh]; omega⟩, hR, hF⟩
  · have hh : hdb x = 5 := by unfold hdb; rw [if_neg (by omega), if_neg (by omega), if_neg (by omega)]
    by_cases hl : k + 1 + 4 ≤ s.size
    · refine (head_far_ok b s k x w h hs hk hsx h0 hl _ rfl).mono ?_
      rintro e w' ⟨rfl, hR, hF⟩
      refine ⟨_, _, _, _, _, rfl, .inr ⟨rfl, by rw [hx, hh], by rw [hx, hh]; omega, ?_, ?_, ?_⟩, hR, hF⟩
      · simp [hx, h0]
      · intro h; cases h
      · intro _
        unfold cpn bck
        rw [hx, if_neg (by omega), if_neg (by omega), hr, hh]
        exact ⟨rfl, rfl⟩
    · refine (head_far_short b s k x w h hs hk hsx h0 (by omega)).mono ?_
      rintro e w' ⟨n, d, rfl, hR, hF⟩
      exact ⟨_, _, _, _, _, rfl, .inl ⟨rfl, rfl, by rw [hx, hh]; omega⟩, hR, hF⟩

/-- What an element tells of all that elements lay, by the faults behind its two conditions. -/
theorem headed_err {c : UInt8} {r : List UInt8} {k : Nat} {cc : Bool} {n d : Int} {k1 : Nat} {e0 : Int} (h : Headed c r k cc n d k1 e0) (size : Nat) (out : List UInt8) (ho : out.length ≤ size) (b1 b2 : Bool)
    (h1 : b1 = (!cc || (decide (0 < d) && decide (d ≤ (out.length : Int))))) (h2 : b2 = decide (n ≤ (size : Int) - (out.length : Int))) (e2 : Int) (he : e2 = mst b2 (mst b1 e0 3) 3) (hne : e2 ≠ 0) :
    ∃ e : Nat, e2 = e ∧ els (c :: r) size out = ([], e) := by
  rcases h with ⟨rfl, _, hl⟩ | ⟨rfl, _, hl, hcc, hn, hd⟩
  · refine ⟨2, by rw [he]; unfold mst; cases b1 <;> cases b2 <;> rfl, ?_⟩
    rw [els_cons]
    unfold stp1
    rw [if_pos hl]
  · refine ⟨3, by rw [he] at hne ⊢; revert hne; unfold mst; cases b1 <;> cases b2 <;> simp, ?_⟩
    have h3 : ¬ (b1 = true ∧ b2 = true) := by
      rintro ⟨rfl, rfl⟩
      rw [he] at hne
      exact hne rfl
    rw [els_cons]
    unfold stp1
    rw [if_neg (by omega)]
    by_cases h4 : c.toNat % 4 = 0
    · have hcf : cc = false := by rw [hcc]; simp [h4]
      subst hcf
      rw [if_pos h4]
      have hn2 := hn rfl
      have h1' : b1 = true := by rw [h1]; rfl
      have h2' : ¬ (n ≤ (size : Int) - (out.length : Int)) := fun h => h3 ⟨h1', by rw [h2]; exact decide_eq_true h⟩
      rw [if_pos (by omega)]
    · have hct : cc = true := by rw [hcc]; simp [h4]
      subst hct
      rw [if_neg h4]
      obtain ⟨hn2, hd2⟩ := hd rfl
      have h5 : bck c r = 0 ∨ out.length < bck c r ∨ size - out.length < cpn c := by
        refine Classical.byContradiction fun h => h3 ⟨?_, ?_⟩
        · rw [h1]
          simp only [Bool.not_true, Bool.false_or, Bool.and_eq_true, decide_eq_true_eq]
          omega
        · rw [h2, decide_eq_true_eq]; omega
      rw [if_pos h5]
theorem headed_ok {c : UInt8} {r : List UInt8} {k : Nat} {cc : Bool} {n d : Int} {k1 : Nat} {e0 : Int} (h : Headed c r k cc n d k1 e0) (size : Nat) (out : List UInt8) (ho : out.length ≤ size) (b1 b2 : Bool)
    (h1 : b1 = (!cc || (decide (0 < d) && decide (d ≤ (out.length : Int))))) (h2 : b2 = decide (n ≤ (size : Int) - (out.length : Int))) (he : mst b2 (mst b1 e0 3) 3 = 0) :
    k1 = k + hdb c.toNat ∧ hdb c.toNat ≤ r.length + 1 ∧ (cc = false → c.toNat % 4 = 0 ∧ n = (ltn c r : Nat) ∧ ltn c r ≤ size - out.length) ∧
      (cc = true → c.toNat % 4 ≠ 0 ∧ n = (cpn c : Nat) ∧ d = (bck c r : Nat) ∧ cpn c ≤ size - out.length ∧ 0 < bck c r ∧ bck c r ≤ out.length) := by
  rcases h with ⟨rfl, _, hl⟩ | ⟨rfl, hk1, hl, hcc, hn, hd⟩
  · exact absurd he (by unfold mst; cases b1 <;> cases b2 <;> decide)
  · have hb : b1 = true ∧ b2 = true := by revert he; unfold mst; cases b1 <;> cases b2 <;> simp
    obtain ⟨rfl, rfl⟩ := hb
    have h2' : n ≤ (size : Int) - (out.length : Int) := of_decide_eq_true h2.symm
    refine ⟨hk1, hl, fun hc => ?_, fun hc => ?_⟩
    · subst hc
      have := hn rfl
      exact ⟨by simpa using hcc.symm, this, by omega⟩
    · subst hc
      obtain ⟨q1, q2⟩ := hd rfl
      have h1' := h1.symm
      simp only [Bool.not_true, Bool.false_or, Bool.and_eq_true, decide_eq_true_eq] at h1'
      exact ⟨by simpa using hcc.symm, q1, q2, by omega, by omega, by omega⟩
/-- What a literal tells of all that elements lay. -/
theorem els_lit {c : UInt8} {r : List UInt8} {size : Nat} {out : List UInt8} (h4 : c.toNat % 4 = 0) (hl : hdb c.toNat ≤ r.length + 1) (hn : ltn c r ≤ size - out.length) :
    els (c :: r) size out = if (r.drop (hdb c.toNat - 1)).length < ltn c r then ([], 2) else els ((r.drop (hdb c.toNat - 1)).drop (ltn c r)) size (out ++ (r.drop (hdb c.toNat - 1)).take (ltn c r)) := by
  rw [els_cons]
  unfold stp1
  rw [if_neg (by omega), if_pos h4, if_neg (by omega)]
  by_cases h : (r.drop (hdb c.toNat - 1)).length < ltn c r
  · rw [if_pos h, if_pos h]
  · rw [if_neg h, if_neg h]
/-- What a copy tells of all that elements lay. -/
theorem els_cpy {c : UInt8} {r : List UInt8} {size : Nat} {out : List UInt8} (h4 : c.toNat % 4 ≠ 0) (hl : hdb c.toNat ≤ r.length + 1) (hn : cpn c ≤ size - out.length) (hb : 0 < bck c r) (hb2 : bck c r ≤ out.length) :
    els (c :: r) size out = els (r.drop (hdb c.toNat - 1)) size (cpy (cpn c) (bck c r) out) := by
  rw [els_cons]
  unfold stp1
  rw [if_neg (by omega), if_neg h4, if_neg (by omega)]
end Go.Proofs.Ytacfhjcchoefjaa
