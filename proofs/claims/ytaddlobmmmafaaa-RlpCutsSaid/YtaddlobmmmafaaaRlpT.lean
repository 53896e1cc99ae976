/-
  One round of package rlp's Next over this seat's translation, of bytes that begin with an item's. Conditions: an item of at most 6,000 bytes and 1,200 items, bytes of at most 100,000.
-/
import Derived.Test.YtaddlobmmmafaaaRlpQ
import Derived.Test.YtaddlobmmmafaaaRlpO
namespace Go.Proofs.Ytaddlobmmmafaaa
open Go.RowKit

theorem rgt_plug : ∀ (F : List T.Fr2) (y : T), T.rgt (T.plug F y) = true → T.rgt y = true
  | [], _, h => h
  | (d, rest) :: F, y, h => by
    have h1 := rgt_plug F _ h
    simp only [T.rgt, T.rgts_append, T.rgts, Bool.and_eq_true] at h1
    exact h1.2.2.1
theorem siz_plug : ∀ (F : List T.Fr2) (y : T), T.siz y ≤ T.siz (T.plug F y)
  | [], _ => Nat.le_refl _
  | (d, rest) :: F, y => by
    have h1 := siz_plug F (T.mk ⟨#[]⟩ true (d ++ y :: rest))
    simp only [T.plug, T.siz, T.sizs_append, T.sizs] at h1 ⊢
    omega
theorem put_plug : ∀ (F : List T.Fr2) (y : T), (T.put y).length ≤ (T.put (T.plug F y)).length
  | [], _ => Nat.le_refl _
  | (d, rest) :: F, y => by
    have h1 := put_plug F (T.mk ⟨#[]⟩ true (d ++ y :: rest))
    rw [T.put_list, List.length_append, T.puts_append, List.length_append] at h1
    simp only [T.puts, List.length_append] at h1
    simp only [T.plug]
    omega
theorem cnt_plug_le (F : List T.Fr2) (y : T) : F.length ≤ T.cnt (T.plug F y) := by have := cnt_plug F y; omega

/-- Where the reading stands: what is told so far and what is still to come give the item. -/
structure St (full more : List UInt8) (x : T) (dep : Int) (OUT : T.Out) (at_ : Nat) (F : List Fo) (y : T) (left : Int) : Prop where
  plug : T.plug (pf F) y = x
  txt : full.drop at_ = T.put y ++ (T.tail (pf F) ++ more)
  ends : Ends F (at_ + (T.put y).length)
  out : T.out dep (pf F) y left = OUT
  le : at_ ≤ full.length

section
variable {full more : List UInt8} {x : T} {dep left : Int} {OUT : T.Out} {at_ : Nat} {F : List Fo} {y : T}
theorem St.len (h : St full more x dep OUT at_ F y left) : at_ + (T.put y).length + ((T.tail (pf F)).length + more.length) = full.length := by
  have h1 := congrArg List.length h.txt
  simp only [List.length_drop, List.length_append] at h1
  have := h.le
  omega
/-- What is behind the next item in the bytes at hand. -/
def behind : List Fo → List UInt8 → List UInt8 | [], more => more | f :: _, _ => T.puts f.todo
theorem St.rest (h : St full more x dep OUT at_ F y left) : restOf (bs full) at_ F = bs (T.put y ++ behind F more) ∧ (∀ f r, F = f :: r → at_ ≤ f.e ∧ f.e ≤ (bs full).size) ∧ (behind F more).length ≤ full.length := by
  have hl := h.len
  rcases F with _ | ⟨f, r⟩
  · refine ⟨?_, fun f r e => (by cases e), by simp only [behind]; omega⟩
    show (bs full).extract at_ (bs full).size = _
    rw [bs_tail, h.txt]
    rfl
  · have he := h.ends.1
    have ht : T.tail (pf (f :: r)) = T.puts f.todo ++ T.tail (pf r) := rfl
    rw [ht, List.length_append] at hl
    refine ⟨?_, fun f' r' e => ?_, by simp only [behind]; omega⟩
    · show (bs full).extract at_ f.e = _
      rw [bs_extract, h.txt, ht, he, show at_ + (T.put y).length + (T.puts f.todo).length - at_ = (T.put y ++ T.puts f.todo).length by rw [List.length_append]; omega]
      rw [show T.put y ++ (T.puts f.todo ++ T.tail (pf r) ++ more) = (T.put y ++ T.puts f.todo) ++ (T.tail (pf r) ++ more) by simp only [List.append_assoc]]
      rw [List.take_left]
      rfl
    · injection e with e1 e2
      subst e1
      rw [bs_size]
      omega
end

/-- What pass answers and leaves, at such a place. -/
def PassPost (full more : List UInt8) (x : T) (OUT : T.Out) (B : Nat) (X : Nat → Prop) (b : Nat) (s : ByteArray) (depth left : Int) (at_ : Nat) (F : List Fo) (sv : Value) (W : World) (e : Ending) (w' : World) : Prop :=
  Fr (fun j => j = b ∨ Ow sv F j) W w' ∧
  ((∃ F' sv' y' at', e = .returned (.tuple #[ZV, .bool false]) ∧ Rs B X w' b s at' depth left F' sv' ∧ St full more x depth OUT at' F' y' left ∧ at_ < at') ∨
   (∃ vX, e = .returned (.tuple #[.agg #[.string x.s, .bool x.l, vX], .bool true]) ∧ InP w' (fun j => ¬ X j) x vX ∧ (∃ sv', R5 w' b s (T.put x).length depth left sv') ∧ ∃ k, OUT = .ok k))

section
variable {full more : List UInt8} {x : T} {depth left : Int} {OUT : T.Out} {at_ : Nat} {F : List Fo} {y : T} {B b : Nat} {X : Nat → Prop} {s : ByteArray} {sv : Value} {W w' : World} {e : Ending}
/-- A leaf is passed: its closing, in words of the whole. -/
theorem pass_leaf (h : St full more x depth OUT at_ F y left) (hf : full = T.put x ++ more) (hd : (F.length : Int) < depth) (hl : 0 < left) (hy : y.ts = []) (hc : ClosePost B X b s (at_ + (T.put y).length) depth (left - 1) F sv y W e w') :
    PassPost full more x OUT B X b s depth (left - 1) at_ F sv W e w' := by
  have ho := h.out
  rw [T.out_leaf (by rw [pf_length]; exact hd) hl hy] at ho
  have hln := h.len
  have hpp := T.put_pos y
  have hdr : full.drop (at_ + (T.put y).length) = T.tail (pf F) ++ more := by
    rw [← List.drop_drop, h.txt, List.drop_left]
  refine ⟨hc.1, ?_⟩
  rcases hc.2 with ⟨f, r, z, sv', he, hr, hp, hou, ht, hen⟩ | ⟨vX, sv', he, hin, ht, hou, hr⟩
  · refine .inl ⟨f :: r, sv', z, _, he, hr, ⟨hp.trans h.plug, ?_, hen, ?_, by omega⟩, by omega⟩
    · rw [hdr, ht, List.append_assoc]
    · rw [← hou]; exact ho
  · rw [h.plug] at he hin
    rw [hou] at ho
    refine .inr ⟨vX, he, hin, ⟨sv', ?_⟩, _, ho.symm⟩
    have h1 : (T.put x).length = at_ + (T.put y).length := by
      have h2 := congrArg List.length hf
      rw [List.length_append] at h2
      rw [ht] at hln
      simp only [List.length_nil] at hln
      omega
    rw [h1]
    exact hr

/-- One round: next tells a head, and pass goes on by it. -/
theorem step_any (h : St full more x depth OUT at_ F y left) (hf : full = T.put x ++ more) (hs : s = bs full) (hdp : (F.length : Int) < depth ∧ depth ≤ 16) (hl : 0 < left ∧ left ≤ 1024) (hr : T.rgt x = true) (hz : T.siz x ≤ 6000) (hcn : T.cnt x ≤ 1200) (hfl : full.length ≤ 100000) (hX : ∀ j, B ≤ j → ¬ X j) :
    ∃ (l : Bool) (z n : Nat),
      (∀ w, Rs B X w b s at_ depth left F sv → Calls Try.prog 25 #[.pointer (some ⟨b, 0, none⟩)] w fun e w' => NextPost B X b s at_ depth (left - 1) F sv (.tuple #[.agg #[.bool l, .int .i64 z, .int .i64 n], .int .i64 0]) w e w') ∧
      (∀ w, Rs B X w b s at_ depth (left - 1) F sv → Calls Try.prog 26 #[.pointer (some ⟨b, 0, none⟩), .agg #[.bool l, .int .i64 z, .int .i64 n]] w fun e w' => PassPost full more x OUT B X b s depth (left - 1) at_ F sv w e w') := by
  obtain ⟨hq, he, hbl⟩ := h.rest
  have hln := h.len
  have hFl : F.length ≤ 1200 := by
    have := cnt_plug_le (pf F) y
    rw [pf_length, h.plug] at this
    omega
  have hry := rgt_plug (pf F) y (by rw [h.plug]; exact hr)
  have hss : s.size = full.length := by rw [hs, bs_size]
  have hne : T.put y ++ behind F more ≠ [] := fun e => by
    have := T.put_pos y
    rw [List.append_eq_nil_iff] at e
    rw [e.1] at this
    exact absurd this (by decide)
  have hql : (T.put y ++ behind F more).length ≤ 1000000 := by rw [List.length_append]; omega
  have hXw : ∀ w : World, B ≤ w.heap.size → ∀ j, w.heap.size ≤ j → ¬ X j := fun w hB j hj => hX j (by omega)
  subst hs
  obtain ⟨sB, l, ts⟩ := y
  cases l
  · obtain rfl : ts = [] := by
      simp only [T.rgt, T.own, Bool.and_eq_true, Bool.false_eq_true, if_false, List.isEmpty_iff] at hry
      exact hry.1
    obtain ⟨tx, rfl⟩ : ∃ tx, sB = bs tx := ⟨_, (bs_of sB).symm⟩
    have hput : T.put (T.mk (bs tx) false []) = ptx tx := by rw [T.put_text, bs_list]
    by_cases hb : bare tx = true
    · have hpx : ptx tx = tx := by unfold ptx; rw [hb]; rfl
      obtain ⟨c, rfl⟩ : ∃ c, tx = [c] := by
        match tx, hb with
        | [c], _ => exact ⟨c, rfl⟩
      have hc8 : c.toNat < 128 := of_decide_eq_true hb
      have hpc : T.put (T.mk (bs [c]) false []) = [c] := hput.trans hpx
      refine ⟨false, 0, 1, fun w hR => next_one hR (by omega) (by omega) (by omega) he _ hq hne hql hdp hl 1 (fun W' => ?_), fun w hR => ?_⟩
      · rw [hpc]
        exact headed_one c (behind F more) hc8 W'
      · refine (pass_text hR 0 1 [c] (by simp) ?_ ?_ ?_ (by rw [h.plug]; omega) ?_ (hXw w hR.sz)).mono ?_
        · rw [bs_extract]; simp only [Nat.add_zero, Nat.add_sub_cancel_left]; rw [h.txt, hpc]; rfl
        · rw [bs_size]; rw [hpc] at hln; simp only [List.length_singleton] at hln; omega
        · have := h.ends; rw [hpc] at this; exact this
        · rw [hpc] at hln; simp only [List.length_singleton] at hln; omega
        · intro e w' hcp
          refine pass_leaf h hf hdp.1 hl.1 rfl ?_
          rw [hpc]
          exact hcp
    · have hb' : bare tx = false := by simpa using hb
      have hpx : ptx tx = hd 128 tx.length ++ tx := by unfold ptx; rw [hb']; rfl
      have hpc : T.put (T.mk (bs tx) false []) = hd 128 tx.length ++ tx := hput.trans hpx
      have hzp := hd_pos 128 tx.length
      have htl : tx.length ≤ 60000 := by
        rw [hpc, List.length_append] at hln
        have h1 := T.put_le x (by omega)
        have h2 := congrArg List.length hf
        rw [List.length_append] at h2
        have h3 : tx.length ≤ T.siz x := by
          have h4 := siz_plug (pf F) (T.mk (bs tx) false [])
          rw [h.plug] at h4
          simp only [T.siz, bs_size, T.sizs] at h4
          omega
        omega
      refine ⟨false, (hd 128 tx.length).length, tx.length, fun w hR => ?_, fun w hR => ?_⟩
      · have hH : ∀ W', Calls Try.prog 35 #[.string (bs (T.put (T.mk (bs tx) false []) ++ behind F more))] W' fun e w' => e = .returned (.tuple #[.agg #[.bool false, .int .i64 ((hd 128 tx.length).length : Nat), .int .i64 tx.length], .int .i64 0]) ∧ Below W'.heap.size W' w' := fun W' => by
          have h1 := headed_full false tx.length htl (tx ++ behind F more) (by rw [List.length_append]; rw [hpc, List.length_append] at hql; rw [List.length_append] at hql; omega) W'
          rw [hdOut_ok (by rw [List.length_append]; omega)] at h1
          rw [hpc, List.append_assoc]
          exact h1
        have h2 := next_text hR (by omega) (by omega) (by omega) he _ hq hne hql hdp hl (hd 128 tx.length).length tx.length tx hzp (by rw [hpc]; simp only [List.length_append]; omega) (by rw [bs_extract, Nat.add_sub_cancel_left, hpc, List.append_assoc, List.drop_left, List.take_left]) hH
        rw [show txOut (hd 128 tx.length).length tx.length tx = .tuple #[.agg #[.bool false, .int .i64 ((hd 128 tx.length).length : Nat), .int .i64 tx.length], .int .i64 0] by unfold txOut; rw [hb']; rfl] at h2
        exact h2
      · have hsum : at_ + (hd 128 tx.length).length + tx.length = at_ + (T.put (T.mk (bs tx) false [])).length := by rw [hpc, List.length_append]; omega
        refine (pass_text hR (hd 128 tx.length).length tx.length tx (by omega) ?_ ?_ ?_ (by rw [h.plug]; omega) ?_ (hXw w hR.sz)).mono ?_
        · rw [bs_extract, Nat.add_sub_cancel_left, ← List.drop_drop, h.txt, hpc, List.append_assoc, List.drop_left, List.take_left]
        · rw [bs_size]; omega
        · rw [hsum]; exact h.ends
        · omega
        · intro e w' hcp
          refine pass_leaf h hf hdp.1 hl.1 rfl ?_
          rw [← hsum]
          exact hcp
  · have hs0 : sB = ⟨#[]⟩ := by
      simp only [T.rgt, T.own, Bool.and_eq_true, if_true, beq_iff_eq] at hry
      apply ByteArray.ext
      apply Array.eq_empty_of_size_eq_zero
      rw [ByteArray.size_data]
      exact hry.1
    subst hs0
    have hpc : T.put (T.mk ⟨#[]⟩ true ts) = hd 192 (T.puts ts).length ++ T.puts ts := T.put_list _ _
    have hzp := hd_pos 192 (T.puts ts).length
    have hn60 : (T.puts ts).length ≤ 60000 := by
      have h1 := T.put_le x (by omega)
      have h2 := congrArg List.length hf
      rw [List.length_append] at h2
      have h4 := put_plug (pf F) (T.mk ⟨#[]⟩ true ts)
      rw [h.plug, hpc, List.length_append] at h4
      omega
    have hH : ∀ W', Calls Try.prog 35 #[.string (bs (T.put (T.mk ⟨#[]⟩ true ts) ++ behind F more))] W' fun e w' => e = .returned (.tuple #[.agg #[.bool true, .int .i64 ((hd 192 (T.puts ts).length).length : Nat), .int .i64 (T.puts ts).length], .int .i64 0]) ∧ Below W'.heap.size W' w' := fun W' => by
      have h1 := headed_full true (T.puts ts).length hn60 (T.puts ts ++ behind F more) (by rw [List.length_append]; rw [hpc, List.length_append] at hql; rw [List.length_append] at hql; omega) W'
      rw [hdOut_ok (by rw [List.length_append]; omega)] at h1
      rw [hpc, List.append_assoc]
      exact h1
    have hsum : at_ + (hd 192 (T.puts ts).length).length + (T.puts ts).length = at_ + (T.put (T.mk ⟨#[]⟩ true ts)).length := by rw [hpc, List.length_append]; omega
    refine ⟨true, (hd 192 (T.puts ts).length).length, (T.puts ts).length, fun w hR => next_list hR (by omega) (by omega) (by omega) he _ hq hne hql hdp hl _ _ hH, fun w hR => ?_⟩
    rcases ts with _ | ⟨z, zs⟩
    · refine (pass_none hR _ _ (by rfl) ?_ (by rw [h.plug]; omega) ?_ (hXw w hR.sz)).mono ?_
      · rw [hsum]; exact h.ends
      · omega
      · intro e w' hcp
        refine pass_leaf h hf hdp.1 hl.1 rfl ?_
        rw [← hsum]
        exact hcp
    · have hzz := T.put_pos z
      have hpn : (T.puts (z :: zs)).length = (T.put z).length + (T.puts zs).length := by simp only [T.puts, List.length_append]
      refine (pass_open hR (hd 192 (T.puts (z :: zs)).length).length (T.puts (z :: zs)).length zs (by omega) (by omega) (by omega) (hXw w hR.sz)).mono ?_
      rintro e w' ⟨rfl, hfr, sv', hR'⟩
      refine ⟨hfr, .inl ⟨_, sv', z, _, rfl, hR', ⟨h.plug, ?_, ⟨?_, ?_⟩, ?_, by omega⟩, by omega⟩⟩
      · rw [← List.drop_drop, h.txt, hpc, List.append_assoc, List.drop_left]
        show T.puts (z :: zs) ++ (T.tail (pf F) ++ more) = T.put z ++ (T.puts zs ++ T.tail (pf F) ++ more)
        simp only [T.puts, List.append_assoc]
      · show at_ + (hd 192 (T.puts (z :: zs)).length).length + (T.puts (z :: zs)).length = at_ + (hd 192 (T.puts (z :: zs)).length).length + (T.put z).length + (T.puts zs).length
        omega
      · show Ends F (at_ + (hd 192 (T.puts (z :: zs)).length).length + (T.puts (z :: zs)).length)
        rw [hsum]; exact h.ends
      · have ho := h.out
        rw [T.out_open (by rw [pf_length]; exact hdp.1) hl.1] at ho
        exact ho
end
end Go.Proofs.Ytaddlobmmmafaaa
