/-
  The contracts of package snap's Size and Unpack over this seat's translation: they tell what the plain szs and upk tell, and meter what is said. Conditions: a text of at most 2^46 bytes; a block's size of at most 900,000 bytes, or above the cap; a meter whose counts are within their bounds.
-/
import Derived.Test.YtacfhjcchoefjaaSnpC
import Derived.Test.YtacfhjcchoefjaaLebCx
import Derived.Test.YtacfhjcchoefjaaMetB
import Derived.Lib.BufferRead
namespace Go.Proofs.Ytacfhjcchoefjaa
open Go.RowKit Go.Sort

theorem szs_reads (s : ByteArray) : ∃ v k e, Reads s 0 0 4294967295 v k e ∧ szs s.data.toList = (v, k, e) ∧ v ≤ 4294967295 ∧ (e ≠ 0 → v = 0 ∧ k = 0) ∧ k ≤ s.size := by
  obtain ⟨n, c, f, hr⟩ : ∃ n c f, nx s.data.toList 0 0 = (n, c, f) := ⟨_, _, _, rfl⟩
  have hd : s.data.toList.drop 0 = s.data.toList := rfl
  by_cases hf : f = 0
  · subst hf
    have hc : c ≤ s.size := by have := nx_size _ 0 0 n c hr; simpa using this
    by_cases hm : 4294967295 < n
    · exact ⟨0, 0, 5, .inr (.inr (.inl ⟨rfl, n, c, by rw [hd]; exact hr, hm, rfl, rfl, rfl⟩)), by unfold szs; rw [hr]; simp [hm], by omega, fun _ => ⟨rfl, rfl⟩, by omega⟩
    · exact ⟨n, c, 0, .inr (.inr (.inr ⟨rfl, n, c, by rw [hd]; exact hr, by omega, rfl, by omega, rfl⟩)), by unfold szs; rw [hr]; simp [hm], by omega, fun h => absurd rfl h, hc⟩
  · have h0 : n = 0 ∧ c = 0 := by
      rcases nx_err s.data.toList 0 0 with h | h | h
      · rw [hr] at h; exact absurd h hf
      · rw [hr] at h; cases h; exact ⟨rfl, rfl⟩
      · rw [hr] at h; cases h; exact ⟨rfl, rfl⟩
    obtain ⟨rfl, rfl⟩ := h0
    exact ⟨0, 0, f, .inr (.inl ⟨rfl, f, by omega, by rw [hd]; exact hr, rfl, rfl, rfl⟩), by unfold szs; rw [hr]; simp [hf], by omega, fun _ => ⟨rfl, rfl⟩, by omega⟩

theorem size_any (s : ByteArray) (hs : s.size ≤ 70368744177664) (v k f : Nat) (hz : szs s.data.toList = (v, k, f)) (w : World) :
    Calls Try.prog 8 #[.string s] w fun e w' => e = .returned (.tuple #[.int .i64 v, .int .i64 k, .int .i64 f]) ∧ Below w.heap.size w w' := by
  obtain ⟨v', k', f', hr, hz', hv, _, hk⟩ := szs_reads s
  rw [hz] at hz'
  cases hz'
  have HR := Lib.hid hr
  clear hr hz
  go_enter Try.func8, Try.ntmps8
  go_wp2_with fail
  refine (read_any s _).mono ?_
  rintro e w1 ⟨rfl, hw1⟩
  have R1 : Rd w1 w.heap.size s 0 0 := by rw [hw1]; exact Rd.new w s
  have B1 := Lib.hid (show Below w.heap.size w w1 by rw [hw1]; exact (Below.refl _ _).alloc (Nat.le_refl _) _)
  clear hw1
  go_wp2_with fail
  refine (lebRead_any w.heap.size s 0 0 4294967295 v k f HR.out _ R1 (by omega) (by omega)).mono ?_
  rintro e w2 ⟨rfl, r2, f2⟩
  have R2 := Lib.hid r2
  have B2 := Lib.hid (B1.out.trans (f2.below B1.out.size (fun j hj => by omega)))
  clear r2 f2 R1
  go_wp2_with fail
  refine (at_any w.heap.size s k f _ R2.out).mono ?_
  rintro e w3 ⟨rfl, rfl⟩
  go_wp2_with fail
  refine (fault_any w.heap.size s k f _ R2.out).mono ?_
  rintro e w3 ⟨rfl, rfl⟩
  go_wp2
  go_ret3
  exact ⟨rfl, B2.out⟩

/-- A place in a text that is sliced from there on. -/
theorem tail_list (s : ByteArray) (k : Nat) : (s.extract k s.size).data.toList = s.data.toList.drop k := by
  rw [Lib.extract_data, List.take_of_length_le (by simp)]

theorem str_row {w : World} {base : Nat} {v : Value} {l : List UInt8} (h : Own8 w base v l) : (convert 34 9 v).run Try.prog w = .ok (.string (bs l)) w := by
  rcases h.2 with ⟨rfl, h0⟩ | ⟨g, cap, cur, rfl, hb, hg, _, _, hs, ht⟩
  · obtain rfl := List.length_eq_zero_iff.1 h0
    exact Lib.run_convert_nil_bytes w _ _ _ 0 Try.underlying34 Try.underlying5 Try.underlying9
  · refine conv8 (l := l) (row8_of_block hg (fun i hi => ?_) (fun i _ => by omega)) rfl cap
    have h1 : (cur.toList.take (l.length * 1))[i]? = (l.map enc8)[i]? := by rw [ht]
    rw [List.getElem?_take, if_pos (by omega), List.getElem?_map, List.getElem?_eq_getElem hi] at h1
    simpa [enc8] using h1

theorem els_none : ∀ (n : Nat) (s : List UInt8) (size : Nat) (out : List UInt8), s.length ≤ n → (els s size out).2 ≠ 0 → (els s size out).1 = []
  | _, [], size, out, _, h => by
    rw [els_nil] at h ⊢
    split at h
    · rename_i h2; rw [if_pos h2]
    · exact absurd rfl h
  | 0, _ :: _, _, _, hn, _ => by simp at hn
  | n + 1, b :: r, size, out, hn, h => by
    rw [els_cons] at h ⊢
    cases hs : stp1 b r size out with
    | error e => rfl
    | ok p =>
      obtain ⟨s', out'⟩ := p
      rw [hs] at h
      simp only at h ⊢
      have := stp1_less hs
      simp only [List.length_cons] at hn
      exact els_none n s' size out' (by omega) h

theorem unpack_nil (s : ByteArray) (most : Int) (hs : s.size ≤ 70368744177664) (hn : (szs s.data.toList).2.2 = 0 → (szs s.data.toList).1 ≤ 900000 ∨ most < ((szs s.data.toList).1 : Int)) (w : World) :
    Calls Try.prog 10 #[.string s, .int .i64 most, .pointer none] w fun e w' => e = .returned (.tuple #[.string (bs (upk s.data.toList most).1), .int .i64 ((upk s.data.toList most).2 : Nat)]) ∧ Below w.heap.size w w' := by
  obtain ⟨v, k, f, hr, hz, hv, hf0, hk⟩ := szs_reads s
  rw [hz] at hn
  have HZ := Lib.hid hz
  clear hr hz
  by_cases hf : f = 0
  · subst hf
    by_cases hm : most < (v : Int)
    · have hu : upk s.data.toList most = ([], 5) := by unfold upk; rw [HZ.out]; simp [hm]
      have HU := Lib.hid hu
      clear hu hn hf0
      go_enter Try.func10, Try.ntmps10
      go_wp2_with fail
      refine (size_any s hs v k 0 HZ.out _).mono ?_
      rintro e w1 ⟨rfl, b1⟩
      have B1 := Lib.hid b1
      clear b1
      go_wp2
      go_ret2
      exact ⟨by rw [HU.out]; rfl, B1.out⟩
    · have hu : upk s.data.toList most = els (s.data.toList.drop k) v [] := by unfold upk; rw [HZ.out]; simp [hm]
      have hv9 : v ≤ 900000 := by rcases hn rfl with h | h <;> omega
      obtain ⟨t, ht⟩ : ∃ t, t = s.extract k s.size := ⟨_, rfl⟩
      have htl : t.data.toList = s.data.toList.drop k := by rw [ht, tail_list]
      have htz : t.size ≤ s.size := by rw [ht, ByteArray.size_extract]; omega
      rw [← htl] at hu
      obtain ⟨O, ER, hO⟩ : ∃ O ER, els t.data.toList v [] = (O, ER) := ⟨_, _, rfl⟩
      rw [hO] at hu
      have HU := Lib.hid (And.intro hu (And.intro ht hO))
      have i1 : (k : Int) ≤ (s.size : Int) := by omega
      clear hu hn hf0 ht htl hO
      go_enter Try.func10, Try.ntmps10
      go_wp2_with fail
      refine (size_any s hs v k 0 HZ.out _).mono ?_
      rintro e w1 ⟨rfl, b1⟩
      have B1 := Lib.hid b1
      clear b1
      go_wp2_with fail
      rw [← HU.out.2.1]
      refine (read_any t _).mono ?_
      rintro e w2 ⟨rfl, hw2⟩
      have R2 : Rd w2 w1.heap.size t 0 0 := by rw [hw2]; exact Rd.new w1 t
      have B2 := Lib.hid (show Below w.heap.size w w2 by rw [hw2]; exact B1.out.alloc B1.out.size _)
      have hz1 : w.heap.size ≤ w1.heap.size := B1.out.size
      clear hw2
      go_wp2_with fail
      refine (lay_any w1.heap.size t v w2 R2 (by omega) hv9).mono ?_
      rw [HU.out.2.2]
      rintro e w3 ⟨vv, k3, rfl, r3, o3, f3⟩
      have R3 := Lib.hid r3
      have B3 := Lib.hid (B2.out.trans (f3.below B2.out.size (fun j hj => by omega)))
      have O3 := Lib.hid o3
      clear r3 f3 o3 R2
      go_wp2_with fail
      refine (fault_any w1.heap.size t k3 (ER : Nat) _ R3.out).mono ?_
      rintro e w4 ⟨rfl, rfl⟩
      by_cases hER : ER = 0
      · subst hER
        have hst := str_row (O3.out rfl)
        go_wp2
        go_ret2
        exact ⟨by rw [HU.out.1]; rfl, B3.out⟩
      · have t1 : ((ER : Int) != 0) = true := by simp; omega
        have hOe : O = [] := by have := els_none _ t.data.toList v [] (Nat.le_refl _) (by rw [HU.out.2.2]; exact hER); rwa [HU.out.2.2] at this
        clear hER
        go_wp2
        go_ret2
        exact ⟨by rw [HU.out.1, hOe]; rfl, B3.out⟩
  · have hu : upk s.data.toList most = ([], f) := by unfold upk; rw [HZ.out]; simp [hf]
    obtain ⟨rfl, rfl⟩ := hf0 hf
    have HU := Lib.hid hu
    have t1 : ((f : Int) == 0) = false := by simp; omega
    have t2 : ((f : Int) != 0) = true := by simp; omega
    clear hu hn hf0
    go_enter Try.func10, Try.ntmps10
    go_wp2_with fail
    refine (size_any s hs 0 0 f HZ.out _).mono ?_
    rintro e w1 ⟨rfl, b1⟩
    have B1 := Lib.hid b1
    clear b1
    go_wp2
    go_ret2
    exact ⟨by rw [HU.out]; rfl, B1.out⟩

/-- What Unpack tells by a meter, and the meter's counts behind it. -/
def umt (s : List UInt8) (most o u k t : Int) : (List UInt8 × Int) × Int × Int × Int :=
  if (szs s).2.2 = 0 then
    if most < ((szs s).1 : Int) then (([], 5), u, k, t)
    else if (tk o u k t ((szs s).1 : Nat)).1 = 0 then (((upk s most).1, ((upk s most).2 : Nat)), (tk o u k t ((szs s).1 : Nat)).2)
    else (([], (tk o u k t ((szs s).1 : Nat)).1), (tk o u k t ((szs s).1 : Nat)).2)
  else (([], ((szs s).2.2 : Nat)), u, k, t)

theorem unpack_meter (b : Nat) (o u c p : Int) (s : ByteArray) (most : Int) (hs : s.size ≤ 70368744177664) (hn : (szs s.data.toList).2.2 = 0 → (szs s.data.toList).1 ≤ 900000 ∨ most < ((szs s.data.toList).1 : Int)) (w : World)
    (h : Mt w b o u c p) (hu0 : 0 ≤ u) (ho : u ≤ o) (hmo : o ≤ 9223372036854775807) (hc : 0 ≤ c) (hc2 : c ≤ 9223372036854775807) :
    Calls Try.prog 10 #[.string s, .int .i64 most, .pointer (some ⟨b, 0, none⟩)] w fun e w' => e = .returned (.tuple #[.string (bs (umt s.data.toList most o u c p).1.1), .int .i64 (umt s.data.toList most o u c p).1.2]) ∧
      Mt w' b o (umt s.data.toList most o u c p).2.1 (umt s.data.toList most o u c p).2.2.1 (umt s.data.toList most o u c p).2.2.2 ∧ Fr (fun j => j = b) w w' := by
  obtain ⟨v, k, f, hr, hz, hv, hf0, hk⟩ := szs_reads s
  rw [hz] at hn
  have HZ := Lib.hid hz
  have H := Lib.hid h
  have hlb := h.lt
  clear hr hz h
  by_cases hf : f = 0
  · subst hf
    by_cases hm : most < (v : Int)
    · have hu : umt s.data.toList most o u c p = (([], 5), u, c, p) := by unfold umt; rw [HZ.out]; simp [hm]
      have HU := Lib.hid hu
      clear hu hn hf0
      go_enter Try.func10, Try.ntmps10
      go_wp2_with fail
      refine (size_any s hs v k 0 HZ.out _).mono ?_
      rintro e w1 ⟨rfl, b1⟩
      have M1 := Lib.hid (And.intro (H.out.keep (b1.block b hlb)) (Fr.ofBelow b1 (S := fun j => j = b)))
      clear b1
      go_wp2
      go_ret2
      rw [HU.out]
      exact ⟨rfl, M1.out⟩
    · have hv9 : v ≤ 900000 := by rcases hn rfl with h | h <;> omega
      obtain ⟨te, hte⟩ : ∃ te, (tk o u c p (v : Nat)).1 = te := ⟨_, rfl⟩
      have HT := Lib.hid hte
      clear hte
      by_cases ht0 : te = 0
      · subst ht0
        obtain ⟨t, ht⟩ : ∃ t, t = s.extract k s.size := ⟨_, rfl⟩
        have htl : t.data.toList = s.data.toList.drop k := by rw [ht, tail_list]
        have htz : t.size ≤ s.size := by rw [ht, ByteArray.size_extract]; omega
        obtain ⟨O, ER, hO⟩ : ∃ O ER, els t.data.toList v [] = (O, ER) := ⟨_, _, rfl⟩
        have hu : umt s.data.toList most o u c p = ((O, (ER : Int)), (tk o u c p (v : Nat)).2) := by
          have hup : upk s.data.toList most = (O, ER) := by unfold upk; rw [HZ.out]; simp [hm]; rw [← htl]; exact hO
          unfold umt; rw [HZ.out, hup]; simp [hm, HT.out]
        have HU := Lib.hid (And.intro hu (And.intro ht hO))
        have i1 : (k : Int) ≤ (s.size : Int) := by omega
        clear hu hn hf0 ht htl hO
        go_enter Try.func10, Try.ntmps10
        go_wp2_with fail
        refine (size_any s hs v k 0 HZ.out _).mono ?_
        rintro e w0 ⟨rfl, b1⟩
        have M0 := Lib.hid (And.intro (H.out.keep (b1.block b hlb)) (Fr.ofBelow b1 (S := fun j => j = b)))
        clear b1
        go_wp2_with fail
        refine (take_any b o u c p v _ M0.out.1 hu0 ho hmo hc hc2).mono ?_
        rw [HT.out]
        rintro e w1 ⟨rfl, m1, f1⟩
        have M1 := Lib.hid (And.intro m1 (M0.out.2.trans f1))
        clear m1 f1 M0
        go_wp2_with fail
        rw [← HU.out.2.1]
        refine (read_any t _).mono ?_
        rintro e w2 ⟨rfl, hw2⟩
        have R2 : Rd w2 w1.heap.size t 0 0 := by rw [hw2]; exact Rd.new w1 t
        have B2 := Lib.hid (show Mt w2 b o (tk o u c p (v : Nat)).2.1 (tk o u c p (v : Nat)).2.2.1 (tk o u c p (v : Nat)).2.2.2 ∧ Fr (fun j => j = b) w w2 by rw [hw2]; exact ⟨M1.out.1.alloc _, M1.out.2.alloc _⟩)
        have hz1 : b + 1 ≤ w1.heap.size := M1.out.1.lt
        clear hw2
        go_wp2_with fail
        refine (lay_any w1.heap.size t v w2 R2 (by omega) hv9).mono ?_
        rw [HU.out.2.2]
        rintro e w3 ⟨vv, k3, rfl, r3, o3, f3⟩
        have R3 := Lib.hid r3
        have B3 := Lib.hid (And.intro (B2.out.1.keep (f3.block b B2.out.1.lt (fun e => by omega))) (B2.out.2.then_ f3 (fun j hj e => absurd hj (by have : j = w1.heap.size := e; have := M1.out.2.size; omega))))
        have O3 := Lib.hid o3
        clear r3 f3 o3 R2
        go_wp2_with fail
        refine (fault_any w1.heap.size t k3 (ER : Nat) _ R3.out).mono ?_
        rintro e w4 ⟨rfl, rfl⟩
        by_cases hER : ER = 0
        · subst hER
          have hst := str_row (O3.out rfl)
          go_wp2
          go_ret2
          exact (by rw [HU.out.1]; exact ⟨rfl, B3.out⟩)
        · have t1 : ((ER : Int) != 0) = true := by simp; omega
          have hOe : O = [] := by have := els_none _ t.data.toList v [] (Nat.le_refl _) (by rw [HU.out.2.2]; exact hER); rwa [HU.out.2.2] at this
          clear hER
          go_wp2
          go_ret2
          rw [HU.out.1, hOe]; exact ⟨rfl, B3.out⟩
      · have hu : umt s.data.toList most o u c p = (([], te), (tk o u c p (v : Nat)).2) := by
          unfold umt; rw [HZ.out]; simp [hm, HT.out, ht0]
        have HU := Lib.hid hu
        have t1 : (te == 0) = false := by simpa using ht0
        have t2 : (te != 0) = true := by simpa using ht0
        clear hu hn hf0 ht0
        go_enter Try.func10, Try.ntmps10
        go_wp2_with fail
        refine (size_any s hs v k 0 HZ.out _).mono ?_
        rintro e w0 ⟨rfl, b1⟩
        have M0 := Lib.hid (And.intro (H.out.keep (b1.block b hlb)) (Fr.ofBelow b1 (S := fun j => j = b)))
        clear b1
        go_wp2_with fail
        refine (take_any b o u c p v _ M0.out.1 hu0 ho hmo hc hc2).mono ?_
        rw [HT.out]
        rintro e w1 ⟨rfl, m1, f1⟩
        have M1 := Lib.hid (And.intro m1 (M0.out.2.trans f1))
        clear m1 f1 M0
        go_wp2
        go_ret2
        rw [HU.out]
        exact ⟨rfl, M1.out⟩
  · have hu : umt s.data.toList most o u c p = (([], (f : Int)), u, c, p) := by unfold umt; rw [HZ.out]; simp [hf]
    obtain ⟨rfl, rfl⟩ := hf0 hf
    have HU := Lib.hid hu
    have t1 : ((f : Int) == 0) = false := by simp; omega
    have t2 : ((f : Int) != 0) = true := by simp; omega
    clear hu hn hf0
    go_enter Try.func10, Try.ntmps10
    go_wp2_with fail
    refine (size_any s hs 0 0 f HZ.out _).mono ?_
    rintro e w1 ⟨rfl, b1⟩
    have M1 := Lib.hid (And.intro (H.out.keep (b1.block b hlb)) (Fr.ofBelow b1 (S := fun j => j = b)))
    clear b1
    go_wp2
    go_ret2
    rw [HU.out]
    exact ⟨rfl, M1.out⟩
end Go.Proofs.Ytacfhjcchoefjaa
