/-
  The contracts of the document's own answers for layer 11 (little, heads, Size, Elements, Unpack) over this seat's translation. Conditions: a text of at most 2^46 bytes, a size of at most 900,000 bytes.
-/
import Derived.Test.YtacfhjcchoefjaaSnpM
import Derived.Test.YtacfhjcchoefjaaOwnS
import Derived.Test.YtacfhjcchoefjaaLebNx
import Derived.Test.YtacfhjcchoefjaaFixRn
import Derived.Deep.Cut
import Derived.Lib.BufferRead
namespace Go.Proofs.Ytacfhjcchoefjaa
open Go.RowKit Go.Sort

set_option maxRecDepth 100000 in
theorem refLittle_any (s : ByteArray) (h4 : s.size ≤ 4) (w : World) :
    Calls Try.prog 33 #[.string s] w fun e w' => e = .returned (.int .i64 (num s.data.toList)) ∧ w = w' := by
  have hz : (bs s.data.toList.reverse).size ≤ 8 := by rw [bs_size]; simp; omega
  have hb : be (bs s.data.toList.reverse).data.toList = num s.data.toList := by rw [bs_list, be_reverse]
  have hlt4 : num s.data.toList < 4294967296 := Nat.lt_of_lt_of_le (num_lt _) (Nat.pow_le_pow_right (n := 256) (i := s.data.toList.length) (j := 4) (by decide) (by simp; omega))
  have HB := Lib.hid (And.intro hz hb)
  clear hz hb
  go_enter Try.func33, Try.ntmps33
  go_wp2_with fail
  refine (refTurned_any s (by omega) _).mono ?_
  rintro e w1 ⟨rfl, rfl⟩
  go_wp2_with fail
  refine (refNumber_any _ HB.out.1 _).mono ?_
  rw [HB.out.2]
  rintro e w1 ⟨rfl, rfl⟩
  go_wp2
  go_ret
  exact ⟨rfl, rfl⟩

set_option maxRecDepth 100000 in
theorem heads_any (b : Nat) (hb : b < 256) (w : World) :
    Calls Try.prog 32 #[.int .i64 (b : Int)] w fun e w' => e = .returned (.int .i64 (hdb b)) ∧ w = w' := by
  have h4 : b % 4 = 0 ∨ b % 4 = 1 ∨ b % 4 = 2 ∨ b % 4 = 3 := by omega
  rcases h4 with h0 | h0 | h0 | h0
  · have hm : (b : Int) % 4 = 0 := by omega
    by_cases h6 : 60 ≤ b / 4
    · have hh : 1 + (b : Int) / 4 - 59 = (hdb b : Int) := by unfold hdb; rw [if_pos h0, if_pos h6]; omega
      have HH := Lib.hid hh
      clear hh h0
      go_enter Try.func32, Try.ntmps32
      go_wp2
      go_ret
      exact ⟨by rw [← HH.out]; rfl, rfl⟩
    · have hh : hdb b = 1 := by unfold hdb; rw [if_pos h0, if_neg h6]
      have HH := Lib.hid hh
      clear hh h0
      go_enter Try.func32, Try.ntmps32
      go_wp2
      go_ret
      exact ⟨by rw [HH.out]; rfl, rfl⟩
  · have hm : (b : Int) % 4 = 1 := by omega
    have hh : hdb b = 2 := by unfold hdb; rw [if_neg (by omega), if_pos h0]
    have HH := Lib.hid hh
    clear hh h0
    go_enter Try.func32, Try.ntmps32
    go_wp2
    go_ret
    exact ⟨by rw [HH.out]; rfl, rfl⟩
  · have hm : (b : Int) % 4 = 2 := by omega
    have hh : hdb b = 3 := by unfold hdb; rw [if_neg (by omega), if_neg (by omega), if_pos h0]
    have HH := Lib.hid hh
    clear hh h0
    go_enter Try.func32, Try.ntmps32
    go_wp2
    go_ret
    exact ⟨by rw [HH.out]; rfl, rfl⟩
  · have hm : (b : Int) % 4 = 3 := by omega
    have hh : hdb b = 5 := by unfold hdb; rw [if_neg (by omega), if_neg (by omega), if_neg (by omega)]
    have HH := Lib.hid hh
    clear hh h0
    go_enter Try.func32, Try.ntmps32
    go_wp2
    go_ret
    exact ⟨by rw [HH.out]; rfl, rfl⟩

/-- Three results of szs as values. -/
def sized3 (r : Nat × Nat × Nat) : Value := .tuple #[.int .i64 r.1, .int .i64 r.2.1, .int .i64 r.2.2]

theorem refSize_any (s : ByteArray) (w : World) :
    Calls Try.prog 9 #[.string s] w fun e w' => e = .returned (sized3 (szs s.data.toList)) ∧ w = w' := by
  obtain ⟨n, k, f, hr⟩ : ∃ n k f, nx s.data.toList 0 0 = (n, k, f) := ⟨_, _, _, rfl⟩
  have HR := Lib.hid hr
  have hn : n < 18446744073709551616 := by
    rcases nx_err s.data.toList 0 0 with h | h | h
    · rw [hr] at h
      have h0 : f = 0 := h
      subst h0
      exact nx_lt _ 0 0 _ k (by omega) (by simp) hr
    · rw [hr] at h; cases h; decide
    · rw [hr] at h; cases h; decide
  by_cases hf : f = 0
  · subst hf
    by_cases hm : 4294967295 < n
    · have hz : szs s.data.toList = (0, 0, 5) := by unfold szs; rw [hr]; simp [hm]
      have HZ := Lib.hid hz
      clear hr hz
      go_enter Try.func9, Try.ntmps9
      go_wp2_with fail
      refine (refNext_is s n k 0 HR.out _).mono ?_
      rintro e w1 ⟨rfl, rfl⟩
      go_wp2
      go_ret3
      exact ⟨by rw [HZ.out]; rfl, rfl⟩
    · have hz : szs s.data.toList = (n, k, 0) := by unfold szs; rw [hr]; simp [hm]
      have HZ := Lib.hid hz
      clear hr hz
      go_enter Try.func9, Try.ntmps9
      go_wp2_with fail
      refine (refNext_is s n k 0 HR.out _).mono ?_
      rintro e w1 ⟨rfl, rfl⟩
      go_wp2
      go_ret3
      exact ⟨by rw [HZ.out]; rfl, rfl⟩
  · have hz : szs s.data.toList = (0, 0, f) := by unfold szs; rw [hr]; simp [hf]
    have HZ := Lib.hid hz
    have t1 : ((f : Int) != 0) = true := by simp; omega
    clear hr hz
    go_enter Try.func9, Try.ntmps9
    go_wp2_with fail
    refine (refNext_is s n k f HR.out _).mono ?_
    rintro e w1 ⟨rfl, rfl⟩
    go_wp2
    go_ret3
    exact ⟨by rw [HZ.out]; rfl, rfl⟩
theorem bs_cons0 (c : UInt8) (r : List UInt8) (h : 0 < (bs (c :: r)).size) : (bs (c :: r))[0] = c := by rw [bs_get]; rfl
/-- A byte in memory, and nothing behind it. -/
theorem row_one1 (W : World) (b : UInt8) : Row8 (W.alloc (.cells #[.int .u8 (b.toNat : Int)] 5)) W.heap.size [b] := by
  refine row8_of_block (fr := (0, 0)) (heap_alloc_new W _) (fun i hi => ?_) (fun i _ h => absurd h.2 (Nat.not_lt_zero i))
  obtain rfl : i = 0 := by simpa using hi
  rfl
theorem Own8.low0 {w : World} {base : Nat} {v : Value} {l : List UInt8} (h : Own8 w base v l) : v = .slice none 0 0 ∧ l = [] ∨ ∃ g c, v = .slice (some ⟨g, 0, none⟩) l.length c ∧ base ≤ g ∧ Row8 w g l := by
  rcases h.2 with ⟨hv, h0⟩ | ⟨g, cap, cur, rfl, hb, hg, _, _, hs, ht⟩
  · exact .inl ⟨hv, List.length_eq_zero_iff.1 h0⟩
  · refine .inr ⟨g, cap, rfl, hb, row8_of_block hg (fun i hi => ?_) (fun i _ => by omega)⟩
    have h1 : (cur.toList.take (l.length * 1))[i]? = (l.map enc8)[i]? := by rw [ht]
    rw [List.getElem?_take, if_pos (by omega), List.getElem?_map, List.getElem?_eq_getElem hi] at h1
    simpa [enc8] using h1

set_option maxHeartbeats 4000000 in
set_option maxRecDepth 100000 in
theorem elems_any (s : ByteArray) (size : Nat) (w : World) (hz : size ≤ 900000) :
    Calls Try.prog 22 #[.string s, .int .i64 (size : Int)] w fun e w' => e = .returned (.tuple #[.string (bs (els s.data.toList size []).1), .int .i64 ((els s.data.toList size []).2 : Nat)]) ∧ Below w.heap.size w w' := by
  obtain ⟨OUT, hO⟩ : ∃ OUT, els s.data.toList size [] = OUT := ⟨_, rfl⟩
  rw [hO]
  have HO := Lib.hid hO
  clear hO
  go_enter Try.func22, Try.ntmps22
  go_wp2_with fail
  go_loopw [0, 6] (fun v0 v6 wr => ∃ (l out : List UInt8), v0 = .string (bs l) ∧ Own8 wr w.heap.size v6 out ∧ l.length ≤ s.size ∧ out.length ≤ size ∧ Fr (fun _ => False) w wr ∧ OUT = els l size out) (fun v _ _ => match v with | .string t => t.size | _ => 0)
  case atStart => exact ⟨s.data.toList, [], by rw [bs_of], Own8.nil _ _, by simp, Nat.zero_le _, Fr.refl _ _, HO.out.symm⟩
  case round =>
    obtain ⟨l, out, rfl, hO, hl, ho, hF, hE⟩ := hrel
    cases l with
    | nil =>
      rw [els_nil] at hE
      have t0 : (bs []).size = 0 := rfl
      rcases hO.low0 with ⟨rfl, rfl⟩ | ⟨g, c, rfl, hg, hrow⟩
      · by_cases hlt : 0 < size
        · rw [if_pos (by simpa using hlt)] at hE
          subst hE
          have ST := Lib.hid hF
          clear hO hF
          go_wp2
          go_ret2
          exact ⟨rfl, ST.out.below (Nat.le_refl _) (fun _ h => h.elim)⟩
        · rw [if_neg (by simpa using hlt)] at hE
          subst hE
          have hcv : ∀ W, (convert 34 9 (.slice none 0 0)).run Try.prog W = .ok (.string ⟨#[]⟩) W := fun W => Lib.run_convert_nil_bytes W _ _ _ 0 Try.underlying34 Try.underlying5 Try.underlying9
          have ST := Lib.hid hF
          clear hO hF
          go_wp2
          go_ret2
          exact ⟨rfl, ST.out.below (Nat.le_refl _) (fun _ h => h.elim)⟩
      · by_cases hlt : out.length < size
        · rw [if_pos hlt] at hE
          subst hE
          have ST := Lib.hid hF
          clear hO hF hrow
          go_wp2
          go_ret2
          exact ⟨rfl, ST.out.below (Nat.le_refl _) (fun _ h => h.elim)⟩
        · rw [if_neg hlt] at hE
          subst hE
          have hcv := conv8 hrow rfl c
          have ST := Lib.hid hF
          clear hO hF hrow
          go_wp2
          go_ret2
          exact ⟨rfl, ST.out.below (Nat.le_refl _) (fun _ h => h.elim)⟩
    | cons c r =>
      obtain ⟨ao, c6, rfl⟩ := hO.form
      obtain ⟨T, hT⟩ : ∃ T, T = bs (c :: r) := ⟨_, rfl⟩
      have hTz : T.size = r.length + 1 := by rw [hT, bs_size]; rfl
      have hTl : T.data.toList = c :: r := by rw [hT, bs_list]
      obtain ⟨x, hx⟩ : ∃ x, c.toNat = x := ⟨_, rfl⟩
      have h0 : 0 < T.size := by omega
      have hTx : T[0].toNat = x := by
        rw [← hx]
        subst hT
        rw [bs_cons0]
      have hxb : x < 256 := by rw [← hx]; exact c.toNat_lt
      rw [← hT]
      obtain ⟨K, hK⟩ : ∃ K, hdb x = K := ⟨_, rfl⟩
      have hK1 : 0 < K := by rw [← hK]; exact hdb_pos x
      have hK5 : K ≤ 5 := by rw [← hK]; exact hdb_le x hxb
      have hTz1 : T.size ≤ r.length + 1 := Nat.le_of_eq hTz
      have hTz2 : r.length + 1 ≤ T.size := Nat.le_of_eq hTz.symm
      simp only [List.length_cons] at hl
      by_cases hsh : T.size < K
      · have hE2 : OUT = ([], 2) := by
          rw [hE, els_cons]; unfold stp1; rw [if_pos (by rw [hx, hK]; omega)]
        subst hE2
        have ST := Lib.hid (And.intro hF hK)
        clear hF hO hE hTl hT hTz hx hK
        go_wp2_with fail
        refine (heads_any x hxb _).mono ?_
        rw [ST.out.2]
        rintro e w1 ⟨rfl, rfl⟩
        go_wp2
        go_ret2
        exact ⟨rfl, ST.out.1.below (Nat.le_refl _) (fun _ h => h.elim)⟩
      · have hT1 : (T.extract 1 K).data.toList = r.take (K - 1) := by rw [Lib.extract_data, hTl]; rfl
        have hT2 : (T.extract K T.size).data.toList = r.drop (K - 1) := by
          rw [Lib.extract_data, hTl]
          obtain ⟨m, rfl⟩ : ∃ m, K = m + 1 := ⟨K - 1, by omega⟩
          rw [List.drop_succ_cons, List.take_of_length_le (by rw [List.length_drop]; omega)]; rfl
        have hT1z : (T.extract 1 K).size = K - 1 := by rw [ByteArray.size_extract]; omega
        have hT2z : (T.extract K T.size).size = T.size - K := by rw [ByteArray.size_extract]; omega
        obtain ⟨T2, hT2e⟩ : ∃ T2, T2 = T.extract K T.size := ⟨_, rfl⟩
        rw [← hT2e] at hT2 hT2z
        have hT2a : T2.size ≤ T.size - K := Nat.le_of_eq hT2z
        have hT2b : T.size - K ≤ T2.size := Nat.le_of_eq hT2z.symm
        have j1 : (1 : Int) ≤ (K : Int) := by omega
        have j2 : (K : Int) ≤ (T.size : Int) := by omega
        have hM : num (r.take (K - 1)) = num (T.extract 1 K).data.toList := by rw [hT1]
        obtain ⟨M, hMe⟩ : ∃ M, num (T.extract 1 K).data.toList = M := ⟨_, rfl⟩
        have hM4 : M < 4294967296 := by rw [← hMe]; exact Nat.lt_of_lt_of_le (num_lt _) (Nat.pow_le_pow_right (n := 256) (j := 4) (by decide) (by simp; omega))
        rw [hMe] at hM
        have hel : hdb c.toNat = K := by rw [hx, hK]
        have ST := Lib.hid (And.intro hF (And.intro hK (And.intro hO (And.intro hE (And.intro trivial (And.intro hT2e (And.intro hT2 (And.intro hMe (And.intro hT1z (And.intro hel (And.intro hM hx)))))))))))
        clear hF hO hE hTl hT hTz hT1 hT1z hT2z hT2 hMe hK hM hel hx hT2e
        have h4 : x % 4 = 0 ∨ x % 4 = 1 ∨ (x % 4 ≠ 0 ∧ x % 4 ≠ 1) := by omega
        rcases h4 with h4 | h4 | ⟨h4, h5⟩
        · by_cases h6 : 60 ≤ x / 4
          · skip
            obtain ⟨L, hL⟩ : ∃ L, ltn c r = L := ⟨_, rfl⟩
            have hLi : (M : Int) + 1 = (L : Int) := by
              rw [← hL]; unfold ltn
              rw [ST.out.2.2.2.2.2.2.2.2.2.2.2, if_pos h6, ST.out.2.1, ST.out.2.2.2.2.2.2.2.2.2.2.1]; omega
            have HL := Lib.hid hL
            clear hL
            have hcell := ST.out.2.2.2.1
            clear hcell
            by_cases ha : size - out.length < L
            · have ha2 : (size : Int) - (out.length : Int) < (L : Int) := by omega
              have hE2 : OUT = ([], 3) := by
                rw [ST.out.2.2.2.1, els_cons]; unfold stp1
                rw [ST.out.2.2.2.2.2.2.2.2.2.1, if_neg (by omega), ST.out.2.2.2.2.2.2.2.2.2.2.2, if_pos h4, HL.out, if_pos ha]
              subst hE2
              go_wp2_with fail
              refine (heads_any x hxb _).mono ?_
              rw [ST.out.2.1]
              rintro e w1 ⟨rfl, rfl⟩
              go_upto_region 10 with fail
              rw [← ST.out.2.2.2.2.2.1]
              clear hTx hTz1 hTz2 j1 j2 hxb
              go_wp2_with fail
              refine (refLittle_any (T.extract 1 K) (by rw [ST.out.2.2.2.2.2.2.2.2.1]; omega) _).mono ?_
              rw [ST.out.2.2.2.2.2.2.2.1]
              rintro e w1 ⟨rfl, rfl⟩
              go_wp2
              go_ret2
              exact ⟨rfl, ST.out.1.below (Nat.le_refl _) (fun _ h => h.elim)⟩
            · have ha2 : ¬ (size : Int) - (out.length : Int) < (L : Int) := by omega
              have hdl : (r.drop (K - 1)).length = T2.size := by rw [← ST.out.2.2.2.2.2.2.1]; simp
              by_cases hb : T2.size < L
              · have hb2 : (T2.size : Int) < (L : Int) := by omega
                have hE2 : OUT = ([], 2) := by
                  rw [ST.out.2.2.2.1, els_cons]; unfold stp1
                  rw [ST.out.2.2.2.2.2.2.2.2.2.1, if_neg (by omega), ST.out.2.2.2.2.2.2.2.2.2.2.2, if_pos h4, HL.out, if_neg ha, if_pos (by rw [hdl]; exact hb)]
                subst hE2
                clear hdl
                go_wp2_with fail
                refine (heads_any x hxb _).mono ?_
                rw [ST.out.2.1]
                rintro e w1 ⟨rfl, rfl⟩
                go_upto_region 10 with fail
                rw [← ST.out.2.2.2.2.2.1]
                clear hTx hTz1 hTz2 j1 j2 hxb
                go_wp2_with fail
                refine (refLittle_any (T.extract 1 K) (by rw [ST.out.2.2.2.2.2.2.2.2.1]; omega) _).mono ?_
                rw [ST.out.2.2.2.2.2.2.2.1]
                rintro e w1 ⟨rfl, rfl⟩
                go_wp2
                go_ret2
                exact ⟨rfl, ST.out.1.below (Nat.le_refl _) (fun _ h => h.elim)⟩
              · have hb2 : ¬ (T2.size : Int) < (L : Int) := by omega
                have hE2 : OUT = els ((r.drop (K - 1)).drop L) size (out ++ (r.drop (K - 1)).take L) := by
                  rw [ST.out.2.2.2.1, els_cons]; unfold stp1
                  rw [ST.out.2.2.2.2.2.2.2.2.2.1, if_neg (by omega), ST.out.2.2.2.2.2.2.2.2.2.2.2, if_pos h4, HL.out, if_neg ha, if_neg (by rw [hdl]; exact hb)]
                have HE := Lib.hid hE2
                clear hE2 hdl
                go_wp2_with fail
                refine (heads_any x hxb _).mono ?_
                rw [ST.out.2.1]
                rintro e w1 ⟨rfl, rfl⟩
                go_upto_region 10 with fail
                rw [← ST.out.2.2.2.2.2.1]
                clear hTx hTz1 hTz2 j1 j2 hxb
                go_wp2_with fail
                refine (refLittle_any (T.extract 1 K) (by rw [ST.out.2.2.2.2.2.2.2.2.1]; omega) _).mono ?_
                rw [ST.out.2.2.2.2.2.2.2.1]
                rintro e w1 ⟨rfl, rfl⟩
                go_upto_region 18 with fail
                obtain ⟨c7, W7, hcv7, hrow7, hb7, hlt7⟩ := bytes8 (T2.extract 0 L) wr
                have hz7 : (T2.extract 0 L).size = L := by rw [ByteArray.size_extract]; omega
                rw [hz7] at hcv7
                have hl7 : (T2.extract 0 L).data.toList = (r.drop (K - 1)).take L := by rw [Lib.extract_data, ST.out.2.2.2.2.2.2.1]; rfl
                have hw7 : T2.extract L T2.size = bs ((r.drop (K - 1)).drop L) := by
                  rw [← bs_of (T2.extract L T2.size), Lib.extract_data, ST.out.2.2.2.2.2.2.1, List.take_of_length_le]
                  rw [← ST.out.2.2.2.2.2.2.1]; simp
                have O7 := Lib.hid (ST.out.2.2.1.fr (Fr.ofBelow hb7 (S := fun _ => False)) (fun _ _ h => h))
                have F7 := Lib.hid (ST.out.1.trans (Fr.ofBelow hb7))
                have RW := Lib.hid (And.intro hrow7 (And.intro hz7 (And.intro hl7 hw7)))
                clear hrow7 hb7 hz7 hl7 hw7
                go_wp2_with ((refine wpList_append8 (by with_reducible rfl) (.tmp 55) (.tmp 59) (by with_reducible rfl) w.heap.size _ out (T2.extract 0 L).data.toList (by rfl) O7.out wr.heap.size L c7 (by rfl) (by rw [Array.length_toList]; exact RW.out.2.1) RW.out.1 (by omega) F7.out.size ?_; intro v6 w6 h1 h2; have RO := Lib.hid (And.intro h1 h2); clear h1 h2))
                have hro := RO.out.1
                rw [RW.out.2.2.1] at hro
                refine ⟨⟨_, _, congrArg Value.string RW.out.2.2.2, hro, by simp; omega, by simp; omega, fr_grown F7.out RO.out.2 (fun j hj => .inr (O7.out.lt j hj).1), HE.out⟩, ?_⟩
                show (T2.extract L T2.size).size < T.size
                rw [ByteArray.size_extract]; omega
          · skip
            obtain ⟨L, hL⟩ : ∃ L, ltn c r = L := ⟨_, rfl⟩
            have hLi : (x : Int) / 4 + 1 = (L : Int) := by
              rw [← hL]; unfold ltn
              rw [ST.out.2.2.2.2.2.2.2.2.2.2.2, if_neg h6]; omega
            have HL := Lib.hid hL
            clear hL
            have hcell := ST.out.2.2.2.1
            clear hcell
            by_cases ha : size - out.length < L
            · have ha2 : (size : Int) - (out.length : Int) < (L : Int) := by omega
              have hE2 : OUT = ([], 3) := by
                rw [ST.out.2.2.2.1, els_cons]; unfold stp1
                rw [ST.out.2.2.2.2.2.2.2.2.2.1, if_neg (by omega), ST.out.2.2.2.2.2.2.2.2.2.2.2, if_pos h4, HL.out, if_pos ha]
              subst hE2
              go_wp2_with fail
              refine (heads_any x hxb _).mono ?_
              rw [ST.out.2.1]
              rintro e w1 ⟨rfl, rfl⟩
              go_upto_region 10 with fail
              rw [← ST.out.2.2.2.2.2.1]
              clear hTx hTz1 hTz2 j1 j2 hxb
              go_wp2
              go_ret2
              exact ⟨rfl, ST.out.1.below (Nat.le_refl _) (fun _ h => h.elim)⟩
            · have ha2 : ¬ (size : Int) - (out.length : Int) < (L : Int) := by omega
              have hdl : (r.drop (K - 1)).length = T2.size := by rw [← ST.out.2.2.2.2.2.2.1]; simp
              by_cases hb : T2.size < L
              · have hb2 : (T2.size : Int) < (L : Int) := by omega
                have hE2 : OUT = ([], 2) := by
                  rw [ST.out.2.2.2.1, els_cons]; unfold stp1
                  rw [ST.out.2.2.2.2.2.2.2.2.2.1, if_neg (by omega), ST.out.2.2.2.2.2.2.2.2.2.2.2, if_pos h4, HL.out, if_neg ha, if_pos (by rw [hdl]; exact hb)]
                subst hE2
                clear hdl
                go_wp2_with fail
                refine (heads_any x hxb _).mono ?_
                rw [ST.out.2.1]
                rintro e w1 ⟨rfl, rfl⟩
                go_upto_region 10 with fail
                rw [← ST.out.2.2.2.2.2.1]
                clear hTx hTz1 hTz2 j1 j2 hxb
                go_wp2
                go_ret2
                exact ⟨rfl, ST.out.1.below (Nat.le_refl _) (fun _ h => h.elim)⟩
              · have hb2 : ¬ (T2.size : Int) < (L : Int) := by omega
                have hE2 : OUT = els ((r.drop (K - 1)).drop L) size (out ++ (r.drop (K - 1)).take L) := by
                  rw [ST.out.2.2.2.1, els_cons]; unfold stp1
                  rw [ST.out.2.2.2.2.2.2.2.2.2.1, if_neg (by omega), ST.out.2.2.2.2.2.2.2.2.2.2.2, if_pos h4, HL.out, if_neg ha, if_neg (by rw [hdl]; exact hb)]
                have HE := Lib.hid hE2
                clear hE2 hdl
                go_wp2_with fail
                refine (heads_any x hxb _).mono ?_
                rw [ST.out.2.1]
                rintro e w1 ⟨rfl, rfl⟩
                go_upto_region 10 with fail
                rw [← ST.out.2.2.2.2.2.1]
                clear hTx hTz1 hTz2 j1 j2 hxb
                go_upto_region 18 with fail
                obtain ⟨c7, W7, hcv7, hrow7, hb7, hlt7⟩ := bytes8 (T2.extract 0 L) wr
                have hz7 : (T2.extract 0 L).size = L := by rw [ByteArray.size_extract]; omega
                rw [hz7] at hcv7
                have hl7 : (T2.extract 0 L).data.toList = (r.drop (K - 1)).take L := by rw [Lib.extract_data, ST.out.2.2.2.2.2.2.1]; rfl
                have hw7 : T2.extract L T2.size = bs ((r.drop (K - 1)).drop L) := by
                  rw [← bs_of (T2.extract L T2.size), Lib.extract_data, ST.out.2.2.2.2.2.2.1, List.take_of_length_le]
                  rw [← ST.out.2.2.2.2.2.2.1]; simp
                have O7 := Lib.hid (ST.out.2.2.1.fr (Fr.ofBelow hb7 (S := fun _ => False)) (fun _ _ h => h))
                have F7 := Lib.hid (ST.out.1.trans (Fr.ofBelow hb7))
                have RW := Lib.hid (And.intro hrow7 (And.intro hz7 (And.intro hl7 hw7)))
                clear hrow7 hb7 hz7 hl7 hw7
                go_wp2_with ((refine wpList_append8 (by with_reducible rfl) (.tmp 55) (.tmp 59) (by with_reducible rfl) w.heap.size _ out (T2.extract 0 L).data.toList (by rfl) O7.out wr.heap.size L c7 (by rfl) (by rw [Array.length_toList]; exact RW.out.2.1) RW.out.1 (by omega) F7.out.size ?_; intro v6 w6 h1 h2; have RO := Lib.hid (And.intro h1 h2); clear h1 h2))
                have hro := RO.out.1
                rw [RW.out.2.2.1] at hro
                refine ⟨⟨_, _, congrArg Value.string RW.out.2.2.2, hro, by simp; omega, by simp; omega, fr_grown F7.out RO.out.2 (fun j hj => .inr (O7.out.lt j hj).1), HE.out⟩, ?_⟩
                show (T2.extract L T2.size).size < T.size
                rw [ByteArray.size_extract]; omega
        · skip
          obtain ⟨v, hv⟩ : ∃ v, x / 4 = v := ⟨_, rfl⟩
          have hvi : (x : Int) / 4 = (v : Int) := by omega
          have hvb : v < 64 := by omega
          obtain ⟨N, hN⟩ : ∃ N, cpn c = N := ⟨_, rfl⟩
          obtain ⟨D, hD⟩ : ∃ D, bck c r = D := ⟨_, rfl⟩
          have hNi : 4 + (v : Int) % 8 = (N : Int) := by
            rw [← hN]; unfold cpn
            rw [ST.out.2.2.2.2.2.2.2.2.2.2.2, if_pos h4]; omega
          have hDi : (v : Int) / 8 * 256 + (M : Int) = (D : Int) := by
            rw [← hD]; unfold bck
            rw [ST.out.2.2.2.2.2.2.2.2.2.2.2, if_pos h4, ST.out.2.1, ST.out.2.2.2.2.2.2.2.2.2.2.1]; omega
          have hN70 : N ≤ 64 := by omega
          have HL := Lib.hid (And.intro hN hD)
          have h40 : x % 4 ≠ 0 := by omega
          have m0 : ((x : Int) % 4 == 0) = false := by simp; omega
          have m1 : ((x : Int) % 4 == 1) = true := by simp; omega
          clear hN hD hv
          by_cases hb0 : D = 0
          · have q0 : ((D : Int) == 0) = true := by simp; omega
            have hE2 : OUT = ([], 3) := by
              rw [ST.out.2.2.2.1, els_cons]; unfold stp1
              rw [ST.out.2.2.2.2.2.2.2.2.2.1, if_neg (by omega), ST.out.2.2.2.2.2.2.2.2.2.2.2, if_neg h40, HL.out.1, HL.out.2]
              rw [if_pos (by omega)]
            subst hE2
            clear h40
            go_wp2_with fail
            refine (heads_any x hxb _).mono ?_
            rw [ST.out.2.1]
            rintro e w1 ⟨rfl, rfl⟩
            go_upto_region 10 with fail
            rw [← ST.out.2.2.2.2.2.1]
            clear hTx hTz1 hTz2 j1 j2 hxb
            go_wp2_with fail
            refine (refLittle_any (T.extract 1 K) (by rw [ST.out.2.2.2.2.2.2.2.2.1]; omega) _).mono ?_
            rw [ST.out.2.2.2.2.2.2.2.1]
            rintro e w1 ⟨rfl, rfl⟩
            go_wp2
            go_ret2
            exact ⟨rfl, ST.out.1.below (Nat.le_refl _) (fun _ h => h.elim)⟩
          · have q0 : ((D : Int) == 0) = false := by simp; omega
            by_cases hb1 : out.length < D
            · have q1 : (out.length : Int) < (D : Int) := by omega
              have hE2 : OUT = ([], 3) := by
                rw [ST.out.2.2.2.1, els_cons]; unfold stp1
                rw [ST.out.2.2.2.2.2.2.2.2.2.1, if_neg (by omega), ST.out.2.2.2.2.2.2.2.2.2.2.2, if_neg h40, HL.out.1, HL.out.2]
                rw [if_pos (by omega)]
              subst hE2
              clear h40
              go_wp2_with fail
              refine (heads_any x hxb _).mono ?_
              rw [ST.out.2.1]
              rintro e w1 ⟨rfl, rfl⟩
              go_upto_region 10 with fail
              rw [← ST.out.2.2.2.2.2.1]
              clear hTx hTz1 hTz2 j1 j2 hxb
              go_wp2_with fail
              refine (refLittle_any (T.extract 1 K) (by rw [ST.out.2.2.2.2.2.2.2.2.1]; omega) _).mono ?_
              rw [ST.out.2.2.2.2.2.2.2.1]
              rintro e w1 ⟨rfl, rfl⟩
              go_wp2
              go_ret2
              exact ⟨rfl, ST.out.1.below (Nat.le_refl _) (fun _ h => h.elim)⟩
            · have q1 : ¬ (out.length : Int) < (D : Int) := by omega
              by_cases hb2 : size - out.length < N
              · have q2 : (size : Int) - (out.length : Int) < (N : Int) := by omega
                have hE2 : OUT = ([], 3) := by
                  rw [ST.out.2.2.2.1, els_cons]; unfold stp1
                  rw [ST.out.2.2.2.2.2.2.2.2.2.1, if_neg (by omega), ST.out.2.2.2.2.2.2.2.2.2.2.2, if_neg h40, HL.out.1, HL.out.2]
                  rw [if_pos (by omega)]
                subst hE2
                clear h40
                go_wp2_with fail
                refine (heads_any x hxb _).mono ?_
                rw [ST.out.2.1]
                rintro e w1 ⟨rfl, rfl⟩
                go_upto_region 10 with fail
                rw [← ST.out.2.2.2.2.2.1]
                clear hTx hTz1 hTz2 j1 j2 hxb
                go_wp2_with fail
                refine (refLittle_any (T.extract 1 K) (by rw [ST.out.2.2.2.2.2.2.2.2.1]; omega) _).mono ?_
                rw [ST.out.2.2.2.2.2.2.2.1]
                rintro e w1 ⟨rfl, rfl⟩
                go_wp2
                go_ret2
                exact ⟨rfl, ST.out.1.below (Nat.le_refl _) (fun _ h => h.elim)⟩
              · have q2 : ¬ (size : Int) - (out.length : Int) < (N : Int) := by omega
                have hE2 : OUT = els (r.drop (K - 1)) size (cpy N D out) := by
                  rw [ST.out.2.2.2.1, els_cons]; unfold stp1
                  rw [ST.out.2.2.2.2.2.2.2.2.2.1, if_neg (by omega), ST.out.2.2.2.2.2.2.2.2.2.2.2, if_neg h40, HL.out.1, HL.out.2]
                  rw [if_neg (by omega)]
                have HE := Lib.hid hE2
                clear hE2
                go_wp2_with fail
                refine (heads_any x hxb _).mono ?_
                rw [ST.out.2.1]
                rintro e w1 ⟨rfl, rfl⟩
                go_upto_region 10 with fail
                rw [← ST.out.2.2.2.2.2.1]
                clear hTx hTz1 hTz2 j1 j2 hxb
                go_wp2_with fail
                refine (refLittle_any (T.extract 1 K) (by rw [ST.out.2.2.2.2.2.2.2.2.1]; omega) _).mono ?_
                rw [ST.out.2.2.2.2.2.2.2.1]
                rintro e w1 ⟨rfl, rfl⟩
                go_wp2_with fail
                clear hNi hDi hvi hvb m0 m1 q0 q1 q2
                go_loopw [6, 14] (fun v6 v14 wi => ∃ j : Nat, v14 = .int .i64 j ∧ j ≤ N ∧ Own8 wi w.heap.size v6 (cpy j D out) ∧ Fr (fun _ => False) w wi) (fun _ i _ => N - (intOf i).toNat)
                case atStart => exact ⟨0, rfl, Nat.zero_le _, ST.out.2.2.1, ST.out.1⟩
                case round =>
                  obtain ⟨j, rfl, hjN, hOi, hFi⟩ := hrel
                  have hlen2 := cpy_length j D out
                  by_cases hjl : j < N
                  · obtain ⟨g, cg, rfl, hgb, hrow⟩ := hOi.row (by omega)
                    obtain ⟨ix, hix⟩ : ∃ ix, ix = (cpy j D out).length - D := ⟨_, rfl⟩
                    have hixl : ix < (cpy j D out).length := by omega
                    have hwr : IntKind.i64.wrap (((cpy j D out).length : Int) - (D : Int)) = (ix : Int) := by rw [IntWalk.i64_in _ (by omega)]; omega
                    obtain ⟨xb, hxb⟩ : ∃ xb, (cpy j D out)[ix] = xb := ⟨_, rfl⟩
                    have hcell := hrow.cell ix hixl
                    rw [hxb] at hcell
                    have hmore : cpy (j + 1) D out = cpy j D out ++ [xb] := by
                      rw [cpy_more, ← hxb]
                      congr 2
                      rw [← hix]
                      simp [List.getD, List.getElem?_eq_getElem hixl]
                    have R := Lib.hid (And.intro hOi (And.intro hFi (And.intro hmore (And.intro hrow (And.intro hlen2 hgb)))))
                    have hln1 : out.length + j ≤ (cpy j D out).length := Nat.le_of_eq hlen2.symm
                    have hln2 : (cpy j D out).length ≤ out.length + j := Nat.le_of_eq hlen2
                    clear hOi hFi hmore hrow hxb hix hgb hlen2
                    go_wp2_with ((refine wpList_append8 (by with_reducible rfl) (.tmp 100) (.tmp 108) (by with_reducible rfl) w.heap.size _ (cpy j D out) [xb] (by rfl) (R.out.1.alloc _) _ 1 1 (by rfl) (by rfl) (row_one1 wr xb) (by omega) (by have := R.out.2.1.size; simp; omega) ?_; intro v6 w6 h1 h2; have RO := Lib.hid (And.intro h1 h2); clear h1 h2))
                    go_roundw
                    case rel =>
                      have hgb := R.out.2.2.2.2.2
                      exact ⟨j + 1, by go_num, by omega, by rw [R.out.2.2.1]; exact RO.out.1, fr_grown (R.out.2.1.alloc _) RO.out.2 (fun i hi => .inr (by have : g = i := Option.some.inj hi; omega))⟩
                    case measure => (simp [intOf]) <;> omega
                  · obtain rfl : j = N := by omega
                    have R := Lib.hid (And.intro hOi hFi)
                    clear hOi hFi
                    go_wp2
                    refine ⟨⟨_, _, congrArg Value.string (show T2 = bs (r.drop (K - 1)) by rw [← ST.out.2.2.2.2.2.2.1, bs_of]), R.out.1, by simp; omega, by omega, R.out.2, HE.out⟩, ?_⟩
                    show T2.size < T.size
                    omega
        · skip
          obtain ⟨v, hv⟩ : ∃ v, x / 4 = v := ⟨_, rfl⟩
          have hvi : (x : Int) / 4 = (v : Int) := by omega
          have hvb : v < 64 := by omega
          obtain ⟨N, hN⟩ : ∃ N, cpn c = N := ⟨_, rfl⟩
          obtain ⟨D, hD⟩ : ∃ D, bck c r = D := ⟨_, rfl⟩
          have hNi : (v : Int) + 1 = (N : Int) := by
            rw [← hN]; unfold cpn
            rw [ST.out.2.2.2.2.2.2.2.2.2.2.2, if_neg h5]; omega
          have hDi : (M : Int) = (D : Int) := by
            rw [← hD]; unfold bck
            rw [ST.out.2.2.2.2.2.2.2.2.2.2.2, if_neg h5, ST.out.2.1, ST.out.2.2.2.2.2.2.2.2.2.2.1]
          have hN70 : N ≤ 64 := by omega
          have HL := Lib.hid (And.intro hN hD)
          have h40 : x % 4 ≠ 0 := by omega
          have m0 : ((x : Int) % 4 == 0) = false := by simp; omega
          have m1 : ((x : Int) % 4 == 1) = false := by simp; omega
          clear hN hD hv
          obtain rfl : M = D := by omega
          clear hDi
          by_cases hb0 : M = 0
          · have q0 : ((M : Int) == 0) = true := by simp; omega
            have hE2 : OUT = ([], 3) := by
              rw [ST.out.2.2.2.1, els_cons]; unfold stp1
              rw [ST.out.2.2.2.2.2.2.2.2.2.1, if_neg (by omega), ST.out.2.2.2.2.2.2.2.2.2.2.2, if_neg h40, HL.out.1, HL.out.2]
              rw [if_pos (by omega)]
            subst hE2
            clear h40
            go_wp2_with fail
            refine (heads_any x hxb _).mono ?_
            rw [ST.out.2.1]
            rintro e w1 ⟨rfl, rfl⟩
            go_upto_region 10 with fail
            rw [← ST.out.2.2.2.2.2.1]
            clear hTx hTz1 hTz2 j1 j2 hxb
            go_wp2_with fail
            refine (refLittle_any (T.extract 1 K) (by rw [ST.out.2.2.2.2.2.2.2.2.1]; omega) _).mono ?_
            rw [ST.out.2.2.2.2.2.2.2.1]
            rintro e w1 ⟨rfl, rfl⟩
            go_wp2
            go_ret2
            exact ⟨rfl, ST.out.1.below (Nat.le_refl _) (fun _ h => h.elim)⟩
          · have q0 : ((M : Int) == 0) = false := by simp; omega
            by_cases hb1 : out.length < M
            · have q1 : (out.length : Int) < (M : Int) := by omega
              have hE2 : OUT = ([], 3) := by
                rw [ST.out.2.2.2.1, els_cons]; unfold stp1
                rw [ST.out.2.2.2.2.2.2.2.2.2.1, if_neg (by omega), ST.out.2.2.2.2.2.2.2.2.2.2.2, if_neg h40, HL.out.1, HL.out.2]
                rw [if_pos (by omega)]
              subst hE2
              clear h40
              go_wp2_with fail
              refine (heads_any x hxb _).mono ?_
              rw [ST.out.2.1]
              rintro e w1 ⟨rfl, rfl⟩
              go_upto_region 10 with fail
              rw [← ST.out.2.2.2.2.2.1]
              clear hTx hTz1 hTz2 j1 j2 hxb
              go_wp2_with fail
              refine (refLittle_any (T.extract 1 K) (by rw [ST.out.2.2.2.2.2.2.2.2.1]; omega) _).mono ?_
              rw [ST.out.2.2.2.2.2.2.2.1]
              rintro e w1 ⟨rfl, rfl⟩
              go_wp2
              go_ret2
              exact ⟨rfl, ST.out.1.below (Nat.le_refl _) (fun _ h => h.elim)⟩
            · have q1 : ¬ (out.length : Int) < (M : Int) := by omega
              by_cases hb2 : size - out.length < N
              · have q2 : (size : Int) - (out.length : Int) < (N : Int) := by omega
                have hE2 : OUT = ([], 3) := by
                  rw [ST.out.2.2.2.1, els_cons]; unfold stp1
                  rw [ST.out.2.2.2.2.2.2.2.2.2.1, if_neg (by omega), ST.out.2.2.2.2.2.2.2.2.2.2.2, if_neg h40, HL.out.1, HL.out.2]
                  rw [if_pos (by omega)]
                subst hE2
                clear h40
                go_wp2_with fail
                refine (heads_any x hxb _).mono ?_
                rw [ST.out.2.1]
                rintro e w1 ⟨rfl, rfl⟩
                go_upto_region 10 with fail
                rw [← ST.out.2.2.2.2.2.1]
                clear hTx hTz1 hTz2 j1 j2 hxb
                go_wp2_with fail
                refine (refLittle_any (T.extract 1 K) (by rw [ST.out.2.2.2.2.2.2.2.2.1]; omega) _).mono ?_
                rw [ST.out.2.2.2.2.2.2.2.1]
                rintro e w1 ⟨rfl, rfl⟩
                go_wp2
                go_ret2
                exact ⟨rfl, ST.out.1.below (Nat.le_refl _) (fun _ h => h.elim)⟩
              · have q2 : ¬ (size : Int) - (out.length : Int) < (N : Int) := by omega
                have hE2 : OUT = els (r.drop (K - 1)) size (cpy N M out) := by
                  rw [ST.out.2.2.2.1, els_cons]; unfold stp1
                  rw [ST.out.2.2.2.2.2.2.2.2.2.1, if_neg (by omega), ST.out.2.2.2.2.2.2.2.2.2.2.2, if_neg h40, HL.out.1, HL.out.2]
                  rw [if_neg (by omega)]
                have HE := Lib.hid hE2
                clear hE2
                go_wp2_with fail
                refine (heads_any x hxb _).mono ?_
                rw [ST.out.2.1]
                rintro e w1 ⟨rfl, rfl⟩
                go_upto_region 10 with fail
                rw [← ST.out.2.2.2.2.2.1]
                clear hTx hTz1 hTz2 j1 j2 hxb
                go_wp2_with fail
                refine (refLittle_any (T.extract 1 K) (by rw [ST.out.2.2.2.2.2.2.2.2.1]; omega) _).mono ?_
                rw [ST.out.2.2.2.2.2.2.2.1]
                rintro e w1 ⟨rfl, rfl⟩
                go_wp2_with fail
                clear hNi hvi hvb m0 m1 q0 q1 q2
                go_loopw [6, 14] (fun v6 v14 wi => ∃ j : Nat, v14 = .int .i64 j ∧ j ≤ N ∧ Own8 wi w.heap.size v6 (cpy j M out) ∧ Fr (fun _ => False) w wi) (fun _ i _ => N - (intOf i).toNat)
                case atStart => exact ⟨0, rfl, Nat.zero_le _, ST.out.2.2.1, ST.out.1⟩
                case round =>
                  obtain ⟨j, rfl, hjN, hOi, hFi⟩ := hrel
                  have hlen2 := cpy_length j M out
                  by_cases hjl : j < N
                  · obtain ⟨g, cg, rfl, hgb, hrow⟩ := hOi.row (by omega)
                    obtain ⟨ix, hix⟩ : ∃ ix, ix = (cpy j M out).length - M := ⟨_, rfl⟩
                    have hixl : ix < (cpy j M out).length := by omega
                    have hwr : IntKind.i64.wrap (((cpy j M out).length : Int) - (M : Int)) = (ix : Int) := by rw [IntWalk.i64_in _ (by omega)]; omega
                    obtain ⟨xb, hxb⟩ : ∃ xb, (cpy j M out)[ix] = xb := ⟨_, rfl⟩
                    have hcell := hrow.cell ix hixl
                    rw [hxb] at hcell
                    have hmore : cpy (j + 1) M out = cpy j M out ++ [xb] := by
                      rw [cpy_more, ← hxb]
                      congr 2
                      rw [← hix]
                      simp [List.getD, List.getElem?_eq_getElem hixl]
                    have R := Lib.hid (And.intro hOi (And.intro hFi (And.intro hmore (And.intro hrow (And.intro hlen2 hgb)))))
                    have hln1 : out.length + j ≤ (cpy j M out).length := Nat.le_of_eq hlen2.symm
                    have hln2 : (cpy j M out).length ≤ out.length + j := Nat.le_of_eq hlen2
                    clear hOi hFi hmore hrow hxb hix hgb hlen2
                    go_wp2_with ((refine wpList_append8 (by with_reducible rfl) (.tmp 100) (.tmp 108) (by with_reducible rfl) w.heap.size _ (cpy j M out) [xb] (by rfl) (R.out.1.alloc _) _ 1 1 (by rfl) (by rfl) (row_one1 wr xb) (by omega) (by have := R.out.2.1.size; simp; omega) ?_; intro v6 w6 h1 h2; have RO := Lib.hid (And.intro h1 h2); clear h1 h2))
                    go_roundw
                    case rel =>
                      have hgb := R.out.2.2.2.2.2
                      exact ⟨j + 1, by go_num, by omega, by rw [R.out.2.2.1]; exact RO.out.1, fr_grown (R.out.2.1.alloc _) RO.out.2 (fun i hi => .inr (by have : g = i := Option.some.inj hi; omega))⟩
                    case measure => (simp [intOf]) <;> omega
                  · obtain rfl : j = N := by omega
                    have R := Lib.hid (And.intro hOi hFi)
                    clear hOi hFi
                    go_wp2
                    refine ⟨⟨_, _, congrArg Value.string (show T2 = bs (r.drop (K - 1)) by rw [← ST.out.2.2.2.2.2.2.1, bs_of]), R.out.1, by simp; omega, by omega, R.out.2, HE.out⟩, ?_⟩
                    show T2.size < T.size
                    omega

theorem refUnpack_any (s : ByteArray) (most : Int) (hn : (szs s.data.toList).2.2 = 0 → (szs s.data.toList).1 ≤ 900000 ∨ most < ((szs s.data.toList).1 : Int)) (w : World) :
    Calls Try.prog 11 #[.string s, .int .i64 most] w fun e w' => e = .returned (.tuple #[.string (bs (upk s.data.toList most).1), .int .i64 ((upk s.data.toList most).2 : Nat)]) ∧ Below w.heap.size w w' := by
  obtain ⟨v, k, f, hz⟩ : ∃ v k f, szs s.data.toList = (v, k, f) := ⟨_, _, _, rfl⟩
  rw [hz] at hn
  have hk : k ≤ s.size := by
    unfold szs at hz
    split at hz
    · split at hz
      · cases hz; omega
      · have := nx_size s.data.toList 0 0 v k (by rw [hz]; rename_i h _; rw [hz] at h; have h2 : f = 0 := h; rw [h2])
        simpa using this
    · cases hz; omega
  have HZ := Lib.hid hz
  clear hz
  by_cases hf : f = 0
  · subst hf
    by_cases hm : most < (v : Int)
    · have hu : upk s.data.toList most = ([], 5) := by unfold upk; rw [HZ.out]; simp [hm]
      have HU := Lib.hid hu
      clear hu hn
      go_enter Try.func11, Try.ntmps11
      go_wp2_with fail
      refine (refSize_any s _).mono ?_
      rw [HZ.out]
      rintro e w1 ⟨rfl, rfl⟩
      simp only [sized3]
      go_wp2
      go_ret2
      exact ⟨by rw [HU.out]; rfl, Below.refl _ _⟩
    · have hu : upk s.data.toList most = els (s.data.toList.drop k) v [] := by unfold upk; rw [HZ.out]; simp [hm]
      have hv9 : v ≤ 900000 := by rcases hn rfl with h | h <;> omega
      obtain ⟨t, ht⟩ : ∃ t, t = s.extract k s.size := ⟨_, rfl⟩
      have htl : t.data.toList = s.data.toList.drop k := by rw [ht, Lib.extract_data, List.take_of_length_le (by simp)]
      rw [← htl] at hu
      have HU := Lib.hid (And.intro hu ht)
      have i1 : (k : Int) ≤ (s.size : Int) := by omega
      clear hu hn ht htl
      go_enter Try.func11, Try.ntmps11
      go_wp2_with fail
      refine (refSize_any s _).mono ?_
      rw [HZ.out]
      rintro e w1 ⟨rfl, rfl⟩
      simp only [sized3]
      go_wp2_with fail
      rw [← HU.out.2]
      refine (elems_any t v _ hv9).mono ?_
      rintro e w1 ⟨rfl, b1⟩
      have B1 := Lib.hid b1
      clear b1
      go_wp2
      go_ret2
      exact ⟨by rw [HU.out.1]; rfl, B1.out⟩
  · have hu : upk s.data.toList most = ([], f) := by unfold upk; rw [HZ.out]; simp [hf]
    have HU := Lib.hid hu
    have t2 : ((f : Int) != 0) = true := by simp; omega
    clear hu hn
    go_enter Try.func11, Try.ntmps11
    go_wp2_with fail
    refine (refSize_any s _).mono ?_
    rw [HZ.out]
    rintro e w1 ⟨rfl, rfl⟩
    simp only [sized3]
    go_wp2
    go_ret2
    exact ⟨by rw [HU.out]; rfl, Below.refl _ _⟩
end Go.Proofs.Ytacfhjcchoefjaa
