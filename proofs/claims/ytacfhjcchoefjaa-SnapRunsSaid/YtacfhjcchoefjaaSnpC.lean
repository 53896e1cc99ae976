/-
  The contract of package snap's lay over this seat's translation: it lays what the plain els tells. Conditions: the reader's own block, a text of at most 2^46 bytes, a size of at most 900,000 bytes.
-/
import Derived.Test.YtacfhjcchoefjaaSnpB
import Derived.Test.YtacfhjcchoefjaaOwnS
namespace Go.Proofs.Ytacfhjcchoefjaa
open Go.RowKit Go.Sort

/-- The place of the reader in block b. -/
def placeOf (b : Nat) (w : World) : Nat := match w.cell? ⟨b, 1, none⟩ with | some (.int _ k) => k.toNat | _ => 0
theorem Rd.placeOf {w : World} {b : Nat} {s : ByteArray} {k : Nat} {e : Int} (h : Rd w b s k e) : placeOf b w = k := by
  unfold Go.Proofs.Ytacfhjcchoefjaa.placeOf
  rw [h.place]
  rfl

theorem Own8.low {w : World} {base base' : Nat} {v : Value} {l : List UInt8} (h : Own8 w base v l) (hb : base' ≤ base) : Own8 w base' v l := by
  refine ⟨h.1, ?_⟩
  rcases h.2 with h | ⟨g, cap, cur, hv, hg, hr⟩
  · exact .inl h
  · exact .inr ⟨g, cap, cur, hv, Nat.le_trans hb hg, hr⟩
/-- What is told behind the last element. -/
theorem lay_end {OUT : List UInt8 × Nat} {out : List UInt8} {size d : Nat} (ho : out.length ≤ size) (h : (d = 0 ∧ OUT = els [] size out) ∨ (d ≠ 0 ∧ OUT = ([], d))) :
    mst ((out.length : Int) == (size : Int)) (d : Int) 2 = (OUT.2 : Int) ∧ (OUT.2 = 0 → OUT.1 = out) := by
  rcases h with ⟨rfl, rfl⟩ | ⟨hd, rfl⟩
  · rw [els_nil]
    by_cases hl : out.length < size
    · have hb : ((out.length : Int) == (size : Int)) = false := by simp; omega
      rw [if_pos hl, hb]
      exact ⟨rfl, fun h => by cases h⟩
    · have hb : ((out.length : Int) == (size : Int)) = true := by simp; omega
      rw [if_neg hl, hb]
      exact ⟨rfl, fun _ => rfl⟩
  · refine ⟨?_, fun h => absurd h hd⟩
    have hd' : ¬ ((d : Int) = 0) := by omega
    unfold mst
    rw [if_neg hd']
    split <;> rfl

theorem Own8.apart {w : World} {base : Nat} {v : Value} {l : List UInt8} (h : Own8 w base v l) {q : Nat} {c : Bool} {n d : Int} (hE : El w q c n d) : ∀ j, v.ownBlock = some j → j ≠ q := by
  rintro j hj rfl
  rcases h.2 with ⟨rfl, _⟩ | ⟨g, cap, cur, rfl, hb, hg, _⟩
  · cases hj
  · obtain rfl : g = j := Option.some.inj hj
    unfold El at hE
    rw [hE] at hg
    cases hg
theorem row_one (W : World) (b : UInt8) : Row8 (W.alloc (.cells #[.int .u8 (b.toNat : Int)] 5)) W.heap.size [b] := by
  refine row8_of_block (fr := (0, 0)) (heap_alloc_new W _) (fun i hi => ?_) (fun i _ h => absurd h.2 (Nat.not_lt_zero i))
  obtain rfl : i = 0 := by simpa using hi
  rfl

set_option maxHeartbeats 2000000 in
set_option maxRecDepth 100000 in
theorem lay_any (b : Nat) (s : ByteArray) (size : Nat) (w : World) (h : Rd w b s 0 0) (hs : s.size ≤ 70368744177664) (hz : size ≤ 900000) :
    Calls Try.prog 21 #[.pointer (some ⟨b, 0, none⟩), .int .i64 (size : Int)] w fun e w' => ∃ v k, e = .returned v ∧ Rd w' b s k ((els s.data.toList size []).2 : Int) ∧
      ((els s.data.toList size []).2 = 0 → Own8 w' w.heap.size v (els s.data.toList size []).1) ∧ Fr (fun j => j = b) w w' := by
  obtain ⟨OUT, hO⟩ : ∃ OUT, els s.data.toList size [] = OUT := ⟨_, rfl⟩
  rw [hO]
  have HO := Lib.hid hO
  have H := Lib.hid h
  have hlb := h.lt
  clear h hO
  have hmf : ∀ (fn : Fn) (first cap : Array Value) (w : World), (Instr.makeFunc fn first cap).run Try.prog w = .ok (.func fn first cap) w := fun _ _ _ _ => rfl
  go_enter Try.func21, Try.ntmps21
  go_wp2_with fail
  obtain ⟨W, hW⟩ : ∃ W, W = w.alloc (.cells #[.pointer (some ⟨b, 0, none⟩)] 36) := ⟨_, rfl⟩
  have g1 : W.heap[w.heap.size]? = some (.cells #[.pointer (some ⟨b, 0, none⟩)] 36 (0, 0)) := by rw [hW]; exact heap_alloc_new w _
  have R0 : Rd W b s 0 0 := by rw [hW]; exact H.out.alloc _
  have F0 : Fr (fun j => j = b) w W := by rw [hW]; exact (Fr.refl _ w).alloc _
  have Z0 : W.heap.size = w.heap.size + 1 := by rw [hW]; simp
  rw [← hW]
  clear hW
  have S0 := Lib.hid (And.intro g1 (And.intro R0 (And.intro F0 Z0)))
  clear g1 R0 F0 Z0
  go_loopw [5] (fun v5 wr => ∃ (k d : Nat) (out : List UInt8), Own8 wr (w.heap.size + 1) v5 out ∧ Rd wr b s k d ∧ k ≤ s.size ∧ out.length ≤ size ∧ Fr (fun j => j = b) W wr ∧
      (d = 0 → OUT = els (s.data.toList.drop k) size out) ∧ (d ≠ 0 → OUT = ([], d))) (fun _ wr => s.size - placeOf b wr)
  case atStart => exact ⟨0, 0, [], Own8.nil _ _, S0.out.2.1, Nat.zero_le _, Nat.zero_le _, Fr.refl _ _, fun _ => HO.out.symm, fun h => absurd rfl h⟩
  case round =>
    obtain ⟨k, d, out, hO, hR, hk, ho, hF, h0, h1⟩ := hrel
    obtain ⟨ao, c5, rfl⟩ := hO.form
    have g1 := (hF.block _ (lt_of_block S0.out.1) (by omega)).trans S0.out.1
    have cb := cell_of_one g1
    have hleft : ∀ m, Calls Try.prog 30 #[.pointer (some ⟨b, 0, none⟩)] (wr.drewN m) fun e w' => e = .returned (.int .i64 ((s.size : Int) - k)) ∧ ∃ n, w' = (wr.drewN m).drewN n := fun m => left_any b s k d _ (hR.drewN m) hk (by unfold maxLen; omega)
    have hfault : ∀ m, Calls Try.prog 18 #[.pointer (some ⟨b, 0, none⟩)] (wr.drewN m) fun e w' => e = .returned (.int .i64 (d : Int)) ∧ wr.drewN m = w' := fun m => fault_any b s k d _ (hR.drewN m)
    have ST := Lib.hid (And.intro hO (And.intro hR (And.intro hF (And.intro h0 (And.intro h1 (And.intro hleft (And.intro hfault g1)))))))
    clear hO hR hF h0 h1 hleft hfault g1
    by_cases hkl : k = s.size
    · have t0 : (s.size : Int) - (k : Int) = 0 := by omega
      go_wp2_with fail
      refine (ST.out.2.2.2.2.2.1 0).mono ?_
      rw [t0]
      rintro e w1 ⟨rfl, m, rfl⟩
      go_wp2_with fail
      refine (must_any w.heap.size b s k d 2 _ _ (ST.out.2.1.drewN _) cb).mono ?_
      rintro e w2 ⟨rfl, r2, f2⟩
      have Q := Lib.hid (And.intro r2 (And.intro f2 (And.intro ((ST.out.1.drewN m).fr f2 (fun j h (hj : j = b) => by omega)) (S0.out.2.2.1.trans ((ST.out.2.2.1.drewN m).trans f2)))))
      clear r2 f2 cb
      go_wp2
      go_ret
      have hE := lay_end (OUT := OUT) ho (by
        by_cases hd : d = 0
        · exact .inl ⟨hd, by rw [ST.out.2.2.2.1 hd, hkl, List.drop_of_length_le (by simp)]⟩
        · exact .inr ⟨hd, ST.out.2.2.2.2.1 hd⟩)
      exact ⟨_, k, rfl, by rw [← hE.1]; exact Q.out.1, fun h => by rw [hE.2 h]; exact Q.out.2.2.1.low (by omega), Q.out.2.2.2⟩
    · have t0 : ¬ (s.size : Int) - (k : Int) ≤ 0 := by omega
      by_cases hd : d = 0
      · subst hd
        obtain ⟨c, r, hcr⟩ : ∃ c r, s.data.toList.drop k = c :: r := by
          cases hc : s.data.toList.drop k with
          | nil => exact absurd (congrArg List.length hc) (by simp; omega)
          | cons c r => exact ⟨c, r, rfl⟩
        have hlen : s.size - k = r.length + 1 := by have := congrArg List.length hcr; simpa using this
        have HU : Hid (OUT = els (c :: r) size out ∧ s.data.toList.drop k = c :: r) := Lib.hid ⟨by rw [← hcr]; exact ST.out.2.2.2.1 rfl, hcr⟩
        clear hcr
        go_wp2_with fail
        refine (ST.out.2.2.2.2.2.1 0).mono ?_
        rintro e w1 ⟨rfl, m, rfl⟩
        go_wp2_with fail
        refine (ST.out.2.2.2.2.2.2.1 m).mono ?_
        rintro e w1 ⟨rfl, rfl⟩
        go_wp2_with fail
        refine (head_any b s k c r _ (ST.out.2.1.drewN m) (by omega) HU.out.2).mono ?_
        rintro e w1 ⟨cc, n, dd, k1, e0, rfl, hH, r1, f1⟩
        have HH := Lib.hid hH
        have b1 : w1.heap[w.heap.size]? = some (.cells #[.pointer (some ⟨b, 0, none⟩)] 36 (0, 0)) := (f1.block _ (lt_of_block (w := wr) ST.out.2.2.2.2.2.2.2) (by omega)).trans ST.out.2.2.2.2.2.2.2
        have o1 : Own8 w1 (w.heap.size + 1) (.slice ao out.length c5) out := (ST.out.1.drewN m).fr f1 (fun j h (hj : j = b) => by omega)
        have fr1 : Fr (fun j => j = b) W w1 := (ST.out.2.2.1.drewN m).trans f1
        clear f1 hH cb
        go_upto_region 5 with fail
        have E2 := El.new w1 cc n dd
        have x2 := (Below.heap_alloc w1 (.cells #[.bool cc, .int .i64 n, .int .i64 dd] 55) _ (lt_of_block b1)).trans b1
        have o2 := o1.alloc (.cells #[.bool cc, .int .i64 n, .int .i64 dd] 55)
        have r2 := r1.alloc (.cells #[.bool cc, .int .i64 n, .int .i64 dd] 55)
        have g2 := fr1.alloc (.cells #[.bool cc, .int .i64 n, .int .i64 dd] 55)
        obtain ⟨q, hq⟩ : ∃ q, w1.heap.size = q := ⟨_, rfl⟩
        have hq2 : w.heap.size + 1 ≤ q := by have := fr1.size; have := S0.out.2.2.2; omega
        rw [hq] at E2 ⊢
        generalize w1.alloc (.cells #[.bool cc, .int .i64 n, .int .i64 dd] 55) = w2 at *
        clear hq b1 o1 r1 fr1
        have hk1 : k < k1 := (by rcases HH.out with ⟨_, h, _⟩ | ⟨_, h, _⟩ <;> (have := hdb_pos c.toNat; omega))
        have hk1s : k1 ≤ s.size := by rcases HH.out with ⟨_, h, _⟩ | ⟨_, h, h', _⟩ <;> omega
        cases cc
        · -- a literal
          have cb := cell_of_one x2
          have y0 := E2.c0
          have y1 := E2.c1
          have y2 := E2.c2
          have S2 := Lib.hid (And.intro E2 (And.intro x2 (And.intro o2 g2)))
          have R2 := Lib.hid r2
          clear E2 x2 o2 g2 r2
          go_wp2_with fail
          refine (must_any w.heap.size b s k1 e0 3 true _ R2.out cb).mono ?_
          rintro e w3 ⟨rfl, r3, f3⟩
          clear cb y0 y1 y2
          have E3 := S2.out.1.fr f3 (by omega)
          have x3 := (f3.block _ (lt_of_block S2.out.2.1) (by omega)).trans S2.out.2.1
          have o3 := S2.out.2.2.1.fr f3 (fun j h (hj : j = b) => by omega)
          have g3 := S2.out.2.2.2.trans f3
          clear f3
          have cb := cell_of_one x3
          have y0 := E3.c0
          have y1 := E3.c1
          have y2 := E3.c2
          have S3 := Lib.hid (And.intro E3 (And.intro x3 (And.intro o3 g3)))
          have R3 := Lib.hid r3
          clear E3 x3 o3 g3 r3
          go_wp2_with fail
          refine (must_any w.heap.size b s k1 _ 3 _ _ R3.out cb).mono ?_
          rintro e w4 ⟨rfl, r4, f4⟩
          clear cb y0 y1 y2
          have E4 := S3.out.1.fr f4 (by omega)
          have x4 := (f4.block _ (lt_of_block S3.out.2.1) (by omega)).trans S3.out.2.1
          have o4 := S3.out.2.2.1.fr f4 (fun j h (hj : j = b) => by omega)
          have g4 := S3.out.2.2.2.trans f4
          clear f4
          obtain ⟨e2, he2⟩ : ∃ e2, mst (decide (n ≤ (size : Int) - (out.length : Int))) (mst true e0 3) 3 = e2 := ⟨_, rfl⟩
          rw [he2] at r4
          have cb := cell_of_one x4
          have y0 := E4.c0
          have y1 := E4.c1
          have y2 := E4.c2
          have S4 := Lib.hid (And.intro E4 (And.intro x4 (And.intro o4 g4)))
          have R4 := Lib.hid r4
          clear E4 x4 o4 g4 r4
          by_cases hz2 : e2 = 0
          · subst hz2
            obtain ⟨hkk, hhd, hlit, _⟩ := headed_ok HH.out size out ho true (decide (n ≤ (size : Int) - (out.length : Int))) rfl rfl he2
            obtain ⟨h40, hnn, hnl⟩ := hlit rfl
            have hels := els_lit (size := size) (out := out) h40 hhd hnl
            have hdr : r.drop (hdb c.toNat - 1) = s.data.toList.drop k1 := by
              rw [hkk, ← List.drop_drop, HU.out.2]
              obtain ⟨m1, hm1⟩ : ∃ m1, hdb c.toNat = m1 + 1 := ⟨hdb c.toNat - 1, by have := hdb_pos c.toNat; omega⟩
              rw [hm1]; rfl
            rw [hdr, ← HU.out.1] at hels
            obtain ⟨L, hL⟩ : ∃ L, ltn c r = L := ⟨_, rfl⟩
            rw [hL] at hels hnn hnl
            subst hnn
            have HE := Lib.hid hels
            have hsz : (s.data.toList.drop k1).length = s.size - k1 := by simp
            clear hels hdr hL hlit hkk
            by_cases hls : k1 + L ≤ s.size
            · have hxt := ext_list s k1 L
              have hxz : (s.extract k1 (k1 + L)).size = L := by rw [ByteArray.size_extract]; omega
              obtain ⟨t, ht⟩ : ∃ t, t = s.extract k1 (k1 + L) := ⟨_, rfl⟩
              rw [← ht] at hxt hxz
              have HT := Lib.hid (And.intro ht (And.intro hxt hxz))
              have hke : k1 + L ≤ s.size := hls
              have hoe : (out ++ t.data.toList).length ≤ size := by simp; omega
              clear ht hxt hxz
              go_wp2_with fail
              refine (take_ok b s k1 _ R4.out (by omega) L hls).mono ?_
              rw [← HT.out.1]
              rintro e w5 ⟨rfl, r5, f5⟩
              clear cb y0 y1 y2
              have E5 := S4.out.1.fr f5 (by omega)
              have x5 := (f5.block _ (lt_of_block S4.out.2.1) (by omega)).trans S4.out.2.1
              have o5 := S4.out.2.2.1.fr f5 (fun j h (hj : j = b) => by omega)
              have g5 := S4.out.2.2.2.trans f5
              clear f5
              have cb := cell_of_one x5
              have y0 := E5.c0
              have y1 := E5.c1
              have y2 := E5.c2
              have S5 := Lib.hid (And.intro E5 (And.intro x5 (And.intro o5 g5)))
              have R5 := Lib.hid r5
              clear E5 x5 o5 g5 r5
              go_wp2_with ((refine wpList_append8s (by with_reducible rfl) (.tmp 48) (.tmp 52) (by with_reducible rfl) (w.heap.size + 1) _ out (by rfl) S5.out.2.2.1 (t) (by rfl) (by rw [HT.out.2.2]; omega) (by have := S5.out.2.2.2.size; have := S0.out.2.2.2; omega) ?_; intro v6 w6 h1 h2; have RO := Lib.hid (And.intro h1 h2); clear h1 h2))
              have F6 := fr_grown S5.out.2.2.2 RO.out.2 (fun j hj => .inr (by have := (S5.out.2.2.1.lt j hj).1; have := S0.out.2.2.2; omega))
              have R6 := R5.out.grown RO.out.2 (fun e => by have := (S5.out.2.2.1.lt b e.symm).1; omega)
              go_roundw
              case rel => exact ⟨(k1 + L), 0, (out ++ t.data.toList), RO.out.1, R6, hke, hoe, F6, fun _ => by rw [HE.out, if_neg (by rw [hsz]; omega), HT.out.2.1, List.drop_drop], fun h => absurd rfl h⟩
              case measure =>
                have p1 := Rd.placeOf (R6)
                have p2 := ST.out.2.1.placeOf
                show s.size - placeOf b _ < s.size - placeOf b _
                rw [p1, p2]
                omega
            · have hke : k1 ≤ s.size := hk1s
              have hoe : (out ++ (⟨#[]⟩ : ByteArray).data.toList).length ≤ size := by simpa using ho
              go_wp2_with fail
              refine (take_short b s k1 _ R4.out hk1s (by omega) L (by omega)).mono ?_
              rintro e w5 ⟨rfl, r5, f5⟩
              clear cb y0 y1 y2
              have E5 := S4.out.1.fr f5 (by omega)
              have x5 := (f5.block _ (lt_of_block S4.out.2.1) (by omega)).trans S4.out.2.1
              have o5 := S4.out.2.2.1.fr f5 (fun j h (hj : j = b) => by omega)
              have g5 := S4.out.2.2.2.trans f5
              clear f5
              have cb := cell_of_one x5
              have y0 := E5.c0
              have y1 := E5.c1
              have y2 := E5.c2
              have S5 := Lib.hid (And.intro E5 (And.intro x5 (And.intro o5 g5)))
              have R5 := Lib.hid r5
              clear E5 x5 o5 g5 r5
              go_wp2_with ((refine wpList_append8s (by with_reducible rfl) (.tmp 48) (.tmp 52) (by with_reducible rfl) (w.heap.size + 1) _ out (by rfl) S5.out.2.2.1 (⟨#[]⟩) (by rfl) (by show out.length + 0 ≤ _; omega) (by have := S5.out.2.2.2.size; have := S0.out.2.2.2; omega) ?_; intro v6 w6 h1 h2; have RO := Lib.hid (And.intro h1 h2); clear h1 h2))
              have F6 := fr_grown S5.out.2.2.2 RO.out.2 (fun j hj => .inr (by have := (S5.out.2.2.1.lt j hj).1; have := S0.out.2.2.2; omega))
              have R6 := R5.out.grown RO.out.2 (fun e => by have := (S5.out.2.2.1.lt b e.symm).1; omega)
              go_roundw
              case rel => exact ⟨k1, 2, (out ++ (⟨#[]⟩ : ByteArray).data.toList), RO.out.1, R6, hke, hoe, F6, fun h => absurd h (by decide), fun _ => by rw [HE.out, if_pos (by rw [hsz]; omega)]⟩
              case measure =>
                have p1 := Rd.placeOf (R6)
                have p2 := ST.out.2.1.placeOf
                show s.size - placeOf b _ < s.size - placeOf b _
                rw [p1, p2]
                omega
          · obtain ⟨en, hen, hels⟩ := headed_err HH.out size out ho true (decide (n ≤ (size : Int) - (out.length : Int))) rfl rfl e2 he2.symm hz2
            have HE := Lib.hid (And.intro hen (HU.out.1.trans hels))
            clear hels hen
            have hke : k1 ≤ s.size := hk1s
            have hoe : (out ++ (⟨#[]⟩ : ByteArray).data.toList).length ≤ size := by simpa using ho
            go_wp2_with fail
            refine (take_fault b s k1 e2 _ R4.out hz2 n).mono ?_
            rintro e w5 ⟨rfl, r5, f5⟩
            clear cb y0 y1 y2
            have E5 := S4.out.1.fr f5 (by omega)
            have x5 := (f5.block _ (lt_of_block S4.out.2.1) (by omega)).trans S4.out.2.1
            have o5 := S4.out.2.2.1.fr f5 (fun j h (hj : j = b) => by omega)
            have g5 := S4.out.2.2.2.trans f5
            clear f5
            have cb := cell_of_one x5
            have y0 := E5.c0
            have y1 := E5.c1
            have y2 := E5.c2
            have S5 := Lib.hid (And.intro E5 (And.intro x5 (And.intro o5 g5)))
            have R5 := Lib.hid r5
            clear E5 x5 o5 g5 r5
            go_wp2_with ((refine wpList_append8s (by with_reducible rfl) (.tmp 48) (.tmp 52) (by with_reducible rfl) (w.heap.size + 1) _ out (by rfl) S5.out.2.2.1 (⟨#[]⟩) (by rfl) (by show out.length + 0 ≤ _; omega) (by have := S5.out.2.2.2.size; have := S0.out.2.2.2; omega) ?_; intro v6 w6 h1 h2; have RO := Lib.hid (And.intro h1 h2); clear h1 h2))
            have F6 := fr_grown S5.out.2.2.2 RO.out.2 (fun j hj => .inr (by have := (S5.out.2.2.1.lt j hj).1; have := S0.out.2.2.2; omega))
            have R6 := R5.out.grown RO.out.2 (fun e => by have := (S5.out.2.2.1.lt b e.symm).1; omega)
            go_roundw
            case rel => exact ⟨k1, en, (out ++ (⟨#[]⟩ : ByteArray).data.toList), RO.out.1, (HE.out.1 ▸ R6), hke, hoe, F6, fun h => absurd (by rw [HE.out.1, h]; rfl) hz2, fun _ => HE.out.2⟩
            case measure =>
              have p1 := Rd.placeOf (HE.out.1 ▸ R6)
              have p2 := ST.out.2.1.placeOf
              show s.size - placeOf b _ < s.size - placeOf b _
              rw [p1, p2]
              omega
        · -- a copy
          by_cases hd0 : 0 < dd
          · by_cases hd1 : dd ≤ (out.length : Int)
            · skip
              have cb := cell_of_one x2
              have y0 := E2.c0
              have y1 := E2.c1
              have y2 := E2.c2
              have S2 := Lib.hid (And.intro E2 (And.intro x2 (And.intro o2 g2)))
              have R2 := Lib.hid r2
              clear E2 x2 o2 g2 r2
              go_wp2_with fail
              refine (must_any w.heap.size b s k1 e0 3 true _ R2.out cb).mono ?_
              rintro e w3 ⟨rfl, r3, f3⟩
              clear cb y0 y1 y2
              have E3 := S2.out.1.fr f3 (by omega)
              have x3 := (f3.block _ (lt_of_block S2.out.2.1) (by omega)).trans S2.out.2.1
              have o3 := S2.out.2.2.1.fr f3 (fun j h (hj : j = b) => by omega)
              have g3 := S2.out.2.2.2.trans f3
              clear f3
              have cb := cell_of_one x3
              have y0 := E3.c0
              have y1 := E3.c1
              have y2 := E3.c2
              have S3 := Lib.hid (And.intro E3 (And.intro x3 (And.intro o3 g3)))
              have R3 := Lib.hid r3
              clear E3 x3 o3 g3 r3
              go_wp2_with fail
              refine (must_any w.heap.size b s k1 _ 3 _ _ R3.out cb).mono ?_
              rintro e w4 ⟨rfl, r4, f4⟩
              clear cb y0 y1 y2
              have E4 := S3.out.1.fr f4 (by omega)
              have x4 := (f4.block _ (lt_of_block S3.out.2.1) (by omega)).trans S3.out.2.1
              have o4 := S3.out.2.2.1.fr f4 (fun j h (hj : j = b) => by omega)
              have g4 := S3.out.2.2.2.trans f4
              clear f4
              obtain ⟨e2, he2⟩ : ∃ e2, mst (decide (n ≤ (size : Int) - (out.length : Int))) (mst true e0 3) 3 = e2 := ⟨_, rfl⟩
              rw [he2] at r4
              have cb := cell_of_one x4
              have y0 := E4.c0
              have y1 := E4.c1
              have y2 := E4.c2
              have S4 := Lib.hid (And.intro E4 (And.intro x4 (And.intro o4 g4)))
              have R4 := Lib.hid r4
              clear E4 x4 o4 g4 r4
              by_cases hz2 : e2 = 0
              · subst hz2
                obtain ⟨hkk, hhd, _, hcp⟩ := headed_ok HH.out size out ho true (decide (n ≤ (size : Int) - (out.length : Int))) (by simp [hd0, hd1]) rfl he2
                obtain ⟨h40, hnn, hdd, hnl, hb0, hb1⟩ := hcp rfl
                have hels := els_cpy (size := size) (out := out) h40 hhd hnl hb0 hb1
                have hdr : r.drop (hdb c.toNat - 1) = s.data.toList.drop k1 := by
                  rw [hkk, ← List.drop_drop, HU.out.2]
                  obtain ⟨m1, hm1⟩ : ∃ m1, hdb c.toNat = m1 + 1 := ⟨hdb c.toNat - 1, by have := hdb_pos c.toNat; omega⟩
                  rw [hm1]; rfl
                rw [hdr, ← HU.out.1] at hels
                obtain ⟨N, hN⟩ : ∃ N, cpn c = N := ⟨_, rfl⟩
                obtain ⟨D, hD⟩ : ∃ D, bck c r = D := ⟨_, rfl⟩
                rw [hN, hD] at hels
                rw [hN] at hnn hnl
                rw [hD] at hdd hb0 hb1
                subst hnn hdd
                have HE := Lib.hid hels
                clear hels hdr hN hD hcp hkk hd0 hd1
                go_wp2_with fail
                refine (fault_any b s k1 0 _ R4.out).mono ?_
                rintro e w5 ⟨rfl, rfl⟩
                clear cb y0 y2
                go_wp2_with fail
                clear y1
                go_loopw [5, 59] (fun v5 v59 wi => ∃ j : Nat, v59 = .int .i64 j ∧ j ≤ N ∧ Own8 wi (w.heap.size + 1) v5 (cpy j D out) ∧ El wi q true N D ∧ Rd wi b s k1 0 ∧ wi.heap[w.heap.size]? = some (.cells #[.pointer (some ⟨b, 0, none⟩)] 36 (0, 0)) ∧ Fr (fun j => j = b) W wi) (fun _ i _ => N - (intOf i).toNat)
                case atStart => exact ⟨0, rfl, Nat.zero_le _, S4.out.2.2.1, S4.out.1, R4.out, S4.out.2.1, S4.out.2.2.2⟩
                case round =>
                  obtain ⟨j, rfl, hjN, hOi, hEi, hRi, hBi, hFi⟩ := hrel
                  have hlen2 := cpy_length j D out
                  by_cases hjl : j < N
                  · obtain ⟨g, cg, rfl, hgb, hrow⟩ := hOi.row (by omega)
                    have y2 := hEi.c2
                    obtain ⟨ix, hix⟩ : ∃ ix, ix = (cpy j D out).length - D := ⟨_, rfl⟩
                    have hixl : ix < (cpy j D out).length := by omega
                    have hwr : IntKind.i64.wrap (((cpy j D out).length : Int) - (D : Int)) = (ix : Int) := by rw [IntWalk.i64_in _ (by omega)]; omega
                    obtain ⟨xb, hxb⟩ : ∃ xb, (cpy j D out)[ix] = xb := ⟨_, rfl⟩
                    have hcell := hrow.cell ix hixl
                    rw [hxb] at hcell
                    have hmore : cpy (j + 1) D out = cpy j D out ++ [xb] := by
                      rw [cpy_more, ← hxb]
                      congr 2
                      rw [← hix]
                      simp [List.getD, List.getElem?_eq_getElem hixl]
                    have R := Lib.hid (And.intro hOi (And.intro hEi (And.intro hRi (And.intro hBi (And.intro hFi (And.intro hmore (And.intro hrow (And.intro hlen2 hgb))))))))
                    have hln1 : out.length + j ≤ (cpy j D out).length := Nat.le_of_eq hlen2.symm
                    have hln2 : (cpy j D out).length ≤ out.length + j := Nat.le_of_eq hlen2
                    clear hOi hEi hRi hBi hFi hmore hrow hxb hix hgb hlen2
                    go_wp2_with ((refine wpList_append8 (by with_reducible rfl) (.tmp 61) (.tmp 70) (by with_reducible rfl) (w.heap.size + 1) _ (cpy j D out) [xb] (by rfl) (R.out.1.alloc _) _ 1 1 (by rfl) (by rfl) (row_one wr xb) (by rw [R.out.2.2.2.2.2.2.2.1]; omega) (by have := R.out.2.2.2.2.1.size; have := S0.out.2.2.2; simp; omega) ?_; intro v6 w6 h1 h2; have RO := Lib.hid (And.intro h1 h2); clear h1 h2))
                    go_roundw
                    case rel =>
                      have hgq := R.out.1.apart R.out.2.1 g rfl
                      have hgb := R.out.2.2.2.2.2.2.2.2
                      refine ⟨j + 1, by go_num, by omega, by rw [R.out.2.2.2.2.2.1]; exact RO.out.1, (R.out.2.1.alloc _).keep (RO.out.2.block q (by have := R.out.2.1.lt; simp; omega) (fun e => hgq (Option.some.inj e).symm)), (R.out.2.2.1.alloc _).grown RO.out.2 (fun e => by have : b = g := Option.some.inj e; omega), ?_, fr_grown (R.out.2.2.2.2.1.alloc _) RO.out.2 (fun i hi => .inr (by have : g = i := Option.some.inj hi; have := S0.out.2.2.2; omega))⟩
                      exact (RO.out.2.block _ (by have := lt_of_block R.out.2.2.2.1; simp; omega) (fun e => by have : w.heap.size = g := Option.some.inj e; omega)).trans ((Below.heap_alloc wr _ _ (lt_of_block R.out.2.2.2.1)).trans R.out.2.2.2.1)
                    case measure => (simp [intOf]) <;> omega
                  · obtain rfl : j = N := by omega
                    have R := Lib.hid (And.intro hOi (And.intro hRi hFi))
                    clear hOi hEi hRi hBi hFi
                    go_wp2
                    go_roundw
                    case rel => exact ⟨k1, 0, (cpy j D out), R.out.1, R.out.2.1, hk1s, (by rw [cpy_length]; omega), R.out.2.2, fun _ => HE.out, fun h => absurd rfl h⟩
                    case measure =>
                      have p1 := Rd.placeOf (R.out.2.1)
                      have p2 := ST.out.2.1.placeOf
                      show s.size - placeOf b _ < s.size - placeOf b _
                      rw [p1, p2]
                      omega
              · obtain ⟨en, hen, hels⟩ := headed_err HH.out size out ho true (decide (n ≤ (size : Int) - (out.length : Int))) (by simp [hd0, hd1]) rfl e2 he2.symm hz2
                have HE := Lib.hid (And.intro hen (HU.out.1.trans hels))
                clear hels hen
                go_wp2_with fail
                refine (fault_any b s k1 e2 _ R4.out).mono ?_
                rintro e w5 ⟨rfl, rfl⟩
                have te : (e2 == 0) = false := by simpa using hz2
                clear cb y0 y1 y2
                go_wp2
                go_roundw
                case rel => exact ⟨k1, en, out, S4.out.2.2.1, (HE.out.1 ▸ R4.out), hk1s, ho, S4.out.2.2.2, fun h => absurd (by rw [HE.out.1, h]; rfl) hz2, fun _ => HE.out.2⟩
                case measure =>
                  have p1 := Rd.placeOf ((HE.out.1 ▸ R4.out))
                  have p2 := ST.out.2.1.placeOf
                  show s.size - placeOf b _ < s.size - placeOf b _
                  rw [p1, p2]
                  omega
            · skip
              have cb := cell_of_one x2
              have y0 := E2.c0
              have y1 := E2.c1
              have y2 := E2.c2
              have S2 := Lib.hid (And.intro E2 (And.intro x2 (And.intro o2 g2)))
              have R2 := Lib.hid r2
              clear E2 x2 o2 g2 r2
              go_wp2_with fail
              refine (must_any w.heap.size b s k1 e0 3 false _ R2.out cb).mono ?_
              rintro e w3 ⟨rfl, r3, f3⟩
              clear cb y0 y1 y2
              have E3 := S2.out.1.fr f3 (by omega)
              have x3 := (f3.block _ (lt_of_block S2.out.2.1) (by omega)).trans S2.out.2.1
              have o3 := S2.out.2.2.1.fr f3 (fun j h (hj : j = b) => by omega)
              have g3 := S2.out.2.2.2.trans f3
              clear f3
              have cb := cell_of_one x3
              have y0 := E3.c0
              have y1 := E3.c1
              have y2 := E3.c2
              have S3 := Lib.hid (And.intro E3 (And.intro x3 (And.intro o3 g3)))
              have R3 := Lib.hid r3
              clear E3 x3 o3 g3 r3
              go_wp2_with fail
              refine (must_any w.heap.size b s k1 _ 3 _ _ R3.out cb).mono ?_
              rintro e w4 ⟨rfl, r4, f4⟩
              clear cb y0 y1 y2
              have E4 := S3.out.1.fr f4 (by omega)
              have x4 := (f4.block _ (lt_of_block S3.out.2.1) (by omega)).trans S3.out.2.1
              have o4 := S3.out.2.2.1.fr f4 (fun j h (hj : j = b) => by omega)
              have g4 := S3.out.2.2.2.trans f4
              clear f4
              obtain ⟨e2, he2⟩ : ∃ e2, mst (decide (n ≤ (size : Int) - (out.length : Int))) (mst false e0 3) 3 = e2 := ⟨_, rfl⟩
              rw [he2] at r4
              have cb := cell_of_one x4
              have y0 := E4.c0
              have y1 := E4.c1
              have y2 := E4.c2
              have S4 := Lib.hid (And.intro E4 (And.intro x4 (And.intro o4 g4)))
              have R4 := Lib.hid r4
              clear E4 x4 o4 g4 r4
              have hz2 : e2 ≠ 0 := by rw [← he2]; rcases HH.out with ⟨h, _⟩ | ⟨h, _⟩ <;> (rw [h]; unfold mst; split <;> decide)
              obtain ⟨en, hen, hels⟩ := headed_err HH.out size out ho false (decide (n ≤ (size : Int) - (out.length : Int))) (by simp [hd0, hd1]) rfl e2 he2.symm hz2
              have HE := Lib.hid (And.intro hen (HU.out.1.trans hels))
              clear hels hen
              go_wp2_with fail
              refine (fault_any b s k1 e2 _ R4.out).mono ?_
              rintro e w5 ⟨rfl, rfl⟩
              have te : (e2 == 0) = false := by simpa using hz2
              clear cb y0 y1 y2
              go_wp2
              go_roundw
              case rel => exact ⟨k1, en, out, S4.out.2.2.1, (HE.out.1 ▸ R4.out), hk1s, ho, S4.out.2.2.2, fun h => absurd (by rw [HE.out.1, h]; rfl) hz2, fun _ => HE.out.2⟩
              case measure =>
                have p1 := Rd.placeOf ((HE.out.1 ▸ R4.out))
                have p2 := ST.out.2.1.placeOf
                show s.size - placeOf b _ < s.size - placeOf b _
                rw [p1, p2]
                omega
          · skip
            have cb := cell_of_one x2
            have y0 := E2.c0
            have y1 := E2.c1
            have y2 := E2.c2
            have S2 := Lib.hid (And.intro E2 (And.intro x2 (And.intro o2 g2)))
            have R2 := Lib.hid r2
            clear E2 x2 o2 g2 r2
            go_wp2_with fail
            refine (must_any w.heap.size b s k1 e0 3 false _ R2.out cb).mono ?_
            rintro e w3 ⟨rfl, r3, f3⟩
            clear cb y0 y1 y2
            have E3 := S2.out.1.fr f3 (by omega)
            have x3 := (f3.block _ (lt_of_block S2.out.2.1) (by omega)).trans S2.out.2.1
            have o3 := S2.out.2.2.1.fr f3 (fun j h (hj : j = b) => by omega)
            have g3 := S2.out.2.2.2.trans f3
            clear f3
            have cb := cell_of_one x3
            have y0 := E3.c0
            have y1 := E3.c1
            have y2 := E3.c2
            have S3 := Lib.hid (And.intro E3 (And.intro x3 (And.intro o3 g3)))
            have R3 := Lib.hid r3
            clear E3 x3 o3 g3 r3
            go_wp2_with fail
            refine (must_any w.heap.size b s k1 _ 3 _ _ R3.out cb).mono ?_
            rintro e w4 ⟨rfl, r4, f4⟩
            clear cb y0 y1 y2
            have E4 := S3.out.1.fr f4 (by omega)
            have x4 := (f4.block _ (lt_of_block S3.out.2.1) (by omega)).trans S3.out.2.1
            have o4 := S3.out.2.2.1.fr f4 (fun j h (hj : j = b) => by omega)
            have g4 := S3.out.2.2.2.trans f4
            clear f4
            obtain ⟨e2, he2⟩ : ∃ e2, mst (decide (n ≤ (size : Int) - (out.length : Int))) (mst false e0 3) 3 = e2 := ⟨_, rfl⟩
            rw [he2] at r4
            have cb := cell_of_one x4
            have y0 := E4.c0
            have y1 := E4.c1
            have y2 := E4.c2
            have S4 := Lib.hid (And.intro E4 (And.intro x4 (And.intro o4 g4)))
            have R4 := Lib.hid r4
            clear E4 x4 o4 g4 r4
            have hz2 : e2 ≠ 0 := by rw [← he2]; rcases HH.out with ⟨h, _⟩ | ⟨h, _⟩ <;> (rw [h]; unfold mst; split <;> decide)
            obtain ⟨en, hen, hels⟩ := headed_err HH.out size out ho false (decide (n ≤ (size : Int) - (out.length : Int))) (by rw [show decide (0 < dd) = false from decide_eq_false (by omega)]; rfl) rfl e2 he2.symm hz2
            have HE := Lib.hid (And.intro hen (HU.out.1.trans hels))
            clear hels hen
            go_wp2_with fail
            refine (fault_any b s k1 e2 _ R4.out).mono ?_
            rintro e w5 ⟨rfl, rfl⟩
            have te : (e2 == 0) = false := by simpa using hz2
            clear cb y0 y1 y2
            go_wp2
            go_roundw
            case rel => exact ⟨k1, en, out, S4.out.2.2.1, (HE.out.1 ▸ R4.out), hk1s, ho, S4.out.2.2.2, fun h => absurd (by rw [HE.out.1, h]; rfl) hz2, fun _ => HE.out.2⟩
            case measure =>
              have p1 := Rd.placeOf ((HE.out.1 ▸ R4.out))
              have p2 := ST.out.2.1.placeOf
              show s.size - placeOf b _ < s.size - placeOf b _
              rw [p1, p2]
              omega
      · have t1 : ((d : Int) == 0) = false := by simp; omega
        go_wp2_with fail
        refine (ST.out.2.2.2.2.2.1 0).mono ?_
        rintro e w1 ⟨rfl, m, rfl⟩
        go_wp2_with fail
        refine (ST.out.2.2.2.2.2.2.1 m).mono ?_
        rintro e w1 ⟨rfl, rfl⟩
        go_wp2_with fail
        refine (must_any w.heap.size b s k d 2 _ _ (ST.out.2.1.drewN _) cb).mono ?_
        rintro e w2 ⟨rfl, r2, f2⟩
        have Q := Lib.hid (And.intro r2 (And.intro f2 (And.intro ((ST.out.1.drewN m).fr f2 (fun j h (hj : j = b) => by omega)) (S0.out.2.2.1.trans ((ST.out.2.2.1.drewN m).trans f2)))))
        clear r2 f2 cb
        go_wp2
        go_ret
        have hE := lay_end (OUT := OUT) ho (.inr ⟨hd, ST.out.2.2.2.2.1 hd⟩)
        exact ⟨_, k, rfl, by rw [← hE.1]; exact Q.out.1, fun h => by rw [hE.2 h]; exact Q.out.2.2.1.low (by omega), Q.out.2.2.2⟩
end Go.Proofs.Ytacfhjcchoefjaa
