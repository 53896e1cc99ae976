/-
  The contracts of package snap's head and of the closure in it over this seat's translation. Conditions: the reader's own block, a text of at most 2^47 bytes.
-/
import Derived.Test.YtacfhjcchoefjaaSnpM
import Derived.Test.YtacfhjcchoefjaaCurF
import Derived.Test.YtacfhjcchoefjaaCurN
import Derived.Test.YtacfhjcchoefjaaFixCg
import Derived.Deep.Cut
namespace Go.Proofs.Ytacfhjcchoefjaa
open Go.RowKit Go.Sort

theorem str0 : (⟨#[]⟩ : ByteArray) = ByteArray.empty := rfl
theorem ext_list (s : ByteArray) (k n : Nat) : (s.extract k (k + n)).data.toList = (s.data.toList.drop k).take n := by
  rw [Lib.extract_data, Nat.add_sub_cancel_left]

/-- As many bytes as are asked for: their little number. -/
theorem little1_ok (br b : Nat) (s : ByteArray) (k n : Nat) (w : World) (h : Rd w b s k 0) (hs : s.size ≤ 140737488355328) (hn : k + n ≤ s.size) (h1 : 1 ≤ n) (h4 : n ≤ 4)
    (cr : w.cell? ⟨br, 0, none⟩ = some (.pointer (some ⟨b, 0, none⟩))) :
    Calls Try.prog 42 #[.int .i64 (n : Int), .pointer (some ⟨br, 0, none⟩)] w fun e w' => e = .returned (.int .i64 (num ((s.data.toList.drop k).take n))) ∧ Rd w' b s (k + n) 0 ∧ Fr (fun j => j = b) w w' := by
  have H := Lib.hid h
  clear h
  have hz : (s.extract k (k + n)).size = n := by rw [ByteArray.size_extract]; omega
  have hl := ext_list s k n
  obtain ⟨t, ht⟩ : ∃ t, t = s.extract k (k + n) := ⟨_, rfl⟩
  rw [← ht] at hz hl
  have hlt : num t.data.toList < 18446744073709551616 := num_lt8 (by simp; omega)
  have hlt4 : num t.data.toList < 4294967296 := Nat.lt_of_lt_of_le (num_lt _) (Nat.pow_le_pow_right (n := 256) (i := t.data.toList.length) (j := 4) (by decide) (by simp; omega))
  obtain ⟨N, hN⟩ : ∃ N, N = num t.data.toList := ⟨_, rfl⟩
  rw [← hl, ← hN]
  rw [← hN] at hlt hlt4
  have HT := Lib.hid (And.intro ht (And.intro hz hN))
  clear ht hz hl hN
  go_enter Try.func42, Try.ntmps42
  go_wp2_with fail
  refine (take_ok b s k _ H.out hs n hn).mono ?_
  rw [← HT.out.1]
  rintro e w1 ⟨rfl, r1, f1⟩
  have R1 := Lib.hid (And.intro r1 f1)
  clear r1 f1
  go_wp2_with fail
  refine (getLittle_ok _ t (by rw [HT.out.2.1]; omega) (by rw [HT.out.2.1]; omega)).mono ?_
  rw [← HT.out.2.2]
  rintro e w2 ⟨rfl, b2⟩
  have R2 := Lib.hid (And.intro (R1.out.1.keep (b2.block b R1.out.1.lt)) (R1.out.2.trans (Fr.ofBelow b2)))
  clear b2 R1
  go_wp2
  go_ret
  exact ⟨rfl, R2.out⟩

theorem little1_short (br b : Nat) (s : ByteArray) (k n : Nat) (w : World) (h : Rd w b s k 0) (hs : s.size ≤ 140737488355328) (hk : k ≤ s.size) (hn : s.size < k + n)
    (cr : w.cell? ⟨br, 0, none⟩ = some (.pointer (some ⟨b, 0, none⟩))) :
    Calls Try.prog 42 #[.int .i64 (n : Int), .pointer (some ⟨br, 0, none⟩)] w fun e w' => e = .returned (.int .i64 0) ∧ Rd w' b s k 2 ∧ Fr (fun j => j = b) w w' := by
  have H := Lib.hid h
  clear h
  go_enter Try.func42, Try.ntmps42
  go_wp2_with fail
  refine (take_short b s k _ H.out hk hs n hn).mono ?_
  rintro e w1 ⟨rfl, r1, f1⟩
  have R1 := Lib.hid (And.intro r1 f1)
  clear r1 f1
  go_wp2_with fail
  refine (getLittle_none _).mono ?_
  rintro e w2 ⟨rfl, rfl⟩
  go_wp2
  go_ret
  exact ⟨rfl, R1.out⟩

/-- Block g is a variable of type element. -/
def El (w : World) (g : Nat) (c : Bool) (n d : Int) : Prop := w.heap[g]? = some (.cells #[.bool c, .int .i64 n, .int .i64 d] 55 (0, 0))
section
variable {w w' : World} {g : Nat} {c : Bool} {n d : Int}
theorem El.lt (h : El w g c n d) : g < w.heap.size := lt_of_block h
theorem El.c0 (h : El w g c n d) : w.cell? ⟨g, 0, none⟩ = some (.bool c) := by unfold El at h; simp [World.cell?, h]
theorem El.c1 (h : El w g c n d) : w.cell? ⟨g, 1, none⟩ = some (.int .i64 n) := by unfold El at h; simp [World.cell?, h]
theorem El.c2 (h : El w g c n d) : w.cell? ⟨g, 2, none⟩ = some (.int .i64 d) := by unfold El at h; simp [World.cell?, h]
theorem El.free (h : El w g c n d) (i : Nat) : w.frozen? ⟨g, i, none⟩ = false := by unfold El at h; simp [World.frozen?, h]
theorem El.drew (h : El w g c n d) : El w.drew g c n d := h
theorem El.drewN (h : El w g c n d) (m : Nat) : El (w.drewN m) g c n d := h
theorem El.keep (h : El w g c n d) (hb : w'.heap[g]? = w.heap[g]?) : El w' g c n d := hb.trans h
theorem El.alloc (h : El w g c n d) (x : Obj) : El (w.alloc x) g c n d := h.keep (Below.heap_alloc w x g h.lt)
theorem El.far (h : El w g c n d) {p : Addr} (hp : g ≠ p.block) (u : Value) : El (w.setCell p u) g c n d := h.keep (Below.heap_setCell w p u g hp)
theorem El.fr (h : El w g c n d) {S : Nat → Prop} (f : Fr S w w') (hs : ¬ S g) : El w' g c n d := h.keep (f.block g h.lt hs)
theorem El.set0 (h : El w g c n d) (u : Bool) : El (w.setCell ⟨g, 0, none⟩ (.bool u)) g u n d := by
  unfold El at h ⊢
  simp [World.setCell, Array.getElem?_modify, h]
theorem El.set1 (h : El w g c n d) (u : Int) : El (w.setCell ⟨g, 1, none⟩ (.int .i64 u)) g c u d := by
  unfold El at h ⊢
  simp [World.setCell, Array.getElem?_modify, h]
theorem El.set2 (h : El w g c n d) (u : Int) : El (w.setCell ⟨g, 2, none⟩ (.int .i64 u)) g c n u := by
  unfold El at h ⊢
  simp [World.setCell, Array.getElem?_modify, h]
theorem El.new (w : World) (c : Bool) (n d : Int) : El (w.alloc (.cells #[.bool c, .int .i64 n, .int .i64 d] 55)) w.heap.size c n d := heap_alloc_new w _
end

set_option maxRecDepth 100000 in
theorem and3' : ∀ b : Fin 256, bits BinOp.and IntKind.u8 ((b : Nat) : Int) 3 = (((b : Nat) % 4 : Nat) : Int) := by decide
theorem and3 (b : Nat) (h : b < 256) : bits BinOp.and IntKind.u8 (b : Int) 3 = ((b % 4 : Nat) : Int) := and3' ⟨b, h⟩

theorem head_small (b : Nat) (s : ByteArray) (k x : Nat) (w : World) (h : Rd w b s k 0) (hs : s.size ≤ 140737488355328) (hk : k < s.size) (hx : s[k].toNat = x) (h0 : x % 4 = 0) (h6 : x / 4 < 60) :
    Calls Try.prog 31 #[.pointer (some ⟨b, 0, none⟩)] w fun e w' => e = .returned (.agg #[.bool false, .int .i64 ((x / 4 + 1 : Nat) : Int), .int .i64 0]) ∧ Rd w' b s (k + 1) 0 ∧ Fr (fun j => j = b) w w' := by
  have H := Lib.hid h
  clear h
  have hmf : ∀ (fn : Fn) (first cap : Array Value) (w : World), (Instr.makeFunc fn first cap).run Try.prog w = .ok (.func fn first cap) w := fun _ _ _ _ => rfl
  have hxb : x < 256 := by rw [← hx]; exact s[k].toNat_lt
  have ha := and3 x hxb
  rw [h0] at ha
  have HX := Lib.hid hx
  clear hx h0
  go_enter Try.func31, Try.ntmps31
  go_wp2_with fail
  obtain ⟨W, hW, g1, g2, hF, hz⟩ := two_new w (.cells #[.pointer (some ⟨b, 0, none⟩)] 36) (.cells #[.bool false, .int .i64 0, .int .i64 0] 55)
  rw [← hW]
  have R0 : Rd W b s k 0 := by rw [hW]; exact (H.out.alloc _).alloc _
  have hlb := H.out.lt
  have F0 : Fr (fun j => j = b) w W := hF _
  clear hW
  refine (byte_ok b s k _ R0 hs hk).mono ?_
  rw [HX.out]
  rintro e w1 ⟨rfl, r1, f1⟩
  have k1 : w1.heap[w.heap.size]? = some (.cells #[.pointer (some ⟨b, 0, none⟩)] 36 (0, 0)) := (f1.block _ (lt_of_block g1) (by omega)).trans g1
  have k2 : w1.heap[w.heap.size + 1]? = some (.cells #[.bool false, .int .i64 0, .int .i64 0] 55 (0, 0)) := (f1.block _ (lt_of_block g2) (by omega)).trans g2
  clear g1 g2 hF R0
  go_upto_region 5 with fail
  have E4 := El.new w1 false ((x : Int) / 4 + 1) 0
  have P4 : (w1.alloc (.cells #[.bool false, .int .i64 ((x : Int) / 4 + 1), .int .i64 0] 55)).heap[w.heap.size]? = some (.cells #[.pointer (some ⟨b, 0, none⟩)] 36 (0, 0)) := (Below.heap_alloc w1 _ _ (lt_of_block k1)).trans k1
  have Q4 : El (w1.alloc (.cells #[.bool false, .int .i64 ((x : Int) / 4 + 1), .int .i64 0] 55)) (w.heap.size + 1) false 0 0 := (Below.heap_alloc w1 _ _ (lt_of_block k2)).trans k2
  have R4 : Rd (w1.alloc (.cells #[.bool false, .int .i64 ((x : Int) / 4 + 1), .int .i64 0] 55)) b s (k + 1) 0 := r1.alloc _
  have F4 : Fr (fun j => j = b) w (w1.alloc (.cells #[.bool false, .int .i64 ((x : Int) / 4 + 1), .int .i64 0] 55)) := (F0.then_ f1 (fun _ _ h => h)).alloc _
  obtain ⟨q, hq⟩ : ∃ q, w1.heap.size = q := ⟨_, rfl⟩
  rw [hq] at E4 ⊢
  have hq2 : w.heap.size + 2 ≤ q := by have := f1.size; omega
  generalize w1.alloc (.cells #[.bool false, .int .i64 ((x : Int) / 4 + 1), .int .i64 0] 55) = W4 at *
  clear hq k1 k2 r1 f1 F0 hz
  have ST := Lib.hid (And.intro E4 (And.intro P4 (And.intro Q4 (And.intro R4 F4))))
  have e0 := E4.c0
  have e1 := E4.c1
  have e2 := E4.c2
  have q0 := Q4.c0
  have q1 := Q4.c1
  have q2 := Q4.c2
  have z0 := Q4.free 0
  have z1 := Q4.free 1
  have z2 := Q4.free 2
  clear E4 P4 Q4 R4 F4
  go_wp2
  have QF := ((ST.out.2.2.1.set0 false).set1 ((x : Int) / 4 + 1)).set2 0
  have d0 := QF.c0
  have d1 := QF.c1
  have d2 := QF.c2
  (try simp only [Exit.inBlock, Exit.then])
  refine bodyPost_ret (v := .agg #[.bool false, .int .i64 ((x : Int) / 4 + 1), .int .i64 0]) (by simp [results, Try.results31, go_sem, d0, d1, d2]) rfl ?_
  exact ⟨rfl, ((ST.out.2.2.2.1.far (p := ⟨w.heap.size + 1, 0, none⟩) (by show b ≠ w.heap.size + 1; omega) _).far (p := ⟨w.heap.size + 1, 1, none⟩) (by show b ≠ w.heap.size + 1; omega) _).far (p := ⟨w.heap.size + 1, 2, none⟩) (by show b ≠ w.heap.size + 1; omega) _, ((ST.out.2.2.2.2.setCell (p := ⟨w.heap.size + 1, 0, none⟩) (.inr (by show w.heap.size ≤ w.heap.size + 1; omega)) _).setCell (p := ⟨w.heap.size + 1, 1, none⟩) (.inr (by show w.heap.size ≤ w.heap.size + 1; omega)) _).setCell (p := ⟨w.heap.size + 1, 2, none⟩) (.inr (by show w.heap.size ≤ w.heap.size + 1; omega)) _⟩

theorem head_long_ok (b : Nat) (s : ByteArray) (k x : Nat) (w : World) (h : Rd w b s k 0) (hs : s.size ≤ 140737488355328) (hk : k < s.size) (hx : s[k].toNat = x) (h0 : x % 4 = 0) (h6 : 60 ≤ x / 4) (hl : k + 1 + (x / 4 - 59) ≤ s.size) (N : Nat) (hN : num ((s.data.toList.drop (k + 1)).take (x / 4 - 59)) = N) :
    Calls Try.prog 31 #[.pointer (some ⟨b, 0, none⟩)] w fun e w' => e = .returned (.agg #[.bool false, .int .i64 (N + 1 : Nat), .int .i64 (0 : Nat)]) ∧ Rd w' b s (k + 1 + (x / 4 - 59)) 0 ∧ Fr (fun j => j = b) w w' := by
  have H := Lib.hid h
  clear h
  have hmf : ∀ (fn : Fn) (first cap : Array Value) (w : World), (Instr.makeFunc fn first cap).run Try.prog w = .ok (.func fn first cap) w := fun _ _ _ _ => rfl
  have hxb : x < 256 := by rw [← hx]; exact s[k].toNat_lt
  have ha := and3 x hxb
  rw [h0] at ha
  have HX := Lib.hid hx
  have hc1 : (x : Int) / 4 - 60 + 1 = ((x / 4 - 59 : Nat) : Int) := by omega
  have hN4 : N < 4294967296 := by rw [← hN]; exact Nat.lt_of_lt_of_le (num_lt _) (Nat.pow_le_pow_right (n := 256) (j := 4) (by decide) (by simp; omega))
  have HN := Lib.hid hN
  clear hN
  clear hx h0
  go_enter Try.func31, Try.ntmps31
  go_wp2_with fail
  obtain ⟨W, hW, g1, g2, hF, hz⟩ := two_new w (.cells #[.pointer (some ⟨b, 0, none⟩)] 36) (.cells #[.bool false, .int .i64 0, .int .i64 0] 55)
  rw [← hW]
  have R0 : Rd W b s k 0 := by rw [hW]; exact (H.out.alloc _).alloc _
  have hlb := H.out.lt
  have F0 : Fr (fun j => j = b) w W := hF _
  clear hW
  refine (byte_ok b s k _ R0 hs hk).mono ?_
  rw [HX.out]
  rintro e w1 ⟨rfl, r1, f1⟩
  have k1 : w1.heap[w.heap.size]? = some (.cells #[.pointer (some ⟨b, 0, none⟩)] 36 (0, 0)) := (f1.block _ (lt_of_block g1) (by omega)).trans g1
  have k2 : w1.heap[w.heap.size + 1]? = some (.cells #[.bool false, .int .i64 0, .int .i64 0] 55 (0, 0)) := (f1.block _ (lt_of_block g2) (by omega)).trans g2
  clear g1 g2 hF R0
  go_upto_region 5 with fail
  have E4 := El.new w1 false ((x : Int) / 4 + 1) 0
  have P4 : (w1.alloc (.cells #[.bool false, .int .i64 ((x : Int) / 4 + 1), .int .i64 0] 55)).heap[w.heap.size]? = some (.cells #[.pointer (some ⟨b, 0, none⟩)] 36 (0, 0)) := (Below.heap_alloc w1 _ _ (lt_of_block k1)).trans k1
  have Q4 : El (w1.alloc (.cells #[.bool false, .int .i64 ((x : Int) / 4 + 1), .int .i64 0] 55)) (w.heap.size + 1) false 0 0 := (Below.heap_alloc w1 _ _ (lt_of_block k2)).trans k2
  have R4 : Rd (w1.alloc (.cells #[.bool false, .int .i64 ((x : Int) / 4 + 1), .int .i64 0] 55)) b s (k + 1) 0 := r1.alloc _
  have F4 : Fr (fun j => j = b) w (w1.alloc (.cells #[.bool false, .int .i64 ((x : Int) / 4 + 1), .int .i64 0] 55)) := (F0.then_ f1 (fun _ _ h => h)).alloc _
  obtain ⟨q, hq⟩ : ∃ q, w1.heap.size = q := ⟨_, rfl⟩
  rw [hq] at E4 ⊢
  have hq2 : w.heap.size + 2 ≤ q := by have := f1.size; omega
  generalize w1.alloc (.cells #[.bool false, .int .i64 ((x : Int) / 4 + 1), .int .i64 0] 55) = W4 at *
  clear hq k1 k2 r1 f1 F0 hz
  have ST := Lib.hid (And.intro E4 (And.intro P4 (And.intro Q4 (And.intro R4 F4))))
  have cr := cell_of_one P4
  clear E4 P4 Q4 R4 F4
  go_wp2_with fail
  refine (little1_ok w.heap.size b s (k + 1) (x / 4 - 59) _ ST.out.2.2.2.1 hs hl (by omega) (by omega) cr).mono ?_
  rw [HN.out]
  rintro e w5 ⟨rfl, r5, f5⟩
  have E5 := ST.out.1.fr f5 (by omega)
  have Q5 := ST.out.2.2.1.fr f5 (by omega)
  have F5 := ST.out.2.2.2.2.trans f5
  have y1 := E5.c1
  have y2 := E5.c2
  have x1 := E5.free 1
  have x2 := E5.free 2
  have S5 := Lib.hid (And.intro E5 (And.intro trivial (And.intro Q5 (And.intro r5 F5))))
  clear ST cr E5 Q5 F5 r5 f5
  go_upto_region 15 with fail
  have E4 := (S5.out.1.set1 (1 + (N : Int)))
  have Q4 := (S5.out.2.2.1.far (p := ⟨q, 1, none⟩) (by show w.heap.size + 1 ≠ q; omega) (.int .i64 (1 + (N : Int))))
  have R4 := (S5.out.2.2.2.1.far (p := ⟨q, 1, none⟩) (by show b ≠ q; omega) (.int .i64 (1 + (N : Int))))
  have F4 := (S5.out.2.2.2.2.setCell (p := ⟨q, 1, none⟩) (.inr (by show w.heap.size ≤ q; omega)) (.int .i64 (1 + (N : Int))))
  generalize (w5.setCell ⟨q, 1, none⟩ (.int .i64 (1 + (N : Int)))) = W4 at *
  have ST := Lib.hid (And.intro E4 (And.intro trivial (And.intro Q4 (And.intro R4 F4))))
  clear S5 y1 y2 x1 x2
  have e0 := E4.c0
  have e1 := E4.c1
  have e2 := E4.c2
  have q0 := Q4.c0
  have q1 := Q4.c1
  have q2 := Q4.c2
  have z0 := Q4.free 0
  have z1 := Q4.free 1
  have z2 := Q4.free 2
  clear E4 Q4 R4 F4
  go_wp2
  have QF := ((ST.out.2.2.1.set0 false).set1 (1 + (N : Int))).set2 0
  have d0 := QF.c0
  have d1 := QF.c1
  have d2 := QF.c2
  (try simp only [Exit.inBlock, Exit.then])
  refine bodyPost_ret (v := .agg #[.bool false, .int .i64 (1 + (N : Int)), .int .i64 0]) (by simp [results, Try.results31, go_sem, d0, d1, d2]) rfl ?_
  exact ⟨by rw [show (1 : Int) + (N : Int) = ((N + 1 : Nat) : Int) by omega]; rfl, ((ST.out.2.2.2.1.far (p := ⟨w.heap.size + 1, 0, none⟩) (by show b ≠ w.heap.size + 1; omega) _).far (p := ⟨w.heap.size + 1, 1, none⟩) (by show b ≠ w.heap.size + 1; omega) _).far (p := ⟨w.heap.size + 1, 2, none⟩) (by show b ≠ w.heap.size + 1; omega) _, ((ST.out.2.2.2.2.setCell (p := ⟨w.heap.size + 1, 0, none⟩) (.inr (by show w.heap.size ≤ w.heap.size + 1; omega)) _).setCell (p := ⟨w.heap.size + 1, 1, none⟩) (.inr (by show w.heap.size ≤ w.heap.size + 1; omega)) _).setCell (p := ⟨w.heap.size + 1, 2, none⟩) (.inr (by show w.heap.size ≤ w.heap.size + 1; omega)) _⟩

theorem head_long_short (b : Nat) (s : ByteArray) (k x : Nat) (w : World) (h : Rd w b s k 0) (hs : s.size ≤ 140737488355328) (hk : k < s.size) (hx : s[k].toNat = x) (h0 : x % 4 = 0) (h6 : 60 ≤ x / 4) (hl : s.size < k + 1 + (x / 4 - 59)) :
    Calls Try.prog 31 #[.pointer (some ⟨b, 0, none⟩)] w fun e w' => ∃ (n d : Int), e = .returned (.agg #[.bool false, .int .i64 n, .int .i64 d]) ∧ Rd w' b s (k + 1) 2 ∧ Fr (fun j => j = b) w w' := by
  have H := Lib.hid h
  clear h
  have hmf : ∀ (fn : Fn) (first cap : Array Value) (w : World), (Instr.makeFunc fn first cap).run Try.prog w = .ok (.func fn first cap) w := fun _ _ _ _ => rfl
  have hxb : x < 256 := by rw [← hx]; exact s[k].toNat_lt
  have ha := and3 x hxb
  rw [h0] at ha
  have HX := Lib.hid hx
  have hc1 : (x : Int) / 4 - 60 + 1 = ((x / 4 - 59 : Nat) : Int) := by omega
  clear hx h0
  go_enter Try.func31, Try.ntmps31
  go_wp2_with fail
  obtain ⟨W, hW, g1, g2, hF, hz⟩ := two_new w (.cells #[.pointer (some ⟨b, 0, none⟩)] 36) (.cells #[.bool false, .int .i64 0, .int .i64 0] 55)
  rw [← hW]
  have R0 : Rd W b s k 0 := by rw [hW]; exact (H.out.alloc _).alloc _
  have hlb := H.out.lt
  have F0 : Fr (fun j => j = b) w W := hF _
  clear hW
  refine (byte_ok b s k _ R0 hs hk).mono ?_
  rw [HX.out]
  rintro e w1 ⟨rfl, r1, f1⟩
  have k1 : w1.heap[w.heap.size]? = some (.cells #[.pointer (some ⟨b, 0, none⟩)] 36 (0, 0)) := (f1.block _ (lt_of_block g1) (by omega)).trans g1
  have k2 : w1.heap[w.heap.size + 1]? = some (.cells #[.bool false, .int .i64 0, .int .i64 0] 55 (0, 0)) := (f1.block _ (lt_of_block g2) (by omega)).trans g2
  clear g1 g2 hF R0
  go_upto_region 5 with fail
  have E4 := El.new w1 false ((x : Int) / 4 + 1) 0
  have P4 : (w1.alloc (.cells #[.bool false, .int .i64 ((x : Int) / 4 + 1), .int .i64 0] 55)).heap[w.heap.size]? = some (.cells #[.pointer (some ⟨b, 0, none⟩)] 36 (0, 0)) := (Below.heap_alloc w1 _ _ (lt_of_block k1)).trans k1
  have Q4 : El (w1.alloc (.cells #[.bool false, .int .i64 ((x : Int) / 4 + 1), .int .i64 0] 55)) (w.heap.size + 1) false 0 0 := (Below.heap_alloc w1 _ _ (lt_of_block k2)).trans k2
  have R4 : Rd (w1.alloc (.cells #[.bool false, .int .i64 ((x : Int) / 4 + 1), .int .i64 0] 55)) b s (k + 1) 0 := r1.alloc _
  have F4 : Fr (fun j => j = b) w (w1.alloc (.cells #[.bool false, .int .i64 ((x : Int) / 4 + 1), .int .i64 0] 55)) := (F0.then_ f1 (fun _ _ h => h)).alloc _
  obtain ⟨q, hq⟩ : ∃ q, w1.heap.size = q := ⟨_, rfl⟩
  rw [hq] at E4 ⊢
  have hq2 : w.heap.size + 2 ≤ q := by have := f1.size; omega
  generalize w1.alloc (.cells #[.bool false, .int .i64 ((x : Int) / 4 + 1), .int .i64 0] 55) = W4 at *
  clear hq k1 k2 r1 f1 F0 hz
  have ST := Lib.hid (And.intro E4 (And.intro P4 (And.intro Q4 (And.intro R4 F4))))
  have cr := cell_of_one P4
  clear E4 P4 Q4 R4 F4
  go_wp2_with fail
  refine (little1_short w.heap.size b s (k + 1) (x / 4 - 59) _ ST.out.2.2.2.1 hs (by omega) hl cr).mono ?_
  rintro e w5 ⟨rfl, r5, f5⟩
  have E5 := ST.out.1.fr f5 (by omega)
  have Q5 := ST.out.2.2.1.fr f5 (by omega)
  have F5 := ST.out.2.2.2.2.trans f5
  have y1 := E5.c1
  have y2 := E5.c2
  have x1 := E5.free 1
  have x2 := E5.free 2
  have S5 := Lib.hid (And.intro E5 (And.intro trivial (And.intro Q5 (And.intro r5 F5))))
  clear ST cr E5 Q5 F5 r5 f5
  go_upto_region 15 with fail
  have E4 := (S5.out.1.set1 1)
  have Q4 := (S5.out.2.2.1.far (p := ⟨q, 1, none⟩) (by show w.heap.size + 1 ≠ q; omega) (.int .i64 1))
  have R4 := (S5.out.2.2.2.1.far (p := ⟨q, 1, none⟩) (by show b ≠ q; omega) (.int .i64 1))
  have F4 := (S5.out.2.2.2.2.setCell (p := ⟨q, 1, none⟩) (.inr (by show w.heap.size ≤ q; omega)) (.int .i64 1))
  generalize (w5.setCell ⟨q, 1, none⟩ (.int .i64 1)) = W4 at *
  have ST := Lib.hid (And.intro E4 (And.intro trivial (And.intro Q4 (And.intro R4 F4))))
  clear S5 y1 y2 x1 x2
  have e0 := E4.c0
  have e1 := E4.c1
  have e2 := E4.c2
  have q0 := Q4.c0
  have q1 := Q4.c1
  have q2 := Q4.c2
  have z0 := Q4.free 0
  have z1 := Q4.free 1
  have z2 := Q4.free 2
  clear E4 Q4 R4 F4
  go_wp2
  have QF := ((ST.out.2.2.1.set0 false).set1 1).set2 0
  have d0 := QF.c0
  have d1 := QF.c1
  have d2 := QF.c2
  (try simp only [Exit.inBlock, Exit.then])
  refine bodyPost_ret (v := .agg #[.bool false, .int .i64 1, .int .i64 0]) (by simp [results, Try.results31, go_sem, d0, d1, d2]) rfl ?_
  exact ⟨_, _, rfl, ((ST.out.2.2.2.1.far (p := ⟨w.heap.size + 1, 0, none⟩) (by show b ≠ w.heap.size + 1; omega) _).far (p := ⟨w.heap.size + 1, 1, none⟩) (by show b ≠ w.heap.size + 1; omega) _).far (p := ⟨w.heap.size + 1, 2, none⟩) (by show b ≠ w.heap.size + 1; omega) _, ((ST.out.2.2.2.2.setCell (p := ⟨w.heap.size + 1, 0, none⟩) (.inr (by show w.heap.size ≤ w.heap.size + 1; omega)) _).setCell (p := ⟨w.heap.size + 1, 1, none⟩) (.inr (by show w.heap.size ≤ w.heap.size + 1; omega)) _).setCell (p := ⟨w.heap.size + 1, 2, none⟩) (.inr (by show w.heap.size ≤ w.heap.size + 1; omega)) _⟩

theorem head_near_ok (b : Nat) (s : ByteArray) (k x : Nat) (w : World) (h : Rd w b s k 0) (hs : s.size ≤ 140737488355328) (hk : k < s.size) (hx : s[k].toNat = x) (h0 : x % 4 = 1) (hl : k + 1 + 1 ≤ s.size) (N : Nat) (hN : num ((s.data.toList.drop (k + 1)).take 1) = N) :
    Calls Try.prog 31 #[.pointer (some ⟨b, 0, none⟩)] w fun e w' => e = .returned (.agg #[.bool true, .int .i64 (4 + x / 4 % 8 : Nat), .int .i64 (x / 4 / 8 * 256 + N : Nat)]) ∧ Rd w' b s (k + 1 + 1) 0 ∧ Fr (fun j => j = b) w w' := by
  have H := Lib.hid h
  clear h
  have hmf : ∀ (fn : Fn) (first cap : Array Value) (w : World), (Instr.makeFunc fn first cap).run Try.prog w = .ok (.func fn first cap) w := fun _ _ _ _ => rfl
  have hxb : x < 256 := by rw [← hx]; exact s[k].toNat_lt
  have ha := and3 x hxb
  rw [h0] at ha
  have HX := Lib.hid hx
  have hN4 : N < 4294967296 := by rw [← hN]; exact Nat.lt_of_lt_of_le (num_lt _) (Nat.pow_le_pow_right (n := 256) (j := 4) (by decide) (by simp; omega))
  have HN := Lib.hid hN
  clear hN
  clear hx h0
  go_enter Try.func31, Try.ntmps31
  go_wp2_with fail
  obtain ⟨W, hW, g1, g2, hF, hz⟩ := two_new w (.cells #[.pointer (some ⟨b, 0, none⟩)] 36) (.cells #[.bool false, .int .i64 0, .int .i64 0] 55)
  rw [← hW]
  have R0 : Rd W b s k 0 := by rw [hW]; exact (H.out.alloc _).alloc _
  have hlb := H.out.lt
  have F0 : Fr (fun j => j = b) w W := hF _
  clear hW
  refine (byte_ok b s k _ R0 hs hk).mono ?_
  rw [HX.out]
  rintro e w1 ⟨rfl, r1, f1⟩
  have k1 : w1.heap[w.heap.size]? = some (.cells #[.pointer (some ⟨b, 0, none⟩)] 36 (0, 0)) := (f1.block _ (lt_of_block g1) (by omega)).trans g1
  have k2 : w1.heap[w.heap.size + 1]? = some (.cells #[.bool false, .int .i64 0, .int .i64 0] 55 (0, 0)) := (f1.block _ (lt_of_block g2) (by omega)).trans g2
  clear g1 g2 hF R0
  go_upto_region 5 with fail
  have E4 := El.new w1 true ((x : Int) / 4 + 1) 0
  have P4 : (w1.alloc (.cells #[.bool true, .int .i64 ((x : Int) / 4 + 1), .int .i64 0] 55)).heap[w.heap.size]? = some (.cells #[.pointer (some ⟨b, 0, none⟩)] 36 (0, 0)) := (Below.heap_alloc w1 _ _ (lt_of_block k1)).trans k1
  have Q4 : El (w1.alloc (.cells #[.bool true, .int .i64 ((x : Int) / 4 + 1), .int .i64 0] 55)) (w.heap.size + 1) false 0 0 := (Below.heap_alloc w1 _ _ (lt_of_block k2)).trans k2
  have R4 : Rd (w1.alloc (.cells #[.bool true, .int .i64 ((x : Int) / 4 + 1), .int .i64 0] 55)) b s (k + 1) 0 := r1.alloc _
  have F4 : Fr (fun j => j = b) w (w1.alloc (.cells #[.bool true, .int .i64 ((x : Int) / 4 + 1), .int .i64 0] 55)) := (F0.then_ f1 (fun _ _ h => h)).alloc _
  obtain ⟨q, hq⟩ : ∃ q, w1.heap.size = q := ⟨_, rfl⟩
  rw [hq] at E4 ⊢
  have hq2 : w.heap.size + 2 ≤ q := by have := f1.size; omega
  generalize w1.alloc (.cells #[.bool true, .int .i64 ((x : Int) / 4 + 1), .int .i64 0] 55) = W4 at *
  clear hq k1 k2 r1 f1 F0 hz
  have ST := Lib.hid (And.intro E4 (And.intro P4 (And.intro Q4 (And.intro R4 F4))))
  have cr := cell_of_one P4
  clear E4 P4 Q4 R4 F4
  go_wp2_with fail
  refine (little1_ok w.heap.size b s (k + 1) 1 _ ST.out.2.2.2.1 hs hl (by omega) (by omega) cr).mono ?_
  rw [HN.out]
  rintro e w5 ⟨rfl, r5, f5⟩
  have E5 := ST.out.1.fr f5 (by omega)
  have Q5 := ST.out.2.2.1.fr f5 (by omega)
  have F5 := ST.out.2.2.2.2.trans f5
  have y1 := E5.c1
  have y2 := E5.c2
  have x1 := E5.free 1
  have x2 := E5.free 2
  have S5 := Lib.hid (And.intro E5 (And.intro trivial (And.intro Q5 (And.intro r5 F5))))
  clear ST cr E5 Q5 F5 r5 f5
  go_upto_region 15 with fail
  have E4 := ((S5.out.1.set1 (4 + (x : Int) / 4 % 8)).set2 ((x : Int) / 4 / 8 * 256 + (N : Int)))
  have Q4 := ((S5.out.2.2.1.far (p := ⟨q, 1, none⟩) (by show w.heap.size + 1 ≠ q; omega) (.int .i64 (4 + (x : Int) / 4 % 8))).far (p := ⟨q, 2, none⟩) (by show w.heap.size + 1 ≠ q; omega) (.int .i64 ((x : Int) / 4 / 8 * 256 + (N : Int))))
  have R4 := ((S5.out.2.2.2.1.far (p := ⟨q, 1, none⟩) (by show b ≠ q; omega) (.int .i64 (4 + (x : Int) / 4 % 8))).far (p := ⟨q, 2, none⟩) (by show b ≠ q; omega) (.int .i64 ((x : Int) / 4 / 8 * 256 + (N : Int))))
  have F4 := ((S5.out.2.2.2.2.setCell (p := ⟨q, 1, none⟩) (.inr (by show w.heap.size ≤ q; omega)) (.int .i64 (4 + (x : Int) / 4 % 8))).setCell (p := ⟨q, 2, none⟩) (.inr (by show w.heap.size ≤ q; omega)) (.int .i64 ((x : Int) / 4 / 8 * 256 + (N : Int))))
  generalize ((w5.setCell ⟨q, 1, none⟩ (.int .i64 (4 + (x : Int) / 4 % 8))).setCell ⟨q, 2, none⟩ (.int .i64 ((x : Int) / 4 / 8 * 256 + (N : Int)))) = W4 at *
  have ST := Lib.hid (And.intro E4 (And.intro trivial (And.intro Q4 (And.intro R4 F4))))
  clear S5 y1 y2 x1 x2
  have e0 := E4.c0
  have e1 := E4.c1
  have e2 := E4.c2
  have q0 := Q4.c0
  have q1 := Q4.c1
  have q2 := Q4.c2
  have z0 := Q4.free 0
  have z1 := Q4.free 1
  have z2 := Q4.free 2
  clear E4 Q4 R4 F4
  go_wp2
  have QF := ((ST.out.2.2.1.set0 true).set1 (4 + (x : Int) / 4 % 8)).set2 ((x : Int) / 4 / 8 * 256 + (N : Int))
  have d0 := QF.c0
  have d1 := QF.c1
  have d2 := QF.c2
  (try simp only [Exit.inBlock, Exit.then])
  refine bodyPost_ret (v := .agg #[.bool true, .int .i64 (4 + (x : Int) / 4 % 8), .int .i64 ((x : Int) / 4 / 8 * 256 + (N : Int))]) (by simp [results, Try.results31, go_sem, d0, d1, d2]) rfl ?_
  exact ⟨rfl, ((ST.out.2.2.2.1.far (p := ⟨w.heap.size + 1, 0, none⟩) (by show b ≠ w.heap.size + 1; omega) _).far (p := ⟨w.heap.size + 1, 1, none⟩) (by show b ≠ w.heap.size + 1; omega) _).far (p := ⟨w.heap.size + 1, 2, none⟩) (by show b ≠ w.heap.size + 1; omega) _, ((ST.out.2.2.2.2.setCell (p := ⟨w.heap.size + 1, 0, none⟩) (.inr (by show w.heap.size ≤ w.heap.size + 1; omega)) _).setCell (p := ⟨w.heap.size + 1, 1, none⟩) (.inr (by show w.heap.size ≤ w.heap.size + 1; omega)) _).setCell (p := ⟨w.heap.size + 1, 2, none⟩) (.inr (by show w.heap.size ≤ w.heap.size + 1; omega)) _⟩

theorem head_near_short (b : Nat) (s : ByteArray) (k x : Nat) (w : World) (h : Rd w b s k 0) (hs : s.size ≤ 140737488355328) (hk : k < s.size) (hx : s[k].toNat = x) (h0 : x % 4 = 1) (hl : s.size < k + 1 + 1) :
    Calls Try.prog 31 #[.pointer (some ⟨b, 0, none⟩)] w fun e w' => ∃ (n d : Int), e = .returned (.agg #[.bool true, .int .i64 n, .int .i64 d]) ∧ Rd w' b s (k + 1) 2 ∧ Fr (fun j => j = b) w w' := by
  have H := Lib.hid h
  clear h
  have hmf : ∀ (fn : Fn) (first cap : Array Value) (w : World), (Instr.makeFunc fn first cap).run Try.prog w = .ok (.func fn first cap) w := fun _ _ _ _ => rfl
  have hxb : x < 256 := by rw [← hx]; exact s[k].toNat_lt
  have ha := and3 x hxb
  rw [h0] at ha
  have HX := Lib.hid hx
  clear hx h0
  go_enter Try.func31, Try.ntmps31
  go_wp2_with fail
  obtain ⟨W, hW, g1, g2, hF, hz⟩ := two_new w (.cells #[.pointer (some ⟨b, 0, none⟩)] 36) (.cells #[.bool false, .int .i64 0, .int .i64 0] 55)
  rw [← hW]
  have R0 : Rd W b s k 0 := by rw [hW]; exact (H.out.alloc _).alloc _
  have hlb := H.out.lt
  have F0 : Fr (fun j => j = b) w W := hF _
  clear hW
  refine (byte_ok b s k _ R0 hs hk).mono ?_
  rw [HX.out]
  rintro e w1 ⟨rfl, r1, f1⟩
  have k1 : w1.heap[w.heap.size]? = some (.cells #[.pointer (some ⟨b, 0, none⟩)] 36 (0, 0)) := (f1.block _ (lt_of_block g1) (by omega)).trans g1
  have k2 : w1.heap[w.heap.size + 1]? = some (.cells #[.bool false, .int .i64 0, .int .i64 0] 55 (0, 0)) := (f1.block _ (lt_of_block g2) (by omega)).trans g2
  clear g1 g2 hF R0
  go_upto_region 5 with fail
  have E4 := El.new w1 true ((x : Int) / 4 + 1) 0
  have P4 : (w1.alloc (.cells #[.bool true, .int .i64 ((x : Int) / 4 + 1), .int .i64 0] 55)).heap[w.heap.size]? = some (.cells #[.pointer (some ⟨b, 0, none⟩)] 36 (0, 0)) := (Below.heap_alloc w1 _ _ (lt_of_block k1)).trans k1
  have Q4 : El (w1.alloc (.cells #[.bool true, .int .i64 ((x : Int) / 4 + 1), .int .i64 0] 55)) (w.heap.size + 1) false 0 0 := (Below.heap_alloc w1 _ _ (lt_of_block k2)).trans k2
  have R4 : Rd (w1.alloc (.cells #[.bool true, .int .i64 ((x : Int) / 4 + 1), .int .i64 0] 55)) b s (k + 1) 0 := r1.alloc _
  have F4 : Fr (fun j => j = b) w (w1.alloc (.cells #[.bool true, .int .i64 ((x : Int) / 4 + 1), .int .i64 0] 55)) := (F0.then_ f1 (fun _ _ h => h)).alloc _
  obtain ⟨q, hq⟩ : ∃ q, w1.heap.size = q := ⟨_, rfl⟩
  rw [hq] at E4 ⊢
  have hq2 : w.heap.size + 2 ≤ q := by have := f1.size; omega
  generalize w1.alloc (.cells #[.bool true, .int .i64 ((x : Int) / 4 + 1), .int .i64 0] 55) = W4 at *
  clear hq k1 k2 r1 f1 F0 hz
  have ST := Lib.hid (And.intro E4 (And.intro P4 (And.intro Q4 (And.intro R4 F4))))
  have cr := cell_of_one P4
  clear E4 P4 Q4 R4 F4
  go_wp2_with fail
  refine (little1_short w.heap.size b s (k + 1) 1 _ ST.out.2.2.2.1 hs (by omega) hl cr).mono ?_
  rintro e w5 ⟨rfl, r5, f5⟩
  have E5 := ST.out.1.fr f5 (by omega)
  have Q5 := ST.out.2.2.1.fr f5 (by omega)
  have F5 := ST.out.2.2.2.2.trans f5
  have y1 := E5.c1
  have y2 := E5.c2
  have x1 := E5.free 1
  have x2 := E5.free 2
  have S5 := Lib.hid (And.intro E5 (And.intro trivial (And.intro Q5 (And.intro r5 F5))))
  clear ST cr E5 Q5 F5 r5 f5
  go_upto_region 15 with fail
  have E4 := ((S5.out.1.set1 (4 + (x : Int) / 4 % 8)).set2 ((x : Int) / 4 / 8 * 256))
  have Q4 := ((S5.out.2.2.1.far (p := ⟨q, 1, none⟩) (by show w.heap.size + 1 ≠ q; omega) (.int .i64 (4 + (x : Int) / 4 % 8))).far (p := ⟨q, 2, none⟩) (by show w.heap.size + 1 ≠ q; omega) (.int .i64 ((x : Int) / 4 / 8 * 256)))
  have R4 := ((S5.out.2.2.2.1.far (p := ⟨q, 1, none⟩) (by show b ≠ q; omega) (.int .i64 (4 + (x : Int) / 4 % 8))).far (p := ⟨q, 2, none⟩) (by show b ≠ q; omega) (.int .i64 ((x : Int) / 4 / 8 * 256)))
  have F4 := ((S5.out.2.2.2.2.setCell (p := ⟨q, 1, none⟩) (.inr (by show w.heap.size ≤ q; omega)) (.int .i64 (4 + (x : Int) / 4 % 8))).setCell (p := ⟨q, 2, none⟩) (.inr (by show w.heap.size ≤ q; omega)) (.int .i64 ((x : Int) / 4 / 8 * 256)))
  generalize ((w5.setCell ⟨q, 1, none⟩ (.int .i64 (4 + (x : Int) / 4 % 8))).setCell ⟨q, 2, none⟩ (.int .i64 ((x : Int) / 4 / 8 * 256))) = W4 at *
  have ST := Lib.hid (And.intro E4 (And.intro trivial (And.intro Q4 (And.intro R4 F4))))
  clear S5 y1 y2 x1 x2
  have e0 := E4.c0
  have e1 := E4.c1
  have e2 := E4.c2
  have q0 := Q4.c0
  have q1 := Q4.c1
  have q2 := Q4.c2
  have z0 := Q4.free 0
  have z1 := Q4.free 1
  have z2 := Q4.free 2
  clear E4 Q4 R4 F4
  go_wp2
  have QF := ((ST.out.2.2.1.set0 true).set1 (4 + (x : Int) / 4 % 8)).set2 ((x : Int) / 4 / 8 * 256)
  have d0 := QF.c0
  have d1 := QF.c1
  have d2 := QF.c2
  (try simp only [Exit.inBlock, Exit.then])
  refine bodyPost_ret (v := .agg #[.bool true, .int .i64 (4 + (x : Int) / 4 % 8), .int .i64 ((x : Int) / 4 / 8 * 256)]) (by simp [results, Try.results31, go_sem, d0, d1, d2]) rfl ?_
  exact ⟨_, _, rfl, ((ST.out.2.2.2.1.far (p := ⟨w.heap.size + 1, 0, none⟩) (by show b ≠ w.heap.size + 1; omega) _).far (p := ⟨w.heap.size + 1, 1, none⟩) (by show b ≠ w.heap.size + 1; omega) _).far (p := ⟨w.heap.size + 1, 2, none⟩) (by show b ≠ w.heap.size + 1; omega) _, ((ST.out.2.2.2.2.setCell (p := ⟨w.heap.size + 1, 0, none⟩) (.inr (by show w.heap.size ≤ w.heap.size + 1; omega)) _).setCell (p := ⟨w.heap.size + 1, 1, none⟩) (.inr (by show w.heap.size ≤ w.heap.size + 1; omega)) _).setCell (p := ⟨w.heap.size + 1, 2, none⟩) (.inr (by show w.heap.size ≤ w.heap.size + 1; omega)) _⟩

theorem head_mid_ok (b : Nat) (s : ByteArray) (k x : Nat) (w : World) (h : Rd w b s k 0) (hs : s.size ≤ 140737488355328) (hk : k < s.size) (hx : s[k].toNat = x) (h0 : x % 4 = 2) (hl : k + 1 + 2 ≤ s.size) (N : Nat) (hN : num ((s.data.toList.drop (k + 1)).take 2) = N) :
    Calls Try.prog 31 #[.pointer (some ⟨b, 0, none⟩)] w fun e w' => e = .returned (.agg #[.bool true, .int .i64 (x / 4 + 1 : Nat), .int .i64 (N : Nat)]) ∧ Rd w' b s (k + 1 + 2) 0 ∧ Fr (fun j => j = b) w w' := by
  have H := Lib.hid h
  clear h
  have hmf : ∀ (fn : Fn) (first cap : Array Value) (w : World), (Instr.makeFunc fn first cap).run Try.prog w = .ok (.func fn first cap) w := fun _ _ _ _ => rfl
  have hxb : x < 256 := by rw [← hx]; exact s[k].toNat_lt
  have ha := and3 x hxb
  rw [h0] at ha
  have HX := Lib.hid hx
  have hN4 : N < 4294967296 := by rw [← hN]; exact Nat.lt_of_lt_of_le (num_lt _) (Nat.pow_le_pow_right (n := 256) (j := 4) (by decide) (by simp; omega))
  have HN := Lib.hid hN
  clear hN
  clear hx h0
  go_enter Try.func31, Try.ntmps31
  go_wp2_with fail
  obtain ⟨W, hW, g1, g2, hF, hz⟩ := two_new w (.cells #[.pointer (some ⟨b, 0, none⟩)] 36) (.cells #[.bool false, .int .i64 0, .int .i64 0] 55)
  rw [← hW]
  have R0 : Rd W b s k 0 := by rw [hW]; exact (H.out.alloc _).alloc _
  have hlb := H.out.lt
  have F0 : Fr (fun j => j = b) w W := hF _
  clear hW
  refine (byte_ok b s k _ R0 hs hk).mono ?_
  rw [HX.out]
  rintro e w1 ⟨rfl, r1, f1⟩
  have k1 : w1.heap[w.heap.size]? = some (.cells #[.pointer (some ⟨b, 0, none⟩)] 36 (0, 0)) := (f1.block _ (lt_of_block g1) (by omega)).trans g1
  have k2 : w1.heap[w.heap.size + 1]? = some (.cells #[.bool false, .int .i64 0, .int .i64 0] 55 (0, 0)) := (f1.block _ (lt_of_block g2) (by omega)).trans g2
  clear g1 g2 hF R0
  go_upto_region 5 with fail
  have E4 := El.new w1 true ((x : Int) / 4 + 1) 0
  have P4 : (w1.alloc (.cells #[.bool true, .int .i64 ((x : Int) / 4 + 1), .int .i64 0] 55)).heap[w.heap.size]? = some (.cells #[.pointer (some ⟨b, 0, none⟩)] 36 (0, 0)) := (Below.heap_alloc w1 _ _ (lt_of_block k1)).trans k1
  have Q4 : El (w1.alloc (.cells #[.bool true, .int .i64 ((x : Int) / 4 + 1), .int .i64 0] 55)) (w.heap.size + 1) false 0 0 := (Below.heap_alloc w1 _ _ (lt_of_block k2)).trans k2
  have R4 : Rd (w1.alloc (.cells #[.bool true, .int .i64 ((x : Int) / 4 + 1), .int .i64 0] 55)) b s (k + 1) 0 := r1.alloc _
  have F4 : Fr (fun j => j = b) w (w1.alloc (.cells #[.bool true, .int .i64 ((x : Int) / 4 + 1), .int .i64 0] 55)) := (F0.then_ f1 (fun _ _ h => h)).alloc _
  obtain ⟨q, hq⟩ : ∃ q, w1.heap.size = q := ⟨_, rfl⟩
  rw [hq] at E4 ⊢
  have hq2 : w.heap.size + 2 ≤ q := by have := f1.size; omega
  generalize w1.alloc (.cells #[.bool true, .int .i64 ((x : Int) / 4 + 1), .int .i64 0] 55) = W4 at *
  clear hq k1 k2 r1 f1 F0 hz
  have ST := Lib.hid (And.intro E4 (And.intro P4 (And.intro Q4 (And.intro R4 F4))))
  have cr := cell_of_one P4
  clear E4 P4 Q4 R4 F4
  go_wp2_with fail
  refine (little1_ok w.heap.size b s (k + 1) 2 _ ST.out.2.2.2.1 hs hl (by omega) (by omega) cr).mono ?_
  rw [HN.out]
  rintro e w5 ⟨rfl, r5, f5⟩
  have E5 := ST.out.1.fr f5 (by omega)
  have Q5 := ST.out.2.2.1.fr f5 (by omega)
  have F5 := ST.out.2.2.2.2.trans f5
  have y1 := E5.c1
  have y2 := E5.c2
  have x1 := E5.free 1
  have x2 := E5.free 2
  have S5 := Lib.hid (And.intro E5 (And.intro trivial (And.intro Q5 (And.intro r5 F5))))
  clear ST cr E5 Q5 F5 r5 f5
  go_upto_region 15 with fail
  have E4 := (S5.out.1.set2 (N : Int))
  have Q4 := (S5.out.2.2.1.far (p := ⟨q, 2, none⟩) (by show w.heap.size + 1 ≠ q; omega) (.int .i64 (N : Int)))
  have R4 := (S5.out.2.2.2.1.far (p := ⟨q, 2, none⟩) (by show b ≠ q; omega) (.int .i64 (N : Int)))
  have F4 := (S5.out.2.2.2.2.setCell (p := ⟨q, 2, none⟩) (.inr (by show w.heap.size ≤ q; omega)) (.int .i64 (N : Int)))
  generalize (w5.setCell ⟨q, 2, none⟩ (.int .i64 (N : Int))) = W4 at *
  have ST := Lib.hid (And.intro E4 (And.intro trivial (And.intro Q4 (And.intro R4 F4))))
  clear S5 y1 y2 x1 x2
  have e0 := E4.c0
  have e1 := E4.c1
  have e2 := E4.c2
  have q0 := Q4.c0
  have q1 := Q4.c1
  have q2 := Q4.c2
  have z0 := Q4.free 0
  have z1 := Q4.free 1
  have z2 := Q4.free 2
  clear E4 Q4 R4 F4
  go_wp2
  have QF := ((ST.out.2.2.1.set0 true).set1 ((x : Int) / 4 + 1)).set2 (N : Int)
  have d0 := QF.c0
  have d1 := QF.c1
  have d2 := QF.c2
  (try simp only [Exit.inBlock, Exit.then])
  refine bodyPost_ret (v := .agg #[.bool true, .int .i64 ((x : Int) / 4 + 1), .int .i64 (N : Int)]) (by simp [results, Try.results31, go_sem, d0, d1, d2]) rfl ?_
  exact ⟨rfl, ((ST.out.2.2.2.1.far (p := ⟨w.heap.size + 1, 0, none⟩) (by show b ≠ w.heap.size + 1; omega) _).far (p := ⟨w.heap.size + 1, 1, none⟩) (by show b ≠ w.heap.size + 1; omega) _).far (p := ⟨w.heap.size + 1, 2, none⟩) (by show b ≠ w.heap.size + 1; omega) _, ((ST.out.2.2.2.2.setCell (p := ⟨w.heap.size + 1, 0, none⟩) (.inr (by show w.heap.size ≤ w.heap.size + 1; omega)) _).setCell (p := ⟨w.heap.size + 1, 1, none⟩) (.inr (by show w.heap.size ≤ w.heap.size + 1; omega)) _).setCell (p := ⟨w.heap.size + 1, 2, none⟩) (.inr (by show w.heap.size ≤ w.heap.size + 1; omega)) _⟩

theorem head_mid_short (b : Nat) (s : ByteArray) (k x : Nat) (w : World) (h : Rd w b s k 0) (hs : s.size ≤ 140737488355328) (hk : k < s.size) (hx : s[k].toNat = x) (h0 : x % 4 = 2) (hl : s.size < k + 1 + 2) :
    Calls Try.prog 31 #[.pointer (some ⟨b, 0, none⟩)] w fun e w' => ∃ (n d : Int), e = .returned (.agg #[.bool true, .int .i64 n, .int .i64 d]) ∧ Rd w' b s (k + 1) 2 ∧ Fr (fun j => j = b) w w' := by
  have H := Lib.hid h
  clear h
  have hmf : ∀ (fn : Fn) (first cap : Array Value) (w : World), (Instr.makeFunc fn first cap).run Try.prog w = .ok (.func fn first cap) w := fun _ _ _ _ => rfl
  have hxb : x < 256 := by rw [← hx]; exact s[k].toNat_lt
  have ha := and3 x hxb
  rw [h0] at ha
  have HX := Lib.hid hx
  clear hx h0
  go_enter Try.func31, Try.ntmps31
  go_wp2_with fail
  obtain ⟨W, hW, g1, g2, hF, hz⟩ := two_new w (.cells #[.pointer (some ⟨b, 0, none⟩)] 36) (.cells #[.bool false, .int .i64 0, .int .i64 0] 55)
  rw [← hW]
  have R0 : Rd W b s k 0 := by rw [hW]; exact (H.out.alloc _).alloc _
  have hlb := H.out.lt
  have F0 : Fr (fun j => j = b) w W := hF _
  clear hW
  refine (byte_ok b s k _ R0 hs hk).mono ?_
  rw [HX.out]
  rintro e w1 ⟨rfl, r1, f1⟩
  have k1 : w1.heap[w.heap.size]? = some (.cells #[.pointer (some ⟨b, 0, none⟩)] 36 (0, 0)) := (f1.block _ (lt_of_block g1) (by omega)).trans g1
  have k2 : w1.heap[w.heap.size + 1]? = some (.cells #[.bool false, .int .i64 0, .int .i64 0] 55 (0, 0)) := (f1.block _ (lt_of_block g2) (by omega)).trans g2
  clear g1 g2 hF R0
  go_upto_region 5 with fail
  have E4 := El.new w1 true ((x : Int) / 4 + 1) 0
  have P4 : (w1.alloc (.cells #[.bool true, .int .i64 ((x : Int) / 4 + 1), .int .i64 0] 55)).heap[w.heap.size]? = some (.cells #[.pointer (some ⟨b, 0, none⟩)] 36 (0, 0)) := (Below.heap_alloc w1 _ _ (lt_of_block k1)).trans k1
  have Q4 : El (w1.alloc (.cells #[.bool true, .int .i64 ((x : Int) / 4 + 1), .int .i64 0] 55)) (w.heap.size + 1) false 0 0 := (Below.heap_alloc w1 _ _ (lt_of_block k2)).trans k2
  have R4 : Rd (w1.alloc (.cells #[.bool true, .int .i64 ((x : Int) / 4 + 1), .int .i64 0] 55)) b s (k + 1) 0 := r1.alloc _
  have F4 : Fr (fun j => j = b) w (w1.alloc (.cells #[.bool true, .int .i64 ((x : Int) / 4 + 1), .int .i64 0] 55)) := (F0.then_ f1 (fun _ _ h => h)).alloc _
  obtain ⟨q, hq⟩ : ∃ q, w1.heap.size = q := ⟨_, rfl⟩
  rw [hq] at E4 ⊢
  have hq2 : w.heap.size + 2 ≤ q := by have := f1.size; omega
  generalize w1.alloc (.cells #[.bool true, .int .i64 ((x : Int) / 4 + 1), .int .i64 0] 55) = W4 at *
  clear hq k1 k2 r1 f1 F0 hz
  have ST := Lib.hid (And.intro E4 (And.intro P4 (And.intro Q4 (And.intro R4 F4))))
  have cr := cell_of_one P4
  clear E4 P4 Q4 R4 F4
  go_wp2_with fail
  refine (little1_short w.heap.size b s (k + 1) 2 _ ST.out.2.2.2.1 hs (by omega) hl cr).mono ?_
  rintro e w5 ⟨rfl, r5, f5⟩
  have E5 := ST.out.1.fr f5 (by omega)
  have Q5 := ST.out.2.2.1.fr f5 (by omega)
  have F5 := ST.out.2.2.2.2.trans f5
  have y1 := E5.c1
  have y2 := E5.c2
  have x1 := E5.free 1
  have x2 := E5.free 2
  have S5 := Lib.hid (And.intro E5 (And.intro trivial (And.intro Q5 (And.intro r5 F5))))
  clear ST cr E5 Q5 F5 r5 f5
  go_upto_region 15 with fail
  have E4 := (S5.out.1.set2 0)
  have Q4 := (S5.out.2.2.1.far (p := ⟨q, 2, none⟩) (by show w.heap.size + 1 ≠ q; omega) (.int .i64 0))
  have R4 := (S5.out.2.2.2.1.far (p := ⟨q, 2, none⟩) (by show b ≠ q; omega) (.int .i64 0))
  have F4 := (S5.out.2.2.2.2.setCell (p := ⟨q, 2, none⟩) (.inr (by show w.heap.size ≤ q; omega)) (.int .i64 0))
  generalize (w5.setCell ⟨q, 2, none⟩ (.int .i64 0)) = W4 at *
  have ST := Lib.hid (And.intro E4 (And.intro trivial (And.intro Q4 (And.intro R4 F4))))
  clear S5 y1 y2 x1 x2
  have e0 := E4.c0
  have e1 := E4.c1
  have e2 := E4.c2
  have q0 := Q4.c0
  have q1 := Q4.c1
  have q2 := Q4.c2
  have z0 := Q4.free 0
  have z1 := Q4.free 1
  have z2 := Q4.free 2
  clear E4 Q4 R4 F4
  go_wp2
  have QF := ((ST.out.2.2.1.set0 true).set1 ((x : Int) / 4 + 1)).set2 0
  have d0 := QF.c0
  have d1 := QF.c1
  have d2 := QF.c2
  (try simp only [Exit.inBlock, Exit.then])
  refine bodyPost_ret (v := .agg #[.bool true, .int .i64 ((x : Int) / 4 + 1), .int .i64 0]) (by simp [results, Try.results31, go_sem, d0, d1, d2]) rfl ?_
  exact ⟨_, _, rfl, ((ST.out.2.2.2.1.far (p := ⟨w.heap.size + 1, 0, none⟩) (by show b ≠ w.heap.size + 1; omega) _).far (p := ⟨w.heap.size + 1, 1, none⟩) (by show b ≠ w.heap.size + 1; omega) _).far (p := ⟨w.heap.size + 1, 2, none⟩) (by show b ≠ w.heap.size + 1; omega) _, ((ST.out.2.2.2.2.setCell (p := ⟨w.heap.size + 1, 0, none⟩) (.inr (by show w.heap.size ≤ w.heap.size + 1; omega)) _).setCell (p := ⟨w.heap.size + 1, 1, none⟩) (.inr (by show w.heap.size ≤ w.heap.size + 1; omega)) _).setCell (p := ⟨w.heap.size + 1, 2, none⟩) (.inr (by show w.heap.size ≤ w.heap.size + 1; omega)) _⟩

theorem head_far_ok (b : Nat) (s : ByteArray) (k x : Nat) (w : World) (h : Rd w b s k 0) (hs : s.size ≤ 140737488355328) (hk : k < s.size) (hx : s[k].toNat = x) (h0 : x % 4 = 3) (hl : k + 1 + 4 ≤ s.size) (N : Nat) (hN : num ((s.data.toList.drop (k + 1)).take 4) = N) :
    Calls Try.prog 31 #[.pointer (some ⟨b, 0, none⟩)] w fun e w' => e = .returned (.agg #[.bool true, .int .i64 (x / 4 + 1 : Nat), .int .i64 (N : Nat)]) ∧ Rd w' b s (k + 1 + 4) 0 ∧ Fr (fun j => j = b) w w' := by
  have H := Lib.hid h
  clear h
  have hmf : ∀ (fn : Fn) (first cap : Array Value) (w : World), (Instr.makeFunc fn first cap).run Try.prog w = .ok (.func fn first cap) w := fun _ _ _ _ => rfl
  have hxb : x < 256 := by rw [← hx]; exact s[k].toNat_lt
  have ha := and3 x hxb
  rw [h0] at ha
  have HX := Lib.hid hx
  have hN4 : N < 4294967296 := by rw [← hN]; exact Nat.lt_of_lt_of_le (num_lt _) (Nat.pow_le_pow_right (n := 256) (j := 4) (by decide) (by simp; omega))
  have HN := Lib.hid hN
  clear hN
  clear hx h0
  go_enter Try.func31, Try.ntmps31
  go_wp2_with fail
  obtain ⟨W, hW, g1, g2, hF, hz⟩ := two_new w (.cells #[.pointer (some ⟨b, 0, none⟩)] 36) (.cells #[.bool false, .int .i64 0, .int .i64 0] 55)
  rw [← hW]
  have R0 : Rd W b s k 0 := by rw [hW]; exact (H.out.alloc _).alloc _
  have hlb := H.out.lt
  have F0 : Fr (fun j => j = b) w W := hF _
  clear hW
  refine (byte_ok b s k _ R0 hs hk).mono ?_
  rw [HX.out]
  rintro e w1 ⟨rfl, r1, f1⟩
  have k1 : w1.heap[w.heap.size]? = some (.cells #[.pointer (some ⟨b, 0, none⟩)] 36 (0, 0)) := (f1.block _ (lt_of_block g1) (by omega)).trans g1
  have k2 : w1.heap[w.heap.size + 1]? = some (.cells #[.bool false, .int .i64 0, .int .i64 0] 55 (0, 0)) := (f1.block _ (lt_of_block g2) (by omega)).trans g2
  clear g1 g2 hF R0
  go_upto_region 5 with fail
  have E4 := El.new w1 true ((x : Int) / 4 + 1) 0
  have P4 : (w1.alloc (.cells #[.bool true, .int .i64 ((x : Int) / 4 + 1), .int .i64 0] 55)).heap[w.heap.size]? = some (.cells #[.pointer (some ⟨b, 0, none⟩)] 36 (0, 0)) := (Below.heap_alloc w1 _ _ (lt_of_block k1)).trans k1
  have Q4 : El (w1.alloc (.cells #[.bool true, .int .i64 ((x : Int) / 4 + 1), .int .i64 0] 55)) (w.heap.size + 1) false 0 0 := (Below.heap_alloc w1 _ _ (lt_of_block k2)).trans k2
  have R4 : Rd (w1.alloc (.cells #[.bool true, .int .i64 ((x : Int) / 4 + 1), .int .i64 0] 55)) b s (k + 1) 0 := r1.alloc _
  have F4 : Fr (fun j => j = b) w (w1.alloc (.cells #[.bool true, .int .i64 ((x : Int) / 4 + 1), .int .i64 0] 55)) := (F0.then_ f1 (fun _ _ h => h)).alloc _
  obtain ⟨q, hq⟩ : ∃ q, w1.heap.size = q := ⟨_, rfl⟩
  rw [hq] at E4 ⊢
  have hq2 : w.heap.size + 2 ≤ q := by have := f1.size; omega
  generalize w1.alloc (.cells #[.bool true, .int .i64 ((x : Int) / 4 + 1), .int .i64 0] 55) = W4 at *
  clear hq k1 k2 r1 f1 F0 hz
  have ST := Lib.hid (And.intro E4 (And.intro P4 (And.intro Q4 (And.intro R4 F4))))
  have cr := cell_of_one P4
  clear E4 P4 Q4 R4 F4
  go_wp2_with fail
  refine (little1_ok w.heap.size b s (k + 1) 4 _ ST.out.2.2.2.1 hs hl (by omega) (by omega) cr).mono ?_
  rw [HN.out]
  rintro e w5 ⟨rfl, r5, f5⟩
  have E5 := ST.out.1.fr f5 (by omega)
  have Q5 := ST.out.2.2.1.fr f5 (by omega)
  have F5 := ST.out.2.2.2.2.trans f5
  have y1 := E5.c1
  have y2 := E5.c2
  have x1 := E5.free 1
  have x2 := E5.free 2
  have S5 := Lib.hid (And.intro E5 (And.intro trivial (And.intro Q5 (And.intro r5 F5))))
  clear ST cr E5 Q5 F5 r5 f5
  go_upto_region 15 with fail
  have E4 := (S5.out.1.set2 (N : Int))
  have Q4 := (S5.out.2.2.1.far (p := ⟨q, 2, none⟩) (by show w.heap.size + 1 ≠ q; omega) (.int .i64 (N : Int)))
  have R4 := (S5.out.2.2.2.1.far (p := ⟨q, 2, none⟩) (by show b ≠ q; omega) (.int .i64 (N : Int)))
  have F4 := (S5.out.2.2.2.2.setCell (p := ⟨q, 2, none⟩) (.inr (by show w.heap.size ≤ q; omega)) (.int .i64 (N : Int)))
  generalize (w5.setCell ⟨q, 2, none⟩ (.int .i64 (N : Int))) = W4 at *
  have ST := Lib.hid (And.intro E4 (And.intro trivial (And.intro Q4 (And.intro R4 F4))))
  clear S5 y1 y2 x1 x2
  have e0 := E4.c0
  have e1 := E4.c1
  have e2 := E4.c2
  have q0 := Q4.c0
  have q1 := Q4.c1
  have q2 := Q4.c2
  have z0 := Q4.free 0
  have z1 := Q4.free 1
  have z2 := Q4.free 2
  clear E4 Q4 R4 F4
  go_wp2
  have QF := ((ST.out.2.2.1.set0 true).set1 ((x : Int) / 4 + 1)).set2 (N : Int)
  have d0 := QF.c0
  have d1 := QF.c1
  have d2 := QF.c2
  (try simp only [Exit.inBlock, Exit.then])
  refine bodyPost_ret (v := .agg #[.bool true, .int .i64 ((x : Int) / 4 + 1), .int .i64 (N : Int)]) (by simp [results, Try.results31, go_sem, d0, d1, d2]) rfl ?_
  exact ⟨rfl, ((ST.out.2.2.2.1.far (p := ⟨w.heap.size + 1, 0, none⟩) (by show b ≠ w.heap.size + 1; omega) _).far (p := ⟨w.heap.size + 1, 1, none⟩) (by show b ≠ w.heap.size + 1; omega) _).far (p := ⟨w.heap.size + 1, 2, none⟩) (by show b ≠ w.heap.size + 1; omega) _, ((ST.out.2.2.2.2.setCell (p := ⟨w.heap.size + 1, 0, none⟩) (.inr (by show w.heap.size ≤ w.heap.size + 1; omega)) _).setCell (p := ⟨w.heap.size + 1, 1, none⟩) (.inr (by show w.heap.size ≤ w.heap.size + 1; omega)) _).setCell (p := ⟨w.heap.size + 1, 2, none⟩) (.inr (by show w.heap.size ≤ w.heap.size + 1; omega)) _⟩

theorem head_far_short (b : Nat) (s : ByteArray) (k x : Nat) (w : World) (h : Rd w b s k 0) (hs : s.size ≤ 140737488355328) (hk : k < s.size) (hx : s[k].toNat = x) (h0 : x % 4 = 3) (hl : s.size < k + 1 + 4) :
    Calls Try.prog 31 #[.pointer (some ⟨b, 0, none⟩)] w fun e w' => ∃ (n d : Int), e = .returned (.agg #[.bool true, .int .i64 n, .int .i64 d]) ∧ Rd w' b s (k + 1) 2 ∧ Fr (fun j => j = b) w w' := by
  have H := Lib.hid h
  clear h
  have hmf : ∀ (fn : Fn) (first cap : Array Value) (w : World), (Instr.makeFunc fn first cap).run Try.prog w = .ok (.func fn first cap) w := fun _ _ _ _ => rfl
  have hxb : x < 256 := by rw [← hx]; exact s[k].toNat_lt
  have ha := and3 x hxb
  rw [h0] at ha
  have HX := Lib.hid hx
  clear hx h0
  go_enter Try.func31, Try.ntmps31
  go_wp2_with fail
  obtain ⟨W, hW, g1, g2, hF, hz⟩ := two_new w (.cells #[.pointer (some ⟨b, 0, none⟩)] 36) (.cells #[.bool false, .int .i64 0, .int .i64 0] 55)
  rw [← hW]
  have R0 : Rd W b s k 0 := by rw [hW]; exact (H.out.alloc _).alloc _
  have hlb := H.out.lt
  have F0 : Fr (fun j => j = b) w W := hF _
  clear hW
  refine (byte_ok b s k _ R0 hs hk).mono ?_
  rw [HX.out]
  rintro e w1 ⟨rfl, r1, f1⟩
  have k1 : w1.heap[w.heap.size]? = some (.cells #[.pointer (some ⟨b, 0, none⟩)] 36 (0, 0)) := (f1.block _ (lt_of_block g1) (by omega)).trans g1
  have k2 : w1.heap[w.heap.size + 1]? = some (.cells #[.bool false, .int .i64 0, .int .i64 0] 55 (0, 0)) := (f1.block _ (lt_of_block g2) (by omega)).trans g2
  clear g1 g2 hF R0
  go_upto_region 5 with fail
  have E4 := El.new w1 true ((x : Int) / 4 + 1) 0
  have P4 : (w1.alloc (.cells #[.bool true, .int .i64 ((x : Int) / 4 + 1), .int .i64 0] 55)).heap[w.heap.size]? = some (.cells #[.pointer (some ⟨b, 0, none⟩)] 36 (0, 0)) := (Below.heap_alloc w1 _ _ (lt_of_block k1)).trans k1
  have Q4 : El (w1.alloc (.cells #[.bool true, .int .i64 ((x : Int) / 4 + 1), .int .i64 0] 55)) (w.heap.size + 1) false 0 0 := (Below.heap_alloc w1 _ _ (lt_of_block k2)).trans k2
  have R4 : Rd (w1.alloc (.cells #[.bool true, .int .i64 ((x : Int) / 4 + 1), .int .i64 0] 55)) b s (k + 1) 0 := r1.alloc _
  have F4 : Fr (fun j => j = b) w (w1.alloc (.cells #[.bool true, .int .i64 ((x : Int) / 4 + 1), .int .i64 0] 55)) := (F0.then_ f1 (fun _ _ h => h)).alloc _
  obtain ⟨q, hq⟩ : ∃ q, w1.heap.size = q := ⟨_, rfl⟩
  rw [hq] at E4 ⊢
  have hq2 : w.heap.size + 2 ≤ q := by have := f1.size; omega
  generalize w1.alloc (.cells #[.bool true, .int .i64 ((x : Int) / 4 + 1), .int .i64 0] 55) = W4 at *
  clear hq k1 k2 r1 f1 F0 hz
  have ST := Lib.hid (And.intro E4 (And.intro P4 (And.intro Q4 (And.intro R4 F4))))
  have cr := cell_of_one P4
  clear E4 P4 Q4 R4 F4
  go_wp2_with fail
  refine (little1_short w.heap.size b s (k + 1) 4 _ ST.out.2.2.2.1 hs (by omega) hl cr).mono ?_
  rintro e w5 ⟨rfl, r5, f5⟩
  have E5 := ST.out.1.fr f5 (by omega)
  have Q5 := ST.out.2.2.1.fr f5 (by omega)
  have F5 := ST.out.2.2.2.2.trans f5
  have y1 := E5.c1
  have y2 := E5.c2
  have x1 := E5.free 1
  have x2 := E5.free 2
  have S5 := Lib.hid (And.intro E5 (And.intro trivial (And.intro Q5 (And.intro r5 F5))))
  clear ST cr E5 Q5 F5 r5 f5
  go_upto_region 15 with fail
  have E4 := (S5.out.1.set2 0)
  have Q4 := (S5.out.2.2.1.far (p := ⟨q, 2, none⟩) (by show w.heap.size + 1 ≠ q; omega) (.int .i64 0))
  have R4 := (S5.out.2.2.2.1.far (p := ⟨q, 2, none⟩) (by show b ≠ q; omega) (.int .i64 0))
  have F4 := (S5.out.2.2.2.2.setCell (p := ⟨q, 2, none⟩) (.inr (by show w.heap.size ≤ q; omega)) (.int .i64 0))
  generalize (w5.setCell ⟨q, 2, none⟩ (.int .i64 0)) = W4 at *
  have ST := Lib.hid (And.intro E4 (And.intro trivial (And.intro Q4 (And.intro R4 F4))))
  clear S5 y1 y2 x1 x2
  have e0 := E4.c0
  have e1 := E4.c1
  have e2 := E4.c2
  have q0 := Q4.c0
  have q1 := Q4.c1
  have q2 := Q4.c2
  have z0 := Q4.free 0
  have z1 := Q4.free 1
  have z2 := Q4.free 2
  clear E4 Q4 R4 F4
  go_wp2
  have QF := ((ST.out.2.2.1.set0 true).set1 ((x : Int) / 4 + 1)).set2 0
  have d0 := QF.c0
  have d1 := QF.c1
  have d2 := QF.c2
  (try simp only [Exit.inBlock, Exit.then])
  refine bodyPost_ret (v := .agg #[.bool true, .int .i64 ((x : Int) / 4 + 1), .int .i64 0]) (by simp [results, Try.results31, go_sem, d0, d1, d2]) rfl ?_
  exact ⟨_, _, rfl, ((ST.out.2.2.2.1.far (p := ⟨w.heap.size + 1, 0, none⟩) (by show b ≠ w.heap.size + 1; omega) _).far (p := ⟨w.heap.size + 1, 1, none⟩) (by show b ≠ w.heap.size + 1; omega) _).far (p := ⟨w.heap.size + 1, 2, none⟩) (by show b ≠ w.heap.size + 1; omega) _, ((ST.out.2.2.2.2.setCell (p := ⟨w.heap.size + 1, 0, none⟩) (.inr (by show w.heap.size ≤ w.heap.size + 1; omega)) _).setCell (p := ⟨w.heap.size + 1, 1, none⟩) (.inr (by show w.heap.size ≤ w.heap.size + 1; omega)) _).setCell (p := ⟨w.heap.size + 1, 2, none⟩) (.inr (by show w.heap.size ≤ w.heap.size + 1; omega)) _⟩
end Go.Proofs.Ytacfhjcchoefjaa
