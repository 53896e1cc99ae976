/-
  The contracts of package cursor's Byte over this seat's translation: for every place and every fault. Conditions: the reader's own block, a text of at most 2^47 bytes.
-/
import Derived.Test.YtacfhjcchoefjaaCurE
namespace Go.Proofs.Ytacfhjcchoefjaa
open Go.RowKit

theorem enters_byte (args : Array Value) (w : World) : (callFunc 47 args).run Try.prog w = .ok (.enter 47 args) w :=
  enters Try.func47 (by kernel_rfl) rfl args w

theorem two_new (w : World) (o1 o2 : Obj) : ∃ W, W = (w.alloc o1).alloc o2 ∧ W.heap[w.heap.size]? = some o1 ∧ W.heap[w.heap.size + 1]? = some o2 ∧
    (∀ S, Fr S w W) ∧ W.heap.size = w.heap.size + 2 := by
  refine ⟨_, rfl, ?_, ?_, fun S => ((Fr.refl S w).alloc o1).alloc o2, by simp⟩
  · exact (Below.heap_alloc _ o2 _ (by simp)).trans (heap_alloc_new w o1)
  · have := heap_alloc_new (w.alloc o1) o2; simpa using this

/-- No byte is left: ErrShort, and nothing is done. -/
theorem byte1_short (br bb b : Nat) (s : ByteArray) (d : Int) (w : World) (h : Rd w b s s.size d) (hs : s.size ≤ 140737488355328)
    (cr : w.cell? ⟨br, 0, none⟩ = some (.pointer (some ⟨b, 0, none⟩))) :
    Calls Try.prog 47 #[.pointer (some ⟨br, 0, none⟩), .pointer (some ⟨bb, 0, none⟩)] w fun e w' => e = .returned (.int .i64 2) ∧ ∃ m, w' = w.drewN m := by
  have H := Lib.hid h
  have t0 : (s.size : Int) - (s.size : Int) = 0 := by omega
  clear h
  go_enter Try.func47, Try.ntmps47
  go_wp2_with fail
  refine (left_any b s s.size d _ H.out (Nat.le_refl _) (by unfold maxLen; omega)).mono ?_
  rintro e w1 ⟨rfl, m, rfl⟩
  rw [t0]
  clear t0
  go_wp2
  go_ret
  exact ⟨rfl, m, rfl⟩

theorem byte1_ok (br bb b : Nat) (s : ByteArray) (z : Int) (k : Nat) (d : Int) (w : World) (h : Rd w b s k d) (hs : s.size ≤ 140737488355328) (hk : k < s.size)
    (cr : w.cell? ⟨br, 0, none⟩ = some (.pointer (some ⟨b, 0, none⟩))) (cb : w.heap[bb]? = some (.cells #[.int .u8 z] 5 (0, 0))) (hbb : bb ≠ b) (hbr : bb ≠ br) :
    Calls Try.prog 47 #[.pointer (some ⟨br, 0, none⟩), .pointer (some ⟨bb, 0, none⟩)] w fun e w' => e = .returned (.int .i64 0) ∧ Rd w' b s (k + 1) d ∧
      w'.heap[bb]? = some (.cells #[.int .u8 s[k].toNat] 5 (0, 0)) ∧ Fr (fun j => j = b ∨ j = bb) w w' := by
  have H := Lib.hid h
  have hlb := h.lt
  have ct := h.text
  have ck := h.place
  have fk := h.free 1
  have cz := cell_of_one cb
  have fz := free_of_one cb
  have CB := Lib.hid cb
  have t0 : ((s.size : Int) - (k : Int) == 0) = false := by simp; omega
  have t1 : (0 : Int) ≤ (k : Int) := by omega
  have t2 : (k : Int) < (s.size : Int) := by omega
  clear h cb
  go_enter Try.func47, Try.ntmps47
  go_wp2_with fail
  refine (left_any b s k d _ H.out (by omega) (by unfold maxLen; omega)).mono ?_
  rintro e w1 ⟨rfl, m, rfl⟩
  go_wp2_with fail
  go_region
  go_wp2_with fail
  go_ret
  have hls : bb < w.heap.size := lt_of_block CB.out
  refine ⟨rfl, ?_, ?_, ?_⟩
  · exact ((H.out.drewN (m + 1)).far (p := ⟨bb, 0, none⟩) (fun h => hbb h.symm) _).setPlace (k + 1)
  · exact (Below.heap_setCell ((w.drewN (m + 1)).setCell ⟨bb, 0, none⟩ _) ⟨b, 1, none⟩ _ bb hbb).trans (one_setCell (w := w.drewN (m + 1)) CB.out)
  · exact (((Fr.refl (fun j => j = b ∨ j = bb) w).drewN (m + 1)).setCell (p := ⟨bb, 0, none⟩) (.inl (.inr rfl)) _).setCell (p := ⟨b, 1, none⟩) (.inl (.inl rfl)) _

theorem byte_fault (b : Nat) (s : ByteArray) (k : Nat) (d : Int) (w : World) (h : Rd w b s k d) (hd : d ≠ 0) :
    Calls Try.prog 41 #[.pointer (some ⟨b, 0, none⟩)] w fun e w' => e = .returned (.int .u8 0) ∧ Rd w' b s k d ∧ Fr (fun j => j = b) w w' := by
  have hmf : ∀ (fn : Fn) (first cap : Array Value) (w : World), (Instr.makeFunc fn first cap).run Try.prog w = .ok (.func fn first cap) w := fun _ _ _ _ => rfl
  have H := Lib.hid h
  have hlb := h.lt
  clear h
  go_enter Try.func41, Try.ntmps41
  go_wp2_with fail
  obtain ⟨W, hW, _, h3, hF, hz⟩ := two_new w (.cells #[.pointer (some ⟨b, 0, none⟩)] 36) (.cells #[.int .u8 0] 5)
  rw [← hW]
  clear hW
  have HF := Lib.hid hF
  have RW : Rd W b s k d := H.out.keep ((hF (fun _ => False)).block b hlb id)
  have cz := cell_of_one h3
  have fz := free_of_one h3
  clear h3 hF
  have H2 := Lib.hid RW
  clear RW
  refine (step_skip b s k d _ H2.out hd _ _ _).mono ?_
  rintro e w1 ⟨rfl, rfl⟩
  go_wp2
  (try simp only [Exit.inBlock, Exit.then])
  refine bodyPost_ret (v := .int .u8 0) (by simp [results, Try.results41, go_sem, cz]) rfl ?_
  exact ⟨rfl, H2.out.far (p := ⟨w.heap.size + 1, 0, none⟩) (by show b ≠ w.heap.size + 1; omega) _, (HF.out _).setCell (p := ⟨w.heap.size + 1, 0, none⟩) (.inr (by show w.heap.size ≤ w.heap.size + 1; omega)) _⟩

theorem byte_short (b : Nat) (s : ByteArray) (w : World) (h : Rd w b s s.size 0) (hs : s.size ≤ 140737488355328) :
    Calls Try.prog 41 #[.pointer (some ⟨b, 0, none⟩)] w fun e w' => e = .returned (.int .u8 0) ∧ Rd w' b s s.size 2 ∧ Fr (fun j => j = b) w w' := by
  have hmf : ∀ (fn : Fn) (first cap : Array Value) (w : World), (Instr.makeFunc fn first cap).run Try.prog w = .ok (.func fn first cap) w := fun _ _ _ _ => rfl
  have H := Lib.hid h
  have hlb := h.lt
  clear h
  go_enter Try.func41, Try.ntmps41
  go_wp2_with fail
  obtain ⟨W, hW, h1, h3, hF, hz⟩ := two_new w (.cells #[.pointer (some ⟨b, 0, none⟩)] 36) (.cells #[.int .u8 0] 5)
  rw [← hW]
  clear hW
  have HF := Lib.hid hF
  have RW : Rd W b s s.size 0 := H.out.keep ((hF (fun _ => False)).block b hlb id)
  have cr := cell_of_one h1
  have hne : w.heap.size + 1 ≠ b := by omega
  have H3 := Lib.hid h3
  have H2 := Lib.hid RW
  clear RW h3 h1 hF
  refine (step_do b s s.size _ H2.out 47 enters_byte _ 2 (fun w' => ∃ m, w' = W.drewN m) ((byte1_short w.heap.size (w.heap.size + 1) b s 0 W H2.out hs cr).mono fun e w' ⟨h1, m, h2⟩ => ⟨h1, ⟨s.size, by rw [h2]; exact H2.out.drewN m⟩, m, h2⟩)).mono ?_
  rintro e w1 ⟨rfl, w2, ⟨m, rfl⟩, hw1⟩
  have R1 : Rd w1 b s s.size 2 := by rw [hw1]; exact (H2.out.drewN m).setFault 2
  have h4 : w1.heap[w.heap.size + 1]? = some (.cells #[.int .u8 0] 5 (0, 0)) := by rw [hw1]; exact (Below.heap_setCell (W.drewN m) _ _ _ (by show _ ≠ b; omega)).trans H3.out
  have F1 : Fr (fun j => j = b) w w1 := by rw [hw1]; exact ((HF.out (fun j => j = b)).drewN m).setCell (p := ⟨b, 2, none⟩) (.inl rfl) _
  have cz := cell_of_one h4
  have fz := free_of_one h4
  have G1 := Lib.hid R1
  have G2 := Lib.hid F1
  clear hw1 R1 h4 F1 cr
  go_wp2
  (try simp only [Exit.inBlock, Exit.then])
  refine bodyPost_ret (v := .int .u8 0) (by simp [results, Try.results41, go_sem, cz]) rfl ?_
  exact ⟨rfl, G1.out.far (p := ⟨w.heap.size + 1, 0, none⟩) (by show b ≠ w.heap.size + 1; omega) _, G2.out.setCell (p := ⟨w.heap.size + 1, 0, none⟩) (.inr (by show w.heap.size ≤ w.heap.size + 1; omega)) _⟩

theorem byte_ok (b : Nat) (s : ByteArray) (k : Nat) (w : World) (h : Rd w b s k 0) (hs : s.size ≤ 140737488355328) (hk : k < s.size) :
    Calls Try.prog 41 #[.pointer (some ⟨b, 0, none⟩)] w fun e w' => e = .returned (.int .u8 s[k].toNat) ∧ Rd w' b s (k + 1) 0 ∧ Fr (fun j => j = b) w w' := by
  have hmf : ∀ (fn : Fn) (first cap : Array Value) (w : World), (Instr.makeFunc fn first cap).run Try.prog w = .ok (.func fn first cap) w := fun _ _ _ _ => rfl
  have H := Lib.hid h
  have hlb := h.lt
  clear h
  go_enter Try.func41, Try.ntmps41
  go_wp2_with fail
  obtain ⟨W, hW, h1, h3, hF, hz⟩ := two_new w (.cells #[.pointer (some ⟨b, 0, none⟩)] 36) (.cells #[.int .u8 0] 5)
  rw [← hW]
  clear hW
  have HF := Lib.hid hF
  have RW : Rd W b s k 0 := H.out.keep ((hF (fun _ => False)).block b hlb id)
  have cr := cell_of_one h1
  have hne : w.heap.size + 1 ≠ b := by omega
  have H3 := Lib.hid h3
  have H2 := Lib.hid RW
  clear RW h3 h1 hF
  refine (step_do b s k _ H2.out 47 enters_byte _ 0 (fun w' => Rd w' b s (k + 1) 0 ∧ w'.heap[w.heap.size + 1]? = some (.cells #[.int .u8 s[k].toNat] 5 (0, 0)) ∧ Fr (fun j => j = b ∨ j = w.heap.size + 1) W w')
    ((byte1_ok w.heap.size (w.heap.size + 1) b s 0 k 0 W H2.out hs hk cr H3.out hne (by omega)).mono fun e w' ⟨h1, h2, h3⟩ => ⟨h1, ⟨_, h2⟩, h2, h3⟩)).mono ?_
  rintro e w1 ⟨rfl, w2, ⟨r2, z2, f2⟩, hw1⟩
  have R1 : Rd w1 b s (k + 1) 0 := by rw [hw1]; exact r2.setFault 0
  have h4 : w1.heap[w.heap.size + 1]? = some (.cells #[.int .u8 s[k].toNat] 5 (0, 0)) := by rw [hw1]; exact (Below.heap_setCell w2 _ _ _ (by show _ ≠ b; omega)).trans z2
  have F1 : Fr (fun j => j = b) w w1 := by rw [hw1]; exact ((HF.out _).then_ f2 (fun j hj h => h.elim id (fun e => absurd hj (by omega)))).setCell (p := ⟨b, 2, none⟩) (.inl rfl) _
  have cz := cell_of_one h4
  have fz := free_of_one h4
  have G1 := Lib.hid R1
  have G2 := Lib.hid F1
  clear hw1 R1 h4 F1 cr r2 z2 f2
  go_wp2
  (try simp only [Exit.inBlock, Exit.then])
  refine bodyPost_ret (v := .int .u8 s[k].toNat) (by simp [results, Try.results41, go_sem, cz]) rfl ?_
  exact ⟨rfl, G1.out.far (p := ⟨w.heap.size + 1, 0, none⟩) (by show b ≠ w.heap.size + 1; omega) _, G2.out.setCell (p := ⟨w.heap.size + 1, 0, none⟩) (.inr (by show w.heap.size ≤ w.heap.size + 1; omega)) _⟩
end Go.Proofs.Ytacfhjcchoefjaa
