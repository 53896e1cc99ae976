/-
  The contracts of package cursor's Take over this seat's translation: for every count, every place, every fault. Conditions: the reader's own block, a text of at most 2^47 bytes.
-/
import Derived.Test.YtacfhjcchoefjaaCurD
namespace Go.Proofs.Ytacfhjcchoefjaa
open Go.RowKit

theorem three_new (w : World) (o1 o2 o3 : Obj) : ∃ W, W = ((w.alloc o1).alloc o2).alloc o3 ∧ W.heap[w.heap.size]? = some o1 ∧ W.heap[w.heap.size + 1]? = some o2 ∧ W.heap[w.heap.size + 1 + 1]? = some o3 ∧
    (∀ S, Fr S w W) ∧ W.heap.size = w.heap.size + 3 := by
  refine ⟨_, rfl, ?_, ?_, ?_, fun S => (((Fr.refl S w).alloc o1).alloc o2).alloc o3, by simp⟩
  · exact (Below.heap_alloc _ o3 _ (by simp; omega)).trans ((Below.heap_alloc _ o2 _ (by simp)).trans (heap_alloc_new w o1))
  · exact (Below.heap_alloc _ o3 _ (by simp)).trans (by have := heap_alloc_new (w.alloc o1) o2; simpa using this)
  · have := heap_alloc_new ((w.alloc o1).alloc o2) o3; simpa using this

theorem take_fault (b : Nat) (s : ByteArray) (k : Nat) (d : Int) (w : World) (h : Rd w b s k d) (hd : d ≠ 0) (n : Int) :
    Calls Try.prog 27 #[.pointer (some ⟨b, 0, none⟩), .int .i64 n] w fun e w' => e = .returned (.string ⟨#[]⟩) ∧ Rd w' b s k d ∧ Fr (fun j => j = b) w w' := by
  have hmf : ∀ (fn : Fn) (first cap : Array Value) (w : World), (Instr.makeFunc fn first cap).run Try.prog w = .ok (.func fn first cap) w := fun _ _ _ _ => rfl
  have H := Lib.hid h
  have hlb := h.lt
  clear h
  go_enter Try.func27, Try.ntmps27
  go_wp2_with fail
  obtain ⟨W, hW, _, _, h3, hF, hz⟩ := three_new w (.cells #[.pointer (some ⟨b, 0, none⟩)] 36) (.cells #[.int .i64 n] 3) (.cells #[.string ⟨#[]⟩] 9)
  rw [← hW]
  clear hW
  have HF := Lib.hid hF
  have RW : Rd W b s k d := H.out.keep ((hF (fun _ => False)).block b hlb id)
  have cz := cell_of_one h3
  have fz := free_of_one h3
  clear h3 hF
  have H2 := Lib.hid RW
  clear RW
  refine (step_skip b s k d _ H2.out hd _ _ _).mono ?_
  rintro e w1 ⟨rfl, rfl⟩
  go_wp2
  (try simp only [Exit.inBlock, Exit.then])
  refine bodyPost_ret (v := .string ⟨#[]⟩) (by simp [results, Try.results27, go_sem, cz]) rfl ?_
  exact ⟨rfl, H2.out.far (p := ⟨w.heap.size + 1 + 1, 0, none⟩) (by show b ≠ w.heap.size + 1 + 1; omega) _, (HF.out _).setCell (p := ⟨w.heap.size + 1 + 1, 0, none⟩) (.inr (by show w.heap.size ≤ w.heap.size + 1 + 1; omega)) _⟩

theorem take_neg (b : Nat) (s : ByteArray) (k : Nat) (w : World) (h : Rd w b s k 0) (n : Int) (hn : n < 0) :
    Calls Try.prog 27 #[.pointer (some ⟨b, 0, none⟩), .int .i64 n] w fun e w' => e = .returned (.string ⟨#[]⟩) ∧ Rd w' b s k 1 ∧ Fr (fun j => j = b) w w' := by
  have hmf : ∀ (fn : Fn) (first cap : Array Value) (w : World), (Instr.makeFunc fn first cap).run Try.prog w = .ok (.func fn first cap) w := fun _ _ _ _ => rfl
  have H := Lib.hid h
  have hlb := h.lt
  clear h
  go_enter Try.func27, Try.ntmps27
  go_wp2_with fail
  obtain ⟨W, hW, _, h2, h3, hF, hz⟩ := three_new w (.cells #[.pointer (some ⟨b, 0, none⟩)] 36) (.cells #[.int .i64 n] 3) (.cells #[.string ⟨#[]⟩] 9)
  rw [← hW]
  clear hW
  have HF := Lib.hid hF
  have RW : Rd W b s k 0 := H.out.keep ((hF (fun _ => False)).block b hlb id)
  have cn := cell_of_one h2
  have hne : w.heap.size + 1 + 1 ≠ b := by omega
  have H3 := Lib.hid h3
  have H2 := Lib.hid RW
  clear RW h2 h3 hF
  refine (step_do b s k _ H2.out 39 enters_take _ 1 (fun w' => W = w') ((take1_neg (w.heap.size + 1) w.heap.size (w.heap.size + 1 + 1) n hn W cn).mono fun e w' ⟨h1, h2⟩ => ⟨h1, ⟨k, by rw [← h2]; exact H2.out⟩, h2⟩)).mono ?_
  rintro e w1 ⟨rfl, w2, rfl, hw1⟩
  have R1 : Rd w1 b s k 1 := by rw [hw1]; exact H2.out.setFault 1
  have h4 : w1.heap[w.heap.size + 1 + 1]? = some (.cells #[.string ⟨#[]⟩] 9 (0, 0)) := by rw [hw1]; exact (Below.heap_setCell _ _ _ _ (by show _ ≠ b; omega)).trans H3.out
  have F1 : Fr (fun j => j = b) w w1 := by rw [hw1]; exact (HF.out (fun j => j = b)).setCell (p := ⟨b, 2, none⟩) (.inl rfl) _
  have cz := cell_of_one h4
  have fz := free_of_one h4
  have G1 := Lib.hid R1
  have G2 := Lib.hid F1
  clear hw1 R1 h4 F1 cn
  go_wp2
  (try simp only [Exit.inBlock, Exit.then])
  refine bodyPost_ret (v := .string ⟨#[]⟩) (by simp [results, Try.results27, go_sem, cz]) rfl ?_
  exact ⟨rfl, G1.out.far (p := ⟨w.heap.size + 1 + 1, 0, none⟩) (by show b ≠ w.heap.size + 1 + 1; omega) _, G2.out.setCell (p := ⟨w.heap.size + 1 + 1, 0, none⟩) (.inr (by show w.heap.size ≤ w.heap.size + 1 + 1; omega)) _⟩

theorem take_short (b : Nat) (s : ByteArray) (k : Nat) (w : World) (h : Rd w b s k 0) (hk : k ≤ s.size) (hs : s.size ≤ 140737488355328) (n : Nat) (hn : s.size < k + n) :
    Calls Try.prog 27 #[.pointer (some ⟨b, 0, none⟩), .int .i64 (n : Int)] w fun e w' => e = .returned (.string ⟨#[]⟩) ∧ Rd w' b s k 2 ∧ Fr (fun j => j = b) w w' := by
  have hmf : ∀ (fn : Fn) (first cap : Array Value) (w : World), (Instr.makeFunc fn first cap).run Try.prog w = .ok (.func fn first cap) w := fun _ _ _ _ => rfl
  have H := Lib.hid h
  have hlb := h.lt
  clear h
  go_enter Try.func27, Try.ntmps27
  go_wp2_with fail
  obtain ⟨W, hW, h1, h2, h3, hF, hz⟩ := three_new w (.cells #[.pointer (some ⟨b, 0, none⟩)] 36) (.cells #[.int .i64 (n : Int)] 3) (.cells #[.string ⟨#[]⟩] 9)
  rw [← hW]
  clear hW
  have HF := Lib.hid hF
  have RW : Rd W b s k 0 := H.out.keep ((hF (fun _ => False)).block b hlb id)
  have cn := cell_of_one h2
  have cr := cell_of_one h1
  have hne : w.heap.size + 1 + 1 ≠ b := by omega
  have H3 := Lib.hid h3
  have H2 := Lib.hid RW
  clear RW h2 h3 h1 hF
  refine (step_do b s k _ H2.out 39 enters_take _ 2 (fun w' => ∃ m, w' = W.drewN m) ((take1_short (w.heap.size + 1) w.heap.size (w.heap.size + 1 + 1) b n s k 0 W H2.out hk hs hn cn cr).mono fun e w' ⟨h1, m, h2⟩ => ⟨h1, ⟨k, by rw [h2]; exact H2.out.drewN m⟩, m, h2⟩)).mono ?_
  rintro e w1 ⟨rfl, w2, ⟨m, rfl⟩, hw1⟩
  have R1 : Rd w1 b s k 2 := by rw [hw1]; exact (H2.out.drewN m).setFault 2
  have h4 : w1.heap[w.heap.size + 1 + 1]? = some (.cells #[.string ⟨#[]⟩] 9 (0, 0)) := by rw [hw1]; exact (Below.heap_setCell (W.drewN m) _ _ _ (by show _ ≠ b; omega)).trans H3.out
  have F1 : Fr (fun j => j = b) w w1 := by rw [hw1]; exact ((HF.out (fun j => j = b)).drewN m).setCell (p := ⟨b, 2, none⟩) (.inl rfl) _
  have cz := cell_of_one h4
  have fz := free_of_one h4
  have G1 := Lib.hid R1
  have G2 := Lib.hid F1
  clear hw1 R1 h4 F1 cn cr
  go_wp2
  (try simp only [Exit.inBlock, Exit.then])
  refine bodyPost_ret (v := .string ⟨#[]⟩) (by simp [results, Try.results27, go_sem, cz]) rfl ?_
  exact ⟨rfl, G1.out.far (p := ⟨w.heap.size + 1 + 1, 0, none⟩) (by show b ≠ w.heap.size + 1 + 1; omega) _, G2.out.setCell (p := ⟨w.heap.size + 1 + 1, 0, none⟩) (.inr (by show w.heap.size ≤ w.heap.size + 1 + 1; omega)) _⟩

theorem take_ok (b : Nat) (s : ByteArray) (k : Nat) (w : World) (h : Rd w b s k 0) (hs : s.size ≤ 140737488355328) (n : Nat) (hn : k + n ≤ s.size) :
    Calls Try.prog 27 #[.pointer (some ⟨b, 0, none⟩), .int .i64 (n : Int)] w fun e w' => e = .returned (.string (s.extract k (k + n))) ∧ Rd w' b s (k + n) 0 ∧ Fr (fun j => j = b) w w' := by
  have hmf : ∀ (fn : Fn) (first cap : Array Value) (w : World), (Instr.makeFunc fn first cap).run Try.prog w = .ok (.func fn first cap) w := fun _ _ _ _ => rfl
  have H := Lib.hid h
  have hlb := h.lt
  clear h
  go_enter Try.func27, Try.ntmps27
  go_wp2_with fail
  obtain ⟨W, hW, h1, h2, h3, hF, hz⟩ := three_new w (.cells #[.pointer (some ⟨b, 0, none⟩)] 36) (.cells #[.int .i64 (n : Int)] 3) (.cells #[.string ⟨#[]⟩] 9)
  rw [← hW]
  clear hW
  have HF := Lib.hid hF
  have RW : Rd W b s k 0 := H.out.keep ((hF (fun _ => False)).block b hlb id)
  have cn := cell_of_one h2
  have cr := cell_of_one h1
  have hne : w.heap.size + 1 + 1 ≠ b := by omega
  have H3 := Lib.hid h3
  have H2 := Lib.hid RW
  clear RW h2 h3 h1 hF
  refine (step_do b s k _ H2.out 39 enters_take _ 0 (fun w' => Rd w' b s (k + n) 0 ∧ w'.heap[w.heap.size + 1 + 1]? = some (.cells #[.string (s.extract k (k + n))] 9 (0, 0)) ∧ Fr (fun j => j = b ∨ j = w.heap.size + 1 + 1) W w')
    ((take1_ok (w.heap.size + 1) w.heap.size (w.heap.size + 1 + 1) b n s ⟨#[]⟩ k 0 W H2.out hs hn cn cr H3.out hne (by omega) (by omega)).mono fun e w' ⟨h1, h2, h3⟩ => ⟨h1, ⟨_, h2⟩, h2, h3⟩)).mono ?_
  rintro e w1 ⟨rfl, w2, ⟨r2, z2, f2⟩, hw1⟩
  have R1 : Rd w1 b s (k + n) 0 := by rw [hw1]; exact r2.setFault 0
  have h4 : w1.heap[w.heap.size + 1 + 1]? = some (.cells #[.string (s.extract k (k + n))] 9 (0, 0)) := by rw [hw1]; exact (Below.heap_setCell w2 _ _ _ (by show _ ≠ b; omega)).trans z2
  have F1 : Fr (fun j => j = b) w w1 := by rw [hw1]; exact ((HF.out _).then_ f2 (fun j hj h => h.elim id (fun e => absurd hj (by omega)))).setCell (p := ⟨b, 2, none⟩) (.inl rfl) _
  have cz := cell_of_one h4
  have fz := free_of_one h4
  have G1 := Lib.hid R1
  have G2 := Lib.hid F1
  clear hw1 R1 h4 F1 cn cr r2 z2 f2
  go_wp2
  (try simp only [Exit.inBlock, Exit.then])
  refine bodyPost_ret (v := .string (s.extract k (k + n))) (by simp [results, Try.results27, go_sem, cz]) rfl ?_
  exact ⟨rfl, G1.out.far (p := ⟨w.heap.size + 1 + 1, 0, none⟩) (by show b ≠ w.heap.size + 1 + 1; omega) _, G2.out.setCell (p := ⟨w.heap.size + 1 + 1, 0, none⟩) (.inr (by show w.heap.size ≤ w.heap.size + 1 + 1; omega)) _⟩
end Go.Proofs.Ytacfhjcchoefjaa
