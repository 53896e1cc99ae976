/-
  The contracts of package cursor's Ahead and Fail over this seat's translation, and what a nil reader answers. Conditions: the reader's own block, a text of at most 2^47 bytes.
-/
import Derived.Test.YtacfhjcchoefjaaCurE
namespace Go.Proofs.Ytacfhjcchoefjaa
open Go.RowKit

theorem enters_ahead (args : Array Value) (w : World) : (callFunc 36 args).run Try.prog w = .ok (.enter 36 args) w :=
  enters Try.func36 (by kernel_rfl) rfl args w
theorem enters_fail (args : Array Value) (w : World) : (callFunc 38 args).run Try.prog w = .ok (.enter 38 args) w :=
  enters Try.func38 (by kernel_rfl) rfl args w

theorem fault_nil (w : World) :
    Calls Try.prog 18 #[.pointer none] w fun e w' => e = .returned (.int .i64 1) ∧ w = w' := by
  go_enter Try.func18, Try.ntmps18
  go_wp2
  go_ret
  exact ⟨rfl, rfl⟩

theorem step_nil (w : World) (fn : Fn) (first caps : Array Value) :
    Calls Try.prog 35 #[.pointer none, .func fn first caps] w fun e w' => e = .returned (.tuple #[]) ∧ w = w' := by
  go_enter Try.func35, Try.ntmps35
  go_wp2_with (go_at_call 18; refine (fault_nil _).mono ?_; rintro e w' ⟨rfl, rfl⟩)
  go_end0
  exact ⟨rfl, rfl⟩

theorem fail_nil (d : Int) (w : World) :
    Calls Try.prog 26 #[.pointer none, .int .i64 d] w fun e w' => e = .returned (.tuple #[]) ∧ Below w.heap.size w w' := by
  have hmf : ∀ (fn : Fn) (first cap : Array Value) (w : World), (Instr.makeFunc fn first cap).run Try.prog w = .ok (.func fn first cap) w := fun _ _ _ _ => rfl
  go_enter Try.func26, Try.ntmps26
  go_wp2_with fail
  refine (step_nil _ _ _ _).mono ?_
  rintro e w1 ⟨rfl, rfl⟩
  go_wp2
  go_end0
  exact ⟨rfl, (Below.refl _ _).alloc (Nat.le_refl _) _⟩

theorem fail_skip (b : Nat) (s : ByteArray) (k : Nat) (d : Int) (w : World) (h : Rd w b s k d) (hd : d ≠ 0) (v : Int) :
    Calls Try.prog 26 #[.pointer (some ⟨b, 0, none⟩), .int .i64 v] w fun e w' => e = .returned (.tuple #[]) ∧ Rd w' b s k d ∧ Fr (fun j => j = b) w w' := by
  have hmf : ∀ (fn : Fn) (first cap : Array Value) (w : World), (Instr.makeFunc fn first cap).run Try.prog w = .ok (.func fn first cap) w := fun _ _ _ _ => rfl
  have H := Lib.hid h
  clear h
  go_enter Try.func26, Try.ntmps26
  go_wp2_with fail
  refine (step_skip b s k d _ (H.out.alloc _) hd _ _ _).mono ?_
  rintro e w1 ⟨rfl, rfl⟩
  go_wp2
  go_end0
  exact ⟨rfl, H.out.alloc _, (Fr.refl _ w).alloc _⟩

theorem fail1_any (bv : Nat) (v : Int) (w : World) (cv : w.cell? ⟨bv, 0, none⟩ = some (.int .i64 v)) :
    Calls Try.prog 38 #[.pointer (some ⟨bv, 0, none⟩)] w fun e w' => e = .returned (.int .i64 v) ∧ w = w' := by
  go_enter Try.func38, Try.ntmps38
  go_wp2
  go_ret
  exact ⟨rfl, rfl⟩

theorem fail_do (b : Nat) (s : ByteArray) (k : Nat) (w : World) (h : Rd w b s k 0) (v : Int) :
    Calls Try.prog 26 #[.pointer (some ⟨b, 0, none⟩), .int .i64 v] w fun e w' => e = .returned (.tuple #[]) ∧ Rd w' b s k v ∧ Fr (fun j => j = b) w w' := by
  have hmf : ∀ (fn : Fn) (first cap : Array Value) (w : World), (Instr.makeFunc fn first cap).run Try.prog w = .ok (.func fn first cap) w := fun _ _ _ _ => rfl
  have H := Lib.hid h
  clear h
  go_enter Try.func26, Try.ntmps26
  go_wp2_with fail
  have h1 : (w.alloc (.cells #[.int .i64 v] 23)).heap[w.heap.size]? = some (.cells #[.int .i64 v] 23 (0, 0)) := heap_alloc_new w _
  have F0 : Fr (fun j => j = b) w (w.alloc (.cells #[.int .i64 v] 23)) := (Fr.refl _ w).alloc _
  have R0 := H.out.alloc (.cells #[.int .i64 v] 23)
  generalize w.alloc (.cells #[.int .i64 v] 23) = W at *
  have c1 := cell_of_one h1
  have F := Lib.hid F0
  have R := Lib.hid R0
  clear h1 F0 R0
  refine (step_do b s k _ R.out 38 enters_fail _ v (fun w' => W = w') ((fail1_any w.heap.size v W c1).mono fun e w' ⟨h1, h2⟩ => ⟨h1, ⟨k, by rw [← h2]; exact R.out⟩, h2⟩)).mono ?_
  rintro e w1 ⟨rfl, w2, rfl, hw1⟩
  have G := Lib.hid hw1
  clear hw1 c1
  go_wp2
  go_end0
  rw [G.out]
  exact ⟨rfl, R.out.setFault v, F.out.setCell (p := ⟨b, 2, none⟩) (.inl rfl) _⟩

theorem ahead_nil (n : Int) (w : World) :
    Calls Try.prog 25 #[.pointer none, .int .i64 n] w fun e w' => e = .returned (.string ⟨#[]⟩) ∧ Below w.heap.size w w' := by
  have hmf : ∀ (fn : Fn) (first cap : Array Value) (w : World), (Instr.makeFunc fn first cap).run Try.prog w = .ok (.func fn first cap) w := fun _ _ _ _ => rfl
  go_enter Try.func25, Try.ntmps25
  go_wp2_with fail
  obtain ⟨W, hW, _, _, h3, hF, hz⟩ := three_new w (.cells #[.pointer none] 36) (.cells #[.int .i64 n] 3) (.cells #[.string ⟨#[]⟩] 9)
  rw [← hW]
  clear hW
  have HF := Lib.hid hF
  have cz := cell_of_one h3
  have fz := free_of_one h3
  clear h3 hF
  refine (step_nil _ _ _ _).mono ?_
  rintro e w1 ⟨rfl, rfl⟩
  go_wp2
  (try simp only [Exit.inBlock, Exit.then])
  refine bodyPost_ret (v := .string ⟨#[]⟩) (by simp [results, Try.results25, go_sem, cz]) rfl ?_
  exact ⟨rfl, ((HF.out (fun _ => False)).setCell (p := ⟨w.heap.size + 1 + 1, 0, none⟩) (.inr (by show w.heap.size ≤ w.heap.size + 1 + 1; omega)) _).below (Nat.le_refl _) (fun _ h => h.elim)⟩

theorem ahead_fault (b : Nat) (s : ByteArray) (k : Nat) (d : Int) (w : World) (h : Rd w b s k d) (hd : d ≠ 0) (n : Int) :
    Calls Try.prog 25 #[.pointer (some ⟨b, 0, none⟩), .int .i64 n] w fun e w' => e = .returned (.string ⟨#[]⟩) ∧ Rd w' b s k d ∧ Fr (fun j => j = b) w w' := by
  have hmf : ∀ (fn : Fn) (first cap : Array Value) (w : World), (Instr.makeFunc fn first cap).run Try.prog w = .ok (.func fn first cap) w := fun _ _ _ _ => rfl
  have H := Lib.hid h
  have hlb := h.lt
  clear h
  go_enter Try.func25, Try.ntmps25
  go_wp2_with fail
  obtain ⟨W, hW, _, _, h3, hF, hz⟩ := three_new w (.cells #[.pointer (some ⟨b, 0, none⟩)] 36) (.cells #[.int .i64 n] 3) (.cells #[.string ⟨#[]⟩] 9)
  rw [← hW]
  clear hW
  have HF := Lib.hid hF
  have RW : Rd W b s k d := H.out.keep ((hF (fun _ => False)).block b hlb id)
  have cz := cell_of_one h3
  have fz := free_of_one h3
  clear h3 hF
  have H2 := Lib.hid RW
  clear RW
  refine (step_skip b s k d _ H2.out hd _ _ _).mono ?_
  rintro e w1 ⟨rfl, rfl⟩
  go_wp2
  (try simp only [Exit.inBlock, Exit.then])
  refine bodyPost_ret (v := .string ⟨#[]⟩) (by simp [results, Try.results25, go_sem, cz]) rfl ?_
  exact ⟨rfl, H2.out.far (p := ⟨w.heap.size + 1 + 1, 0, none⟩) (by show b ≠ w.heap.size + 1 + 1; omega) _, (HF.out _).setCell (p := ⟨w.heap.size + 1 + 1, 0, none⟩) (.inr (by show w.heap.size ≤ w.heap.size + 1 + 1; omega)) _⟩

/-- n bytes, or as many as are left. -/
theorem ahead1_ok (bn br bs b : Nat) (n m : Nat) (s z : ByteArray) (k : Nat) (d : Int) (w : World) (h : Rd w b s k d) (hs : s.size ≤ 140737488355328) (hn : n ≤ 140737488355328) (hk : k ≤ s.size) (hm : m = min n (s.size - k))
    (cn : w.cell? ⟨bn, 0, none⟩ = some (.int .i64 n)) (cr : w.cell? ⟨br, 0, none⟩ = some (.pointer (some ⟨b, 0, none⟩))) (cs : w.heap[bs]? = some (.cells #[.string z] 9 (0, 0))) (hsb : bs ≠ b) (hsn : bs ≠ bn) (hsr : bs ≠ br) :
    Calls Try.prog 36 #[.pointer (some ⟨br, 0, none⟩), .pointer (some ⟨bn, 0, none⟩), .pointer (some ⟨bs, 0, none⟩)] w fun e w' => e = .returned (.int .i64 0) ∧ Rd w' b s k d ∧ w'.heap[bs]? = some (.cells #[.string (s.extract k (k + m))] 9 (0, 0)) ∧ Fr (fun j => j = b ∨ j = bs) w w' := by
  have t0 : max (n : Int) 0 = (n : Int) := by omega
  have t1 : min (n : Int) ((s.size : Int) - (k : Int)) = (m : Int) := by omega
  have hq : ∀ m, Calls Try.prog 30 #[.pointer (some ⟨b, 0, none⟩)] (w.drewN m) fun e w' => e = .returned (.int .i64 ((s.size : Int) - k)) ∧ ∃ n, w' = (w.drewN m).drewN n := fun m => left_any b s k d _ (h.drewN m) hk (by unfold maxLen; omega)
  have H := Lib.hid hq
  have R := Lib.hid h
  have hlb : b < w.heap.size := h.lt
  have hkm : k + m ≤ s.size := by omega
  have hlt : ∀ {g : Nat} {v : Value}, w.cell? ⟨g, 0, none⟩ = some v → g < w.heap.size := fun {g v} hv => by
    rcases Nat.lt_or_ge g w.heap.size with h | h
    · exact h
    · simp [World.cell?, Array.getElem?_eq_none h] at hv
  have hlr := hlt cr
  have hln := hlt cn
  have hls : bs < w.heap.size := lt_of_block cs
  have CS := Lib.hid cs
  clear hlt cs
  clear hq h hm
  go_enter Try.func36, Try.ntmps36
  go_wp2_with fail
  go_region_held3 (fun w' => w'.cell? ⟨bn, 0, none⟩ = some (.int .i64 n) ∧ w'.cell? ⟨br, 0, none⟩ = some (.pointer (some ⟨b, 0, none⟩))) (first | exact ⟨cn, cr⟩ | exact ⟨cn2, cr2⟩ | exact ⟨(Below.heap_setCell w2 ⟨bs, 0, none⟩ _ bn (fun h => hsn h.symm) |> fun h => World.cell?_of_block (w := w2) h).trans cn2, (Below.heap_setCell w2 ⟨bs, 0, none⟩ _ br (fun h => hsr h.symm) |> fun h => World.cell?_of_block (w := w2) h).trans cr2⟩ | go_keep)
    (first | (go_at_call 30; refine (left_any b s k d _ R.out.drew hk (by unfold maxLen; omega)).mono ?_; rintro e w1 ⟨rfl, m1, rfl⟩) | (go_at_call 37; refine (next_any b s k m d _ (R.out.drewN _) hkm hs).mono ?_; rintro e w2 ⟨rfl, hb2⟩; have cs2 : w2.heap[bs]? = some (.cells #[.string z] 9 (0, 0)) := (hb2.block bs hls).trans CS.out; have cz2 := cell_of_one cs2; have fz2 := free_of_one cs2; have cn2 : w2.cell? ⟨bn, 0, none⟩ = some (.int .i64 n) := (hb2.cell (p := ⟨bn, 0, none⟩) hln).trans cn; have cr2 : w2.cell? ⟨br, 0, none⟩ = some (.pointer (some ⟨b, 0, none⟩)) := (hb2.cell (p := ⟨br, 0, none⟩) hlr).trans cr))
  all_goals
    have B2 := Lib.hid hb2
    have G2 := Lib.hid cs2
    clear hb2 cs2 cn2 cr2 cz2 fz2
    go_wp2
    go_ret
    refine ⟨rfl, ?_, ?_, ?_⟩
    · exact (R.out.keep (B2.out.block b hlb)).far (p := ⟨bs, 0, none⟩) (fun h => hsb h.symm) _
    · exact one_setCell G2.out
    · exact (((Fr.refl _ w).drewN _).trans (Fr.ofBelow B2.out)).setCell (p := ⟨bs, 0, none⟩) (.inl (.inr rfl)) _

theorem ahead_ok (b : Nat) (s : ByteArray) (k : Nat) (w : World) (h : Rd w b s k 0) (hk : k ≤ s.size) (hs : s.size ≤ 140737488355328) (n : Nat) (hn : n ≤ 140737488355328) :
    Calls Try.prog 25 #[.pointer (some ⟨b, 0, none⟩), .int .i64 (n : Int)] w fun e w' => e = .returned (.string (s.extract k (k + min n (s.size - k)))) ∧ Rd w' b s k 0 ∧ Fr (fun j => j = b) w w' := by
  have hmf : ∀ (fn : Fn) (first cap : Array Value) (w : World), (Instr.makeFunc fn first cap).run Try.prog w = .ok (.func fn first cap) w := fun _ _ _ _ => rfl
  have H := Lib.hid h
  have hlb := h.lt
  obtain ⟨m, hm⟩ : ∃ m, m = min n (s.size - k) := ⟨_, rfl⟩
  rw [← hm]
  have HM := Lib.hid hm
  clear h hm
  go_enter Try.func25, Try.ntmps25
  go_wp2_with fail
  obtain ⟨W, hW, h1, h2, h3, hF, hz⟩ := three_new w (.cells #[.pointer (some ⟨b, 0, none⟩)] 36) (.cells #[.int .i64 (n : Int)] 3) (.cells #[.string ⟨#[]⟩] 9)
  rw [← hW]
  clear hW
  have HF := Lib.hid hF
  have RW : Rd W b s k 0 := H.out.keep ((hF (fun _ => False)).block b hlb id)
  have cn := cell_of_one h2
  have cr := cell_of_one h1
  have hne : w.heap.size + 1 + 1 ≠ b := by omega
  have H3 := Lib.hid h3
  have H2 := Lib.hid RW
  clear RW h2 h3 h1 hF
  refine (step_do b s k _ H2.out 36 enters_ahead _ 0 (fun w' => Rd w' b s k 0 ∧ w'.heap[w.heap.size + 1 + 1]? = some (.cells #[.string (s.extract k (k + m))] 9 (0, 0)) ∧ Fr (fun j => j = b ∨ j = w.heap.size + 1 + 1) W w')
    ((ahead1_ok (w.heap.size + 1) w.heap.size (w.heap.size + 1 + 1) b n m s ⟨#[]⟩ k 0 W H2.out hs hn hk HM.out cn cr H3.out hne (by omega) (by omega)).mono fun e w' ⟨h1, h2, h3⟩ => ⟨h1, ⟨_, h2⟩, h2, h3⟩)).mono ?_
  rintro e w1 ⟨rfl, w2, ⟨r2, z2, f2⟩, hw1⟩
  have R1 : Rd w1 b s k 0 := by rw [hw1]; exact r2.setFault 0
  have h4 : w1.heap[w.heap.size + 1 + 1]? = some (.cells #[.string (s.extract k (k + m))] 9 (0, 0)) := by rw [hw1]; exact (Below.heap_setCell w2 _ _ _ (by show _ ≠ b; omega)).trans z2
  have F1 : Fr (fun j => j = b) w w1 := by rw [hw1]; exact ((HF.out _).then_ f2 (fun j hj h => h.elim id (fun e => absurd hj (by omega)))).setCell (p := ⟨b, 2, none⟩) (.inl rfl) _
  have cz := cell_of_one h4
  have fz := free_of_one h4
  have G1 := Lib.hid R1
  have G2 := Lib.hid F1
  clear hw1 R1 h4 F1 cn cr r2 z2 f2
  go_wp2
  (try simp only [Exit.inBlock, Exit.then])
  refine bodyPost_ret (v := .string (s.extract k (k + m))) (by simp [results, Try.results25, go_sem, cz]) rfl ?_
  exact ⟨rfl, G1.out.far (p := ⟨w.heap.size + 1 + 1, 0, none⟩) (by show b ≠ w.heap.size + 1 + 1; omega) _, G2.out.setCell (p := ⟨w.heap.size + 1 + 1, 0, none⟩) (.inr (by show w.heap.size ≤ w.heap.size + 1 + 1; omega)) _⟩
end Go.Proofs.Ytacfhjcchoefjaa
