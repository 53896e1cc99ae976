/-
  The contract of the function literal in package cursor's Take over this seat's translation. Conditions: the reader's own block, the captured variables' cells, a text of at most 2^47 bytes.
-/
import Derived.Test.YtacfhjcchoefjaaCurB
import Derived.Test.YtacfhjcchoefjaaFr
namespace Go.Proofs.Ytacfhjcchoefjaa
open Go.RowKit

/-- n below 0: ErrArg, and nothing is done. -/
theorem take1_neg (bn br bs : Nat) (n : Int) (hn : n < 0) (w : World) (cn : w.cell? ⟨bn, 0, none⟩ = some (.int .i64 n)) :
    Calls Try.prog 39 #[.pointer (some ⟨bn, 0, none⟩), .pointer (some ⟨br, 0, none⟩), .pointer (some ⟨bs, 0, none⟩)] w fun e w' => e = .returned (.int .i64 1) ∧ w = w' := by
  go_enter Try.func39, Try.ntmps39
  go_wp2
  go_ret
  exact ⟨rfl, rfl⟩

/-- More than is left: ErrShort, and nothing is done. -/
theorem take1_short (bn br bs b : Nat) (n : Nat) (s : ByteArray) (k : Nat) (d : Int) (w : World) (h : Rd w b s k d) (hk : k ≤ s.size) (hs : s.size ≤ 140737488355328) (hn : s.size < k + n)
    (cn : w.cell? ⟨bn, 0, none⟩ = some (.int .i64 n)) (cr : w.cell? ⟨br, 0, none⟩ = some (.pointer (some ⟨b, 0, none⟩))) :
    Calls Try.prog 39 #[.pointer (some ⟨bn, 0, none⟩), .pointer (some ⟨br, 0, none⟩), .pointer (some ⟨bs, 0, none⟩)] w fun e w' => e = .returned (.int .i64 2) ∧ ∃ m, w' = w.drewN m := by
  have t0 : ¬ (n : Int) < 0 := by omega
  have t1 : (s.size : Int) - (k : Int) < (n : Int) := by omega
  have hq : ∀ m, Calls Try.prog 30 #[.pointer (some ⟨b, 0, none⟩)] (w.drewN m) fun e w' => e = .returned (.int .i64 ((s.size : Int) - k)) ∧ ∃ n, w' = (w.drewN m).drewN n := fun m => left_any b s k d _ (h.drewN m) hk (by unfold maxLen; omega)
  have H := Lib.hid hq
  clear hq h
  go_enter Try.func39, Try.ntmps39
  go_wp2_with fail
  go_quiet ((go_at_call 30; exact Calls.quiet_of (H.out _)))
  go_wp2
  go_ret
  exact ⟨rfl, _, rfl⟩

theorem take1_ok (bn br bs b : Nat) (n : Nat) (s z : ByteArray) (k : Nat) (d : Int) (w : World) (h : Rd w b s k d) (hs : s.size ≤ 140737488355328) (hn : k + n ≤ s.size)
    (cn : w.cell? ⟨bn, 0, none⟩ = some (.int .i64 n)) (cr : w.cell? ⟨br, 0, none⟩ = some (.pointer (some ⟨b, 0, none⟩))) (cs : w.heap[bs]? = some (.cells #[.string z] 9 (0, 0))) (hsb : bs ≠ b) (hsn : bs ≠ bn) (hsr : bs ≠ br) :
    Calls Try.prog 39 #[.pointer (some ⟨bn, 0, none⟩), .pointer (some ⟨br, 0, none⟩), .pointer (some ⟨bs, 0, none⟩)] w fun e w' => e = .returned (.int .i64 0) ∧ Rd w' b s (k + n) d ∧ w'.heap[bs]? = some (.cells #[.string (s.extract k (k + n))] 9 (0, 0)) ∧ Fr (fun j => j = b ∨ j = bs) w w' := by
  have t0 : ¬ (n : Int) < 0 := by omega
  have t1 : ¬ (s.size : Int) - (k : Int) < (n : Int) := by omega
  have hq : ∀ m, Calls Try.prog 30 #[.pointer (some ⟨b, 0, none⟩)] (w.drewN m) fun e w' => e = .returned (.int .i64 ((s.size : Int) - k)) ∧ ∃ n, w' = (w.drewN m).drewN n := fun m => left_any b s k d _ (h.drewN m) (by omega) (by unfold maxLen; omega)
  have H := Lib.hid hq
  have R := Lib.hid h
  have hlb : b < w.heap.size := h.lt
  clear hq h
  go_enter Try.func39, Try.ntmps39
  go_wp2_with fail
  go_quiet ((go_at_call 30; exact Calls.quiet_of (H.out _)))
  go_wp2_with fail
  refine (next_any b s k n d _ (R.out.drewN _) hn hs).mono ?_
  rintro e w1 ⟨rfl, hb1⟩
  have hlt : ∀ {g : Nat} {v : Value}, w.cell? ⟨g, 0, none⟩ = some v → g < w.heap.size := fun {g v} hv => by
    rcases Nat.lt_or_ge g w.heap.size with h | h
    · exact h
    · simp [World.cell?, Array.getElem?_eq_none h] at hv
  have R1 : Rd w1 b s k d := R.out.keep (hb1.block b hlb)
  have hlr := hlt cr
  have hln := hlt cn
  have hls : bs < w.heap.size := lt_of_block cs
  have cn1 : w1.cell? ⟨bn, 0, none⟩ = some (.int .i64 n) := (hb1.cell (p := ⟨bn, 0, none⟩) hln).trans cn
  have cr1 : w1.cell? ⟨br, 0, none⟩ = some (.pointer (some ⟨b, 0, none⟩)) := (hb1.cell (p := ⟨br, 0, none⟩) hlr).trans cr
  have cs1 : w1.heap[bs]? = some (.cells #[.string z] 9 (0, 0)) := (hb1.block bs hls).trans cs
  have cz1 := cell_of_one cs1
  have fz1 := free_of_one cs1
  have ck1 := R1.place
  have fk1 := R1.free 1
  have F : Hid (Fr (fun j => j = b ∨ j = bs) w w1) := (Fr.refl _ w).then_ (T := fun _ => False) ⟨hb1.os, hb1.tape, hb1.output, hb1.size, fun j hj _ => hb1.block j hj⟩ (fun _ _ h => h.elim)
  have G1 := Lib.hid R1
  have G2 := Lib.hid cs1
  clear hlt R1 cs1 hb1 cn cr cs R
  go_wp2_with fail
  obtain ⟨w2, hw2⟩ : ∃ w2, w2 = w1.setCell ⟨bs, 0, none⟩ (.string (s.extract k (k + n))) := ⟨_, rfl⟩
  rw [← hw2]
  have hz1 : w.heap.size ≤ w1.heap.size := F.out.size
  have F1 : Fr (fun j => j = bs) w1 w2 := by rw [hw2]; exact (Fr.refl (fun j => j = bs) w1).setCell (p := ⟨bs, 0, none⟩) (.inl rfl) _
  have cs2 : w2.heap[bs]? = some (.cells #[.string (s.extract k (k + n))] 9 (0, 0)) := by rw [hw2]; exact one_setCell G2.out
  have R2 : Rd w2 b s k d := G1.out.keep (F1.block b (by omega) (fun h => hsb h.symm))
  have cn2 : w2.cell? ⟨bn, 0, none⟩ = some (.int .i64 n) := (F1.cell (p := ⟨bn, 0, none⟩) (by show bn < _; omega) (fun h => hsn h.symm)).trans cn1
  have cr2 : w2.cell? ⟨br, 0, none⟩ = some (.pointer (some ⟨b, 0, none⟩)) := (F1.cell (p := ⟨br, 0, none⟩) (by show br < _; omega) (fun h => hsr h.symm)).trans cr1
  have ck2 := R2.place
  have fk2 := R2.free 1
  have F2 := Lib.hid F1
  have G3 := Lib.hid R2
  have G4 := Lib.hid cs2
  have i4 : IntKind.i64.wrap ((k : Int) + (n : Int)) = (k : Int) + (n : Int) := IntWalk.i64_in _ (by omega)
  clear hw2 F1 cs2 R2 cn1 cr1 cz1 fz1 ck1 fk1
  go_region
  go_wp2
  go_ret
  refine ⟨rfl, ?_, ?_, ?_⟩
  · exact (G3.out.setPlace (k + n))
  · exact (Below.heap_setCell w2 ⟨b, 1, none⟩ _ bs hsb).trans G4.out
  · exact ((F.out.then_ F2.out fun j _ h => .inr h).setCell (p := ⟨b, 1, none⟩) (.inl (.inl rfl)) _).drew
end Go.Proofs.Ytacfhjcchoefjaa
