/-
  The contracts of package compact's Read and of the document's own Read over this seat's translation. Conditions: the readers' own blocks, a text of at most 2^47 bytes, a number below 2^64; the table of sizes is in memory as the program's text lays it.
-/
import Derived.Test.YtpneccbeccgfmaaDoorComL
import Derived.Test.YtpneccbeccgfmaaDoorCurN
import Derived.Test.YtpneccbeccgfmaaDoorRefA
namespace Go.Proofs.YtpneccbeccgfmaaDoor
open Go.RowKit Go.Sort

/-- A reader of s at place k with fault e, asked for a number of at most m, answers v, and stands then at k' with fault e'. -/
def Reads (s : ByteArray) (k e m v k' e' : Nat) : Prop :=
  (e ≠ 0 ∧ v = 0 ∧ k' = k ∧ e' = e) ∨
  (e = 0 ∧ ∃ f, 0 < f ∧ cnx (s.data.toList.drop k) = (0, 0, f) ∧ v = 0 ∧ k' = k ∧ e' = f) ∨
  (e = 0 ∧ ∃ n c, cnx (s.data.toList.drop k) = (n, c, 0) ∧ m < n ∧ v = 0 ∧ k' = k ∧ e' = 5) ∨
  (e = 0 ∧ ∃ n c, cnx (s.data.toList.drop k) = (n, c, 0) ∧ n ≤ m ∧ v = n ∧ k' = k + c ∧ e' = 0)

theorem reads_total (s : ByteArray) (k e m : Nat) : ∃ v k' e', Reads s k e m v k' e' := by
  by_cases he : e = 0
  · obtain ⟨n, c, f, hr⟩ : ∃ n c f, cnx (s.data.toList.drop k) = (n, c, f) := ⟨_, _, _, rfl⟩
    rcases cnx_err (s.data.toList.drop k) with h | h | h
    · rw [hr] at h
      have h0 : f = 0 := h
      subst h0
      by_cases hm : m < n
      · exact ⟨0, k, 5, .inr (.inr (.inl ⟨he, n, c, hr, hm, rfl, rfl, rfl⟩))⟩
      · exact ⟨n, k + c, 0, .inr (.inr (.inr ⟨he, n, c, hr, by omega, rfl, rfl, rfl⟩))⟩
    · exact ⟨0, k, 2, .inr (.inl ⟨he, 2, by omega, h, rfl, rfl, rfl⟩)⟩
    · exact ⟨0, k, 3, .inr (.inl ⟨he, 3, by omega, h, rfl, rfl, rfl⟩)⟩
  · exact ⟨0, k, e, .inl ⟨he, rfl, rfl, rfl⟩⟩

theorem reads_place {s : ByteArray} {k e m v k' e' : Nat} (h : Reads s k e m v k' e') (hk : k ≤ s.size) : k' ≤ s.size := by
  rcases h with ⟨_, _, rfl, _⟩ | ⟨_, f, _, _, _, rfl, _⟩ | ⟨_, n, c, _, _, _, rfl, _⟩ | ⟨_, n, c, h, _, _, rfl, _⟩
  · exact hk
  · exact hk
  · exact hk
  · have := (cnx_told _ n c h).2.1
    simp at this
    omega
theorem reads_value {s : ByteArray} {k e m v k' e' : Nat} (h : Reads s k e m v k' e') : v < 18446744073709551616 := by
  rcases h with ⟨_, rfl, _⟩ | ⟨_, f, _, _, rfl, _⟩ | ⟨_, n, c, _, _, rfl, _⟩ | ⟨_, n, c, h, _, rfl, _⟩
  · omega
  · omega
  · omega
  · exact (cnx_told _ _ c h).2.2.2.2

/-- What is told of the nine bytes ahead is told of all that are left. -/
theorem cnx_ahead (s : ByteArray) (k : Nat) (hk : k ≤ s.size) : cnx (s.extract k (k + min 9 (s.size - k))).data.toList = cnx (s.data.toList.drop k) := by
  rw [← cnx_nine (s.data.toList.drop k), Lib.extract_data]
  congr 1
  rw [show k + min 9 (s.size - k) - k = min 9 (s.size - k) by omega]
  by_cases h : 9 ≤ s.size - k
  · rw [Nat.min_eq_left h]
  · rw [Nat.min_eq_right (by omega), List.take_of_length_le (i := 9) (by simp; omega), List.take_of_length_le (by simp)]

theorem compactRead_nil (m : Nat) (w : World) :
    Calls Tryd.prog 13 #[.pointer none, .int .u64 m] w fun e w' => e = .returned (.int .u64 0) ∧ Below w.heap.size w w' := by
  go_enter Tryd.func13, Tryd.ntmps13
  go_wp2_with fail
  refine (ahead_nil 9 _).mono ?_
  rintro e w1 ⟨rfl, b1⟩
  have B1 := Lib.hid b1
  clear b1
  go_wp2_with fail
  refine (next_none _).mono ?_
  rintro e w2 ⟨rfl, b2⟩
  have B2 := Lib.hid (below_then B1.out b2)
  clear b2
  go_wp2_with fail
  refine (fail_nil 2 _).mono ?_
  rintro e w3 ⟨rfl, b3⟩
  have B3 := Lib.hid (below_then B2.out b3)
  clear b3
  go_wp2
  go_ret
  exact ⟨rfl, B3.out⟩

theorem compactRead_any (b : Nat) (s : ByteArray) (k e m v k' e' : Nat) (hr : Reads s k e m v k' e') (w : World) (ht : Tab w) (hb : b ≠ 0) (h : Rd w b s k e) (hk : k ≤ s.size) (hs : s.size ≤ 140737488355328) :
    Calls Tryd.prog 13 #[.pointer (some ⟨b, 0, none⟩), .int .u64 m] w fun x w' => x = .returned (.int .u64 v) ∧ Rd w' b s k' e' ∧ Fr (fun j => j = b) w w' := by
  have H := Lib.hid h
  have HT := Lib.hid ht
  have hb2 : ¬ 0 = b := fun e => hb e.symm
  clear h ht
  rcases hr with ⟨he, rfl, rfl, rfl⟩ | ⟨he, f, hf, hn, rfl, rfl, rfl⟩ | ⟨he, n, c, hn, hm, rfl, rfl, rfl⟩ | ⟨he, n, c, hn, hm, rfl, rfl, rfl⟩
  · have he2 : (e' : Int) ≠ 0 := by omega
    have HE := Lib.hid he2
    clear he2 he
    go_enter Tryd.func13, Tryd.ntmps13
    go_wp2_with fail
    refine (ahead_fault b s k' e' _ H.out HE.out 9).mono ?_
    rintro x w1 ⟨rfl, r1, f1⟩
    have R1 := Lib.hid r1
    have F1 := Lib.hid f1
    clear r1 f1
    go_wp2_with fail
    refine (next_is _ 0 0 2 rfl _ (HT.out.frame F1.out hb2)).mono ?_
    rintro x w2 ⟨rfl, b2⟩
    have R2 := Lib.hid (R1.out.keep (b2.block b R1.out.lt))
    have F2 := Lib.hid (F1.out.trans (Fr.ofBelow b2))
    clear b2
    go_wp2_with fail
    refine (fail_skip b s k' e' _ R2.out HE.out 2).mono ?_
    rintro x w3 ⟨rfl, r1, f1⟩
    have R3 := Lib.hid r1
    have F3 := Lib.hid (F2.out.trans f1)
    clear r1 f1
    go_wp2
    go_ret
    exact ⟨rfl, R3.out, F3.out⟩
  · subst he
    rw [← cnx_ahead s k' hk] at hn
    have HN := Lib.hid hn
    have t1 : ((e' : Int) == 0) = false := by simp; omega
    have t2 : ((e' : Int) != 0) = true := by simp; omega
    clear hn hf
    go_enter Tryd.func13, Tryd.ntmps13
    go_wp2_with fail
    refine (ahead_ok b s k' _ H.out hk hs 9 (by omega)).mono ?_
    rintro x w1 ⟨rfl, r1, f1⟩
    have R1 := Lib.hid r1
    have F1 := Lib.hid f1
    clear r1 f1
    go_wp2_with fail
    refine (next_is _ 0 0 e' HN.out _ (HT.out.frame F1.out hb2)).mono ?_
    rintro x w2 ⟨rfl, b2⟩
    have R2 := Lib.hid (R1.out.keep (b2.block b R1.out.lt))
    have F2 := Lib.hid (F1.out.trans (Fr.ofBelow b2))
    clear b2
    go_wp2_with fail
    refine (fail_do b s k' _ R2.out e').mono ?_
    rintro x w3 ⟨rfl, r1, f1⟩
    have R3 := Lib.hid r1
    have F3 := Lib.hid (F2.out.trans f1)
    clear r1 f1
    go_wp2
    go_ret
    exact ⟨rfl, R3.out, F3.out⟩
  · subst he
    rw [← cnx_ahead s k' hk] at hn
    have HN := Lib.hid hn
    have t1 : (m : Int) < (n : Int) := by omega
    clear hn
    go_enter Tryd.func13, Tryd.ntmps13
    go_wp2_with fail
    refine (ahead_ok b s k' _ H.out hk hs 9 (by omega)).mono ?_
    rintro x w1 ⟨rfl, r1, f1⟩
    have R1 := Lib.hid r1
    have F1 := Lib.hid f1
    clear r1 f1
    go_wp2_with fail
    refine (next_is _ n c 0 HN.out _ (HT.out.frame F1.out hb2)).mono ?_
    rintro x w2 ⟨rfl, b2⟩
    have R2 := Lib.hid (R1.out.keep (b2.block b R1.out.lt))
    have F2 := Lib.hid (F1.out.trans (Fr.ofBelow b2))
    clear b2
    go_wp2_with fail
    refine (fail_do b s k' _ R2.out 5).mono ?_
    rintro x w3 ⟨rfl, r1, f1⟩
    have R3 := Lib.hid r1
    have F3 := Lib.hid (F2.out.trans f1)
    clear r1 f1
    go_wp2
    go_ret
    exact ⟨rfl, R3.out, F3.out⟩
  · subst he
    have hc : k + c ≤ s.size := reads_place (e := 0) (m := m) (v := v) (e' := 0) (.inr (.inr (.inr ⟨rfl, v, c, hn, hm, rfl, rfl, rfl⟩))) hk
    rw [← cnx_ahead s k hk] at hn
    have HN := Lib.hid hn
    have t1 : ¬ (m : Int) < (v : Int) := by omega
    clear hn
    go_enter Tryd.func13, Tryd.ntmps13
    go_wp2_with fail
    refine (ahead_ok b s k _ H.out hk hs 9 (by omega)).mono ?_
    rintro x w1 ⟨rfl, r1, f1⟩
    have R1 := Lib.hid r1
    have F1 := Lib.hid f1
    clear r1 f1
    go_wp2_with fail
    refine (next_is _ v c 0 HN.out _ (HT.out.frame F1.out hb2)).mono ?_
    rintro x w2 ⟨rfl, b2⟩
    have R2 := Lib.hid (R1.out.keep (b2.block b R1.out.lt))
    have F2 := Lib.hid (F1.out.trans (Fr.ofBelow b2))
    clear b2
    go_wp2_with fail
    refine (take_ok b s k _ R2.out hs c hc).mono ?_
    rintro x w3 ⟨rfl, r1, f1⟩
    have R3 := Lib.hid r1
    have F3 := Lib.hid (F2.out.trans f1)
    clear r1 f1
    go_wp2
    go_ret
    exact ⟨rfl, R3.out, F3.out⟩

theorem refRead_any (b : Nat) (s : ByteArray) (k e m v k' e' : Nat) (hr : Reads s k e m v k' e') (w : World) (h : Xd w b s k e) (hk : k ≤ s.size) (hs : s.size ≤ 140737488355328) :
    Calls Tryd.prog 14 #[.pointer (some ⟨b, 0, none⟩), .int .u64 m] w fun x w' => x = .returned (.int .u64 v) ∧ Xd w' b s k' e' ∧ Fr (fun j => j = b) w w' := by
  have H := Lib.hid h
  have c0 := h.text
  have c1 := h.place
  have c2 := h.fault
  have z1 := h.free 1
  have z2 := h.free 2
  clear h
  have hx : (s.extract k s.size).data.toList = s.data.toList.drop k := by rw [Lib.extract_data, List.take_of_length_le (by simp)]
  have i0 : (0 : Int) ≤ (k : Int) := by omega
  have i1 : (k : Int) ≤ (s.size : Int) := by omega
  rcases hr with ⟨he, rfl, rfl, rfl⟩ | ⟨he, f, hf, hn, rfl, rfl, rfl⟩ | ⟨he, n, c, hn, hm, rfl, rfl, rfl⟩ | ⟨he, n, c, hn, hm, rfl, rfl, rfl⟩
  · have he2 : ((e' : Int) != 0) = true := by simp; omega
    clear he
    go_enter Tryd.func14, Tryd.ntmps14
    go_wp2
    go_ret
    exact ⟨rfl, H.out, Fr.refl _ _⟩
  · subst he
    rw [← hx] at hn
    have HN := Lib.hid hn
    have t1 : ((e' : Int) == 0) = false := by simp; omega
    have t2 : ((e' : Int) != 0) = true := by simp; omega
    clear hn hf hx
    go_enter Tryd.func14, Tryd.ntmps14
    go_wp2_with fail
    go_region_held_law (fun w' => w'.cell? ⟨b, 0, none⟩ = some (.string s) ∧ w'.cell? ⟨b, 1, none⟩ = some (.int .i64 k')) (first | exact ⟨c0, c1⟩ | exact ⟨d0, d1⟩) (first | (go_at_call 10; refine (refNext_is _ 0 0 e' HN.out _).mono ?_; rintro x w2 ⟨rfl, b2⟩; have X2 := H.out.keep (b2.block b H.out.lt); have d0 := X2.text; have d1 := X2.place))
    have d2 := X2.fault
    have y1 := X2.free 1
    have y2 := X2.free 2
    have F2 := Lib.hid (Fr.ofBelow (S := fun j => j = b) b2)
    have HX := Lib.hid X2
    clear b2 X2 c0 c1 c2 z1 z2
    go_wp2
    go_ret
    exact ⟨rfl, HX.out.setFault e', Fr.setCell (S := fun j => j = b) (a := w) (w := w2) ⟨F2.out.os, F2.out.tape, F2.out.output, F2.out.size, F2.out.block⟩ (p := ⟨b, 2, none⟩) (.inl rfl) _⟩
  · subst he
    rw [← hx] at hn
    have HN := Lib.hid hn
    have t1 : (m : Int) < (n : Int) := by omega
    clear hn hx
    go_enter Tryd.func14, Tryd.ntmps14
    go_wp2_with fail
    go_region_held_law (fun w' => w'.cell? ⟨b, 0, none⟩ = some (.string s) ∧ w'.cell? ⟨b, 1, none⟩ = some (.int .i64 k')) (first | exact ⟨c0, c1⟩ | exact ⟨d0, d1⟩) (first | (go_at_call 10; refine (refNext_is _ n c 0 HN.out _).mono ?_; rintro x w2 ⟨rfl, b2⟩; have X2 := H.out.keep (b2.block b H.out.lt); have d0 := X2.text; have d1 := X2.place))
    have d2 := X2.fault
    have y1 := X2.free 1
    have y2 := X2.free 2
    have F2 := Lib.hid (Fr.ofBelow (S := fun j => j = b) b2)
    have HX := Lib.hid X2
    clear b2 X2 c0 c1 c2 z1 z2
    go_wp2
    go_ret
    exact ⟨rfl, HX.out.setFault 5, Fr.setCell (S := fun j => j = b) (a := w) (w := w2) ⟨F2.out.os, F2.out.tape, F2.out.output, F2.out.size, F2.out.block⟩ (p := ⟨b, 2, none⟩) (.inl rfl) _⟩
  · subst he
    have hc : k + c ≤ s.size := reads_place (e := 0) (m := m) (v := v) (e' := 0) (.inr (.inr (.inr ⟨rfl, v, c, hn, hm, rfl, rfl, rfl⟩))) hk
    rw [← hx] at hn
    have HN := Lib.hid hn
    have t1 : ¬ (m : Int) < (v : Int) := by omega
    have i4 : IntKind.i64.wrap ((k : Int) + (c : Int)) = (k : Int) + (c : Int) := IntWalk.i64_in _ (by omega)
    clear hn hx
    go_enter Tryd.func14, Tryd.ntmps14
    go_wp2_with fail
    go_region_held_law (fun w' => w'.cell? ⟨b, 0, none⟩ = some (.string s) ∧ w'.cell? ⟨b, 1, none⟩ = some (.int .i64 k)) (first | exact ⟨c0, c1⟩ | exact ⟨d0, d1⟩) (first | (go_at_call 10; refine (refNext_is _ v c 0 HN.out _).mono ?_; rintro x w2 ⟨rfl, b2⟩; have X2 := H.out.keep (b2.block b H.out.lt); have d0 := X2.text; have d1 := X2.place))
    have d2 := X2.fault
    have y1 := X2.free 1
    have y2 := X2.free 2
    have F2 := Lib.hid (Fr.ofBelow (S := fun j => j = b) b2)
    have HX := Lib.hid X2
    clear b2 X2 c0 c1 c2 z1 z2
    go_wp2
    go_ret
    exact ⟨rfl, HX.out.setPlace (k + c), Fr.setCell (S := fun j => j = b) (a := w) (w := w2) ⟨F2.out.os, F2.out.tape, F2.out.output, F2.out.size, F2.out.block⟩ (p := ⟨b, 1, none⟩) (.inl rfl) _⟩
end Go.Proofs.YtpneccbeccgfmaaDoor
