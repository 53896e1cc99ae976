/-
  The contracts of package twice (layer 6): Sum is the digest of the digest, Check its first four bytes, Fits asks whether a text is it. Conditions: a text has at most 2^20 bytes.
-/
import Derived.Test.YtnjiflkbgpbchaaShaC
import Derived.Test.YtnjiflkbgpbchaaShaH
import Derived.Test.YtnjiflkbgpbchaaHeld
namespace Go.Proofs.Ytnjiflkbgpbchaa
open Go.RowKit Go.Sort

theorem dig_length (s : ByteArray) : (digL s).length = 32 := by
  rw [digL, byts_length _ 8 (by rw [chain_length _ _ _ first_length]; exact Nat.le_refl _)]
/-- The digest of the digest; the checksum. -/
def dig2 (s : ByteArray) : List UInt8 := digL (bs (digL s))
def chk (s : ByteArray) : List UInt8 := (dig2 s).take 4
theorem dig2_length (s : ByteArray) : (dig2 s).length = 32 := dig_length _
theorem chk_length (s : ByteArray) : (chk s).length = 4 := by rw [chk, List.length_take, dig2_length]; rfl
/-- The digest taken j times. -/
def digs_ (s : ByteArray) : Nat → ByteArray
  | 0 => s
  | j + 1 => bs (digL (digs_ s j))
theorem digs_two (s : ByteArray) : digs_ s 2 = bs (dig2 s) := rfl
theorem digs_size (s : ByteArray) (hs : s.size ≤ 1048576) : ∀ j, (digs_ s j).size ≤ 1048576
  | 0 => hs
  | j + 1 => by rw [digs_, bs_size, dig_length]; omega

theorem sum2_any (s : ByteArray) (w : World) (hs : s.size ≤ 1048576) :
    Calls Try.prog 7 #[.string s] w fun e w' => e = .returned (.string (bs (dig2 s))) ∧ Below w.heap.size w w' := by
  have HZ := Lib.hid (digs_size s hs)
  have HE := Lib.hid (digs_two s)
  clear hs
  go_enter Try.func7, Try.ntmps7
  go_wp2
  go_loopw [0, 3] (fun v0 v3 wr => ∃ j : Nat, j ≤ 2 ∧ v0 = .string (digs_ s j) ∧ v3 = .int .i64 j ∧ Below w.heap.size w wr) (fun _ v3 _ => 2 - (intOf v3).toNat)
  case atStart => exact ⟨0, by omega, rfl, rfl, Below.refl _ _⟩
  case round =>
    obtain ⟨j, hj, rfl, rfl, hb⟩ := hrel
    have B := Lib.hid hb
    clear hb
    by_cases hlt : j < 2
    · have t1 : decide ((j : Int) < 2) = true := by simp; omega
      have HJ := Lib.hid (sum_any (digs_ s j))
      obtain ⟨x, hx⟩ : ∃ x, x = digs_ s j := ⟨_, rfl⟩
      have hz : x.size ≤ 1048576 := by rw [hx]; exact HZ.out j
      have hn : bs (digL x) = digs_ s (j + 1) := by rw [hx]; rfl
      rw [← hx] at HJ ⊢
      have HN := Lib.hid hn
      clear hx hn
      go_wp2_with fail
      refine (HJ.out _ (tab_any _) hz).mono ?_
      rw [HN.out]
      rintro e w1 ⟨rfl, b1⟩
      have B1 := Lib.hid (below_then B.out b1)
      clear b1
      go_wp2
      go_roundw
      case rel => exact ⟨j + 1, by omega, rfl, by go_num, B1.out⟩
      case measure => (simp [intOf]) <;> omega
    · obtain rfl : j = 2 := by omega
      rw [HE.out]
      clear hlt
      go_wp2
      go_ret
      exact ⟨rfl, B.out⟩

theorem check_any (s : ByteArray) (w : World) (hs : s.size ≤ 1048576) :
    Calls Try.prog 10 #[.string s] w fun e w' => e = .returned (.string (bs (chk s))) ∧ Below w.heap.size w w' := by
  have hx : (bs (dig2 s)).extract 0 4 = bs (chk s) := by rw [bs_extract]; rfl
  have hz : (bs (dig2 s)).size = 32 := by rw [bs_size, dig2_length]
  have HS := Lib.hid (sum2_any s)
  obtain ⟨D, hD⟩ : ∃ D, D = bs (dig2 s) := ⟨_, rfl⟩
  rw [← hD] at hx hz HS
  clear hD
  go_enter Try.func10, Try.ntmps10
  go_wp2_with fail
  refine (HS.out _ hs).mono ?_
  rintro e w1 ⟨rfl, b1⟩
  have B1 := Lib.hid b1
  clear b1
  go_wp2
  go_ret
  exact ⟨rfl, B1.out⟩

theorem fits_any (s sum : ByteArray) (w : World) (hs : s.size ≤ 1048576) :
    Calls Try.prog 11 #[.string s, .string sum] w fun e w' => e = .returned (.bool (decide (sum = bs (chk s)))) ∧ Below w.heap.size w w' := by
  go_enter Try.func11, Try.ntmps11
  go_wp2_with fail
  refine (check_any s _ hs).mono ?_
  rintro e w1 ⟨rfl, b1⟩
  have B1 := Lib.hid b1
  clear b1
  go_wp2
  go_ret
  have hb : (sum.toList == (bs (chk s)).toList) = decide (sum = bs (chk s)) := by
    rw [Bool.eq_iff_iff, beq_iff_eq, decide_eq_true_eq, ByteArray.toList_eq, ByteArray.toList_eq]
    exact ⟨fun h => by rw [← bs_of sum, h, bs_of], fun h => by rw [h]⟩
  rw [← hb]
  exact ⟨rfl, B1.out⟩

theorem refCheck_any (s : ByteArray) (X : Array Value) (w : World) (hX : X = (KEY.map fun (n : Nat) => Value.int .u32 (n : Int)).toArray) (hs : s.size ≤ 1048576) :
    Calls Try.prog 8 #[.agg X, .string s] w fun e w' => e = .returned (.string (bs (chk s))) ∧ Below w.heap.size w w' := by
  have hx : (bs (dig2 s)).extract 0 4 = bs (chk s) := by rw [bs_extract]; rfl
  have hz : (bs (dig2 s)).size = 32 := by rw [bs_size, dig2_length]
  have h1 : (bs (digL s)).size ≤ 1048576 := by rw [bs_size, dig_length]; omega
  have H1 := Lib.hid (fun w => refDigest_any s X w hX hs)
  have H2 := Lib.hid (fun w => refDigest_any (bs (digL s)) X w hX h1)
  have h2 : bs (digL (bs (digL s))) = bs (dig2 s) := rfl
  rw [h2] at H2
  obtain ⟨D, hD⟩ : ∃ D, D = bs (dig2 s) := ⟨_, rfl⟩
  obtain ⟨E, hE⟩ : ∃ E, E = bs (digL s) := ⟨_, rfl⟩
  rw [← hD] at hx hz H2
  rw [← hE] at H1 H2
  have hX2 : Value.agg X = wordsOf .u32 KEY := by rw [hX]; rfl
  have HX := Lib.hid hX
  have HX2 := Lib.hid hX2
  clear hD hE h1 h2 hX hX2 hs
  go_enter Try.func8, Try.ntmps8
  go_wp2_with fail
  obtain ⟨g, hg⟩ : ∃ g, g = w.heap.size := ⟨_, rfl⟩
  have eK : Nums .u32 27 (w.alloc (.cells X 27)).drew g KEY := by rw [hg, HX.out]; exact (Nums.new .u32 _ w KEY).drew
  have eF : Below w.heap.size w (w.alloc (.cells X 27)).drew := ((Below.refl _ w).alloc (Nat.le_refl _) _).drew
  rw [← hg]
  have RE := Lib.hid (And.intro eK eF)
  clear eK eF hg
  refine wp_region_held_drew (S := fun W => Nums .u32 27 W g KEY) (by kernel_rfl) RE.out.1 (fun hHeld => ?_)
  refine held_take 0 5 (v := .agg X) rfl rfl (by kernel_rfl) (by kernel_rfl) (by kernel_rfl) (fun _ _ _ h => h) (by rfl) (fun W hW => exec_load_nums 27 (.tmp 2) rfl rfl hW Try.underlying27 rfl (by rw [key_length]; kernel_rfl) _ HX2.out) hHeld ?_
  try simp only [Act.put, List.setIfInBounds_toArray, List.set_cons_zero, List.set_cons_succ]
  refine held_take 1 6 (v := .agg X) rfl rfl (by kernel_rfl) (by kernel_rfl) (by kernel_rfl) (fun _ _ _ h => h) (by rfl) (fun W hW => exec_load_nums 27 (.tmp 2) rfl rfl hW Try.underlying27 rfl (by rw [key_length]; kernel_rfl) _ HX2.out) hHeld ?_
  try simp only [Act.put, List.setIfInBounds_toArray, List.set_cons_zero, List.set_cons_succ]
  refine held_take 2 7 (v := ?v2) rfl rfl (by kernel_rfl) (by kernel_rfl) (by kernel_rfl) (fun _ _ _ h => h) (by rfl) ?hy2 (by assumption) ?rest2
  case hy2 => (intro w hSw; (try dsimp only at hSw); go_simp; try with_reducible rfl)
  try simp only [Act.put, List.setIfInBounds_toArray, List.set_cons_zero, List.set_cons_succ]
  refine wpAnyH_ready (rs := [3]) (by kernel_rfl) (by simp) ?_
  refine AllReadyH.cons rfl (fun K hK => ?_) AllReadyH.nil
  go_simp
  refine (H1.out _).mono ?_
  rintro e w1 ⟨rfl, b1⟩
  have n1 := RE.out.1.bel b1
  have R1 := Lib.hid (below_then RE.out.2 b1)
  clear b1 hHeld
  refine hK.out _ _ n1 (fun hHeld => ?_)
  clear hK K n1
  try simp only [Act.put, List.setIfInBounds_toArray, List.set_cons_zero, List.set_cons_succ]
  refine wpAnyH_ready (rs := [4]) (by kernel_rfl) (by simp) ?_
  refine AllReadyH.cons rfl (fun K hK => ?_) AllReadyH.nil
  go_simp
  refine (H2.out _).mono ?_
  rintro e w2 ⟨rfl, b2⟩
  have n2 := Nums.bel hHeld b2
  have R2 := Lib.hid (below_then R1.out b2)
  clear b2 hHeld
  refine hK.out _ _ n2 (fun hHeld => ?_)
  clear hK K n2
  try simp only [Act.put, List.setIfInBounds_toArray, List.set_cons_zero, List.set_cons_succ]
  refine held_take 5 10 (v := ?v5) rfl rfl (by kernel_rfl) (by kernel_rfl) (by kernel_rfl) (fun _ _ _ h => h) (by rfl) ?hy5 (by assumption) ?rest5
  case hy5 => (intro w hSw; (try dsimp only at hSw); go_simp; try with_reducible rfl)
  try simp only [Act.put, List.setIfInBounds_toArray, List.set_cons_zero, List.set_cons_succ]
  refine held_take 6 4 (v := ?v6) rfl rfl (by kernel_rfl) (by kernel_rfl) (by kernel_rfl) (fun _ _ _ h => h) (by rfl) ?hy6 (by assumption) ?rest6
  case hy6 => (intro w hSw; (try dsimp only at hSw); go_simp; try with_reducible rfl)
  try simp only [Act.put, List.setIfInBounds_toArray, List.set_cons_zero, List.set_cons_succ]
  refine wpAnyH_done (by kernel_rfl) ?_ _
  clear hHeld
  go_wp2
  go_ret
  exact ⟨rfl, R2.out⟩
end Go.Proofs.Ytnjiflkbgpbchaa
