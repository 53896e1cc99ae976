/-
  For every text and byte SnapPlain answers true over this seat's translation. Conditions: a text has at most maxLen bytes, a byte is below 256.
-/
import Derived.Test.YtacfhjcchoefjaaSnpL
import Derived.Test.YtacfhjcchoefjaaSnpP
namespace Go.Proofs.Ytacfhjcchoefjaa
open Go.RowKit Go.Sort

theorem two_bytes (W : World) (x y : Int) (h0 : 0 ≤ x) (h1 : x < 256) (h2 : 0 ≤ y) (h3 : y < 256) :
    (convert 34 9 (.slice (some ⟨W.heap.size, 0, none⟩) 2 2)).run Try.prog (W.alloc (.cells #[.int .u8 x, .int .u8 y] 5)) = .ok (.string (bs [UInt8.ofNat x.toNat, UInt8.ofNat y.toNat])) (W.alloc (.cells #[.int .u8 x, .int .u8 y] 5)) := by
  refine conv8 (l := [UInt8.ofNat x.toNat, UInt8.ofNat y.toNat]) (row8_of_block (heap_alloc_new W _) (fun i hi => ?_) (fun i _ => by omega)) rfl 2
  have : i = 0 ∨ i = 1 := by simp at hi; omega
  rcases this with rfl | rfl
  · simp; omega
  · simp; omega

set_option maxRecDepth 100000 in
theorem snapPlain_out (s : ByteArray) (long : Nat) (w : World) (hs : s.size = 0 ∨ 250 < s.size) (hm : s.size ≤ maxLen) :
    Calls Try.prog 5 #[.string s, .int .u8 long] w fun e w' => e = .returned (.bool true) ∧ Below w.heap.size w w' := by
  unfold maxLen at hm
  rcases hs with hs | hs
  · go_enter Try.func5, Try.ntmps5
    go_wp2_with fail
    refine (alive_any _).mono ?_
    rintro e w1 ⟨rfl, b1⟩
    have B1 := Lib.hid b1
    clear b1
    go_wp2
    go_ret
    exact ⟨rfl, B1.out⟩
  · have t3 : decide ((250 : Int) < (s.size : Int)) = true := by simp; omega
    have t4 : ((s.size : Int) == 0) = false := by rw [beq_eq_false_iff_ne]; omega
    go_enter Try.func5, Try.ntmps5
    go_wp2_with fail
    refine (alive_any _).mono ?_
    rintro e w1 ⟨rfl, b1⟩
    have B1 := Lib.hid b1
    clear b1
    go_wp2
    go_ret
    exact ⟨rfl, B1.out⟩

set_option maxRecDepth 100000 in
theorem snapPlain_short (s : ByteArray) (long : Nat) (w : World) (hl : long < 256) (h0 : 0 < s.size) (h6 : s.size ≤ 60) (hk : long % 5 = 0) :
    Calls Try.prog 5 #[.string s, .int .u8 long] w fun e w' => e = .returned (.bool true) ∧ Below w.heap.size w w' := by
  have t3 : decide ((250 : Int) < (s.size : Int)) = false := by simp; omega
  have t4 : ((s.size : Int) == 0) = false := by rw [beq_eq_false_iff_ne]; omega
  obtain ⟨n, hn⟩ : ∃ n, s.size = n + 1 := ⟨s.size - 1, by omega⟩
  obtain ⟨y1, hy1⟩ : ∃ y1, 4 * n = y1 := ⟨_, rfl⟩
  have hy2 : y1 < 256 := by omega
  have i1 : (s.size : Int) - 1 = (n : Int) := by omega
  have i2 : (long : Int) % 5 = 0 := by omega
  have i3 : ¬ (60 : Int) ≤ (n : Int) := by omega
  have i4 : ¬ (128 : Int) ≤ (s.size : Int) := by omega
  have i5 : 4 * (n : Int) = (y1 : Int) := by omega
  obtain ⟨X, hX⟩ : ∃ X, X = UInt8.ofNat y1 := ⟨_, rfl⟩
  obtain ⟨Z, hZ⟩ : ∃ Z, Z = UInt8.ofNat s.size := ⟨_, rfl⟩
  have cv1 : ∀ W : World, (convert 34 9 (.slice (some ⟨W.heap.size, 0, none⟩) 1 1)).run Try.prog (W.alloc (.cells #[.int .u8 (y1 : Int)] 5)) = .ok (.string (bs [X])) (W.alloc (.cells #[.int .u8 (y1 : Int)] 5)) := fun W => by
    rw [hX]; exact one_byte W y1 (by omega) (by omega)
  have cv2 : ∀ W : World, (convert 34 9 (.slice (some ⟨W.heap.size, 0, none⟩) 1 1)).run Try.prog (W.alloc (.cells #[.int .u8 (s.size : Int)] 5)) = .ok (.string (bs [Z])) (W.alloc (.cells #[.int .u8 (s.size : Int)] 5)) := fun W => by
    rw [hZ]; exact one_byte W s.size (by omega) (by omega)
  obtain ⟨T, hT⟩ : ∃ T, T = bs [Z] ++ bs [X] ++ s := ⟨_, rfl⟩
  have hsl : s.data.toList.length = s.size := by simp
  have hTl : T.data.toList = puts s.size ++ (X :: s.data.toList) := by
    rw [hT, puts_one s.size (by omega), ← hZ, ← bs_of s, bs_append, bs_append, bs_list, bs_list]
    rfl
  have hup : upk T.data.toList 250 = (s.data.toList, 0) := by
    rw [hTl, upk_puts s.size _ (by omega) 250 (by omega)]
    have := els_short s.data.toList (by omega) (by omega)
    rw [hsl, show s.size - 1 = n by omega, hy1, ← hX] at this
    exact this
  have hsz : szs T.data.toList = (s.size, (puts s.size).length, 0) := by rw [hTl]; exact szs_puts _ _ (by omega)
  have hTz : T.size ≤ 70368744177664 := by
    have := congrArg List.length hTl
    rw [puts_one s.size (by omega)] at this
    simp at this
    omega
  have hzX : (bs [X]).size ≤ 1 := Nat.le_refl _
  have hzZ : (bs [Z]).size ≤ 1 := Nat.le_refl _
  have HU := Lib.hid (And.intro hT.symm (And.intro hup (And.intro hsz hTz)))
  clear hn hy1 hX hZ hT hTl hup hsz hTz hsl hk
  go_enter Try.func5, Try.ntmps5
  go_wp2_with fail
  refine (alive_any _).mono ?_
  rintro e w1 ⟨rfl, b1⟩
  have B1 := Lib.hid b1
  clear b1
  go_upto_region 7 with fail
  have B2 := Lib.hid (B1.out.alloc B1.out.size (.cells #[.int .u8 (y1 : Int)] 5))
  generalize w1.alloc (.cells #[.int .u8 (y1 : Int)] 5) = w2 at *
  clear cv1
  go_upto_region 16 with fail
  have B3 := Lib.hid (B2.out.alloc B2.out.size (.cells #[.int .u8 (s.size : Int)] 5))
  generalize w2.alloc (.cells #[.int .u8 (s.size : Int)] 5) = w3 at *
  clear cv2
  go_wp2_with fail
  rw [HU.out.1]
  refine (unpack_nil T 250 HU.out.2.2.2 (fun _ => .inl (by rw [HU.out.2.2.1]; show s.size ≤ 900000; omega)) _).mono ?_
  rw [HU.out.2.1]
  simp only [bs_of]
  rintro e w9 ⟨rfl, b9⟩
  have B9 := Lib.hid (below_then (B3.out) b9)
  clear b9
  go_wp2
  go_ret
  exact ⟨rfl, B9.out⟩

set_option maxRecDepth 100000 in
theorem snapPlain_k_small (s : ByteArray) (long : Nat) (w : World) (hl : long < 256) (h0 : 0 < s.size) (h2 : s.size ≤ 250) (hk : 0 < long % 5) (h128 : s.size < 128) :
    Calls Try.prog 5 #[.string s, .int .u8 long] w fun e w' => e = .returned (.bool true) ∧ Below w.heap.size w w' := by
  have t3 : decide ((250 : Int) < (s.size : Int)) = false := by simp; omega
  have t4 : ((s.size : Int) == 0) = false := by rw [beq_eq_false_iff_ne]; omega
  obtain ⟨n, hn⟩ : ∃ n, s.size = n + 1 := ⟨s.size - 1, by omega⟩
  obtain ⟨y1, hy1⟩ : ∃ y1, 4 * n % 256 = y1 := ⟨_, rfl⟩
  obtain ⟨k, hk1⟩ : ∃ k, long % 5 = k := ⟨_, rfl⟩
  obtain ⟨K, hK⟩ : ∃ K, max k 1 = K := ⟨_, rfl⟩
  have hK1 : 1 ≤ K := by omega
  have hK4 : K ≤ 4 := by omega
  obtain ⟨y2, hy2⟩ : ∃ y2, 4 * (59 + K) = y2 := ⟨_, rfl⟩
  have hy3 : y2 < 256 := by omega
  have hnb : n < 250 := by omega
  have i1 : (s.size : Int) - 1 = (n : Int) := by omega
  have i2 : (long : Int) % 5 = (k : Int) := by omega
  have i3 : (0 : Int) < (k : Int) := by omega
  have i4 : ¬ (128 : Int) ≤ (s.size : Int) := by omega
  have i5 : 4 * (n : Int) % 256 = (y1 : Int) := by omega
  have i6 : (if (k : Int) < 1 then 1 else (k : Int)) = (K : Int) := by split <;> omega
  have i7 : max (k : Int) 1 = (K : Int) := by omega
  have i8 : 4 * (59 + (K : Int)) = (y2 : Int) := by omega
  have hyb : y1 < 256 := by omega
  obtain ⟨X, hX⟩ : ∃ X, X = UInt8.ofNat y2 := ⟨_, rfl⟩
  obtain ⟨Y, hY⟩ : ∃ Y, Y = UInt8.ofNat n := ⟨_, rfl⟩
  obtain ⟨Z, hZ⟩ : ∃ Z, Z = UInt8.ofNat s.size := ⟨_, rfl⟩
  obtain ⟨A, hA⟩ : ∃ A, A = bs [UInt8.ofNat y1] := ⟨_, rfl⟩
  have cv1 : ∀ W : World, (convert 34 9 (.slice (some ⟨W.heap.size, 0, none⟩) 1 1)).run Try.prog (W.alloc (.cells #[.int .u8 (y1 : Int)] 5)) = .ok (.string A) (W.alloc (.cells #[.int .u8 (y1 : Int)] 5)) := fun W => by
    rw [hA]; exact one_byte W y1 (by omega) (by omega)
  have cv2 : ∀ W : World, (convert 34 9 (.slice (some ⟨W.heap.size, 0, none⟩) 1 1)).run Try.prog (W.alloc (.cells #[.int .u8 (s.size : Int)] 5)) = .ok (.string (bs [Z])) (W.alloc (.cells #[.int .u8 (s.size : Int)] 5)) := fun W => by
    rw [hZ]; exact one_byte W s.size (by omega) (by omega)
  have cv3 : ∀ W : World, (convert 34 9 (.slice (some ⟨W.heap.size, 0, none⟩) 2 2)).run Try.prog (W.alloc (.cells #[.int .u8 (y2 : Int), .int .u8 (n : Int)] 5)) = .ok (.string (bs [X, Y])) (W.alloc (.cells #[.int .u8 (y2 : Int), .int .u8 (n : Int)] 5)) := fun W => by
    rw [hX, hY]; exact two_bytes W y2 n (by omega) (by omega) (by omega) (by omega)
  obtain ⟨R, hR⟩ : ∃ R, R = List.replicate (K - 1) (0 : UInt8) := ⟨_, rfl⟩
  obtain ⟨T, hT⟩ : ∃ T, T = bs [Z] ++ bs (X :: Y :: R) ++ s := ⟨_, rfl⟩
  have hsl : s.data.toList.length = s.size := by simp
  have hRl : R.length ≤ 3 := by rw [hR]; simp; omega
  have hTl : T.data.toList = puts s.size ++ (X :: (Y :: R ++ s.data.toList)) := by
    rw [hT, puts_one s.size h128, ← hZ, ← bs_of s, bs_append, bs_append, bs_list, bs_list]
    simp
  have hup : upk T.data.toList 250 = (s.data.toList, 0) := by
    rw [hTl, upk_puts s.size _ (by omega) 250 (by omega)]
    have := els_long s.data.toList K (by omega) (by omega) hK1 hK4
    rw [hsl, show s.size - 1 = n by omega, hy2, ← hX, ← hY, ← hR] at this
    exact this
  have hsz : szs T.data.toList = (s.size, (puts s.size).length, 0) := by rw [hTl]; exact szs_puts _ _ (by omega)
  have hTz : T.size ≤ 70368744177664 := by
    have := congrArg List.length hTl
    rw [puts_one s.size h128, ← hZ] at this
    simp at this
    omega
  have hzX : (bs (X :: Y :: R)).size ≤ 5 := by rw [bs_size]; simp; omega
  have hzZ : (bs [Z]).size ≤ 2 := by rw [bs_size]; simp
  have HU := Lib.hid (And.intro hT.symm (And.intro hup (And.intro hsz hTz)))
  have HR := Lib.hid hR
  clear hn hy1 hX hY hZ hT hTl hup hsz hTz hsl hk hk1 hK hR hA hy2 
  go_enter Try.func5, Try.ntmps5
  go_wp2_with fail
  refine (alive_any _).mono ?_
  rintro e w1 ⟨rfl, b1⟩
  have B1 := Lib.hid b1
  clear b1
  go_upto_region 7 with fail
  have B2 := Lib.hid (B1.out.alloc B1.out.size (.cells #[.int .u8 (y1 : Int)] 5))
  generalize w1.alloc (.cells #[.int .u8 (y1 : Int)] 5) = w2 at *
  clear cv1
  go_upto_region 11 with fail
  have B3 := Lib.hid (B2.out.alloc B2.out.size (.cells #[.int .u8 (y2 : Int), .int .u8 (n : Int)] 5))
  generalize w2.alloc (.cells #[.int .u8 (y2 : Int), .int .u8 (n : Int)] 5) = w3 at *
  clear cv3 i8 i5
  go_wp2_with fail
  go_loop [6, 8] (fun v6 v8 => ∃ i : Nat, v8 = .int .i64 i ∧ 1 ≤ i ∧ i ≤ K ∧ v6 = .string (bs (X :: Y :: List.replicate (i - 1) (0 : UInt8)))) (fun _ v => K - (intOf v).toNat)
  case atStart => exact ⟨1, rfl, Nat.le_refl _, hK1, rfl⟩
  case round =>
    obtain ⟨i, rfl, hi1, hiK, rfl⟩ := hrel
    by_cases hlt : i < K
    · obtain ⟨P, hP⟩ : ∃ P, P = bs (X :: Y :: List.replicate (i - 1) (0 : UInt8)) := ⟨_, rfl⟩
      have hPz : P.size ≤ 6 := by rw [hP, bs_size]; simp; omega
      rw [← hP]
      have HP := Lib.hid hP
      clear hP
      go_wp2
      go_round
      case rel =>
        refine ⟨i + 1, by go_num, by omega, by omega, ?_⟩
        rw [HP.out, show (⟨#[0]⟩ : ByteArray) = bs [0] from rfl, bs_append]
        obtain ⟨m, rfl⟩ : ∃ m, i = m + 1 := ⟨i - 1, by omega⟩
        simp [List.replicate_succ']
      case measure => (simp [intOf]) <;> omega
    · obtain rfl : i = K := by omega
      rw [← HR.out]
      go_upto_region 16 with fail
      have B4 := Lib.hid (B3.out.alloc B3.out.size (.cells #[.int .u8 (s.size : Int)] 5))
      generalize w3.alloc (.cells #[.int .u8 (s.size : Int)] 5) = w4 at *
      clear cv2
      go_wp2_with fail
      rw [HU.out.1]
      refine (unpack_nil T 250 HU.out.2.2.2 (fun _ => .inl (by rw [HU.out.2.2.1]; show s.size ≤ 900000; omega)) _).mono ?_
      rw [HU.out.2.1]
      simp only [bs_of]
      rintro e w9 ⟨rfl, b9⟩
      have B9 := Lib.hid (below_then (B4.out) b9)
      clear b9
      go_wp2
      go_ret
      exact ⟨rfl, B9.out⟩

set_option maxRecDepth 100000 in
theorem snapPlain_k_big (s : ByteArray) (long : Nat) (w : World) (hl : long < 256) (h0 : 0 < s.size) (h2 : s.size ≤ 250) (hk : 0 < long % 5) (h128 : 128 ≤ s.size) :
    Calls Try.prog 5 #[.string s, .int .u8 long] w fun e w' => e = .returned (.bool true) ∧ Below w.heap.size w w' := by
  have t3 : decide ((250 : Int) < (s.size : Int)) = false := by simp; omega
  have t4 : ((s.size : Int) == 0) = false := by rw [beq_eq_false_iff_ne]; omega
  obtain ⟨n, hn⟩ : ∃ n, s.size = n + 1 := ⟨s.size - 1, by omega⟩
  obtain ⟨y1, hy1⟩ : ∃ y1, 4 * n % 256 = y1 := ⟨_, rfl⟩
  obtain ⟨k, hk1⟩ : ∃ k, long % 5 = k := ⟨_, rfl⟩
  obtain ⟨K, hK⟩ : ∃ K, max k 1 = K := ⟨_, rfl⟩
  have hK1 : 1 ≤ K := by omega
  have hK4 : K ≤ 4 := by omega
  obtain ⟨y2, hy2⟩ : ∃ y2, 4 * (59 + K) = y2 := ⟨_, rfl⟩
  have hy3 : y2 < 256 := by omega
  have hnb : n < 250 := by omega
  have i1 : (s.size : Int) - 1 = (n : Int) := by omega
  have i2 : (long : Int) % 5 = (k : Int) := by omega
  have i3 : (0 : Int) < (k : Int) := by omega
  have i4 : (128 : Int) ≤ (s.size : Int) := by omega
  have i5 : 4 * (n : Int) % 256 = (y1 : Int) := by omega
  have i6 : (if (k : Int) < 1 then 1 else (k : Int)) = (K : Int) := by split <;> omega
  have i7 : max (k : Int) 1 = (K : Int) := by omega
  have i8 : 4 * (59 + (K : Int)) = (y2 : Int) := by omega
  have hyb : y1 < 256 := by omega
  obtain ⟨X, hX⟩ : ∃ X, X = UInt8.ofNat y2 := ⟨_, rfl⟩
  obtain ⟨Y, hY⟩ : ∃ Y, Y = UInt8.ofNat n := ⟨_, rfl⟩
  obtain ⟨Z, hZ⟩ : ∃ Z, Z = UInt8.ofNat s.size := ⟨_, rfl⟩
  obtain ⟨A, hA⟩ : ∃ A, A = bs [UInt8.ofNat y1] := ⟨_, rfl⟩
  have cv1 : ∀ W : World, (convert 34 9 (.slice (some ⟨W.heap.size, 0, none⟩) 1 1)).run Try.prog (W.alloc (.cells #[.int .u8 (y1 : Int)] 5)) = .ok (.string A) (W.alloc (.cells #[.int .u8 (y1 : Int)] 5)) := fun W => by
    rw [hA]; exact one_byte W y1 (by omega) (by omega)
  have cv2 : ∀ W : World, (convert 34 9 (.slice (some ⟨W.heap.size, 0, none⟩) 1 1)).run Try.prog (W.alloc (.cells #[.int .u8 (s.size : Int)] 5)) = .ok (.string (bs [Z])) (W.alloc (.cells #[.int .u8 (s.size : Int)] 5)) := fun W => by
    rw [hZ]; exact one_byte W s.size (by omega) (by omega)
  have cv3 : ∀ W : World, (convert 34 9 (.slice (some ⟨W.heap.size, 0, none⟩) 2 2)).run Try.prog (W.alloc (.cells #[.int .u8 (y2 : Int), .int .u8 (n : Int)] 5)) = .ok (.string (bs [X, Y])) (W.alloc (.cells #[.int .u8 (y2 : Int), .int .u8 (n : Int)] 5)) := fun W => by
    rw [hX, hY]; exact two_bytes W y2 n (by omega) (by omega) (by omega) (by omega)
  obtain ⟨z2, hz2⟩ : ∃ z2, s.size % 128 + 128 = z2 := ⟨_, rfl⟩
  have i9 : (s.size : Int) % 128 + 128 = (z2 : Int) := by omega
  have hzb : z2 < 256 := by omega
  obtain ⟨V, hV⟩ : ∃ V, V = UInt8.ofNat z2 := ⟨_, rfl⟩
  have cv4 : ∀ W : World, (convert 34 9 (.slice (some ⟨W.heap.size, 0, none⟩) 2 2)).run Try.prog (W.alloc (.cells #[.int .u8 (z2 : Int), .int .u8 1] 5)) = .ok (.string (bs [V, 1])) (W.alloc (.cells #[.int .u8 (z2 : Int), .int .u8 1] 5)) := fun W => by
    rw [hV]; exact two_bytes W z2 1 (by omega) (by omega) (by omega) (by omega)
  obtain ⟨R, hR⟩ : ∃ R, R = List.replicate (K - 1) (0 : UInt8) := ⟨_, rfl⟩
  obtain ⟨T, hT⟩ : ∃ T, T = bs [V, 1] ++ bs (X :: Y :: R) ++ s := ⟨_, rfl⟩
  have hsl : s.data.toList.length = s.size := by simp
  have hRl : R.length ≤ 3 := by rw [hR]; simp; omega
  have hTl : T.data.toList = puts s.size ++ (X :: (Y :: R ++ s.data.toList)) := by
    rw [hT, puts_two s.size h128 (by omega), hz2, ← hV, ← bs_of s, bs_append, bs_append, bs_list, bs_list]
    simp
  have hup : upk T.data.toList 250 = (s.data.toList, 0) := by
    rw [hTl, upk_puts s.size _ (by omega) 250 (by omega)]
    have := els_long s.data.toList K (by omega) (by omega) hK1 hK4
    rw [hsl, show s.size - 1 = n by omega, hy2, ← hX, ← hY, ← hR] at this
    exact this
  have hsz : szs T.data.toList = (s.size, (puts s.size).length, 0) := by rw [hTl]; exact szs_puts _ _ (by omega)
  have hTz : T.size ≤ 70368744177664 := by
    have := congrArg List.length hTl
    rw [puts_two s.size h128 (by omega), hz2, ← hV] at this
    simp at this
    omega
  have hzX : (bs (X :: Y :: R)).size ≤ 5 := by rw [bs_size]; simp; omega
  have hzZ : (bs [V, 1]).size ≤ 2 := by rw [bs_size]; simp
  have HU := Lib.hid (And.intro hT.symm (And.intro hup (And.intro hsz hTz)))
  have HR := Lib.hid hR
  clear hn hy1 hX hY hZ hT hTl hup hsz hTz hsl hk hk1 hK hR hA hy2 hV hz2 
  go_enter Try.func5, Try.ntmps5
  go_wp2_with fail
  refine (alive_any _).mono ?_
  rintro e w1 ⟨rfl, b1⟩
  have B1 := Lib.hid b1
  clear b1
  go_upto_region 7 with fail
  have B2 := Lib.hid (B1.out.alloc B1.out.size (.cells #[.int .u8 (y1 : Int)] 5))
  generalize w1.alloc (.cells #[.int .u8 (y1 : Int)] 5) = w2 at *
  clear cv1
  go_upto_region 11 with fail
  have B3 := Lib.hid (B2.out.alloc B2.out.size (.cells #[.int .u8 (y2 : Int), .int .u8 (n : Int)] 5))
  generalize w2.alloc (.cells #[.int .u8 (y2 : Int), .int .u8 (n : Int)] 5) = w3 at *
  clear cv3 i8 i5
  go_wp2_with fail
  go_loop [6, 8] (fun v6 v8 => ∃ i : Nat, v8 = .int .i64 i ∧ 1 ≤ i ∧ i ≤ K ∧ v6 = .string (bs (X :: Y :: List.replicate (i - 1) (0 : UInt8)))) (fun _ v => K - (intOf v).toNat)
  case atStart => exact ⟨1, rfl, Nat.le_refl _, hK1, rfl⟩
  case round =>
    obtain ⟨i, rfl, hi1, hiK, rfl⟩ := hrel
    by_cases hlt : i < K
    · obtain ⟨P, hP⟩ : ∃ P, P = bs (X :: Y :: List.replicate (i - 1) (0 : UInt8)) := ⟨_, rfl⟩
      have hPz : P.size ≤ 6 := by rw [hP, bs_size]; simp; omega
      rw [← hP]
      have HP := Lib.hid hP
      clear hP
      go_wp2
      go_round
      case rel =>
        refine ⟨i + 1, by go_num, by omega, by omega, ?_⟩
        rw [HP.out, show (⟨#[0]⟩ : ByteArray) = bs [0] from rfl, bs_append]
        obtain ⟨m, rfl⟩ : ∃ m, i = m + 1 := ⟨i - 1, by omega⟩
        simp [List.replicate_succ']
      case measure => (simp [intOf]) <;> omega
    · obtain rfl : i = K := by omega
      rw [← HR.out]
      go_upto_region 16 with fail
      have B4 := Lib.hid (B3.out.alloc B3.out.size (.cells #[.int .u8 (s.size : Int)] 5))
      generalize w3.alloc (.cells #[.int .u8 (s.size : Int)] 5) = w4 at *
      clear cv2
      go_upto_region 18 with fail
      have B5 := Lib.hid (B4.out.alloc B4.out.size (.cells #[.int .u8 (z2 : Int), .int .u8 1] 5))
      generalize w4.alloc (.cells #[.int .u8 (z2 : Int), .int .u8 1] 5) = w5 at *
      clear cv4
      go_wp2_with fail
      rw [HU.out.1]
      refine (unpack_nil T 250 HU.out.2.2.2 (fun _ => .inl (by rw [HU.out.2.2.1]; show s.size ≤ 900000; omega)) _).mono ?_
      rw [HU.out.2.1]
      simp only [bs_of]
      rintro e w9 ⟨rfl, b9⟩
      have B9 := Lib.hid (below_then (B5.out) b9)
      clear b9
      go_wp2
      go_ret
      exact ⟨rfl, B9.out⟩

set_option maxRecDepth 100000 in
theorem snapPlain_n_small (s : ByteArray) (long : Nat) (w : World) (hl : long < 256) (h0 : 0 < s.size) (h2 : s.size ≤ 250) (hk : long % 5 = 0) (h60 : 60 < s.size) (h128 : s.size < 128) :
    Calls Try.prog 5 #[.string s, .int .u8 long] w fun e w' => e = .returned (.bool true) ∧ Below w.heap.size w w' := by
  have t3 : decide ((250 : Int) < (s.size : Int)) = false := by simp; omega
  have t4 : ((s.size : Int) == 0) = false := by rw [beq_eq_false_iff_ne]; omega
  obtain ⟨n, hn⟩ : ∃ n, s.size = n + 1 := ⟨s.size - 1, by omega⟩
  obtain ⟨y1, hy1⟩ : ∃ y1, 4 * n % 256 = y1 := ⟨_, rfl⟩
  obtain ⟨k, hk1⟩ : ∃ k, long % 5 = k := ⟨_, rfl⟩
  obtain ⟨K, hK⟩ : ∃ K, max k 1 = K := ⟨_, rfl⟩
  have hK1 : 1 ≤ K := by omega
  have hK4 : K ≤ 4 := by omega
  obtain ⟨y2, hy2⟩ : ∃ y2, 4 * (59 + K) = y2 := ⟨_, rfl⟩
  have hy3 : y2 < 256 := by omega
  have hnb : n < 250 := by omega
  have i1 : (s.size : Int) - 1 = (n : Int) := by omega
  have i2 : (long : Int) % 5 = (k : Int) := by omega
  have i3 : (60 : Int) ≤ (n : Int) := by omega
  have i3b : ¬ (0 : Int) < (k : Int) := by omega
  have i7b : max (0 : Int) 1 = (K : Int) := by omega
  have hKe : K ≤ 1 := by omega
  have i4 : ¬ (128 : Int) ≤ (s.size : Int) := by omega
  have i5 : 4 * (n : Int) % 256 = (y1 : Int) := by omega
  have i6 : (if (k : Int) < 1 then 1 else (k : Int)) = (K : Int) := by split <;> omega
  have i7 : max (k : Int) 1 = (K : Int) := by omega
  have i8 : 4 * (59 + (K : Int)) = (y2 : Int) := by omega
  have hyb : y1 < 256 := by omega
  obtain ⟨X, hX⟩ : ∃ X, X = UInt8.ofNat y2 := ⟨_, rfl⟩
  obtain ⟨Y, hY⟩ : ∃ Y, Y = UInt8.ofNat n := ⟨_, rfl⟩
  obtain ⟨Z, hZ⟩ : ∃ Z, Z = UInt8.ofNat s.size := ⟨_, rfl⟩
  obtain ⟨A, hA⟩ : ∃ A, A = bs [UInt8.ofNat y1] := ⟨_, rfl⟩
  have cv1 : ∀ W : World, (convert 34 9 (.slice (some ⟨W.heap.size, 0, none⟩) 1 1)).run Try.prog (W.alloc (.cells #[.int .u8 (y1 : Int)] 5)) = .ok (.string A) (W.alloc (.cells #[.int .u8 (y1 : Int)] 5)) := fun W => by
    rw [hA]; exact one_byte W y1 (by omega) (by omega)
  have cv2 : ∀ W : World, (convert 34 9 (.slice (some ⟨W.heap.size, 0, none⟩) 1 1)).run Try.prog (W.alloc (.cells #[.int .u8 (s.size : Int)] 5)) = .ok (.string (bs [Z])) (W.alloc (.cells #[.int .u8 (s.size : Int)] 5)) := fun W => by
    rw [hZ]; exact one_byte W s.size (by omega) (by omega)
  have cv3 : ∀ W : World, (convert 34 9 (.slice (some ⟨W.heap.size, 0, none⟩) 2 2)).run Try.prog (W.alloc (.cells #[.int .u8 (y2 : Int), .int .u8 (n : Int)] 5)) = .ok (.string (bs [X, Y])) (W.alloc (.cells #[.int .u8 (y2 : Int), .int .u8 (n : Int)] 5)) := fun W => by
    rw [hX, hY]; exact two_bytes W y2 n (by omega) (by omega) (by omega) (by omega)
  obtain ⟨R, hR⟩ : ∃ R, R = List.replicate (K - 1) (0 : UInt8) := ⟨_, rfl⟩
  obtain ⟨T, hT⟩ : ∃ T, T = bs [Z] ++ bs (X :: Y :: R) ++ s := ⟨_, rfl⟩
  have hsl : s.data.toList.length = s.size := by simp
  have hRl : R.length ≤ 3 := by rw [hR]; simp; omega
  have hTl : T.data.toList = puts s.size ++ (X :: (Y :: R ++ s.data.toList)) := by
    rw [hT, puts_one s.size h128, ← hZ, ← bs_of s, bs_append, bs_append, bs_list, bs_list]
    simp
  have hup : upk T.data.toList 250 = (s.data.toList, 0) := by
    rw [hTl, upk_puts s.size _ (by omega) 250 (by omega)]
    have := els_long s.data.toList K (by omega) (by omega) hK1 hK4
    rw [hsl, show s.size - 1 = n by omega, hy2, ← hX, ← hY, ← hR] at this
    exact this
  have hsz : szs T.data.toList = (s.size, (puts s.size).length, 0) := by rw [hTl]; exact szs_puts _ _ (by omega)
  have hTz : T.size ≤ 70368744177664 := by
    have := congrArg List.length hTl
    rw [puts_one s.size h128, ← hZ] at this
    simp at this
    omega
  have hzX : (bs (X :: Y :: R)).size ≤ 5 := by rw [bs_size]; simp; omega
  have hzZ : (bs [Z]).size ≤ 2 := by rw [bs_size]; simp
  have HU := Lib.hid (And.intro hT.symm (And.intro hup (And.intro hsz hTz)))
  have HR := Lib.hid hR
  clear hn hy1 hX hY hZ hT hTl hup hsz hTz hsl hk hk1 hK hR hA hy2 h60
  go_enter Try.func5, Try.ntmps5
  go_wp2_with fail
  refine (alive_any _).mono ?_
  rintro e w1 ⟨rfl, b1⟩
  have B1 := Lib.hid b1
  clear b1
  go_upto_region 7 with fail
  have B2 := Lib.hid (B1.out.alloc B1.out.size (.cells #[.int .u8 (y1 : Int)] 5))
  generalize w1.alloc (.cells #[.int .u8 (y1 : Int)] 5) = w2 at *
  clear cv1
  go_upto_region 11 with fail
  have B3 := Lib.hid (B2.out.alloc B2.out.size (.cells #[.int .u8 (y2 : Int), .int .u8 (n : Int)] 5))
  generalize w2.alloc (.cells #[.int .u8 (y2 : Int), .int .u8 (n : Int)] 5) = w3 at *
  clear cv3 i8 i5
  go_wp2_with fail
  go_loop [6, 8] (fun v6 v8 => ∃ i : Nat, v8 = .int .i64 i ∧ 1 ≤ i ∧ i ≤ K ∧ v6 = .string (bs (X :: Y :: List.replicate (i - 1) (0 : UInt8)))) (fun _ v => K - (intOf v).toNat)
  case atStart => exact ⟨1, rfl, Nat.le_refl _, hK1, rfl⟩
  case round =>
    obtain ⟨i, rfl, hi1, hiK, rfl⟩ := hrel
    by_cases hlt : i < K
    · exact absurd hlt (by omega)
    · obtain rfl : i = K := by omega
      rw [← HR.out]
      go_upto_region 16 with fail
      have B4 := Lib.hid (B3.out.alloc B3.out.size (.cells #[.int .u8 (s.size : Int)] 5))
      generalize w3.alloc (.cells #[.int .u8 (s.size : Int)] 5) = w4 at *
      clear cv2
      go_wp2_with fail
      rw [HU.out.1]
      refine (unpack_nil T 250 HU.out.2.2.2 (fun _ => .inl (by rw [HU.out.2.2.1]; show s.size ≤ 900000; omega)) _).mono ?_
      rw [HU.out.2.1]
      simp only [bs_of]
      rintro e w9 ⟨rfl, b9⟩
      have B9 := Lib.hid (below_then (B4.out) b9)
      clear b9
      go_wp2
      go_ret
      exact ⟨rfl, B9.out⟩

set_option maxRecDepth 100000 in
theorem snapPlain_n_big (s : ByteArray) (long : Nat) (w : World) (hl : long < 256) (h0 : 0 < s.size) (h2 : s.size ≤ 250) (hk : long % 5 = 0) (h60 : 60 < s.size) (h128 : 128 ≤ s.size) :
    Calls Try.prog 5 #[.string s, .int .u8 long] w fun e w' => e = .returned (.bool true) ∧ Below w.heap.size w w' := by
  have t3 : decide ((250 : Int) < (s.size : Int)) = false := by simp; omega
  have t4 : ((s.size : Int) == 0) = false := by rw [beq_eq_false_iff_ne]; omega
  obtain ⟨n, hn⟩ : ∃ n, s.size = n + 1 := ⟨s.size - 1, by omega⟩
  obtain ⟨y1, hy1⟩ : ∃ y1, 4 * n % 256 = y1 := ⟨_, rfl⟩
  obtain ⟨k, hk1⟩ : ∃ k, long % 5 = k := ⟨_, rfl⟩
  obtain ⟨K, hK⟩ : ∃ K, max k 1 = K := ⟨_, rfl⟩
  have hK1 : 1 ≤ K := by omega
  have hK4 : K ≤ 4 := by omega
  obtain ⟨y2, hy2⟩ : ∃ y2, 4 * (59 + K) = y2 := ⟨_, rfl⟩
  have hy3 : y2 < 256 := by omega
  have hnb : n < 250 := by omega
  have i1 : (s.size : Int) - 1 = (n : Int) := by omega
  have i2 : (long : Int) % 5 = (k : Int) := by omega
  have i3 : (60 : Int) ≤ (n : Int) := by omega
  have i3b : ¬ (0 : Int) < (k : Int) := by omega
  have i7b : max (0 : Int) 1 = (K : Int) := by omega
  have hKe : K ≤ 1 := by omega
  have i4 : (128 : Int) ≤ (s.size : Int) := by omega
  have i5 : 4 * (n : Int) % 256 = (y1 : Int) := by omega
  have i6 : (if (k : Int) < 1 then 1 else (k : Int)) = (K : Int) := by split <;> omega
  have i7 : max (k : Int) 1 = (K : Int) := by omega
  have i8 : 4 * (59 + (K : Int)) = (y2 : Int) := by omega
  have hyb : y1 < 256 := by omega
  obtain ⟨X, hX⟩ : ∃ X, X = UInt8.ofNat y2 := ⟨_, rfl⟩
  obtain ⟨Y, hY⟩ : ∃ Y, Y = UInt8.ofNat n := ⟨_, rfl⟩
  obtain ⟨Z, hZ⟩ : ∃ Z, Z = UInt8.ofNat s.size := ⟨_, rfl⟩
  obtain ⟨A, hA⟩ : ∃ A, A = bs [UInt8.ofNat y1] := ⟨_, rfl⟩
  have cv1 : ∀ W : World, (convert 34 9 (.slice (some ⟨W.heap.size, 0, none⟩) 1 1)).run Try.prog (W.alloc (.cells #[.int .u8 (y1 : Int)] 5)) = .ok (.string A) (W.alloc (.cells #[.int .u8 (y1 : Int)] 5)) := fun W => by
    rw [hA]; exact one_byte W y1 (by omega) (by omega)
  have cv2 : ∀ W : World, (convert 34 9 (.slice (some ⟨W.heap.size, 0, none⟩) 1 1)).run Try.prog (W.alloc (.cells #[.int .u8 (s.size : Int)] 5)) = .ok (.string (bs [Z])) (W.alloc (.cells #[.int .u8 (s.size : Int)] 5)) := fun W => by
    rw [hZ]; exact one_byte W s.size (by omega) (by omega)
  have cv3 : ∀ W : World, (convert 34 9 (.slice (some ⟨W.heap.size, 0, none⟩) 2 2)).run Try.prog (W.alloc (.cells #[.int .u8 (y2 : Int), .int .u8 (n : Int)] 5)) = .ok (.string (bs [X, Y])) (W.alloc (.cells #[.int .u8 (y2 : Int), .int .u8 (n : Int)] 5)) := fun W => by
    rw [hX, hY]; exact two_bytes W y2 n (by omega) (by omega) (by omega) (by omega)
  obtain ⟨z2, hz2⟩ : ∃ z2, s.size % 128 + 128 = z2 := ⟨_, rfl⟩
  have i9 : (s.size : Int) % 128 + 128 = (z2 : Int) := by omega
  have hzb : z2 < 256 := by omega
  obtain ⟨V, hV⟩ : ∃ V, V = UInt8.ofNat z2 := ⟨_, rfl⟩
  have cv4 : ∀ W : World, (convert 34 9 (.slice (some ⟨W.heap.size, 0, none⟩) 2 2)).run Try.prog (W.alloc (.cells #[.int .u8 (z2 : Int), .int .u8 1] 5)) = .ok (.string (bs [V, 1])) (W.alloc (.cells #[.int .u8 (z2 : Int), .int .u8 1] 5)) := fun W => by
    rw [hV]; exact two_bytes W z2 1 (by omega) (by omega) (by omega) (by omega)
  obtain ⟨R, hR⟩ : ∃ R, R = List.replicate (K - 1) (0 : UInt8) := ⟨_, rfl⟩
  obtain ⟨T, hT⟩ : ∃ T, T = bs [V, 1] ++ bs (X :: Y :: R) ++ s := ⟨_, rfl⟩
  have hsl : s.data.toList.length = s.size := by simp
  have hRl : R.length ≤ 3 := by rw [hR]; simp; omega
  have hTl : T.data.toList = puts s.size ++ (X :: (Y :: R ++ s.data.toList)) := by
    rw [hT, puts_two s.size h128 (by omega), hz2, ← hV, ← bs_of s, bs_append, bs_append, bs_list, bs_list]
    simp
  have hup : upk T.data.toList 250 = (s.data.toList, 0) := by
    rw [hTl, upk_puts s.size _ (by omega) 250 (by omega)]
    have := els_long s.data.toList K (by omega) (by omega) hK1 hK4
    rw [hsl, show s.size - 1 = n by omega, hy2, ← hX, ← hY, ← hR] at this
    exact this
  have hsz : szs T.data.toList = (s.size, (puts s.size).length, 0) := by rw [hTl]; exact szs_puts _ _ (by omega)
  have hTz : T.size ≤ 70368744177664 := by
    have := congrArg List.length hTl
    rw [puts_two s.size h128 (by omega), hz2, ← hV] at this
    simp at this
    omega
  have hzX : (bs (X :: Y :: R)).size ≤ 5 := by rw [bs_size]; simp; omega
  have hzZ : (bs [V, 1]).size ≤ 2 := by rw [bs_size]; simp
  have HU := Lib.hid (And.intro hT.symm (And.intro hup (And.intro hsz hTz)))
  have HR := Lib.hid hR
  clear hn hy1 hX hY hZ hT hTl hup hsz hTz hsl hk hk1 hK hR hA hy2 hV hz2 h60
  go_enter Try.func5, Try.ntmps5
  go_wp2_with fail
  refine (alive_any _).mono ?_
  rintro e w1 ⟨rfl, b1⟩
  have B1 := Lib.hid b1
  clear b1
  go_upto_region 7 with fail
  have B2 := Lib.hid (B1.out.alloc B1.out.size (.cells #[.int .u8 (y1 : Int)] 5))
  generalize w1.alloc (.cells #[.int .u8 (y1 : Int)] 5) = w2 at *
  clear cv1
  go_upto_region 11 with fail
  have B3 := Lib.hid (B2.out.alloc B2.out.size (.cells #[.int .u8 (y2 : Int), .int .u8 (n : Int)] 5))
  generalize w2.alloc (.cells #[.int .u8 (y2 : Int), .int .u8 (n : Int)] 5) = w3 at *
  clear cv3 i8 i5
  go_wp2_with fail
  go_loop [6, 8] (fun v6 v8 => ∃ i : Nat, v8 = .int .i64 i ∧ 1 ≤ i ∧ i ≤ K ∧ v6 = .string (bs (X :: Y :: List.replicate (i - 1) (0 : UInt8)))) (fun _ v => K - (intOf v).toNat)
  case atStart => exact ⟨1, rfl, Nat.le_refl _, hK1, rfl⟩
  case round =>
    obtain ⟨i, rfl, hi1, hiK, rfl⟩ := hrel
    by_cases hlt : i < K
    · exact absurd hlt (by omega)
    · obtain rfl : i = K := by omega
      rw [← HR.out]
      go_upto_region 16 with fail
      have B4 := Lib.hid (B3.out.alloc B3.out.size (.cells #[.int .u8 (s.size : Int)] 5))
      generalize w3.alloc (.cells #[.int .u8 (s.size : Int)] 5) = w4 at *
      clear cv2
      go_upto_region 18 with fail
      have B5 := Lib.hid (B4.out.alloc B4.out.size (.cells #[.int .u8 (z2 : Int), .int .u8 1] 5))
      generalize w4.alloc (.cells #[.int .u8 (z2 : Int), .int .u8 1] 5) = w5 at *
      clear cv4
      go_wp2_with fail
      rw [HU.out.1]
      refine (unpack_nil T 250 HU.out.2.2.2 (fun _ => .inl (by rw [HU.out.2.2.1]; show s.size ≤ 900000; omega)) _).mono ?_
      rw [HU.out.2.1]
      simp only [bs_of]
      rintro e w9 ⟨rfl, b9⟩
      have B9 := Lib.hid (below_then (B5.out) b9)
      clear b9
      go_wp2
      go_ret
      exact ⟨rfl, B9.out⟩

theorem snapPlain_any (s : ByteArray) (long : Nat) (w : World) (hl : long < 256) (hm : s.size ≤ maxLen) :
    Calls Try.prog 5 #[.string s, .int .u8 long] w fun e w' => e = .returned (.bool true) ∧ Below w.heap.size w w' := by
  by_cases h1 : s.size = 0 ∨ 250 < s.size
  · exact snapPlain_out s long w h1 hm
  · by_cases h2 : 0 < long % 5
    · by_cases h3 : 128 ≤ s.size
      · exact snapPlain_k_big s long w hl (by omega) (by omega) h2 h3
      · exact snapPlain_k_small s long w hl (by omega) (by omega) h2 (by omega)
    · by_cases h4 : s.size ≤ 60
      · exact snapPlain_short s long w hl (by omega) h4 (by omega)
      · by_cases h3 : 128 ≤ s.size
        · exact snapPlain_n_big s long w hl (by omega) (by omega) (by omega) (by omega) h3
        · exact snapPlain_n_small s long w hl (by omega) (by omega) (by omega) (by omega) (by omega)
end Go.Proofs.Ytacfhjcchoefjaa
