/-
  The contract of the document's own Digest (layer 5) over this seat's translation. Conditions: a text of at most 2^20 bytes; the key is the sixty-four and First.
-/
import Derived.Test.YtnjiflkbgpbchaaShaD
import Derived.Test.YtnjiflkbgpbchaaShaQ
import Derived.Test.YtnjiflkbgpbchaaOwn
namespace Go.Proofs.Ytnjiflkbgpbchaa
open Go.RowKit Go.Sort

/-- A text with its padding. -/
def padded (s : ByteArray) : List UInt8 := s.data.toList ++ padL s.size
/-- How many blocks. -/
def nblk (n : Nat) : Nat := (n + 9 + nou n) / 64
/-- The digest. -/
def digL (s : ByteArray) : List UInt8 := byts (chain KEY F8 (padded s) (nblk s.size)) 8
theorem nblk_mul (n : Nat) : 64 * nblk n = n + 9 + nou n := by
  have := (nou_done n (nou n) (Nat.le_refl _)).2 rfl
  unfold nblk
  omega
theorem padded_length (s : ByteArray) : (padded s).length = 64 * nblk s.size := by
  rw [nblk_mul, padded, List.length_append, padL_length]
  simp
  omega

theorem row_byt (W : World) (x : Nat) (hx : x < 4294967296) :
    Row8 (W.alloc (.cells #[.int .u8 ((x : Int) / 16777216), .int .u8 ((x : Int) / 65536 % 256), .int .u8 ((x : Int) / 256 % 256), .int .u8 ((x : Int) % 256)] 5)) W.heap.size (byt x) := by
  refine row8_of_block (fr := (0, 0)) (heap_alloc_new W _) (fun i hi => ?_) (fun i _ h => absurd h.2 (Nat.not_lt_zero i))
  match i, hi with
  | 0, h =>
    have e : ((byt x)[0]'h).toNat = x / 16777216 % 256 := u8_toNat_ofNat _
    have e2 : (x : Int) / 16777216 = (((x / 16777216) % 256 : Nat) : Int) := by omega
    rw [e, ← e2]
    rfl
  | 1, h =>
    have e : ((byt x)[1]'h).toNat = x / 65536 % 256 := u8_toNat_ofNat _
    have e2 : (x : Int) / 65536 % 256 = (((x / 65536) % 256 : Nat) : Int) := by omega
    rw [e, ← e2]
    rfl
  | 2, h =>
    have e : ((byt x)[2]'h).toNat = x / 256 % 256 := u8_toNat_ofNat _
    have e2 : (x : Int) / 256 % 256 = (((x / 256) % 256 : Nat) : Int) := by omega
    rw [e, ← e2]
    rfl
  | 3, h =>
    have e : ((byt x)[3]'h).toNat = x % 256 := u8_toNat_ofNat _
    have e2 : (x : Int) % 256 = (((x) % 256 : Nat) : Int) := by omega
    rw [e, ← e2]
    rfl
  | n + 4, h => simp [byt] at h; omega

set_option maxRecDepth 100000 in
set_option maxHeartbeats 2000000 in
theorem refDigest_any (s : ByteArray) (X : Array Value) (w : World) (hX : X = (KEY.map fun (n : Nat) => Value.int .u32 (n : Int)).toArray) (hs : s.size ≤ 1048576) :
    Calls Try.prog 9 #[.agg X, .string s] w fun e w' => e = .returned (.string (bs (digL s))) ∧ Below w.heap.size w w' := by
  obtain ⟨hz8, hs8⟩ := zero_of_info eight_info
  have HS8 := Lib.hid hs8
  have HX := Lib.hid hX
  have hpl : (bs (padL s.size)).size ≤ 80 := by rw [bs_size, padL_length]; have := nou_lt s.size; omega
  clear hs8 hX
  go_enter Try.func9, Try.ntmps9
  go_wp2_with fail
  refine (refPad_any s.size _ (by omega)).mono ?_
  rintro e w1 ⟨rfl, b1⟩
  have N0 : Nums .u32 27 (w.alloc (.cells X 27)) w.heap.size KEY := by rw [HX.out]; exact Nums.new .u32 _ w KEY
  have N1 := N0.bel b1
  have B1 := below_then ((Below.refl _ w).alloc (Nat.le_refl _) (.cells X 27)) b1
  obtain ⟨g, hg⟩ : ∃ g, g = w.heap.size := ⟨_, rfl⟩
  rw [← hg] at N1 B1
  have HG := Lib.hid hg
  have R1 := Lib.hid (And.intro N1 B1)
  rw [← hg]
  clear b1 N0 N1 B1 hg
  obtain ⟨X8, hX8⟩ : ∃ X8, X8 = (F8.map fun (n : Nat) => Value.int .u32 (n : Int)).toArray := ⟨_, rfl⟩
  have hV8 : Value.agg X8 = wordsOf .u32 ((KEY.drop 64).take 8) := by rw [key_first, hX8]; rfl
  have HV8 := Lib.hid hV8
  clear hV8
  obtain ⟨p, hp⟩ : ∃ p, p = w1.heap.size := ⟨_, rfl⟩
  have hgp : g < p := by rw [hp]; exact R1.out.1.lt
  have Z : Nums .u32 25 (w1.alloc (.cells #[.int .u32 0, .int .u32 0, .int .u32 0, .int .u32 0, .int .u32 0, .int .u32 0, .int .u32 0, .int .u32 0] 25)) w1.heap.size (List.replicate 8 0) := Nums.new .u32 _ w1 (List.replicate 8 0)
  obtain ⟨W2, hW2⟩ : ∃ W2, W2 = (w1.alloc (.cells #[.int .u32 0, .int .u32 0, .int .u32 0, .int .u32 0, .int .u32 0, .int .u32 0, .int .u32 0, .int .u32 0] 25)).setRow w1.heap.size (F8.map fun (n : Nat) => Value.int .u32 (n : Int)).toArray := ⟨_, rfl⟩
  have hW3 := hW2
  rw [World.setRow_alloc_new] at hW3
  have R2 := Lib.hid (show Nums .u32 27 W2 g KEY ∧ Nums .u32 25 W2 p F8 ∧ Fr (fun j => g ≤ j) w W2 from by
    rw [hW3, hp]
    exact ⟨R1.out.1.alloc _, Nums.new .u32 _ w1 F8, (Fr.ofBelow (S := fun j => g ≤ j) (by rw [← HG.out]; exact R1.out.2)).alloc _⟩)
  have HZ := Lib.hid (And.intro Z (And.intro hW2 (And.intro hX8 hp)))
  clear Z hW2 hW3 hX8 hp
  go_wp2_with (first
    | (refine wpList_load_part (by with_reducible rfl) 25 (.tmp 14) (by with_reducible rfl) 64 8 (by rfl) R1.out.1 Try.underlying25 rfl (by rw [key_length]; omega) HS8.out (.agg X8) HV8.out ?_)
    | (refine wpList_store_nums (by with_reducible rfl) 25 (.tmp 5) (.tmp 15) (by with_reducible rfl) (by rfl) (.agg X8) (by rfl) (m := F8) (by rw [HZ.out.2.2.1]; rfl) HZ.out.1 rfl HS8.out W2 HZ.out.2.1 ?_))
  have hT : s ++ bs (padL s.size) = bs (padded s) := by rw [padded, ← bs_append, bs_of]
  rw [hT, ← HZ.out.2.2.2]
  simp only [Act.put]
  have HL := Lib.hid (padded_length s)
  have HQ := Lib.hid HZ.out.2.2.1
  clear hT HZ R1
  go_loopw [1] (fun v1 wr => ∃ k : Nat, v1 = .string (bs ((padded s).drop (64 * k))) ∧ k ≤ nblk s.size ∧ Nums .u32 27 wr g KEY ∧ Nums .u32 25 wr p (chain KEY F8 (padded s) k) ∧ Fr (fun j => g ≤ j) w wr) (fun v _ => match v with | .string u => u.size | _ => 0)
  case atStart => exact ⟨0, rfl, Nat.zero_le _, R2.out.1, R2.out.2.1, R2.out.2.2⟩
  case round =>
    clear R2
    obtain ⟨k, rfl, hk, hK, hN, hF⟩ := hrel
    have hsz : (bs ((padded s).drop (64 * k))).size = 64 * nblk s.size - 64 * k := by rw [bs_size, List.length_drop, HL.out]
    have hx1 := bs_extract ((padded s).drop (64 * k)) 0 64
    have hx2 := bs_tail ((padded s).drop (64 * k)) 64
    rw [List.drop_zero, Nat.sub_zero] at hx1
    rw [List.drop_drop, show 64 * k + 64 = 64 * (k + 1) by omega] at hx2
    obtain ⟨U, hU⟩ : ∃ U, U = bs ((padded s).drop (64 * k)) := ⟨_, rfl⟩
    rw [← hU] at hsz hx1 hx2
    rw [← hU]
    by_cases hlt : k < nblk s.size
    · have t1 : decide ((0 : Int) < (U.size : Int)) = true := by simp; omega
      have i1 : (64 : Int) ≤ (U.size : Int) := by omega
      obtain ⟨bk, hbk⟩ : ∃ bk, bk = bs (((padded s).drop (64 * k)).take 64) := ⟨_, rfl⟩
      rw [← hbk] at hx1
      have hbl : bk.data.toList = ((padded s).drop (64 * k)).take 64 := by rw [hbk, bs_list]
      have hbz : bk.size = 64 := by rw [hbk, bs_size, List.length_take, List.length_drop, HL.out]; omega
      have hc : mixed KEY bk.data.toList (chain KEY F8 (padded s) k) = chain KEY F8 (padded s) (k + 1) := by rw [hbl]; rfl
      have lv := chain_length KEY F8 (padded s) first_length k
      have dv := chain_w32 KEY F8 (padded s) first_w32 k
      have lv2 := chain_length KEY F8 (padded s) first_length (k + 1)
      obtain ⟨vk, hvk⟩ : ∃ vk, vk = chain KEY F8 (padded s) k := ⟨_, rfl⟩
      obtain ⟨vn, hvn⟩ : ∃ vn, vn = chain KEY F8 (padded s) (k + 1) := ⟨_, rfl⟩
      rw [← hvk] at hN lv dv hc
      rw [← hvn] at hc lv2
      obtain ⟨Y, hY⟩ : ∃ Y, Y = (vk.map fun (n : Nat) => Value.int .u32 (n : Int)).toArray := ⟨_, rfl⟩
      have hX2 : Value.agg X = wordsOf .u32 KEY := by rw [HX.out]; rfl
      have hY2 : Value.agg Y = wordsOf .u32 vk := by rw [hY]; rfl
      have HM := Lib.hid (fun W => refMix_any KEY vk bk X Y W HX.out hY key_length lv key_w32 dv hbz)
      rw [hc] at HM
      have R := Lib.hid (And.intro hK (And.intro hN (And.intro hF (And.intro lv (And.intro lv2 (And.intro hX2 (And.intro hY2 (And.intro hx2 (And.intro hvn hsz)))))))))
      clear hK hN hF lv lv2 hX2 hY2 dv hc hY hbz hbl hbk hvk hvn hU hsz
      go_wp2_with fail
      obtain ⟨W4, hW4⟩ : ∃ W4, W4 = wr.drew := ⟨_, rfl⟩
      have eK : Nums .u32 27 W4 g KEY := by rw [hW4]; exact R.out.1
      have eN : Nums .u32 25 W4 p vk := by rw [hW4]; exact R.out.2.1
      have eF : Fr (fun j => g ≤ j) w W4 := by rw [hW4]; exact R.out.2.2.1.drew
      have RE := Lib.hid (And.intro eK (And.intro eN eF))
      clear eK eN eF
      refine wp_still_named 4 (by kernel_rfl) (by kernel_rfl) W4 hW4 ?_
      clear hW4
      simp only [List.take_succ_cons, List.take_zero, List.drop_succ_cons, List.drop_zero]
      refine wpStill_load_nums rfl 27 (.tmp 2) rfl (by rfl) RE.out.1 Try.underlying27 rfl (by rw [key_length]; kernel_rfl) (.agg X) R.out.2.2.2.2.2.1 ?_
      refine wpStill_load_nums rfl 25 (.tmp 5) rfl (by rfl) RE.out.2.1 Try.underlying25 rfl (by rw [R.out.2.2.2.1]; exact HS8.out) (.agg Y) R.out.2.2.2.2.2.2.1 ?_
      repeat still_step
      refine wpStill_nil ?_
      go_wp2_with fail
      refine (HM.out _).mono ?_
      rintro e w5 ⟨rfl, b5⟩
      have M1 := RE.out.1.bel b5
      have M2 := RE.out.2.1.bel b5
      have F5 := RE.out.2.2.trans (Fr.ofBelow b5)
      obtain ⟨W6, hW6⟩ : ∃ W6, W6 = w5.setRow p (vn.map fun (n : Nat) => Value.int .u32 (n : Int)).toArray := ⟨_, rfl⟩
      have M3 := M2.setRow vn
      have M4 : Nums .u32 27 W6 g KEY := by
        rw [hW6]
        refine M1.keep ?_
        simp only [World.setRow, Array.getElem?_modify]
        rw [if_neg (by omega)]
      have F6 := fr_setRow (g := p) F5 (.inl (by show g ≤ p; omega)) (vn.map fun (n : Nat) => Value.int .u32 (n : Int)).toArray
      rw [← hW6] at M3 F6
      obtain ⟨VN, hVN⟩ : ∃ VN, VN = wordsOf .u32 vn := ⟨_, rfl⟩
      rw [← hVN]
      have R6 := Lib.hid (And.intro M4 (And.intro M3 (And.intro F6 (And.intro hW6 (And.intro M2 hVN)))))
      clear b5 M1 M2 F5 M3 M4 F6 hW6 hVN
      go_wp2_with (refine wpList_store_nums (by with_reducible rfl) 25 (.tmp 5) (.tmp 23) (by with_reducible rfl) (by rfl) VN (by rfl) R6.out.2.2.2.2.2 R6.out.2.2.2.2.1 (by rw [R.out.2.2.2.1, R.out.2.2.2.2.1]) (by rw [R.out.2.2.2.2.1]; exact HS8.out) W6 R6.out.2.2.2.1 ?_)
      go_wp2
      go_roundw
      case rel => exact ⟨k + 1, rfl, by omega, R6.out.1, by rw [← R.out.2.2.2.2.2.2.2.2.1]; exact R6.out.2.1, R6.out.2.2.1⟩
      case measure =>
        have h1 := R.out.2.2.2.2.2.2.2.2.2
        simp only [bs_size, List.length_drop, HL.out, h1]
        omega
    · obtain rfl : k = nblk s.size := by omega
      have h0 : U.size = 0 := by omega
      have t1 : decide ((0 : Int) < (U.size : Int)) = false := by rw [h0]; rfl
      have lv := chain_length KEY F8 (padded s) first_length (nblk s.size)
      have dv := chain_w32 KEY F8 (padded s) first_w32 (nblk s.size)
      have hdg : digL s = byts (chain KEY F8 (padded s) (nblk s.size)) 8 := rfl
      obtain ⟨vn, hvn⟩ : ∃ vn, vn = chain KEY F8 (padded s) (nblk s.size) := ⟨_, rfl⟩
      rw [← hvn] at hN lv dv hdg
      have hps := hN.lt
      have R := Lib.hid (And.intro hN (And.intro hF (And.intro lv (And.intro dv hdg))))
      clear hK hN hF lv dv hdg hvn hx1 hx2 hU hsz hlt hk
      go_wp2_with fail
      go_loopw [6, 7] (fun v6 v7 wr => ∃ i : Nat, v7 = .int .i64 i ∧ i ≤ 8 ∧ Own8 wr (p + 1) v6 (byts vn i) ∧ Nums .u32 25 wr p vn ∧ Fr (fun j => g ≤ j) w wr) (fun _ i _ => 8 - (intOf i).toNat)
      case atStart => exact ⟨0, rfl, by omega, Own8.nil _ _, R.out.1, R.out.2.1⟩
      case round =>
        obtain ⟨i, rfl, hi, hO, hN, hF⟩ := hrel
        by_cases hlt : i < 8
        · have c0 := hN.cellD i (by rw [R.out.2.2.1]; exact hlt)
          have b0 := R.out.2.2.2.1.getD i
          have hsucc := byts_succ vn i (by rw [R.out.2.2.1]; exact hlt)
          have hbl := byts_length vn i (by rw [R.out.2.2.1]; exact hi)
          obtain ⟨x, hx⟩ : ∃ x, x = vn.getD i 0 := ⟨_, rfl⟩
          rw [← hx] at c0 b0 hsucc
          have R2 := Lib.hid (And.intro hO (And.intro hN (And.intro hF (And.intro hsucc hbl))))
          have hpz := hN.lt
          clear hO hN hF hsucc hbl hx
          go_wp2_with ((refine wpList_append8 (by with_reducible rfl) (.tmp 33) (.tmp 48) (by with_reducible rfl) (p + 1) _ (byts vn i) (byt x) (by rfl) (R2.out.1.alloc _) _ 4 4 (by rfl) (by rfl) (row_byt wr x b0) (by rw [R2.out.2.2.2.2]; omega) (by simp; omega) ?_; intro v1 w2 h1 h2; have RO := Lib.hid (And.intro h1 h2); clear h1 h2))
          go_roundw
          case rel =>
            refine ⟨i + 1, by go_num, by omega, by rw [R2.out.2.2.2.1]; exact RO.out.1, ?_, ?_⟩
            · refine (R2.out.2.1.alloc _).keep (RO.out.2.block p (by simp; omega) ?_)
              intro e
              have := (R2.out.1.lt p e.symm).1
              omega
            · refine fr_grown (R2.out.2.2.1.alloc _) RO.out.2 fun k hk => .inl ?_
              have := (R2.out.1.lt k hk).1
              show g ≤ k
              omega
          case measure => (simp [intOf]) <;> omega
        · obtain rfl : i = 8 := by omega
          obtain ⟨q, c, rfl, hq, hr⟩ := hO.row (by rw [byts_length vn 8 (by rw [R.out.2.2.1]; omega)]; omega)
          have hbl := byts_length vn 8 (by rw [R.out.2.2.1]; omega)
          have hcv := conv8 hr hbl c
          rw [← R.out.2.2.2.2] at hcv
          have HE := Lib.hid (hF.below (Nat.le_refl _) (fun _ h => by rw [← HG.out]; exact h))
          rw [hbl]
          clear hO hN hF hr hbl
          go_wp2
          go_ret
          exact ⟨rfl, HE.out⟩
end Go.Proofs.Ytnjiflkbgpbchaa
