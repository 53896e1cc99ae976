/-
  The contracts of sha (layer 5), as the statements use them. Conditions: as each says.
-/
import Derived.Test.YtnjiflkbgpbchaaShaT
namespace Go.Proofs.Ytnjiflkbgpbchaa
open Go.RowKit Go.Sort

/-- Nothing is asked of memory. -/
def Tab (_ : World) : Prop := True
theorem tab_any (w : World) : Tab w := trivial
theorem Tab.bel {w w' : World} (_ : Tab w) (_ : Below w.heap.size w w') : Tab w' := trivial
theorem Tab.below {w w' : World} (_ : Tab w) (_ : Fr (fun j => w.heap.size ≤ j) w w') : Tab w' := trivial
theorem Tab.drew {w : World} (_ : Tab w) : Tab w.drew := trivial
theorem Tab.drewN {w : World} (_ : Tab w) (n : Nat) : Tab (w.drewN n) := trivial

theorem chain_add (K v : List Nat) (l : List UInt8) (a : Nat) : ∀ b, chain K v l (a + b) = chain K (chain K v l a) (l.drop (64 * a)) b
  | 0 => rfl
  | b + 1 => by
    rw [show a + (b + 1) = a + b + 1 by omega, chain, chain, chain_add K v l a b, List.drop_drop, show 64 * a + 64 * b = 64 * (a + b) by omega]
theorem chain_take (K v : List Nat) (l : List UInt8) (n : Nat) : ∀ j, j ≤ n → chain K v (l.take (64 * n)) j = chain K v l j
  | 0, _ => rfl
  | j + 1, h => by
    rw [chain, chain, chain_take K v l n j (by omega), List.drop_take, List.take_take, Nat.min_eq_left (by omega)]

set_option maxRecDepth 100000 in
set_option maxHeartbeats 2000000 in
theorem sum_in (s : ByteArray) (w : World) (hm : s.size ≤ 1048576) :
    Calls Try.prog 13 #[.string s] w fun e w' => e = .returned (.string (bs (digL s))) ∧ Below w.heap.size w w' := by
  obtain ⟨hz8, hs8⟩ := zero_of_info eight_info
  have HS8 := Lib.hid hs8
  obtain ⟨kw, hkw⟩ : ∃ k, k = s.size / 64 := ⟨_, rfl⟩
  obtain ⟨r, hr⟩ : ∃ r, r = s.size % 64 := ⟨_, rfl⟩
  obtain ⟨wh, hwh⟩ : ∃ x, x = 64 * kw := ⟨_, rfl⟩
  have hpl : (bs (padL s.size)).size ≤ 80 := by rw [bs_size, padL_length]; have := nou_lt s.size; omega
  have k1 : Int.tmod (s.size : Int) 64 = (r : Int) := by rw [Int.tmod_eq_emod_of_nonneg (by omega)]; omega
  have k1' : (s.size : Int) % 64 = (r : Int) := by omega
  have k2 : IntKind.i64.wrap ((s.size : Int) - (r : Int)) = (wh : Int) := by rw [IntWalk.i64_in _ (by omega)]; omega
  have k2' : (s.size : Int) - (r : Int) = (wh : Int) := by omega
  have hle : wh ≤ s.size := by omega
  -- the two texts
  obtain ⟨ta, hta⟩ : ∃ t, t = s.extract 0 wh := ⟨_, rfl⟩
  obtain ⟨tb, htb⟩ : ∃ t, t = s.extract wh s.size := ⟨_, rfl⟩
  have htbz : tb.size ≤ 1048576 := by rw [htb, ByteArray.size_extract]; omega
  have hal : ta.data.toList = (padded s).take (64 * kw) := by
    rw [hta, Lib.extract_data, List.drop_zero, Nat.sub_zero, padded, hwh, List.take_append_of_le_length (by simp; omega)]
  have haz : ta.size = 64 * kw := by rw [hta, ByteArray.size_extract]; omega
  have hbl : (tb ++ bs (padL s.size)).data.toList = (padded s).drop (64 * kw) := by
    rw [padded, List.drop_append_of_le_length (by simp; omega)]
    have : tb = bs (s.data.toList.drop (64 * kw)) := by
      rw [htb, ← bs_of s, bs_tail, bs_list, hwh]
    rw [this, bs_append, bs_list]
  obtain ⟨kr, hkr⟩ : ∃ k, k = nblk s.size - kw := ⟨_, rfl⟩
  have hnb := nblk_mul s.size
  have hpd := padded_length s
  have hnk : kw + kr = nblk s.size := by omega
  obtain ⟨tc, htc⟩ : ∃ t, t = tb ++ bs (padL s.size) := ⟨_, rfl⟩
  rw [← htc] at hbl
  have hcz : tc.size = 64 * kr := by
    have : tc.size = tc.data.toList.length := by simp
    rw [this, hbl, List.length_drop, hpd]
    omega
  have hcm : tc.size ≤ 1050000 := by rw [hcz]; have := nou_lt s.size; omega
  have e1 := hta.symm
  have e2 := htb.symm
  have e3 := htc.symm
  have hleI : (wh : Int) ≤ (s.size : Int) := by omega
  obtain ⟨ca, hca⟩ : ∃ c, c = chain KEY F8 (padded s) kw := ⟨_, rfl⟩
  have hcal := chain_length KEY F8 (padded s) first_length kw
  have hcaw := chain_w32 KEY F8 (padded s) first_w32 kw
  rw [← hca] at hcal hcaw
  obtain ⟨cb, hcb⟩ : ∃ c, c = chain KEY F8 (padded s) (nblk s.size) := ⟨_, rfl⟩
  have hcbl := chain_length KEY F8 (padded s) first_length (nblk s.size)
  have hcbw := chain_w32 KEY F8 (padded s) first_w32 (nblk s.size)
  rw [← hcb] at hcbl hcbw
  have hdg : digL s = byts cb 8 := by rw [digL, hcb]
  have ea : chain KEY F8 ta.data.toList kw = ca := by rw [hal, chain_take KEY F8 _ kw kw (Nat.le_refl _), hca]
  have eb : chain KEY ca tc.data.toList kr = cb := by rw [hbl, hca, ← chain_add, hnk, hcb]
  obtain ⟨XF, hXF⟩ : ∃ X, X = (F8.map fun (n : Nat) => Value.int .u32 (n : Int)).toArray := ⟨_, rfl⟩
  obtain ⟨XA, hXA⟩ : ∃ X, X = (ca.map fun (n : Nat) => Value.int .u32 (n : Int)).toArray := ⟨_, rfl⟩
  obtain ⟨XB, hXB⟩ : ∃ X, X = (cb.map fun (n : Nat) => Value.int .u32 (n : Int)).toArray := ⟨_, rfl⟩
  have vF : wordsOf .u32 F8 = Value.agg XF := by rw [hXF]; rfl
  have vA : wordsOf .u32 ca = Value.agg XA := by rw [hXA]; rfl
  have vB : wordsOf .u32 cb = Value.agg XB := by rw [hXB]; rfl
  have CF := Lib.hid (fun W => first_in W)
  have CA := Lib.hid (fun W => mixed_in F8 ta XF kw W hXF first_length first_w32 haz (by omega))
  have CB := Lib.hid (fun W => mixed_in ca tc XA kr W hXA hcal hcaw hcz hcm)
  rw [vF] at CF
  rw [ea, vA] at CA
  rw [eb, vB] at CB
  have CP := Lib.hid (fun W => pad_in s.size W (by omega))
  obtain ⟨PB, hPB⟩ : ∃ P, P = bs (padL s.size) := ⟨_, rfl⟩
  rw [← hPB] at e3 hpl CP
  have HV := Lib.hid (And.intro vA.symm (And.intro vB.symm (And.intro hcal (And.intro hcbl (And.intro hcbw (And.intro hdg hXB))))))
  clear hPB htc hkw hr hwh hta htb hal haz hbl hkr hnb hpd hnk hcz hcm hca hcal hcaw hcb hcbl hcbw hdg ea eb hXF hXA hXB vF vA vB hs8
  go_enter Try.func13, Try.ntmps13
  go_wp2_with fail
  refine (CP.out _).mono ?_
  rintro e w1 ⟨rfl, b1⟩
  have HB1 := Lib.hid b1
  clear b1
  go_wp2_with fail
  rename_i K0 hK0
  have rest : ∀ (p : Nat) (W : World), w.heap.size ≤ p → Nums .u32 25 W p ca → Fr (fun j => w.heap.size ≤ j) w W → K0 { tmps := #[.string s, undef, .string ByteArray.empty, .string PB, .int .i64 0, .int .i64 wh, .pointer (some ⟨p, 0, none⟩), undef, undef, undef, .tuple #[.string PB, .int .i64 0], .string s, .int .i64 s.size, .tuple #[.string PB, .int .i64 0], .string PB, .int .i64 0, .string s, .int .i64 s.size, .string s, .int .i64 s.size, .int .i64 r, .int .i64 wh, .agg XF, .string s, .int .i64 wh, .string ta, .agg XA, undef, undef, undef, undef, undef, undef, undef, undef, undef, undef, undef, undef, undef, undef, undef, undef, undef, undef], defers := [] } W := by
    intro p W hp hN hF
    refine hK0 _ _ ?_
    clear hK0 K0
    have R := Lib.hid (And.intro hN (And.intro hF hp))
    clear hN hF hp
    go_wp2_with fail
    refine wp_quiet_tail 6 (by kernel_rfl) (by kernel_rfl) W rfl ?_
    simp only [List.take_succ_cons, List.take_zero, List.drop_succ_cons, List.drop_zero]
    refine wpQuiet_load_nums rfl 25 (.tmp 6) rfl (by rfl) R.out.1 Try.underlying25 rfl (by rw [HV.out.2.2.1]; exact HS8.out) (.agg XA) HV.out.1 ?_
    simp only [Act.put, List.setIfInBounds_toArray, List.set_cons_zero, List.set_cons_succ]
    repeat (go_big_quiet_step (fail))
    refine wpQuiet_nil ?_
    intro q
    obtain ⟨W1, hW1⟩ : ∃ W1, W1 = W.drewN q := ⟨_, rfl⟩
    rw [← hW1]
    have R1 := Lib.hid (show Nums .u32 25 W1 p ca ∧ Fr (fun j => w.heap.size ≤ j) w W1 from by rw [hW1]; exact ⟨R.out.1.drewN q, R.out.2.1.drewN q⟩)
    clear hW1
    go_wp2_with fail
    refine (CB.out _).mono ?_
    rintro e w2 ⟨rfl, b2⟩
    have N2 := R1.out.1.bel b2
    have F2 := R1.out.2.trans (Fr.ofBelow b2)
    obtain ⟨W3, hW3⟩ : ∃ W3, W3 = w2.setRow p (cb.map fun (n : Nat) => Value.int .u32 (n : Int)).toArray := ⟨_, rfl⟩
    have N3 := N2.setRow cb
    have F3 := fr_setRow (g := p) F2 (.inl R.out.2.2) (cb.map fun (n : Nat) => Value.int .u32 (n : Int)).toArray
    rw [← hW3] at N3 F3
    have R3 := Lib.hid (And.intro N2 (And.intro hW3 (And.intro N3 F3)))
    clear N2 F2 hW3 N3 F3 b2
    go_wp2_with (first
      | (refine wpList_store_nums (by with_reducible rfl) 25 (.tmp 6) (.tmp 33) (by with_reducible rfl) (by rfl) (.agg XB) (by rfl) HV.out.2.1 R3.out.1 (by rw [HV.out.2.2.1, HV.out.2.2.2.1]) (by rw [HV.out.2.2.2.1]; exact HS8.out) W3 R3.out.2.1 ?_)
      | (refine wpList_load_nums (by with_reducible rfl) 25 (.tmp 6) (by with_reducible rfl) (by rfl) R3.out.2.2.1 Try.underlying25 rfl (by rw [HV.out.2.2.2.1]; exact HS8.out) (.agg XB) HV.out.2.1 ?_)
      | fail)
    go_loopw [7, 35] (fun v7 v35 wr => ∃ i : Nat, v35 = .int .i64 i ∧ i ≤ 8 ∧ Own8 wr w.heap.size v7 (byts cb i) ∧ Fr (fun j => w.heap.size ≤ j) w wr) (fun _ i _ => 8 - (intOf i).toNat)
    case atStart => exact ⟨0, rfl, by omega, Own8.nil _ _, R3.out.2.2.2⟩
    case round =>
      obtain ⟨i, rfl, hi, hO, hF⟩ := hrel
      by_cases hlt : i < 8
      · have hbx := HV.out.2.2.2.2.1.getD i
        have hXi : XB[i]? = some (.int .u32 (cb.getD i 0 : Nat)) := by
          have hl := HV.out.2.2.2.1
          have hiv : i < cb.length := by omega
          rw [HV.out.2.2.2.2.2.2]
          simp [List.getD, hiv]
        have hix := fun W => index_words XB i _ W hXi hlt
        have hsucc := byts_succ cb i (by rw [HV.out.2.2.2.1]; exact hlt)
        have hbl := byts_length cb i (by rw [HV.out.2.2.2.1]; exact hi)
        obtain ⟨x, hx⟩ : ∃ x, x = cb.getD i 0 := ⟨_, rfl⟩
        rw [← hx] at hix hbx hsucc
        rw [← byt_big] at hsucc
        have k0 : IntKind.u64.wrap (x : Int) = (x : Int) := by rw [IntKind.wrap_u64]; omega
        have HA := Lib.hid (fun W hO hb => appendBig_any x 4 w.heap.size u7 (byts cb i) W (by omega) (by omega) hO (by omega) hb)
        have R5 := Lib.hid (And.intro hO (And.intro hF hsucc))
        clear hO hF hsucc hx hXi hbl
        go_wp2_with fail
        refine (HA.out _ R5.out.1 R5.out.2.1.size).mono ?_
        rintro e w5 ⟨v', rfl, hO, hF⟩
        rw [← R5.out.2.2] at hO
        have R6 := Lib.hid (And.intro hO (R5.out.2.1.trans hF))
        clear hO hF HA
        go_wp2
        go_roundw
        case rel => exact ⟨i + 1, by go_num, by omega, R6.out⟩
        case measure => (simp [intOf]) <;> omega
      · obtain rfl : i = 8 := by omega
        obtain ⟨q', c, rfl, _, hr⟩ := hO.row (by rw [byts_length cb 8 (by rw [HV.out.2.2.2.1]; omega)]; omega)
        have hbl := byts_length cb 8 (by rw [HV.out.2.2.2.1]; omega)
        have hcv := conv8 hr hbl c
        rw [← HV.out.2.2.2.2.2.1] at hcv
        have HE := Lib.hid (hF.below (Nat.le_refl _) fun _ h => h)
        rw [hbl]
        clear hO hF hr hbl
        go_wp2
        go_ret
        exact ⟨rfl, HE.out⟩
  clear hK0
  refine wp_region_held_drew (S := fun _ => True) (by kernel_rfl) trivial (fun hHeld => ?_)
  refine held_take 1 23 (v := ?v1) rfl rfl (by kernel_rfl) (by kernel_rfl) (by kernel_rfl) (fun _ _ _ h => h) (by rfl) ?hy1 (by assumption) ?rest1
  case hy1 => (intro w hSw; (try dsimp only at hSw); go_simp; try with_reducible rfl)
  try simp only [Act.put, List.setIfInBounds_toArray, List.set_cons_zero, List.set_cons_succ]
  refine held_take 2 24 (v := ?v2) rfl rfl (by kernel_rfl) (by kernel_rfl) (by kernel_rfl) (fun _ _ _ h => h) (by rfl) ?hy2 (by assumption) ?rest2
  case hy2 => (intro w hSw; (try dsimp only at hSw); go_simp; try with_reducible rfl)
  try simp only [Act.put, List.setIfInBounds_toArray, List.set_cons_zero, List.set_cons_succ]
  refine held_take 3 25 (v := ?v3) rfl rfl (by kernel_rfl) (by kernel_rfl) (by kernel_rfl) (fun _ _ _ h => h) (by rfl) ?hy3 (by assumption) ?rest3
  case hy3 => (intro w hSw; (try dsimp only at hSw); go_simp; try with_reducible rfl)
  try simp only [Act.put, List.setIfInBounds_toArray, List.set_cons_zero, List.set_cons_succ]
  have FB1 : Fr (fun j => w.heap.size ≤ j) w w1.drew := (Fr.ofBelow HB1.out).drew
  refine wpAnyH_ready (rs := [0, 5]) (by kernel_rfl) (by simp) ?_
  refine AllReadyH.cons rfl (fun K hK => ?_) (AllReadyH.cons rfl (fun K hK => ?_) AllReadyH.nil)
  · go_simp
    refine (CF.out _).mono ?_
    rintro x wa ⟨rfl, ba⟩
    have FA := FB1.trans (Fr.ofBelow ba)
    refine hK.out _ _ trivial (fun _ => ?_)
    clear hK K ba
    try simp only [Act.put, List.setIfInBounds_toArray, List.set_cons_zero, List.set_cons_succ]
    refine wpAnyH_ready (rs := [4, 5]) (by kernel_rfl) (by simp) ?_
    refine AllReadyH.cons rfl (fun K hK => ?_) (AllReadyH.cons rfl (fun K hK => ?_) AllReadyH.nil)
    · go_simp
      refine (CA.out _).mono ?_
      rintro x wb ⟨rfl, bb⟩
      have FBB := FA.trans (Fr.ofBelow bb)
      refine hK.out _ _ trivial (fun _ => ?_)
      clear hK K bb
      try simp only [Act.put, List.setIfInBounds_toArray, List.set_cons_zero, List.set_cons_succ]
      refine wpAnyH_ready (rs := [5]) (by kernel_rfl) (by simp) ?_
      refine AllReadyH.cons rfl (fun K hK => ?_) AllReadyH.nil
      go_simp
      have NZ := Nums.zeros .u32 25 wb 8
      have FZ := FBB.alloc (.cells (Array.replicate 8 (.int .u32 0)) 25)
      have hp := FBB.size
      refine hK.out _ _ trivial (fun _ => ?_)
      clear hK K
      try simp only [Act.put, List.setIfInBounds_toArray, List.set_cons_zero, List.set_cons_succ]
      refine wpAnyH_ready (rs := [6]) (by kernel_rfl) (by simp) ?_
      refine AllReadyH.cons rfl (fun K hK => ?_) AllReadyH.nil
      rw [if_pos (by rfl)]
      refine wp_store_nums 25 (.tmp 6) (.tmp 26) rfl (by rfl) (.agg XA) (by rfl) HV.out.1 NZ (by rw [HV.out.2.2.1, List.length_replicate]) (by rw [HV.out.2.2.1]; exact HS8.out) _ rfl ?_
      refine hK.out _ _ trivial (fun _ => ?_)
      refine wpAnyH_done (by kernel_rfl) ?_ _
      exact rest _ _ hp (NZ.setRow ca) (fr_setRow FZ (.inl hp) _)
    · go_simp
      have NQ := Nums.zeros .u32 25 wa 8
      have FQ := FA.alloc (.cells (Array.replicate 8 (.int .u32 0)) 25)
      have hp := FA.size
      refine hK.out _ _ trivial (fun _ => ?_)
      clear hK K
      try simp only [Act.put, List.setIfInBounds_toArray, List.set_cons_zero, List.set_cons_succ]
      refine wpAnyH_ready (rs := [4]) (by kernel_rfl) (by simp) ?_
      refine AllReadyH.cons rfl (fun K hK => ?_) AllReadyH.nil
      go_simp
      refine (CA.out _).mono ?_
      rintro x wb ⟨rfl, bb⟩
      have NZ := NQ.bel bb
      have FZ := FQ.trans (Fr.ofBelow bb)
      refine hK.out _ _ trivial (fun _ => ?_)
      clear hK K bb
      try simp only [Act.put, List.setIfInBounds_toArray, List.set_cons_zero, List.set_cons_succ]
      refine wpAnyH_ready (rs := [6]) (by kernel_rfl) (by simp) ?_
      refine AllReadyH.cons rfl (fun K hK => ?_) AllReadyH.nil
      rw [if_pos (by rfl)]
      refine wp_store_nums 25 (.tmp 6) (.tmp 26) rfl (by rfl) (.agg XA) (by rfl) HV.out.1 NZ (by rw [HV.out.2.2.1, List.length_replicate]) (by rw [HV.out.2.2.1]; exact HS8.out) _ rfl ?_
      refine hK.out _ _ trivial (fun _ => ?_)
      refine wpAnyH_done (by kernel_rfl) ?_ _
      exact rest _ _ hp (NZ.setRow ca) (fr_setRow FZ (.inl hp) _)
  · go_simp
    have NQ := (Nums.zeros .u32 25 w1.drew 8)
    have FQ := FB1.alloc (.cells (Array.replicate 8 (.int .u32 0)) 25)
    have hp := FB1.size
    refine hK.out _ _ trivial (fun _ => ?_)
    clear hK K
    try simp only [Act.put, List.setIfInBounds_toArray, List.set_cons_zero, List.set_cons_succ]
    refine wpAnyH_ready (rs := [0]) (by kernel_rfl) (by simp) ?_
    refine AllReadyH.cons rfl (fun K hK => ?_) AllReadyH.nil
    go_simp
    refine (CF.out _).mono ?_
    rintro x wa ⟨rfl, ba⟩
    have NA := NQ.bel ba
    have FA := FQ.trans (Fr.ofBelow ba)
    refine hK.out _ _ trivial (fun _ => ?_)
    clear hK K ba
    try simp only [Act.put, List.setIfInBounds_toArray, List.set_cons_zero, List.set_cons_succ]
    refine wpAnyH_ready (rs := [4]) (by kernel_rfl) (by simp) ?_
    refine AllReadyH.cons rfl (fun K hK => ?_) AllReadyH.nil
    go_simp
    refine (CA.out _).mono ?_
    rintro x wb ⟨rfl, bb⟩
    have NZ := NA.bel bb
    have FZ := FA.trans (Fr.ofBelow bb)
    refine hK.out _ _ trivial (fun _ => ?_)
    clear hK K bb
    try simp only [Act.put, List.setIfInBounds_toArray, List.set_cons_zero, List.set_cons_succ]
    refine wpAnyH_ready (rs := [6]) (by kernel_rfl) (by simp) ?_
    refine AllReadyH.cons rfl (fun K hK => ?_) AllReadyH.nil
    rw [if_pos (by rfl)]
    refine wp_store_nums 25 (.tmp 6) (.tmp 26) rfl (by rfl) (.agg XA) (by rfl) HV.out.1 NZ (by rw [HV.out.2.2.1, List.length_replicate]) (by rw [HV.out.2.2.1]; exact HS8.out) _ rfl ?_
    refine hK.out _ _ trivial (fun _ => ?_)
    refine wpAnyH_done (by kernel_rfl) ?_ _
    exact rest _ _ hp (NZ.setRow ca) (fr_setRow FZ (.inl hp) _)

theorem pad_ok (n : Nat) (w : World) (_ : Tab w) (hn : n ≤ 1099511627776) :
    Calls Try.prog 17 #[.int .i64 n] w fun e w' => e = .returned (.tuple #[.string (bs (padL n)), .int .i64 0]) ∧ Below w.heap.size w w' := pad_in n w hn
theorem pad_arg (n : Int) (w : World) (_ : Tab w) (hn : n < 0 ∨ 1099511627776 < n) :
    Calls Try.prog 17 #[.int .i64 n] w fun e w' => e = .returned (.tuple #[.string ByteArray.empty, .int .i64 1]) ∧ Below w.heap.size w w' := pad_out n w hn
theorem first_any (w : World) (_ : Tab w) : Calls Try.prog 19 #[] w fun e w' => e = .returned (wordsOf .u32 F8) ∧ Below w.heap.size w w' := first_in w
theorem mix_ok (v : List Nat) (s : ByteArray) (Y : Array Value) (w : World) (_ : Tab w) (hY : Y = (v.map fun (n : Nat) => Value.int .u32 (n : Int)).toArray) (lv : v.length = 8) (dv : W32 v) (hs : s.size = 64) :
    Calls Try.prog 24 #[.agg Y, .string s] w fun e w' => e = .returned (.tuple #[wordsOf .u32 (mixed KEY s.data.toList v), .int .i64 0]) ∧ Below w.heap.size w w' := mix_any v s Y w hY lv dv hs
theorem mix_arg (v : List Nat) (s : ByteArray) (Y : Array Value) (w : World) (_ : Tab w) (hY : Y = (v.map fun (n : Nat) => Value.int .u32 (n : Int)).toArray) (lv : v.length = 8) (hs : s.size ≠ 64) (_ : s.size ≤ 1048576) :
    Calls Try.prog 24 #[.agg Y, .string s] w fun e w' => e = .returned (.tuple #[wordsOf .u32 (List.replicate 8 0), .int .i64 1]) ∧ Below w.heap.size w w' := mix_out v s Y w hY lv hs
theorem sum_any (s : ByteArray) (w : World) (_ : Tab w) (hs : s.size ≤ 1048576) :
    Calls Try.prog 13 #[.string s] w fun e w' => e = .returned (.string (bs (digL s))) ∧ Below w.heap.size w w' := sum_in s w hs
end Go.Proofs.Ytnjiflkbgpbchaa
