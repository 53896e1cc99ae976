/-
  For every text and every row of numbers CompactCursor answers true over this seat's translation. Conditions: the row holds uint64s; the table of sizes is in memory as the program's text lays it.
-/
import Derived.Test.YtpneccbeccgfmaaDoorComC
import Derived.Test.YtpneccbeccgfmaaDoorHeld
import Derived.OpenShut
namespace Go.Proofs.YtpneccbeccgfmaaDoor
open Go.RowKit Go.Sort

theorem compactCursor_long (s : ByteArray) (a : Option Addr) (len cap : Nat) (w : World) (ht : Tab w) (hs : 300 < s.size) (hm : s.size ≤ maxLen) :
    Calls Tryd.prog 5 #[.string s, .slice a len cap] w fun e w' => e = .returned (.bool true) ∧ Below w.heap.size w w' := by
  unfold maxLen at hm
  have t1 : decide ((300 : Int) < (s.size : Int)) = true := by simp; omega
  have T := Lib.hid ht
  clear ht
  go_enter Tryd.func5, Tryd.ntmps5
  go_wp2_with fail
  refine (alive_any _ T.out).mono ?_
  rintro e w1 ⟨rfl, b1⟩
  have B1 := Lib.hid b1
  clear b1
  go_wp2
  go_ret
  exact ⟨rfl, B1.out⟩

theorem compactCursor_many (s : ByteArray) (a : Option Addr) (len cap : Nat) (w : World) (ht : Tab w) (hs : s.size ≤ 300) (hl : 40 < len) (hm : len ≤ maxLen) :
    Calls Tryd.prog 5 #[.string s, .slice a len cap] w fun e w' => e = .returned (.bool true) ∧ Below w.heap.size w w' := by
  unfold maxLen at hm
  have t1 : decide ((300 : Int) < (s.size : Int)) = false := by simp; omega
  have t3 : decide ((40 : Int) < (len : Int)) = true := by simp; omega
  have T := Lib.hid ht
  clear ht
  go_enter Tryd.func5, Tryd.ntmps5
  go_wp2_with fail
  refine (alive_any _ T.out).mono ?_
  rintro e w1 ⟨rfl, b1⟩
  have B1 := Lib.hid b1
  clear b1
  go_wp2
  go_ret
  exact ⟨rfl, B1.out⟩

set_option maxHeartbeats 1000000 in
theorem compactCursor_few (s : ByteArray) (a : Option Addr) (len cap : Nat) (zs : List Int) (w : World) (ht : Tab w) (hs : s.size ≤ 300) (hl : len ≤ 40)
    (hc : ∀ k, k < len → ∃ b off, a = some ⟨b, off, none⟩ ∧ b < w.heap.size ∧ w.cell? ⟨b, off + k, none⟩ = some (.int .u64 (zs.getD k 0)) ∧ 0 ≤ zs.getD k 0 ∧ zs.getD k 0 ≤ 18446744073709551615) :
    Calls Tryd.prog 5 #[.string s, .slice a len cap] w fun e w' => e = .returned (.bool true) ∧ Below w.heap.size w w' := by
  have t1 : decide ((300 : Int) < (s.size : Int)) = false := by simp; omega
  have t3 : decide ((40 : Int) < (len : Int)) = false := by simp; omega
  have HC := Lib.hid hc
  clear hc
  have T := Lib.hid ht
  clear ht
  go_enter Tryd.func5, Tryd.ntmps5
  go_wp2_with fail
  refine (alive_any _ T.out).mono ?_
  rintro e w1 ⟨rfl, hb⟩
  have HB := Lib.hid hb
  clear hb
  go_wp2_with fail
  refine (read_any _ _).mono ?_
  rintro e w2 ⟨rfl, rfl⟩
  have R0 := Rd.new w1 s
  have F0 : Fr (fun j => w1.heap.size ≤ j) w1 (w1.alloc (.cells #[.string s, .int .i64 0, .int .i64 0] 51)) := (Fr.refl _ w1).alloc _
  have hz0 : (w1.alloc (.cells #[.string s, .int .i64 0, .int .i64 0] 51)).heap.size = w1.heap.size + 1 := by simp
  obtain ⟨b, hb⟩ : ∃ b, b = w1.heap.size := ⟨_, rfl⟩
  rw [← hb] at R0 F0 hz0
  rw [← hb]
  generalize w1.alloc (.cells #[.string s, .int .i64 0, .int .i64 0] 51) = W at *
  have HW := Lib.hid hb
  clear hb
  go_wp2_with fail
  refine (of_any _ _).mono ?_
  rintro e w2 ⟨rfl, rfl⟩
  have X0 := Xd.new W s
  rw [hz0] at X0
  rw [hz0]
  have R1 := R0.alloc (.cells #[.string s, .int .i64 0, .int .i64 0] 39)
  have F1 := F0.alloc (.cells #[.string s, .int .i64 0, .int .i64 0] 39)
  generalize W.alloc (.cells #[.string s, .int .i64 0, .int .i64 0] 39) = W2 at *
  have F := Lib.hid F1
  have R := Lib.hid R1
  have X := Lib.hid X0
  clear F0 R0 hz0 R1 F1 X0
  go_wp2_with fail
  clear t1 t3
  go_loopw [7] (fun v7 wr => ∃ i k e : Nat, i ≤ len ∧ k ≤ s.size ∧ v7 = .int .i64 i ∧ Rd wr b s k e ∧ Xd wr (b + 1) s k e ∧ Fr (fun j => b ≤ j) w1 wr)
    (fun i _ => len - (intOf i).toNat)
  case atStart =>
    exact ⟨0, 0, 0, Nat.zero_le _, Nat.zero_le _, rfl, R.out, X.out, F.out⟩
  case round =>
    obtain ⟨i, k, e, hi, hk, rfl, hr, hx, hf⟩ := hrel
    have RR := Lib.hid hr
    have RX := Lib.hid hx
    have RF := Lib.hid hf
    clear hr hx hf
    by_cases hlt : i < len
    · obtain ⟨bx, off, rfl, hbx, hcell, h0, h255⟩ := HC.out i hlt
      have cx := (RF.out.cell (p := ⟨bx, off + i, none⟩) (Nat.lt_of_lt_of_le hbx HB.out.size) (by show ¬ b ≤ bx; have := HW.out; have := HB.out.size; omega)).trans ((HB.out.cell (p := ⟨bx, off + i, none⟩) hbx).trans hcell)
      clear hcell
      obtain ⟨m, hm⟩ : ∃ m : Nat, zs.getD i 0 = (m : Int) := ⟨(zs.getD i 0).toNat, by omega⟩
      rw [hm] at cx h255
      clear hm h0
      have hbx2 : bx < b := by have := HW.out; have := HB.out.size; omega
      obtain ⟨v, k2, e2, hrd⟩ := reads_total s k e m
      have hk2 : k2 ≤ s.size := reads_place hrd hk
      have HR := Lib.hid hrd
      have hb0 : 0 < b := by have := HW.out; have := HB.out.size; have := T.out.lt; omega
      have TT := Lib.hid ((T.out.bel HB.out).frame RF.out (by show ¬ b ≤ 0; omega))
      have hlr := RR.out.lt
      have hlx := RX.out.lt
      clear hrd
      go_wp2_with fail
      refine wp_region_held_drew (S := fun w' => w'.cell? ⟨bx, off + i, none⟩ = some (.int .u64 m)) (by kernel_rfl) ?_ (fun hHeld => ?_)
      · exact cx
      refine held_take 0 28 (v := ?v0) rfl rfl (by kernel_rfl) (by kernel_rfl) (by kernel_rfl) (fun _ _ _ h => h) (by rfl) ?hy0 (by assumption) ?rest0
      case hy0 => (intro w hSw; (try dsimp only at hSw); go_simp; try with_reducible rfl)
      try simp only [Act.put, List.setIfInBounds_toArray, List.set_cons_zero, List.set_cons_succ]
      refine held_take 1 29 (v := ?v1) rfl rfl (by kernel_rfl) (by kernel_rfl) (by kernel_rfl) (fun _ _ _ h => h) (by rfl) ?hy1 (by assumption) ?rest1
      case hy1 => (intro w hSw; (try dsimp only at hSw); go_simp; try with_reducible rfl)
      try simp only [Act.put, List.setIfInBounds_toArray, List.set_cons_zero, List.set_cons_succ]
      refine held_take 2 30 (v := ?v2) rfl rfl (by kernel_rfl) (by kernel_rfl) (by kernel_rfl) (fun _ _ _ h => h) (by rfl) ?hy2 (by assumption) ?rest2
      case hy2 => (intro w hSw; (try dsimp only at hSw); go_simp; try with_reducible rfl)
      try simp only [Act.put, List.setIfInBounds_toArray, List.set_cons_zero, List.set_cons_succ]
      refine held_take 3 31 (v := ?v3) rfl rfl (by kernel_rfl) (by kernel_rfl) (by kernel_rfl) (fun _ _ _ h => h) (by rfl) ?hy3 (by assumption) ?rest3
      case hy3 => (intro w hSw; (try dsimp only at hSw); go_simp; try with_reducible rfl)
      try simp only [Act.put, List.setIfInBounds_toArray, List.set_cons_zero, List.set_cons_succ]
      refine held_take 4 32 (v := ?v4) rfl rfl (by kernel_rfl) (by kernel_rfl) (by kernel_rfl) (fun _ _ _ h => h) (by rfl) ?hy4 (by assumption) ?rest4
      case hy4 => (intro w hSw; (try dsimp only at hSw); go_simp; try with_reducible rfl)
      try simp only [Act.put, List.setIfInBounds_toArray, List.set_cons_zero, List.set_cons_succ]
      refine held_take 6 34 (v := ?v6) rfl rfl (by kernel_rfl) (by kernel_rfl) (by kernel_rfl) (fun _ _ _ h => h) (by rfl) ?hy6 (by assumption) ?rest6
      case hy6 => (intro w hSw; (try dsimp only at hSw); go_simp; try with_reducible rfl)
      try simp only [Act.put, List.setIfInBounds_toArray, List.set_cons_zero, List.set_cons_succ]
      refine held_take 7 35 (v := ?v7) rfl rfl (by kernel_rfl) (by kernel_rfl) (by kernel_rfl) (fun _ _ _ h => h) (by rfl) ?hy7 (by assumption) ?rest7
      case hy7 => (intro w hSw; (try dsimp only at hSw); go_simp; try with_reducible rfl)
      try simp only [Act.put, List.setIfInBounds_toArray, List.set_cons_zero, List.set_cons_succ]
      refine held_take 8 36 (v := ?v8) rfl rfl (by kernel_rfl) (by kernel_rfl) (by kernel_rfl) (fun _ _ _ h => h) (by rfl) ?hy8 (by assumption) ?rest8
      case hy8 => (intro w hSw; (try dsimp only at hSw); go_simp; try with_reducible rfl)
      try simp only [Act.put, List.setIfInBounds_toArray, List.set_cons_zero, List.set_cons_succ]
      refine held_take 9 37 (v := ?v9) rfl rfl (by kernel_rfl) (by kernel_rfl) (by kernel_rfl) (fun _ _ _ h => h) (by rfl) ?hy9 (by assumption) ?rest9
      case hy9 => (intro w hSw; (try dsimp only at hSw); go_simp; try with_reducible rfl)
      try simp only [Act.put, List.setIfInBounds_toArray, List.set_cons_zero, List.set_cons_succ]
      refine held_take 10 38 (v := ?v10) rfl rfl (by kernel_rfl) (by kernel_rfl) (by kernel_rfl) (fun _ _ _ h => h) (by rfl) ?hy10 (by assumption) ?rest10
      case hy10 => (intro w hSw; (try dsimp only at hSw); go_simp; try with_reducible rfl)
      try simp only [Act.put, List.setIfInBounds_toArray, List.set_cons_zero, List.set_cons_succ]
      refine wpAnyH_ready (rs := [5]) (by kernel_rfl) (by simp) ?_
      refine AllReadyH.cons rfl (fun K hK => ?_) AllReadyH.nil
      go_simp
      refine (compactRead_any b s k e m v k2 e2 HR.out _ TT.out.drew (by omega) RR.out.drew hk (by omega)).mono ?_
      rintro x wl ⟨rfl, rl, fl⟩
      have c1 : wl.cell? ⟨bx, off + i, none⟩ = some (.int .u64 m) := (fl.cell (p := ⟨bx, off + i, none⟩) (Nat.lt_trans hbx2 hlr) (by show ¬ bx = b; omega)).trans cx
      have XA : Xd wl (b + 1) s k e := RX.out.keep (fl.block (b + 1) hlx (by omega))
      have FA : Fr (fun j => b ≤ j) w1 wl := Fr.then_ RF.out.drew fl (fun j _ h => by rw [h]; exact Nat.le_refl _)
      have gL := Lib.hid (And.intro rl (And.intro XA FA))
      clear rl fl XA FA hHeld cx
      refine hK.out _ _ c1 (fun hHeld => ?_)
      clear hK K
      try simp only [Act.put, List.setIfInBounds_toArray, List.set_cons_zero, List.set_cons_succ]
      refine wpAnyH_ready (rs := [11]) (by kernel_rfl) (by simp) ?_
      refine AllReadyH.cons rfl (fun K hK => ?_) AllReadyH.nil
      go_simp
      refine (refRead_any (b + 1) s k e m v k2 e2 HR.out _ gL.out.2.1 hk (by omega)).mono ?_
      rintro x w2 ⟨rfl, rx, fx⟩
      have c2 : w2.cell? ⟨bx, off + i, none⟩ = some (.int .u64 m) := (fx.cell (p := ⟨bx, off + i, none⟩) (Nat.lt_trans hbx2 gL.out.1.lt) (by show ¬ bx = b + 1; omega)).trans c1
      have RB : Rd w2 b s k2 e2 := gL.out.1.keep (fx.block b gL.out.1.lt (by omega))
      have FB : Fr (fun j => b ≤ j) w1 w2 := Fr.then_ gL.out.2.2 fx (fun j _ h => by rw [h]; exact Nat.le_succ _)
      have x1 := rx.place
      have x2 := rx.fault
      have g2 := Lib.hid (And.intro RB (And.intro rx FB))
      clear rx fx RB FB hHeld c1
      refine hK.out _ _ c2 (fun hHeld => ?_)
      clear hK K
      try simp only [Act.put, List.setIfInBounds_toArray, List.set_cons_zero, List.set_cons_succ]
      clear hHeld
      refine held_more (T := fun w' => w'.cell? ⟨bx, off + i, none⟩ = some (.int .u64 m) ∧ w'.cell? ⟨b + 1, 1, none⟩ = some (.int .i64 k2) ∧ w'.cell? ⟨b + 1, 2, none⟩ = some (.int .i64 e2)) (fun _ h => h.1) _ _ _ _ ?_
      have hHeld := And.intro c2 (And.intro x1 x2)
      clear c2 x1 x2
      refine held_take 12 40 (v := ?v12) rfl rfl (by kernel_rfl) (by kernel_rfl) (by kernel_rfl) (fun _ _ _ h => h) (by rfl) ?hy12 (by assumption) ?rest12
      case hy12 => (intro w hSw; (try dsimp only at hSw); go_simp; try with_reducible rfl)
      try simp only [Act.put, List.setIfInBounds_toArray, List.set_cons_zero, List.set_cons_succ]
      refine held_take 13 41 (v := ?v13) rfl rfl (by kernel_rfl) (by kernel_rfl) (by kernel_rfl) (fun _ _ _ h => h) (by rfl) ?hy13 (by assumption) ?rest13
      case hy13 => (intro w hSw; (try dsimp only at hSw); go_simp; try with_reducible rfl)
      try simp only [Act.put, List.setIfInBounds_toArray, List.set_cons_zero, List.set_cons_succ]
      refine held_take 14 42 (v := ?v14) rfl rfl (by kernel_rfl) (by kernel_rfl) (by kernel_rfl) (fun _ _ _ h => h) (by rfl) ?hy14 (by assumption) ?rest14
      case hy14 => (intro w hSw; (try dsimp only at hSw); go_simp; try with_reducible rfl)
      try simp only [Act.put, List.setIfInBounds_toArray, List.set_cons_zero, List.set_cons_succ]
      refine held_take 16 44 (v := ?v16) rfl rfl (by kernel_rfl) (by kernel_rfl) (by kernel_rfl) (fun _ _ _ h => h) (by rfl) ?hy16 (by assumption) ?rest16
      case hy16 => (intro w hSw; (try dsimp only at hSw); go_simp; try with_reducible rfl)
      try simp only [Act.put, List.setIfInBounds_toArray, List.set_cons_zero, List.set_cons_succ]
      refine held_take 17 45 (v := ?v17) rfl rfl (by kernel_rfl) (by kernel_rfl) (by kernel_rfl) (fun _ _ _ h => h) (by rfl) ?hy17 (by assumption) ?rest17
      case hy17 => (intro w hSw; (try dsimp only at hSw); go_simp; try with_reducible rfl)
      try simp only [Act.put, List.setIfInBounds_toArray, List.set_cons_zero, List.set_cons_succ]
      refine held_take 18 46 (v := ?v18) rfl rfl (by kernel_rfl) (by kernel_rfl) (by kernel_rfl) (fun _ _ _ h => h) (by rfl) ?hy18 (by assumption) ?rest18
      case hy18 => (intro w hSw; (try dsimp only at hSw); go_simp; try with_reducible rfl)
      try simp only [Act.put, List.setIfInBounds_toArray, List.set_cons_zero, List.set_cons_succ]
      refine held_take 19 47 (v := ?v19) rfl rfl (by kernel_rfl) (by kernel_rfl) (by kernel_rfl) (fun _ _ _ h => h) (by rfl) ?hy19 (by assumption) ?rest19
      case hy19 => (intro w hSw; (try dsimp only at hSw); go_simp; try with_reducible rfl)
      try simp only [Act.put, List.setIfInBounds_toArray, List.set_cons_zero, List.set_cons_succ]
      refine wpAnyH_ready (rs := [15]) (by kernel_rfl) (by simp) ?_
      refine AllReadyH.cons rfl (fun K hK => ?_) AllReadyH.nil
      go_simp
      refine (fault_any b s k2 e2 _ g2.out.1).mono ?_
      rintro x w3 ⟨rfl, rfl⟩
      refine hK.out _ _ hHeld (fun _ => ?_)
      clear hK K
      try simp only [Act.put, List.setIfInBounds_toArray, List.set_cons_zero, List.set_cons_succ]
      refine held_take 20 48 (v := ?v20) rfl rfl (by kernel_rfl) (by kernel_rfl) (by kernel_rfl) (fun _ _ _ h => h) (by rfl) ?hy20 (by assumption) ?rest20
      case hy20 => (intro w hSw; (try dsimp only at hSw); go_simp; try with_reducible rfl)
      try simp only [Act.put, List.setIfInBounds_toArray, List.set_cons_zero, List.set_cons_succ]
      refine held_take 21 49 (v := ?v21) rfl rfl (by kernel_rfl) (by kernel_rfl) (by kernel_rfl) (fun _ _ _ h => h) (by rfl) ?hy21 (by assumption) ?rest21
      case hy21 => (intro w hSw; (try dsimp only at hSw); go_simp; try with_reducible rfl)
      try simp only [Act.put, List.setIfInBounds_toArray, List.set_cons_zero, List.set_cons_succ]
      refine held_take 22 50 (v := ?v22) rfl rfl (by kernel_rfl) (by kernel_rfl) (by kernel_rfl) (fun _ _ _ h => h) (by rfl) ?hy22 (by assumption) ?rest22
      case hy22 => (intro w hSw; (try dsimp only at hSw); go_simp; try with_reducible rfl)
      try simp only [Act.put, List.setIfInBounds_toArray, List.set_cons_zero, List.set_cons_succ]
      refine held_take 23 51 (v := ?v23) rfl rfl (by kernel_rfl) (by kernel_rfl) (by kernel_rfl) (fun _ _ _ h => h) (by rfl) ?hy23 (by assumption) ?rest23
      case hy23 => (intro w hSw; (try dsimp only at hSw); go_simp; try with_reducible rfl)
      try simp only [Act.put, List.setIfInBounds_toArray, List.set_cons_zero, List.set_cons_succ]
      refine held_take 25 53 (v := ?v25) rfl rfl (by kernel_rfl) (by kernel_rfl) (by kernel_rfl) (fun _ _ _ h => h) (by rfl) ?hy25 (by assumption) ?rest25
      case hy25 => (intro w hSw; (try dsimp only at hSw); go_simp; try with_reducible rfl)
      try simp only [Act.put, List.setIfInBounds_toArray, List.set_cons_zero, List.set_cons_succ]
      refine held_take 26 54 (v := ?v26) rfl rfl (by kernel_rfl) (by kernel_rfl) (by kernel_rfl) (fun _ _ _ h => h) (by rfl) ?hy26 (by assumption) ?rest26
      case hy26 => (intro w hSw; (try dsimp only at hSw); go_simp; try with_reducible rfl)
      try simp only [Act.put, List.setIfInBounds_toArray, List.set_cons_zero, List.set_cons_succ]
      refine held_take 27 55 (v := ?v27) rfl rfl (by kernel_rfl) (by kernel_rfl) (by kernel_rfl) (fun _ _ _ h => h) (by rfl) ?hy27 (by assumption) ?rest27
      case hy27 => (intro w hSw; (try dsimp only at hSw); go_simp; try with_reducible rfl)
      try simp only [Act.put, List.setIfInBounds_toArray, List.set_cons_zero, List.set_cons_succ]
      refine held_take 28 56 (v := ?v28) rfl rfl (by kernel_rfl) (by kernel_rfl) (by kernel_rfl) (fun _ _ _ h => h) (by rfl) ?hy28 (by assumption) ?rest28
      case hy28 => (intro w hSw; (try dsimp only at hSw); go_simp; try with_reducible rfl)
      try simp only [Act.put, List.setIfInBounds_toArray, List.set_cons_zero, List.set_cons_succ]
      refine wpAnyH_ready (rs := [24]) (by kernel_rfl) (by simp) ?_
      refine AllReadyH.cons rfl (fun K hK => ?_) AllReadyH.nil
      go_simp
      refine (at_any b s k2 e2 _ g2.out.1).mono ?_
      rintro x w3 ⟨rfl, rfl⟩
      refine hK.out _ _ hHeld (fun _ => ?_)
      clear hK K
      try simp only [Act.put, List.setIfInBounds_toArray, List.set_cons_zero, List.set_cons_succ]
      refine held_take 29 57 (v := ?v29) rfl rfl (by kernel_rfl) (by kernel_rfl) (by kernel_rfl) (fun _ _ _ h => h) (by rfl) ?hy29 (by assumption) ?rest29
      case hy29 => (intro w hSw; (try dsimp only at hSw); go_simp; try with_reducible rfl)
      try simp only [Act.put, List.setIfInBounds_toArray, List.set_cons_zero, List.set_cons_succ]
      refine held_take 30 58 (v := ?v30) rfl rfl (by kernel_rfl) (by kernel_rfl) (by kernel_rfl) (fun _ _ _ h => h) (by rfl) ?hy30 (by assumption) ?rest30
      case hy30 => (intro w hSw; (try dsimp only at hSw); go_simp; try with_reducible rfl)
      try simp only [Act.put, List.setIfInBounds_toArray, List.set_cons_zero, List.set_cons_succ]
      refine wpAnyH_done (by kernel_rfl) ?_ _
      go_wp2
      go_roundw
      case rel => exact ⟨i + 1, k2, e2, by omega, hk2, by go_num, g2.out.1, g2.out.2.1, g2.out.2.2⟩
      case measure => simp [intOf]; omega
    · go_wp2_with fail
      refine (compactRead_nil 5 _).mono ?_
      rintro e w2 ⟨rfl, b2⟩
      have B2 := Lib.hid b2
      clear b2
      go_wp2
      go_ret
      exact ⟨rfl, HB.out.trans (((Fr.below RF.out (Nat.le_of_eq HW.out) fun _ h => h).mono (by have := HW.out; have := HB.out.size; omega)).trans (B2.out.mono (by have := HW.out; have := HB.out.size; have := RF.out.size; omega)))⟩

theorem compactCursor_any (s : ByteArray) (a : Option Addr) (len cap : Nat) (zs : List Int) (w : World) (ht : Tab w) (hm : s.size ≤ maxLen)
    (hr : (a = none ∧ len = 0 ∧ cap = 0 ∧ zs = []) ∨ ∃ x, a = some x ∧ len ≤ cap ∧ cap ≤ maxLen ∧ zs.length = cap ∧ (∀ i, i < zs.length → w.cell? (x.add i) = some (.int .u64 (zs.getD i 0))) ∧ ∀ n ∈ zs, (Lit.int .u64 n).wf = true) :
    Calls Tryd.prog 5 #[.string s, .slice a len cap] w fun e w' => e = .returned (.bool true) ∧ Below w.heap.size w w' := by
  have hlm : len ≤ maxLen := by
    rcases hr with ⟨_, rfl, _⟩ | ⟨_, _, h, h', _⟩
    · exact Nat.zero_le _
    · exact Nat.le_trans h h'
  by_cases hs : 300 < s.size
  · exact compactCursor_long s a len cap w ht hs hm
  · by_cases hl : 40 < len
    · exact compactCursor_many s a len cap w ht (by omega) hl hlm
    · refine compactCursor_few s a len cap zs w ht (by omega) (by omega) fun k hk => ?_
      rcases hr with ⟨_, rfl, _⟩ | ⟨x, rfl, h1, _, h3, h4, h5⟩
      · omega
      · have hc := h4 k (by omega)
        obtain ⟨b, off, spot⟩ := x
        have hspot : spot = none := by simpa [Addr.add] using World.cell?_spot (h4 0 (by omega))
        subst hspot
        have hc2 : w.cell? ⟨b, off + k, none⟩ = some (.int .u64 (zs.getD k 0)) := by
          by_cases h0 : k = 0
          · subst h0; simpa [Addr.add] using hc
          · simpa [Addr.add, h0] using hc
        have hb : b < w.heap.size := by
          rcases Nat.lt_or_ge b w.heap.size with h | h
          · exact h
          · simp [World.cell?, Array.getElem?_eq_none h] at hc2
        have hz : zs.getD k 0 ∈ zs := by
          have hkz : k < zs.length := by omega
          have : zs.getD k 0 = zs[k] := by simp [List.getD, List.getElem?_eq_getElem hkz]
          rw [this]
          exact List.getElem_mem _
        have hw := bounds_u64 (h5 _ hz)
        exact ⟨b, off, rfl, hb, hc2, hw.1, hw.2⟩
end Go.Proofs.YtpneccbeccgfmaaDoor
