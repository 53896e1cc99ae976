/-
  The contracts of the document's head and Put (layer 9) over this seat's translation. Conditions: an item as it lies in memory, of at most 6,000 bytes and 1,200 items.
-/
import Derived.Test.YtegakecncpfnnaaRlpM
import Derived.Test.YtegakecncpfnnaaFixS
import Derived.Test.YtegakecncpfnnaaItmF
import Derived.Deep.RegionHeldLaw
namespace Go.Proofs.Ytegakecncpfnnaa
open Go.RowKit

set_option maxRecDepth 100000 in
theorem refHead_any (by_ n : Nat) (hby : by_ ≤ 192) (hn : n ≤ 60000) (w : World) :
    Calls Try.prog 39 #[.int .i64 by_, .int .i64 n] w fun e w' => e = .returned (.string (bs (hd by_ n))) ∧ Below w.heap.size w w' := by
  by_cases h55 : n ≤ 55
  · have t1 : decide ((n : Int) ≤ 55) = true := by simp; omega
    have eh : hd by_ n = [UInt8.ofNat (by_ + n)] := by unfold hd; rw [if_pos h55]
    have one := one_byte w ((by_ : Int) + n) (by omega) (by omega)
    rw [show ((by_ : Int) + n).toNat = by_ + n by omega, ← eh] at one
    clear eh
    go_enter Try.func39, Try.ntmps39
    go_wp2
    go_ret
    exact ⟨rfl, bel1 _ _⟩
  · have t1 : decide ((n : Int) ≤ 55) = false := by simp; omega
    have h8 := digs2 hn
    have eh : hd by_ n = UInt8.ofNat (by_ + 55 + digs n) :: least n := by unfold hd; rw [if_neg h55]
    have hl : (bs (least n)).size = digs n := bs_size _
    obtain ⟨c0, hc0⟩ : ∃ c, c = UInt8.ofNat (by_ + 55 + digs n) := ⟨_, rfl⟩
    rw [← hc0] at eh
    have HC := Lib.hid hc0
    have EH := Lib.hid (show bs [c0] ++ bs (least n) = bs (hd by_ n) by rw [eh, bs_append]; rfl)
    have hl1 : (bs [c0]).size = 1 := rfl
    clear hc0 eh
    go_enter Try.func39, Try.ntmps39
    go_wp2_with fail
    refine (refLeast_any n _ (by omega)).mono ?_
    rintro e w1 ⟨rfl, b1⟩
    have one := one_byte w1 ((by_ : Int) + 55 + digs n) (by omega) (by omega)
    rw [show ((by_ : Int) + 55 + digs n).toNat = by_ + 55 + digs n by omega, ← HC.out] at one
    have B1 := Lib.hid b1
    clear b1
    go_wp2
    go_ret
    exact ⟨by rw [← EH.out]; rfl, B1.out.alloc B1.out.size _⟩

set_option maxRecDepth 20000 in
set_option maxHeartbeats 1000000 in
theorem refPut_any : ∀ (t : T) (v : Value) (w : World), In w t v → T.siz t + 3 * T.cnt t ≤ 60000 →
    Calls Try.prog 16 #[.agg #[.string t.s, .bool t.l, v]] w fun e w' => e = .returned (.string (bs (T.put t))) ∧ Below w.heap.size w w' := by
  refine T.ind_ ?_
  intro s l ts ih v w hI hc
  obtain ⟨_, hlen, a, c, rfl, hr⟩ := hI
  unfold maxLen at hlen
  have IH := Lib.hid ih
  have HR := Lib.hid hr
  have HC := Lib.hid hc
  simp only [T.s, T.l]
  cases l
  · have hsz : s.size ≤ 60000 := by simp only [T.siz] at hc; omega
    obtain ⟨l, rfl⟩ : ∃ l, s = bs l := ⟨_, (bs_of s).symm⟩
    have EP := Lib.hid (show T.put (T.mk (bs l) false ts) = ptx l by rw [T.put_text, bs_list])
    have c0 := box0 w (.string (bs l)) (.bool false) (.slice a ts.length c) 24
    have hz := bs_size l
    have hlz : l.length ≤ 60000 := by omega
    have lx : w.heap.size < (w.alloc (.cells #[.string (bs l), .bool false, .slice a ts.length c] 24)).heap.size := by simp
    have b1 := bel1 w (.cells #[.string (bs l), .bool false, .slice a ts.length c] 24)
    have c1 := box1 w (.string (bs l)) (.bool false) (.slice a ts.length c) 24
    obtain ⟨W, hW⟩ : ∃ W, W = w.alloc (.cells #[.string (bs l), .bool false, .slice a ts.length c] 24) := ⟨_, rfl⟩
    rw [← hW] at c0 c1 lx b1
    have B1 := Lib.hid b1
    clear ih hr hc b1
    by_cases h1 : l.length = 1
    · obtain ⟨x, rfl⟩ : ∃ x, l = [x] := by
        match l, h1 with
        | [x], _ => exact ⟨x, rfl⟩
      have hz1 : (bs [x]).size = 1 := hz
      have hz2 : 0 < (bs [x]).size := by omega
      have hx : (bs [x])[0]'hz2 = x := bs_get [x] 0 _
      by_cases h2 : x.toNat < 128
      · have t2 : decide ((x.toNat : Int) < 128) = true := by simp; omega
        have E2 := Lib.hid (show ptx [x] = [x] by unfold ptx; rw [if_pos (by simp [bare, h2])])
        clear hz hlz hsz h1 h2
        go_enter Try.func16, Try.ntmps16
        go_upto_region 1 with fail
        rw [← hW]
        clear hW
        go_wp2
        go_ret
        rw [EP.out, E2.out]
        exact ⟨rfl, B1.out⟩
      · have t2 : decide ((x.toNat : Int) < 128) = false := by simp; omega
        have E2 := Lib.hid (show bs (hd 128 1) ++ bs [x] = bs (ptx [x]) by unfold ptx; rw [if_neg (by simp [bare, h2]), bs_append]; rfl)
        have hh : (bs (hd 128 1)).size = 1 := rfl
        clear hz hlz hsz h1 h2
        go_enter Try.func16, Try.ntmps16
        go_upto_region 1 with fail
        rw [← hW]
        clear hW
        go_upto_region 10 with fail
        go_region_held_law (fun w' => w'.cell? ⟨w.heap.size, 0, none⟩ = some (.string (bs [x])) ∧ w.heap.size < w'.heap.size) (first | exact ⟨c0, lx⟩ | exact ⟨d0, dx⟩) (first | (go_at_call 39; refine (refHead_any 128 1 (by omega) (by omega) _).mono ?_; rintro e w2 ⟨rfl, b2⟩; have d0 := cells_below b2 _ _ _ c0; have dx := Nat.lt_of_lt_of_le lx b2.size))
        have B2 := Lib.hid (B1.out.trans ((show Below W.heap.size W w2 from ⟨b2.os, b2.tape, b2.output, b2.size, b2.block⟩).mono B1.out.size))
        clear b2
        go_wp2
        go_ret
        rw [EP.out]
        exact ⟨E2.out ▸ rfl, B2.out⟩
    · have t2 : ((l.length : Int) == 1) = false := by
        have h : ¬ (l.length : Int) = 1 := by omega
        simpa using h
      have E2 := Lib.hid (show bs (hd 128 l.length) ++ bs l = bs (ptx l) by
        have hb : bare l = false := by
          match l, h1 with
          | [], _ => rfl
          | _ :: _ :: _, _ => rfl
        unfold ptx; rw [hb, bs_append]; rfl)
      have hh : (bs (hd 128 l.length)).size ≤ 3 := by rw [bs_size]; exact hd_le hlz
      clear hsz h1
      go_enter Try.func16, Try.ntmps16
      go_upto_region 1 with fail
      rw [← hW]
      clear hW
      go_upto_region 10 with fail
      go_region_held_law (fun w' => w'.cell? ⟨w.heap.size, 0, none⟩ = some (.string (bs l)) ∧ w.heap.size < w'.heap.size) (first | exact ⟨c0, lx⟩ | exact ⟨d0, dx⟩) (first | (go_at_call 39; refine (refHead_any 128 l.length (by omega) (by omega) _).mono ?_; rintro e w2 ⟨rfl, b2⟩; have d0 := cells_below b2 _ _ _ c0; have dx := Nat.lt_of_lt_of_le lx b2.size))
      have B2 := Lib.hid (B1.out.trans ((show Below W.heap.size W w2 from ⟨b2.os, b2.tape, b2.output, b2.size, b2.block⟩).mono B1.out.size))
      clear b2
      go_wp2
      go_ret
      rw [EP.out]
      exact ⟨E2.out ▸ rfl, B2.out⟩
  · have hps := T.puts_le ts (by simp only [T.siz, T.cnt] at hc; omega)
    have EP := Lib.hid (show bs (hd 192 (T.puts ts).length) ++ bs (T.puts ts) = bs (T.put (T.mk s true ts)) by rw [T.put_list, bs_append])
    have hh : (bs (hd 192 (T.puts ts).length)).size ≤ 3 := by rw [bs_size]; exact hd_le (by simp only [T.siz, T.cnt] at hc; omega)
    have hpl : (T.puts ts).length ≤ 60000 := by simp only [T.siz, T.cnt] at hc; omega
    clear ih hr hc hps
    go_enter Try.func16, Try.ntmps16
    go_wp2
    go_loopw [3, 4] (fun q i wr => ∃ j : Nat, j ≤ ts.length ∧ q = .string (bs (T.puts (ts.take j))) ∧ i = .int .i64 j ∧ wr.cell? ⟨w.heap.size, 2, none⟩ = some (.slice a ts.length c) ∧ Below w.heap.size w wr) (fun _ i _ => ts.length - (intOf i).toNat)
    case atStart => exact ⟨0, Nat.zero_le _, by simp only [List.take_zero, T.puts, bs_nil]; rfl, rfl, box2 _ _ _ _ _, (Below.refl _ _).alloc (Nat.le_refl _) _⟩
    case round =>
      obtain ⟨j, hj, rfl, rfl, cb, hb⟩ := hrel
      have B := Lib.hid hb
      clear hb
      by_cases hlt : j < ts.length
      · obtain ⟨b, o, v', rfl, c0, c1, c2, hi⟩ := Row.at ts 0 j hlt (HR.out.bel (B.out))
        rw [Nat.zero_add] at c0 c1 c2
        have hbb := lt_of_cell c0
        obtain ⟨zp, zp', rfl⟩ := hi.slice
        have hk := T.puts_take ts j hlt
        have h1 := T.siz_le_of_mem ts _ (List.getElem_mem hlt)
        have h3 := T.cnt_le_of_mem ts _ (List.getElem_mem hlt)
        have h2 := HC.out
        simp only [T.siz, T.cnt] at h2
        have h4 : (T.puts (ts.take j)).length + (T.put ts[j]).length ≤ 60000 := by
          rw [← List.length_append, ← hk]
          have : (T.puts ts).length = (T.puts (ts.take (j + 1))).length + (T.puts (ts.drop (j + 1))).length := by rw [← List.length_append, ← T.puts_append, List.take_append_drop]
          omega
        have s1 := bs_size (T.puts (ts.take j))
        have s2 := bs_size (T.put ts[j])
        have HK := Lib.hid hk
        have CALL := Lib.hid (fun x => IH.out _ (List.getElem_mem hlt) _ (wr.alloc x) (hi.bel (bel1 wr x)) (by omega))
        have CALL0 := Lib.hid (IH.out _ (List.getElem_mem hlt) _ wr hi (by omega))
        clear hk h1 h2 h3
        go_wp2_with fail
        refine CALL0.out.mono ?_
        rintro e w1 ⟨rfl, b1⟩
        have B1 := Lib.hid (B.out.trans (b1.mono (Nat.le_of_lt (lt_of_cell cb))))
        have cb1 := cells_below b1 _ _ _ cb
        clear b1 cb c0 c1 c2
        go_wp2
        go_roundw
        case rel => exact ⟨j + 1, by omega, by rw [HK.out, ← bs_append], by go_num, cb1, B1.out⟩
        case measure => (simp [intOf]) <;> omega
      · obtain rfl : j = ts.length := by omega
        rw [List.take_length]
        have s1 := bs_size (T.puts ts)
        go_wp2_with fail
        refine (refHead_any 192 (T.puts ts).length (by omega) hpl _).mono ?_
        rintro e w1 ⟨rfl, b1⟩
        have B1 := Lib.hid (B.out.trans (b1.mono (Nat.le_of_lt (lt_of_cell cb))))
        clear b1 cb
        go_wp2
        go_ret
        exact ⟨EP.out ▸ rfl, B1.out⟩
end Go.Proofs.Ytegakecncpfnnaa
