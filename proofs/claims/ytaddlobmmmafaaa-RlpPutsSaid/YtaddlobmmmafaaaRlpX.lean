/-
  For every item, cut and bytes RlpCuts answers true over this seat's translation. Conditions: an item as it lies in memory, whose slices have room.
-/
import Derived.Test.YtaddlobmmmafaaaRlpW
import Derived.Test.YtaddlobmmmafaaaRlpR
namespace Go.Proofs.Ytaddlobmmmafaaa
open Go.RowKit

/-- What the laws keep: the item in its variable, and all that was there. -/
def Cr (t : T) (v : Value) (g : Nat) (w W : World) : Prop := I3 W g (.string t.s) (.bool t.l) v ∧ InC W t v ∧ Below w.heap.size w W
theorem Cr.bel {t : T} {v : Value} {g : Nat} {w W W' : World} (h : Cr t v g w W) (b : Below W.heap.size W W') : Cr t v g w W' := ⟨h.1.bel b, h.2.1.bel b, below_then h.2.2 b⟩
theorem Cr.al {t : T} {v : Value} {g : Nat} {w W : World} (h : Cr t v g w W) (o : Obj) : Cr t v g w (W.alloc o) := h.bel (bel1 _ _)
theorem Cr.drew {t : T} {v : Value} {g : Nat} {w W : World} (h : Cr t v g w W) : Cr t v g w W.drew := h.bel (Below.refl _ _).drew
theorem Cr.new {t : T} {v : Value} {w : World} (h : InC w t v) : Cr t v w.heap.size w (w.alloc (.cells #[.string t.s, .bool t.l, v] 24)) := ⟨I3.new w _ _ _, h.bel (bel1 _ _), bel1 _ _⟩
theorem not_greatR {t : T} (h : great t = false) : T.cnt t < 1200 ∧ T.siz t ≤ 6000 := by
  simp only [great, Bool.or_eq_false_iff, decide_eq_false_iff_not] at h
  omega
theorem mayR {t : T} (h : T.may t = true) : T.rgt t = true ∧ T.dep t ≤ 16 ∧ T.cnt t ≤ 1024 := by
  simp only [T.may, Bool.and_eq_true, decide_eq_true_eq] at h
  exact ⟨h.1.1, h.1.2, h.2⟩

section
variable {x : T} {more : List UInt8} {depth items : Int}
theorem next_err_of (ev : Nat) (he : T.rd (min depth 16) x 1 (min items 1024) = .err ev) (hr : T.rgt x = true) (hz : T.siz x ≤ 6000) (hcn : T.cnt x ≤ 1200) (hm : more.length ≤ 1000) (hdb : -1000 ≤ depth ∧ depth ≤ 100000) (hib : -1000 ≤ items ∧ items ≤ 100000) (W : World) :
    Calls Try.prog 16 #[.string (bs (T.put x ++ more)), .int .i64 depth, .int .i64 items] W fun e w' => e = .returned (.tuple #[ZV, .int .i64 0, .int .i64 (ev : Int)]) ∧ Below W.heap.size W w' :=
  (nextOf_any x more depth items W hr hz hcn hm hdb hib).mono fun _ _ h => ⟨h.2.2 ev he, h.1⟩
theorem next_ok_of (hr : T.rgt x = true) (hd : 1 + (T.dep x : Int) ≤ min depth 16 + 1) (hc : (T.cnt x : Int) ≤ min items 1024) (hz : T.siz x ≤ 6000) (hcn : T.cnt x ≤ 1200) (hm : more.length ≤ 1000) (hdb : -1000 ≤ depth ∧ depth ≤ 100000) (hib : -1000 ≤ items ∧ items ≤ 100000) (W : World) :
    ∃ k, Calls Try.prog 16 #[.string (bs (T.put x ++ more)), .int .i64 depth, .int .i64 items] W fun e w' => NPost x (.ok k) W e w' :=
  ⟨_, (nextOf_any x more depth items W hr hz hcn hm hdb hib).mono fun _ _ h => by rwa [T.rd_ok _ _ _ _ hd hc] at h⟩
end

set_option maxRecDepth 20000 in
set_option maxHeartbeats 800000 in
theorem rlpCuts_any (t : T) (v : Value) (k : Nat) (hk : k ≤ 65535) (mo : ByteArray) (w : World) (hI : InC w t v) :
    Calls Try.prog 5 #[.agg #[.string t.s, .bool t.l, v], .int .u16 k, .string mo] w fun e w' => e = .returned (.bool true) ∧ Below w.heap.size w w' := by
  obtain ⟨p, p', rfl, _⟩ := hI.slice
  obtain ⟨ml, rfl⟩ : ∃ ml, mo = bs ml := ⟨_, (bs_of mo).symm⟩
  have hml := bs_size ml
  have C0 := Lib.hid (Cr.new hI)
  clear hI
  go_enter Try.func5, Try.ntmps5
  go_wp2_with fail
  refine (alive_any _).mono ?_
  rintro e w1 ⟨rfl, b1⟩
  have c1 := C0.out.bel b1
  have x0 := c1.1.c0
  have x1 := c1.1.c1
  have x2 := c1.1.c2
  have xl := c1.1.lt
  have C1 := Lib.hid c1
  clear b1 c1
  go_wp2_with fail
  refine (great_any t _ _ (C1.out.2.1.in)).mono ?_
  rintro e w2 ⟨rfl, b2⟩
  have c2 := C1.out.bel b2
  have x0 := c2.1.c0
  have x1 := c2.1.c1
  have x2 := c2.1.c2
  have xl := c2.1.lt
  have C2 := Lib.hid c2
  clear b2 c2
  cases hg : great t
  · obtain ⟨hc, hz⟩ := not_greatR hg
    clear hg
    go_wp2_with fail
    refine (refMay_any t _ _ (C2.out.2.1.in) (by omega)).mono ?_
    rintro e w3 ⟨rfl, b3⟩
    have c3 := C2.out.bel b3
    have x0 := c3.1.c0
    have x1 := c3.1.c1
    have x2 := c3.1.c2
    have xl := c3.1.lt
    have C3 := Lib.hid c3
    clear b3 c3
    cases hm : T.may t
    · clear hm
      go_wp2
      go_ret
      exact ⟨rfl, C3.out.2.2⟩
    · by_cases h300 : 300 < ml.length
      · have t1 : decide ((300 : Int) < (ml.length : Int)) = true := by simp; omega
        clear hm
        go_wp2
        go_ret
        exact ⟨rfl, C3.out.2.2⟩
      · have t1 : decide ((300 : Int) < (ml.length : Int)) = false := by simp; omega
        obtain ⟨hr, hd, hcm⟩ := mayR hm
        have hpl := T.put_le t (by omega)
        have hpp := T.put_pos t
        have hsz := bs_size (T.put t)
        have hcat : bs (T.put t) ++ bs ml = bs (T.put t ++ ml) := bs_append _ _
        obtain ⟨L, hL⟩ : ∃ L, L = (T.put t).length := ⟨_, rfl⟩
        have hL9 : L ≤ 9600 := by omega
        have hL0 : 0 < L := by omega
        rw [← hL] at hsz
        have HL := Lib.hid hL
        have hm3 : ml.length ≤ 300 := by omega
        clear hm h300 hpl hpp hL
        go_wp2_with fail
        refine (refPut_any t _ _ (C3.out.2.1.in) (by omega)).mono ?_
        rintro e w4 ⟨rfl, b4⟩
        have c4 := C3.out.bel b4
        have x0 := c4.1.c0
        have x1 := c4.1.c1
        have x2 := c4.1.c2
        have xl := c4.1.lt
        have C4 := Lib.hid c4
        clear b4 c4
        obtain ⟨c, hcd⟩ : ∃ c, c = k % L := ⟨_, rfl⟩
        have er : (k : Int) % (L : Int) = (c : Int) := by omega
        have hcl : c < L := by rw [hcd]; exact Nat.mod_lt _ hL0
        have hcl2 : (c : Int) ≤ (L : Int) := by omega
        have hex : (bs (T.put t)).extract 0 c = bs ((T.put t).take c) := by rw [bs_extract]; rfl
        have N1 := Lib.hid (fun W => nextCut_any t c W hz (by omega) (by rw [← HL.out]; exact hcl))
        have N2 := Lib.hid (fun W => next_ok_of (x := t) (more := ml) (depth := 16) (items := 1024) hr (by omega) (by omega) hz (by omega) (by omega) (by decide) (by decide) W)
        have hcz : ((bs ((T.put t).take c)).size : Int) = c := by rw [bs_size, List.length_take, ← HL.out]; omega
        have hsz2 : (bs (T.put t ++ ml)).size = L + ml.length := by rw [bs_size, List.length_append, ← HL.out]
        clear hcd
        go_wp2_with fail
        refine (N1.out _).mono ?_
        rintro e w5 ⟨rfl, b5⟩
        have C5 := Lib.hid ((C4.out.bel b5).al (.cells #[.string ⟨#[]⟩, .bool false, .slice none 0 0] 24))
        unfold ZV
        clear b5
        go_upto_region 7 with fail
        obtain ⟨w6, hw6⟩ : ∃ w6, w6 = w5.alloc (.cells #[.string ⟨#[]⟩, .bool false, .slice none 0 0] 24) := ⟨_, rfl⟩
        rw [← hw6] at C5 ⊢
        clear hw6 x0 x1 x2 xl
        obtain ⟨kk, hnx⟩ := N2.out w6
        have HNX := Lib.hid hnx
        clear hnx
        go_wp2_with fail
        refine HNX.out.mono ?_
        rintro e w7 ⟨b7, hok, _⟩
        obtain ⟨vX, rfl, hin⟩ := hok kk rfl
        obtain ⟨xa, xc, rfl⟩ := hin.slice
        have C7 := Lib.hid ((C5.out.bel b7).al (.cells #[.string t.s, .bool t.l, .slice xa t.ts.length xc] 24))
        have J7 := Lib.hid (I3.new w7 (.string t.s) (.bool t.l) (.slice xa t.ts.length xc))
        have Y7 := Lib.hid (hin.in.bel (bel1 w7 (.cells #[.string t.s, .bool t.l, .slice xa t.ts.length xc] 24)))
        clear b7 hok hin
        go_upto_region 8 with fail
        obtain ⟨w8, hw8⟩ : ∃ w8, w8 = w7.alloc (.cells #[.string t.s, .bool t.l, .slice xa t.ts.length xc] 24) := ⟨_, rfl⟩
        rw [← hw8] at C7 J7 Y7 ⊢
        clear hw8
        by_cases hmo : ml = []
        · have t2 : (bs ml).toList.isEmpty = true := by rw [hmo, ByteArray.toList_eq]; rfl
          have G8 := Lib.hid (getOk_any t (bs (T.put t ++ ml)) 16 1024 w8 (by rw [bs_size, hmo, List.append_nil]) N2.out)
          clear hmo
          go_wp2_with fail
          refine G8.out.mono ?_
          rintro e w9 ⟨vY, rfl, hin, b9⟩
          obtain ⟨ya, yc, rfl⟩ := hin.slice
          have C9 := (C7.out.bel b9).al (.cells #[.string t.s, .bool t.l, .slice ya t.ts.length yc] 24)
          have J9 := (J7.out.bel b9).alloc (.cells #[.string t.s, .bool t.l, .slice ya t.ts.length yc] 24)
          have Y9 := (Y7.out.bel b9).bel (bel1 w9 (.cells #[.string t.s, .bool t.l, .slice ya t.ts.length yc] 24))
          clear hin
          obtain ⟨w10, hw10⟩ : ∃ w10, w10 = w9.alloc (.cells #[.string t.s, .bool t.l, .slice ya t.ts.length yc] 24) := ⟨_, rfl⟩
          rw [← hw10] at C9 J9 Y9
          have hLe := HL.out.symm
          have SM := Lib.hid (refSame_any t (.slice p t.ts.length p') t (.slice xa t.ts.length xc) w10 (C9.2.1.in) Y9)
          rw [same_self] at SM
          have x0 := C9.1.c0
          have x1 := C9.1.c1
          have x2 := C9.1.c2
          have xl := C9.1.lt
          have j0 := J9.c0
          have j1 := J9.c1
          have j2 := J9.c2
          have jl := J9.lt
          have C9 := Lib.hid C9
          clear b9 J9 Y9
          go_upto_region 9 with fail
          rw [← hw10]
          clear hw10
          go_wp2_with fail
          refine SM.out.mono ?_
          rintro e w11 ⟨rfl, b11⟩
          have F11 := Lib.hid (C9.out.bel b11).2.2
          clear b11 x0 x1 x2 xl j0 j1 j2 jl
          go_wp2
          go_ret
          exact ⟨rfl, F11.out⟩
        · have t2 := bs_ne hmo
          have G8 := Lib.hid (getMore_any t (bs (T.put t ++ ml)) 16 1024 w8 (by have := List.length_pos_iff.2 hmo; rw [bs_size, List.length_append]; omega) N2.out)
          clear hmo
          go_wp2_with fail
          refine G8.out.mono ?_
          rintro e w9 ⟨rfl, b9⟩
          have C9 := (C7.out.bel b9).al (.cells #[.string ⟨#[]⟩, .bool false, .slice none 0 0] 24)
          have J9 := (J7.out.bel b9).alloc (.cells #[.string ⟨#[]⟩, .bool false, .slice none 0 0] 24)
          have Y9 := (Y7.out.bel b9).bel (bel1 w9 (.cells #[.string ⟨#[]⟩, .bool false, .slice none 0 0] 24))
          unfold ZV
          obtain ⟨w10, hw10⟩ : ∃ w10, w10 = w9.alloc (.cells #[.string ⟨#[]⟩, .bool false, .slice none 0 0] 24) := ⟨_, rfl⟩
          rw [← hw10] at C9 J9 Y9
          have hLe := HL.out.symm
          have SM := Lib.hid (refSame_any t (.slice p t.ts.length p') t (.slice xa t.ts.length xc) w10 (C9.2.1.in) Y9)
          rw [same_self] at SM
          have x0 := C9.1.c0
          have x1 := C9.1.c1
          have x2 := C9.1.c2
          have xl := C9.1.lt
          have j0 := J9.c0
          have j1 := J9.c1
          have j2 := J9.c2
          have jl := J9.lt
          have C9 := Lib.hid C9
          clear b9 J9 Y9
          go_upto_region 9 with fail
          rw [← hw10]
          clear hw10
          go_wp2_with fail
          refine SM.out.mono ?_
          rintro e w11 ⟨rfl, b11⟩
          have F11 := Lib.hid (C9.out.bel b11).2.2
          clear b11 x0 x1 x2 xl j0 j1 j2 jl
          go_wp2
          go_ret
          exact ⟨rfl, F11.out⟩
  · clear hg
    go_wp2
    go_ret
    exact ⟨rfl, C2.out.2.2⟩
end Go.Proofs.Ytaddlobmmmafaaa
