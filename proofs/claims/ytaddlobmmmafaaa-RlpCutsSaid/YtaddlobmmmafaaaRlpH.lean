/-
  The contract of package rlp's headed over this seat's translation, of bytes that begin with a head. Conditions: a head of at most 60,000 bytes behind it.
-/
import Derived.Test.YtaddlobmmmafaaaRlpM
import Derived.Test.YtaddlobmmmafaaaFixG
import Derived.Test.YtaddlobmmmafaaaItmUw
import Derived.Test.YtaddlobmmmafaaaItmS
import Derived.Deep.RegionHeldLaw
namespace Go.Proofs.Ytaddlobmmmafaaa
open Go.RowKit

/-- A zero head. -/
def ZH : Value := .agg #[.bool false, .int .i64 0, .int .i64 0]
/-- Block g is a variable of type head. -/
def H3 (w : World) (g : Nat) (x y z : Value) : Prop := w.heap[g]? = some (.cells #[x, y, z] 49 (0, 0))
section
variable {w w' : World} {g : Nat} {x y z : Value}
theorem H3.lt (h : H3 w g x y z) : g < w.heap.size := lt_of_block h
theorem H3.c0 (h : H3 w g x y z) : w.cell? ⟨g, 0, none⟩ = some x := by unfold H3 at h; simp [World.cell?, h]
theorem H3.c1 (h : H3 w g x y z) : w.cell? ⟨g, 1, none⟩ = some y := by unfold H3 at h; simp [World.cell?, h]
theorem H3.c2 (h : H3 w g x y z) : w.cell? ⟨g, 2, none⟩ = some z := by unfold H3 at h; simp [World.cell?, h]
theorem H3.free (h : H3 w g x y z) (i : Nat) : w.frozen? ⟨g, i, none⟩ = false := by unfold H3 at h; simp [World.frozen?, h]
theorem H3.new (w : World) (x y z : Value) : H3 (w.alloc (.cells #[x, y, z] 49)) w.heap.size x y z := heap_alloc_new w _
theorem H3.keep (h : H3 w g x y z) (hb : w'.heap[g]? = w.heap[g]?) : H3 w' g x y z := hb.trans h
theorem H3.alloc (h : H3 w g x y z) (o : Obj) : H3 (w.alloc o) g x y z := h.keep (Below.heap_alloc w o g h.lt)
theorem H3.bel (h : H3 w g x y z) (b : Below w.heap.size w w') : H3 w' g x y z := h.keep (b.block g h.lt)
theorem H3.fr (h : H3 w g x y z) {S : Nat → Prop} (f : Fr S w w') (hs : ¬ S g) : H3 w' g x y z := h.keep (f.block g h.lt hs)
theorem H3.put (h : H3 w g x y z) (x' y' z' : Value) : H3 (((w.setCell ⟨g, 0, none⟩ x').setCell ⟨g, 1, none⟩ y').setCell ⟨g, 2, none⟩ z') g x' y' z' := by
  exact (set_cells (i := 2) (set_cells (i := 1) (set_cells (i := 0) h x') y') z').trans rfl
theorem H3.set1 (h : H3 w g x y z) (u : Value) : H3 (w.setCell ⟨g, 1, none⟩ u) g x u z := (set_cells (i := 1) h u).trans rfl
theorem H3.set2 (h : H3 w g x y z) (u : Value) : H3 (w.setCell ⟨g, 2, none⟩ u) g x y u := (set_cells (i := 2) h u).trans rfl
end

set_option maxRecDepth 20000 in
theorem headed_one (b : UInt8) (t : List UInt8) (hb : b.toNat < 128) (w : World) :
    Calls Try.prog 35 #[.string (bs (b :: t))] w fun e w' => e = .returned (.tuple #[.agg #[.bool false, .int .i64 0, .int .i64 1], .int .i64 0]) ∧ Below w.heap.size w w' := by
  have hz : 0 < (bs (b :: t)).size := by rw [bs_size]; simp
  have hx : (bs (b :: t))[0]'hz = b := bs_get (b :: t) 0 _
  have t1 : decide ((b.toNat : Int) < 128) = true := by simp; omega
  go_enter Try.func35, Try.ntmps35
  go_wp2
  have z := H3.new w (.bool false) (.int .i64 0) (.int .i64 1)
  have z0 := z.c0
  have z1 := z.c1
  have z2 := z.c2
  refine bodyPost_ret (v := .tuple #[.agg #[.bool false, .int .i64 0, .int .i64 1], .int .i64 0]) (by simp [results, Try.results35, go_sem, z0, z1, z2]) rfl ?_
  exact ⟨rfl, bel1 _ _⟩

/-- The base of a head. -/
def hb (l : Bool) : Nat := if l then 192 else 128
theorem hb_le (l : Bool) : hb l ≤ 192 := by cases l <;> decide
/-- What headed answers of a whole head of size z, n bytes behind it and m that are there. -/
def hdOut (l : Bool) (z n m : Nat) : Value := if n ≤ m then .tuple #[.agg #[.bool l, .int .i64 z, .int .i64 n], .int .i64 0] else .tuple #[ZH, .int .i64 2]
theorem hdOut_ok {l : Bool} {z n m : Nat} (h : n ≤ m) : hdOut l z n m = .tuple #[.agg #[.bool l, .int .i64 z, .int .i64 n], .int .i64 0] := if_pos h
theorem hdOut_no {l : Bool} {z n m : Nat} (h : ¬ n ≤ m) : hdOut l z n m = .tuple #[ZH, .int .i64 2] := if_neg h
theorem h3_snd (w : World) (a b c x y z : Value) : H3 ((w.alloc (.cells #[a, b, c] 49)).alloc (.cells #[x, y, z] 49)) (w.heap.size + 1) x y z := by
  have := H3.new (w.alloc (.cells #[a, b, c] 49)) x y z
  rwa [size_push] at this
theorem H3.far2 {w : World} {g : Nat} {x y z : Value} (h : H3 w g x y z) (u : Value) : H3 (w.setCell ⟨g + 1, 2, none⟩ u) g x y z := h.keep (Below.heap_setCell _ _ _ _ (by simp))
/-- The variable of the result, filled, and one more. -/
theorem h3_two (w : World) (a b c x y z : Value) : H3 ((w.alloc (.cells #[a, b, c] 49)).alloc (.cells #[x, y, z] 49)) w.heap.size a b c := (H3.new w a b c).alloc _

set_option maxRecDepth 20000 in
set_option maxHeartbeats 1000000 in
theorem headed_short_false (n m : Nat) (hn : n ≤ 55) (s : ByteArray) (hl : s.size = m + 1) (hz : 0 < s.size) (c : UInt8) (hx : s[0]'hz = c) (hc : c.toNat = 128 + n) (hm : m ≤ 1000000) (w : World) :
    Calls Try.prog 35 #[.string s] w fun e w' => e = .returned (hdOut false 1 n m) ∧ Below w.heap.size w w' := by
  have t1 : decide ((c.toNat : Int) < 128) = false := by simp; omega
  have t2 : decide ((192 : Int) ≤ (c.toNat : Int)) = false := by simp; omega
  have e1 : (c.toNat : Int) - 128 = n := by omega
  have t3 : decide ((55 : Int) < (n : Int)) = false := by simp; omega
  have hb := c.toNat_lt
  clear hc
  by_cases hnm : n ≤ m
  · have EO := Lib.hid (hdOut_ok (l := false) (z := 1) hnm)
    have t4 : decide (m < n) = false := by simp; omega
    clear hnm
    go_enter Try.func35, Try.ntmps35
    go_wp2
    have z := h3_two w (.bool false) (.int .i64 1) (.int .i64 n) (.bool false) (.int .i64 1) (.int .i64 n)
    have z0 := z.c0
    have z1 := z.c1
    have z2 := z.c2
    refine bodyPost_ret (v := .tuple #[.agg #[.bool false, .int .i64 1, .int .i64 n], .int .i64 0]) (by simp [results, Try.results35, go_sem, z0, z1, z2]) rfl ?_
    exact ⟨by rw [EO.out]; rfl, bel2 _ _ _⟩
  · have EO := Lib.hid (hdOut_no (l := false) (z := 1) hnm)
    have t4 : decide (m < n) = true := by simp; omega
    clear hnm
    go_enter Try.func35, Try.ntmps35
    go_wp2
    have z := h3_two w (.bool false) (.int .i64 0) (.int .i64 0) (.bool false) (.int .i64 1) (.int .i64 0)
    have z0 := z.c0
    have z1 := z.c1
    have z2 := z.c2
    refine bodyPost_ret (v := .tuple #[ZH, .int .i64 2]) (by simp [results, Try.results35, go_sem, z0, z1, z2, ZH]) rfl ?_
    exact ⟨by rw [EO.out], bel2 _ _ _⟩

set_option maxRecDepth 20000 in
set_option maxHeartbeats 1000000 in
/-- A head of more bytes that aren't all there. -/
theorem headed_part_false (k : Nat) (hk : k ≤ 8) (s : ByteArray) (hz : 0 < s.size) (hl : s.size < 1 + k) (c : UInt8) (hx : s[0]'hz = c) (hc : c.toNat = 128 + 55 + k) (w : World) :
    Calls Try.prog 35 #[.string s] w fun e w' => e = .returned (.tuple #[ZH, .int .i64 2]) ∧ Below w.heap.size w w' := by
  have t1 : decide ((c.toNat : Int) < 128) = false := by simp; omega
  have t2 : decide ((192 : Int) ≤ (c.toNat : Int)) = false := by simp; omega
  have e1 : (c.toNat : Int) - 128 = 55 + k := by omega
  have t3 : decide ((55 : Int) < 55 + (k : Int)) = true := by simp; omega
  have e3 : (55 : Int) + k - 55 = k := by omega
  have hb := c.toNat_lt
  clear hc
  go_enter Try.func35, Try.ntmps35
  go_wp2
  have z := h3_two w (.bool false) (.int .i64 0) (.int .i64 0) (.bool false) (.int .i64 (1 + k)) (.int .i64 0)
  have z0 := z.c0
  have z1 := z.c1
  have z2 := z.c2
  refine bodyPost_ret (v := .tuple #[ZH, .int .i64 2]) (by simp [results, Try.results35, go_sem, z0, z1, z2, ZH]) rfl ?_
  exact ⟨rfl, bel2 _ _ _⟩

set_option maxRecDepth 20000 in
set_option maxHeartbeats 1000000 in
theorem headed_long_false (n k m : Nat) (hn : 55 < n) (hn2 : n ≤ 60000) (hk : k = digs n) (s : ByteArray) (hl : s.size = m + (1 + k)) (hz : 0 < s.size) (c : UInt8) (hx : s[0]'hz = c) (hc : c.toNat = 128 + 55 + k) (he : s.extract 1 (1 + k) = bs (least n)) (hm : m ≤ 1000000) (w : World) :
    Calls Try.prog 35 #[.string s] w fun e w' => e = .returned (hdOut false (1 + k) n m) ∧ Below w.heap.size w w' := by
  have hk1 : 1 ≤ k := by rw [hk]; exact digs1 (by omega)
  have hk2 : k ≤ 2 := by rw [hk]; exact digs2 hn2
  have t1 : decide ((c.toNat : Int) < 128) = false := by simp; omega
  have t2 : decide ((192 : Int) ≤ (c.toNat : Int)) = false := by simp; omega
  have e1 : (c.toNat : Int) - 128 = 55 + k := by omega
  have t3 : decide ((55 : Int) < 55 + (k : Int)) = true := by simp; omega
  have e3 : (55 : Int) + k - 55 = k := by omega
  have hb := c.toNat_lt
  have hls : (bs (least n)).size = k := by rw [bs_size, hk]; rfl
  have GL := Lib.hid (fun W => getLeast_ok W (bs (least n)) (by omega) (by omega) (by
    rw [bs_get]
    have h0 : 0 < (least n).length := by rw [← bs_size]; omega
    exact least_head n _ _ (List.getElem_cons_drop h0).symm))
  rw [bs_list, be_least] at GL
  obtain ⟨k1, hk1e⟩ : ∃ k1, k1 = 1 + k := ⟨_, rfl⟩
  have e4 : (1 : Int) + k = (k1 : Int) := by omega
  rw [← hk1e] at hl he ⊢
  have t5 : decide ((n : Int) ≤ 55) = false := by simp; omega
  have hk5 : k1 ≤ 9 := by omega
  have i1 : (1 : Int) ≤ (k1 : Int) := by omega
  have i2 : (k1 : Int) ≤ (m : Int) + k1 := by omega
  have i3 : decide ((m : Int) + k1 < (k1 : Int)) = false := by simp; omega
  have i4 : (m : Int) + k1 - k1 = m := by omega
  clear hc hk hk1e
  by_cases hnm : n ≤ m
  · have EO := Lib.hid (hdOut_ok (l := false) (z := k1) hnm)
    have t4 : decide (m < n) = false := by simp; omega
    clear hnm
    go_enter Try.func35, Try.ntmps35
    go_wp2_with fail
    refine (GL.out _).mono ?_
    rintro e w2 ⟨rfl, b2⟩
    have qa := (h3_two w (.bool false) (.int .i64 0) (.int .i64 0) (.bool false) (.int .i64 k1) (.int .i64 0)).bel b2
    have qb := (h3_snd w (.bool false) (.int .i64 0) (.int .i64 0) (.bool false) (.int .i64 k1) (.int .i64 0)).bel b2
    have bb := (bel2 w (.cells #[.bool false, .int .i64 0, .int .i64 0] 49) (.cells #[.bool false, .int .i64 k1, .int .i64 0] 49)).trans (b2.mono (by simp; omega))
    have qa0 := qa.c0
    have qa1 := qa.c1
    have qa2 := qa.c2
    have qaf0 := qa.free 0
    have qaf1 := qa.free 1
    have qaf2 := qa.free 2
    have qal := qa.lt
    have qb0 := qb.c0
    have qb1 := qb.c1
    have qb2 := qb.c2
    have qbf := qb.free 2
    have qbl := qb.lt
    have HF := Lib.hid (And.intro ((qa.far2 (.int .i64 n)).put (.bool false) (.int .i64 k1) (.int .i64 n)) (show Below w.heap.size w (((((w2.setCell ⟨w.heap.size + 1, 2, none⟩ (.int .i64 n)).setCell ⟨w.heap.size, 0, none⟩ (.bool false)).setCell ⟨w.heap.size, 1, none⟩ (.int .i64 k1)).setCell ⟨w.heap.size, 2, none⟩ (.int .i64 n))) from (((bb.setCell (p := ⟨w.heap.size + 1, 2, none⟩) (by simp) _).setCell (p := ⟨w.heap.size, 0, none⟩) (by simp) _).setCell (p := ⟨w.heap.size, 1, none⟩) (by simp) _).setCell (p := ⟨w.heap.size, 2, none⟩) (by simp) _))
    clear qa qb bb b2
    go_wp2_with fail
    have z0 := HF.out.1.c0
    have z1 := HF.out.1.c1
    have z2 := HF.out.1.c2
    refine bodyPost_ret (v := .tuple #[.agg #[.bool false, .int .i64 k1, .int .i64 n], .int .i64 0]) (by simp [results, Try.results35, go_sem, z0, z1, z2]) rfl ?_
    exact ⟨by rw [EO.out], HF.out.2⟩
  · have EO := Lib.hid (hdOut_no (l := false) (z := k1) hnm)
    have t4 : decide (m < n) = true := by simp; omega
    clear hnm
    go_enter Try.func35, Try.ntmps35
    go_wp2_with fail
    refine (GL.out _).mono ?_
    rintro e w2 ⟨rfl, b2⟩
    have qa := (h3_two w (.bool false) (.int .i64 0) (.int .i64 0) (.bool false) (.int .i64 k1) (.int .i64 0)).bel b2
    have qb := (h3_snd w (.bool false) (.int .i64 0) (.int .i64 0) (.bool false) (.int .i64 k1) (.int .i64 0)).bel b2
    have bb := (bel2 w (.cells #[.bool false, .int .i64 0, .int .i64 0] 49) (.cells #[.bool false, .int .i64 k1, .int .i64 0] 49)).trans (b2.mono (by simp; omega))
    have qa0 := qa.c0
    have qa1 := qa.c1
    have qa2 := qa.c2
    have qaf0 := qa.free 0
    have qaf1 := qa.free 1
    have qaf2 := qa.free 2
    have qal := qa.lt
    have qb0 := qb.c0
    have qb1 := qb.c1
    have qb2 := qb.c2
    have qbf := qb.free 2
    have qbl := qb.lt
    have HF := Lib.hid (And.intro (qa.put (.bool false) (.int .i64 0) (.int .i64 0)) (show Below w.heap.size w (((w2.setCell ⟨w.heap.size, 0, none⟩ (.bool false)).setCell ⟨w.heap.size, 1, none⟩ (.int .i64 0)).setCell ⟨w.heap.size, 2, none⟩ (.int .i64 0)) from (((bb.setCell (p := ⟨w.heap.size, 0, none⟩) (by simp) _).setCell (p := ⟨w.heap.size, 1, none⟩) (by simp) _).setCell (p := ⟨w.heap.size, 2, none⟩) (by simp) _)))
    clear qa qb bb b2
    go_wp2_with fail
    have z0 := HF.out.1.c0
    have z1 := HF.out.1.c1
    have z2 := HF.out.1.c2
    refine bodyPost_ret (v := .tuple #[ZH, .int .i64 2]) (by simp [results, Try.results35, go_sem, z0, z1, z2, ZH]) rfl ?_
    exact ⟨by rw [EO.out], HF.out.2⟩
set_option maxRecDepth 20000 in
set_option maxHeartbeats 1000000 in
theorem headed_short_true (n m : Nat) (hn : n ≤ 55) (s : ByteArray) (hl : s.size = m + 1) (hz : 0 < s.size) (c : UInt8) (hx : s[0]'hz = c) (hc : c.toNat = 192 + n) (hm : m ≤ 1000000) (w : World) :
    Calls Try.prog 35 #[.string s] w fun e w' => e = .returned (hdOut true 1 n m) ∧ Below w.heap.size w w' := by
  have t1 : decide ((c.toNat : Int) < 128) = false := by simp; omega
  have t2 : decide ((192 : Int) ≤ (c.toNat : Int)) = true := by simp; omega
  have e1 : (c.toNat : Int) - 128 = 64 + n := by omega
  have e2 : (c.toNat : Int) - 192 = n := by omega
  have t3 : decide ((55 : Int) < (n : Int)) = false := by simp; omega
  have hb := c.toNat_lt
  clear hc
  by_cases hnm : n ≤ m
  · have EO := Lib.hid (hdOut_ok (l := true) (z := 1) hnm)
    have t4 : decide (m < n) = false := by simp; omega
    clear hnm
    go_enter Try.func35, Try.ntmps35
    go_wp2
    have z := h3_two w (.bool true) (.int .i64 1) (.int .i64 n) (.bool true) (.int .i64 1) (.int .i64 n)
    have z0 := z.c0
    have z1 := z.c1
    have z2 := z.c2
    refine bodyPost_ret (v := .tuple #[.agg #[.bool true, .int .i64 1, .int .i64 n], .int .i64 0]) (by simp [results, Try.results35, go_sem, z0, z1, z2]) rfl ?_
    exact ⟨by rw [EO.out]; rfl, bel2 _ _ _⟩
  · have EO := Lib.hid (hdOut_no (l := true) (z := 1) hnm)
    have t4 : decide (m < n) = true := by simp; omega
    clear hnm
    go_enter Try.func35, Try.ntmps35
    go_wp2
    have z := h3_two w (.bool false) (.int .i64 0) (.int .i64 0) (.bool true) (.int .i64 1) (.int .i64 0)
    have z0 := z.c0
    have z1 := z.c1
    have z2 := z.c2
    refine bodyPost_ret (v := .tuple #[ZH, .int .i64 2]) (by simp [results, Try.results35, go_sem, z0, z1, z2, ZH]) rfl ?_
    exact ⟨by rw [EO.out], bel2 _ _ _⟩

set_option maxRecDepth 20000 in
set_option maxHeartbeats 1000000 in
/-- A head of more bytes that aren't all there. -/
theorem headed_part_true (k : Nat) (hk : k ≤ 8) (s : ByteArray) (hz : 0 < s.size) (hl : s.size < 1 + k) (c : UInt8) (hx : s[0]'hz = c) (hc : c.toNat = 192 + 55 + k) (w : World) :
    Calls Try.prog 35 #[.string s] w fun e w' => e = .returned (.tuple #[ZH, .int .i64 2]) ∧ Below w.heap.size w w' := by
  have t1 : decide ((c.toNat : Int) < 128) = false := by simp; omega
  have t2 : decide ((192 : Int) ≤ (c.toNat : Int)) = true := by simp; omega
  have e1 : (c.toNat : Int) - 128 = 119 + k := by omega
  have e2 : (c.toNat : Int) - 192 = 55 + k := by omega
  have t3 : decide ((55 : Int) < 55 + (k : Int)) = true := by simp; omega
  have e3 : (55 : Int) + k - 55 = k := by omega
  have hb := c.toNat_lt
  clear hc
  go_enter Try.func35, Try.ntmps35
  go_wp2
  have z := h3_two w (.bool false) (.int .i64 0) (.int .i64 0) (.bool true) (.int .i64 (1 + k)) (.int .i64 0)
  have z0 := z.c0
  have z1 := z.c1
  have z2 := z.c2
  refine bodyPost_ret (v := .tuple #[ZH, .int .i64 2]) (by simp [results, Try.results35, go_sem, z0, z1, z2, ZH]) rfl ?_
  exact ⟨rfl, bel2 _ _ _⟩

set_option maxRecDepth 20000 in
set_option maxHeartbeats 1000000 in
theorem headed_long_true (n k m : Nat) (hn : 55 < n) (hn2 : n ≤ 60000) (hk : k = digs n) (s : ByteArray) (hl : s.size = m + (1 + k)) (hz : 0 < s.size) (c : UInt8) (hx : s[0]'hz = c) (hc : c.toNat = 192 + 55 + k) (he : s.extract 1 (1 + k) = bs (least n)) (hm : m ≤ 1000000) (w : World) :
    Calls Try.prog 35 #[.string s] w fun e w' => e = .returned (hdOut true (1 + k) n m) ∧ Below w.heap.size w w' := by
  have hk1 : 1 ≤ k := by rw [hk]; exact digs1 (by omega)
  have hk2 : k ≤ 2 := by rw [hk]; exact digs2 hn2
  have t1 : decide ((c.toNat : Int) < 128) = false := by simp; omega
  have t2 : decide ((192 : Int) ≤ (c.toNat : Int)) = true := by simp; omega
  have e1 : (c.toNat : Int) - 128 = 119 + k := by omega
  have e2 : (c.toNat : Int) - 192 = 55 + k := by omega
  have t3 : decide ((55 : Int) < 55 + (k : Int)) = true := by simp; omega
  have e3 : (55 : Int) + k - 55 = k := by omega
  have hb := c.toNat_lt
  have hls : (bs (least n)).size = k := by rw [bs_size, hk]; rfl
  have GL := Lib.hid (fun W => getLeast_ok W (bs (least n)) (by omega) (by omega) (by
    rw [bs_get]
    have h0 : 0 < (least n).length := by rw [← bs_size]; omega
    exact least_head n _ _ (List.getElem_cons_drop h0).symm))
  rw [bs_list, be_least] at GL
  obtain ⟨k1, hk1e⟩ : ∃ k1, k1 = 1 + k := ⟨_, rfl⟩
  have e4 : (1 : Int) + k = (k1 : Int) := by omega
  rw [← hk1e] at hl he ⊢
  have t5 : decide ((n : Int) ≤ 55) = false := by simp; omega
  have hk5 : k1 ≤ 9 := by omega
  have i1 : (1 : Int) ≤ (k1 : Int) := by omega
  have i2 : (k1 : Int) ≤ (m : Int) + k1 := by omega
  have i3 : decide ((m : Int) + k1 < (k1 : Int)) = false := by simp; omega
  have i4 : (m : Int) + k1 - k1 = m := by omega
  clear hc hk hk1e
  by_cases hnm : n ≤ m
  · have EO := Lib.hid (hdOut_ok (l := true) (z := k1) hnm)
    have t4 : decide (m < n) = false := by simp; omega
    clear hnm
    go_enter Try.func35, Try.ntmps35
    go_wp2_with fail
    refine (GL.out _).mono ?_
    rintro e w2 ⟨rfl, b2⟩
    have qa := (h3_two w (.bool false) (.int .i64 0) (.int .i64 0) (.bool true) (.int .i64 k1) (.int .i64 0)).bel b2
    have qb := (h3_snd w (.bool false) (.int .i64 0) (.int .i64 0) (.bool true) (.int .i64 k1) (.int .i64 0)).bel b2
    have bb := (bel2 w (.cells #[.bool false, .int .i64 0, .int .i64 0] 49) (.cells #[.bool true, .int .i64 k1, .int .i64 0] 49)).trans (b2.mono (by simp; omega))
    have qa0 := qa.c0
    have qa1 := qa.c1
    have qa2 := qa.c2
    have qaf0 := qa.free 0
    have qaf1 := qa.free 1
    have qaf2 := qa.free 2
    have qal := qa.lt
    have qb0 := qb.c0
    have qb1 := qb.c1
    have qb2 := qb.c2
    have qbf := qb.free 2
    have qbl := qb.lt
    have HF := Lib.hid (And.intro ((qa.far2 (.int .i64 n)).put (.bool true) (.int .i64 k1) (.int .i64 n)) (show Below w.heap.size w (((((w2.setCell ⟨w.heap.size + 1, 2, none⟩ (.int .i64 n)).setCell ⟨w.heap.size, 0, none⟩ (.bool true)).setCell ⟨w.heap.size, 1, none⟩ (.int .i64 k1)).setCell ⟨w.heap.size, 2, none⟩ (.int .i64 n))) from (((bb.setCell (p := ⟨w.heap.size + 1, 2, none⟩) (by simp) _).setCell (p := ⟨w.heap.size, 0, none⟩) (by simp) _).setCell (p := ⟨w.heap.size, 1, none⟩) (by simp) _).setCell (p := ⟨w.heap.size, 2, none⟩) (by simp) _))
    clear qa qb bb b2
    go_wp2_with fail
    have z0 := HF.out.1.c0
    have z1 := HF.out.1.c1
    have z2 := HF.out.1.c2
    refine bodyPost_ret (v := .tuple #[.agg #[.bool true, .int .i64 k1, .int .i64 n], .int .i64 0]) (by simp [results, Try.results35, go_sem, z0, z1, z2]) rfl ?_
    exact ⟨by rw [EO.out], HF.out.2⟩
  · have EO := Lib.hid (hdOut_no (l := true) (z := k1) hnm)
    have t4 : decide (m < n) = true := by simp; omega
    clear hnm
    go_enter Try.func35, Try.ntmps35
    go_wp2_with fail
    refine (GL.out _).mono ?_
    rintro e w2 ⟨rfl, b2⟩
    have qa := (h3_two w (.bool false) (.int .i64 0) (.int .i64 0) (.bool true) (.int .i64 k1) (.int .i64 0)).bel b2
    have qb := (h3_snd w (.bool false) (.int .i64 0) (.int .i64 0) (.bool true) (.int .i64 k1) (.int .i64 0)).bel b2
    have bb := (bel2 w (.cells #[.bool false, .int .i64 0, .int .i64 0] 49) (.cells #[.bool true, .int .i64 k1, .int .i64 0] 49)).trans (b2.mono (by simp; omega))
    have qa0 := qa.c0
    have qa1 := qa.c1
    have qa2 := qa.c2
    have qaf0 := qa.free 0
    have qaf1 := qa.free 1
    have qaf2 := qa.free 2
    have qal := qa.lt
    have qb0 := qb.c0
    have qb1 := qb.c1
    have qb2 := qb.c2
    have qbf := qb.free 2
    have qbl := qb.lt
    have HF := Lib.hid (And.intro (qa.put (.bool false) (.int .i64 0) (.int .i64 0)) (show Below w.heap.size w (((w2.setCell ⟨w.heap.size, 0, none⟩ (.bool false)).setCell ⟨w.heap.size, 1, none⟩ (.int .i64 0)).setCell ⟨w.heap.size, 2, none⟩ (.int .i64 0)) from (((bb.setCell (p := ⟨w.heap.size, 0, none⟩) (by simp) _).setCell (p := ⟨w.heap.size, 1, none⟩) (by simp) _).setCell (p := ⟨w.heap.size, 2, none⟩) (by simp) _)))
    clear qa qb bb b2
    go_wp2_with fail
    have z0 := HF.out.1.c0
    have z1 := HF.out.1.c1
    have z2 := HF.out.1.c2
    refine bodyPost_ret (v := .tuple #[ZH, .int .i64 2]) (by simp [results, Try.results35, go_sem, z0, z1, z2, ZH]) rfl ?_
    exact ⟨by rw [EO.out], HF.out.2⟩

/-- headed of a whole head. -/
theorem headed_full (l : Bool) (n : Nat) (hn : n ≤ 60000) (t : List UInt8) (ht : t.length ≤ 1000000) (w : World) :
    Calls Try.prog 35 #[.string (bs (hd (hb l) n ++ t))] w fun e w' => e = .returned (hdOut l (hd (hb l) n).length n t.length) ∧ Below w.heap.size w w' := by
  by_cases h55 : n ≤ 55
  · have eh : hd (hb l) n = [UInt8.ofNat (hb l + n)] := by unfold hd; rw [if_pos h55]
    have hcn : (UInt8.ofNat (hb l + n)).toNat = hb l + n := by rw [u8_toNat_ofNat]; have := hb_le l; omega
    rw [eh]
    have hl : (bs ([UInt8.ofNat (hb l + n)] ++ t)).size = t.length + 1 := by rw [bs_size]; simp
    have hz : 0 < (bs ([UInt8.ofNat (hb l + n)] ++ t)).size := by omega
    cases l
    · exact headed_short_false n t.length h55 _ hl hz _ (bs_get _ 0 _) hcn ht w
    · exact headed_short_true n t.length h55 _ hl hz _ (bs_get _ 0 _) hcn ht w
  · have eh : hd (hb l) n = UInt8.ofNat (hb l + 55 + digs n) :: least n := by unfold hd; rw [if_neg h55]
    have h2 := digs2 hn
    have hcn : (UInt8.ofNat (hb l + 55 + digs n)).toNat = hb l + 55 + digs n := by rw [u8_toNat_ofNat]; have := hb_le l; omega
    rw [eh, show (UInt8.ofNat (hb l + 55 + digs n) :: least n).length = 1 + digs n by rw [List.length_cons, least_len]; omega]
    have hl : (bs (UInt8.ofNat (hb l + 55 + digs n) :: least n ++ t)).size = t.length + (1 + digs n) := by rw [bs_size]; simp only [List.length_append, List.length_cons, least_len]; omega
    have hz : 0 < (bs (UInt8.ofNat (hb l + 55 + digs n) :: least n ++ t)).size := by omega
    have he : (bs (UInt8.ofNat (hb l + 55 + digs n) :: least n ++ t)).extract 1 (1 + digs n) = bs (least n) := by
      rw [bs_extract, Nat.add_sub_cancel_left]
      simp only [List.cons_append, List.drop_succ_cons, List.drop_zero]
      rw [← least_len, List.take_left]
    cases l
    · exact headed_long_false n _ t.length (by omega) hn rfl _ hl hz _ (bs_get _ 0 _) hcn he ht w
    · exact headed_long_true n _ t.length (by omega) hn rfl _ hl hz _ (bs_get _ 0 _) hcn he ht w
/-- headed of a head that isn't all there. -/
theorem headed_cut (l : Bool) (n : Nat) (hn : n ≤ 60000) (c : Nat) (h0 : 0 < c) (hc : c < (hd (hb l) n).length) (w : World) :
    Calls Try.prog 35 #[.string (bs ((hd (hb l) n).take c))] w fun e w' => e = .returned (.tuple #[ZH, .int .i64 2]) ∧ Below w.heap.size w w' := by
  by_cases h55 : n ≤ 55
  · have eh : hd (hb l) n = [UInt8.ofNat (hb l + n)] := by unfold hd; rw [if_pos h55]
    rw [eh, List.length_singleton] at hc
    omega
  · have eh : hd (hb l) n = UInt8.ofNat (hb l + 55 + digs n) :: least n := by unfold hd; rw [if_neg h55]
    have h2 := digs2 hn
    have hcn : (UInt8.ofNat (hb l + 55 + digs n)).toNat = hb l + 55 + digs n := by rw [u8_toNat_ofNat]; have := hb_le l; omega
    rw [eh, List.length_cons, least_len] at hc
    rw [eh]
    obtain ⟨c', rfl⟩ : ∃ c', c = c' + 1 := ⟨c - 1, by omega⟩
    rw [List.take_succ_cons]
    have hl : (bs (UInt8.ofNat (hb l + 55 + digs n) :: (least n).take c')).size < 1 + digs n := by rw [bs_size]; simp only [List.length_cons, List.length_take, least_len]; omega
    have hz : 0 < (bs (UInt8.ofNat (hb l + 55 + digs n) :: (least n).take c')).size := by rw [bs_size]; simp
    cases l
    · exact headed_part_false _ (by omega) _ hz hl _ (bs_get _ 0 _) hcn w
    · exact headed_part_true _ (by omega) _ hz hl _ (bs_get _ 0 _) hcn w
end Go.Proofs.Ytaddlobmmmafaaa
