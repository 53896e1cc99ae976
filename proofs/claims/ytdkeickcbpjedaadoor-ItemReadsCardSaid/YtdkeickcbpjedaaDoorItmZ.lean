/-
  The contract of the document's parse over this seat's translation, but for its lists. Conditions: a line of at most 100,000 bytes.
-/
import Derived.Test.YtdkeickcbpjedaaDoorItmX
import Derived.Test.YtdkeickcbpjedaaDoorHeld
namespace Go.Proofs.YtdkeickcbpjedaaDoor
open Go.RowKit

/-- Not two digits next. -/
def nd2 (r : List UInt8) : Prop := ∀ b c q, r = b :: c :: q → isd b = true → isd c = true → False
theorem hexs_unique2 : ∀ (a b r q : List UInt8), hexs a ++ r = hexs b ++ q → nd r → nd2 q → a = b ∧ r = q
  | [], [], r, q, h, _, _ => ⟨rfl, h⟩
  | [], y :: b, r, q, h, hr, _ => by
    have := hr _ _ h
    rw [(hv_dg (y.toNat / 16) (by have := UInt8.toNat_lt y; omega)).2] at this
    cases this
  | x :: a, [], r, q, h, _, hq => (hq _ _ _ h.symm (hv_dg (x.toNat / 16) (by have := UInt8.toNat_lt x; omega)).2 (hv_dg (x.toNat % 16) (by omega)).2).elim
  | x :: a, y :: b, r, q, h, hr, hq => by
    simp only [hexs, List.cons_append, List.cons.injEq] at h
    obtain ⟨h1, h2⟩ := hexs_unique2 a b r q h.2.2 hr hq
    exact ⟨by rw [dg_inj h.1 h.2.1, h1], h2⟩
namespace T
/-- A text that is read is the only one that there may be. -/
theorem only_text2 {d K : Nat} {bs r : List UInt8} (hb : bs ≠ []) (hr : nd2 r) {x' : T} {r' : List UInt8} (h : Val d K (hexs bs ++ r) x' r') : x' = mk ⟨bs.toArray⟩ false [] ∧ r' = r := by
  rcases hl : bs with _ | ⟨a, l⟩
  · exact absurd hl hb
  · rw [← hl]
    have hh : hexs bs ++ r = dg (a.toNat / 16) :: (dg (a.toNat % 16) :: hexs l ++ r) := by rw [hl]; rfl
    have hd := (hv_dg (a.toNat / 16) (by have := UInt8.toNat_lt a; omega)).2
    obtain ⟨s, rfl, h1⟩ := val_text (hh ▸ h) (by intro e; rw [e] at hd; exact absurd hd (by decide))
    rcases h1 with ⟨_, h2, _⟩ | ⟨_, h2⟩
    · rw [h2] at hd; exact absurd hd (by decide)
    · rw [← hh] at h2
      obtain ⟨h3, h4⟩ := hexs_unique2 _ _ _ _ h2 h.2.2.2.1.nd hr
      refine ⟨?_, h4⟩
      congr 1
      apply ByteArray.ext
      apply Array.toList_inj.1
      rw [h3]
/-- No text at all. -/
theorem no_text {d K : Nat} {b : UInt8} {q : List UInt8} (hr : nd2 (b :: q)) (h1 : b ≠ 40) (h2 : b ≠ 45) (x' : T) (r' : List UInt8) : ¬ Val d K (b :: q) x' r' := fun h => by
  obtain ⟨s, rfl, h3⟩ := val_text h h1
  rcases h3 with ⟨_, h4, _⟩ | ⟨h4, h5⟩
  · exact h2 h4
  · have := (hexs_unique2 s.data.toList [] r' (b :: q) h5 h.2.2.2.1.nd hr).1
    exact toList_ne_nil h4 this
end T

/-- What parse answers and leaves. -/
def RefPost (d : Nat) (l : List UInt8) (a : Nat) (w : World) (e : Ending) (w' : World) : Prop :=
  Below w.heap.size w w' ∧
  ((∃ x v nx, e = .returned (.tuple #[.agg #[.string (T.s x), .bool (T.l x), v], .int .i64 ((nx : Nat) : Int)]) ∧ T.Snd d (l.drop a) x (l.drop nx) ∧ a < nx ∧ nx ≤ l.length ∧ InP w' (fun j => w.heap.size ≤ j) x v ∧
      ∀ K x' r', T.Val d K (l.drop a) x' r' → x' = x ∧ r' = l.drop nx) ∨
   (e = .returned (.tuple #[ZV, .int .i64 (-1)]) ∧ ∀ K x' r', ¬ T.Val d K (l.drop a) x' r'))
/-- The contract of parse at so many levels. -/
def RefC (d : Nat) : Prop := ∀ (l : List UInt8) (a : Nat) (w : World) (D : Int), D + d = 17 → l.length ≤ 100000 → a ≤ l.length →
  Calls Tryd.prog 24 #[.string (sb l), .int .i64 (a : Int), .int .i64 D] w fun e w' => RefPost d l a w e w'

/-- The variable of the result, filled. -/
theorem ref_end {d a : Nat} {l : List UInt8} {w wr : World} (hb : Below w.heap.size w wr) (hn : ∀ K x' r', ¬ T.Val d K (l.drop a) x' r') :
    RefPost d l a w (.returned (.tuple #[ZV, .int .i64 (-1)])) (((wr.setCell ⟨w.heap.size, 0, none⟩ (.string ⟨#[]⟩)).setCell ⟨w.heap.size, 1, none⟩ (.bool false)).setCell ⟨w.heap.size, 2, none⟩ (.slice none 0 0)) :=
  ⟨bel_put (g := w.heap.size) hb (Nat.le_refl _) _ _ _, .inr ⟨rfl, hn⟩⟩

set_option maxRecDepth 20000 in
set_option maxHeartbeats 4000000 in
theorem parse_end (d : Nat) (l : List UInt8) (a : Nat) (w : World) (D : Int) (hD : D + d = 17) (_hl : l.length ≤ 100000) (ha : a ≤ l.length) (h : a = l.length ∨ d = 0) :
    Calls Tryd.prog 24 #[.string (sb l), .int .i64 (a : Int), .int .i64 D] w fun e w' => RefPost d l a w e w' := by
  have i0 := I3.new w (.string ⟨#[]⟩) (.bool false) (.slice none 0 0)
  have BX := bel1 w (.cells #[.string ⟨#[]⟩, .bool false, .slice none 0 0] 24)
  obtain ⟨W0, hW0⟩ : ∃ W0, W0 = w.alloc (.cells #[.string ⟨#[]⟩, .bool false, .slice none 0 0] 24) := ⟨_, rfl⟩
  rw [← hW0] at BX i0
  have x0 := i0.c0
  have x1 := i0.c1
  have x2 := i0.c2
  have lx := i0.lt
  have p0 := i0.free 0
  have p1 := i0.free 1
  have p2 := i0.free 2
  have Q := Lib.hid (ref_end (d := d) (a := a) (l := l) BX (by
    intro K x' r' hv
    rcases h with h | h
    · rw [h, List.drop_length] at hv; exact T.val_nil hv
    · rw [h] at hv; exact T.val_zero hv))
  have Z := Lib.hid (i0.put (.string ⟨#[]⟩) (.bool false) (.slice none 0 0))
  have zl : (sb l).size = l.length := sb_size l
  clear BX i0
  by_cases hlt : a = l.length
  · have t1 : decide (l.length ≤ a) = true := by simp; omega
    clear h hlt
    go_enter Tryd.func24, Tryd.ntmps24
    go_upto_region 2 with fail
    rw [← hW0]
    clear hW0
    go_wp2_with fail
    have z0 := Z.out.c0
    have z1 := Z.out.c1
    have z2 := Z.out.c2
    refine bodyPost_ret (v := .tuple #[ZV, .int .i64 (-1)]) (by simp [results, Tryd.results24, go_sem, z0, z1, z2, ZV]) rfl ?_
    exact Q.out
  · have t1 : decide (l.length ≤ a) = false := by simp; omega
    obtain rfl : D = 17 := by omega
    clear h hlt
    go_enter Tryd.func24, Tryd.ntmps24
    go_upto_region 2 with fail
    rw [← hW0]
    clear hW0
    go_wp2_with fail
    have z0 := Z.out.c0
    have z1 := Z.out.c1
    have z2 := Z.out.c2
    refine bodyPost_ret (v := .tuple #[ZV, .int .i64 (-1)]) (by simp [results, Tryd.results24, go_sem, z0, z1, z2, ZV]) rfl ?_
    exact Q.out

set_option maxRecDepth 20000 in
set_option maxHeartbeats 4000000 in
theorem parse_dash (d : Nat) (l : List UInt8) (a : Nat) (w : World) (D : Int) (hD : D + d = 17) (hl : l.length ≤ 100000) (ha : a < l.length) (hd : 1 ≤ d) (h : l[a] = 45) :
    Calls Tryd.prog 24 #[.string (sb l), .int .i64 (a : Int), .int .i64 D] w fun e w' => RefPost d l a w e w' := by
  have i0 := I3.new w (.string ⟨#[]⟩) (.bool false) (.slice none 0 0)
  have BX := bel1 w (.cells #[.string ⟨#[]⟩, .bool false, .slice none 0 0] 24)
  obtain ⟨W0, hW0⟩ : ∃ W0, W0 = w.alloc (.cells #[.string ⟨#[]⟩, .bool false, .slice none 0 0] 24) := ⟨_, rfl⟩
  rw [← hW0] at BX i0
  have x0 := i0.c0
  have x1 := i0.c1
  have x2 := i0.c2
  have lx := i0.lt
  have p0 := i0.free 0
  have p1 := i0.free 1
  have p2 := i0.free 2
  have hdr : l.drop a = 45 :: l.drop (a + 1) := by rw [List.drop_eq_getElem_cons ha, h]
  have Q := Lib.hid (show RefPost d l a w (.returned (.tuple #[ZV, .int .i64 ((a + 1 : Nat) : Int)])) _ from ⟨bel_put (g := w.heap.size) BX (Nat.le_refl _) (.string ⟨#[]⟩) (.bool false) (.slice none 0 0),
    .inl ⟨.mk ⟨#[]⟩ false [], .slice none 0 0, a + 1, rfl, by rw [hdr]; exact T.snd_of_empty _ hd, by omega, by omega, ⟨by decide, by simp [maxLen], none, 0, rfl, trivial⟩, by
      intro K x' r' hv
      rw [hdr] at hv
      exact T.only_empty hv⟩⟩)
  have Z := Lib.hid (i0.put (.string ⟨#[]⟩) (.bool false) (.slice none 0 0))
  have zl : (sb l).size = l.length := sb_size l
  have zp : a < (sb l).size := by omega
  have hx : (sb l)[a]'zp = 45 := by rw [sb_at]; exact h
  have t1 : decide (l.length ≤ a) = false := by simp; omega
  have t2 : decide (16 < D) = false := by simp; omega
  have i1 : (a : Int) < ((sb l).size : Int) := by omega
  have e1 : ((a + 1 : Nat) : Int) = (a : Int) + 1 := by omega
  rw [e1] at Q
  have ha2 : a ≤ 100000 := by omega
  clear BX i0 h hdr hD hd e1
  go_enter Tryd.func24, Tryd.ntmps24
  go_upto_region 4 with fail
  rw [← hW0]
  clear hW0
  go_wp2_with fail
  have z0 := Z.out.c0
  have z1 := Z.out.c1
  have z2 := Z.out.c2
  refine bodyPost_ret (v := .tuple #[ZV, .int .i64 ((a : Int) + 1)]) (by simp [results, Tryd.results24, go_sem, z0, z1, z2, ZV]) rfl ?_
  exact Q.out

/-- What the loop over digits keeps. -/
theorem ready_append {P : Program} {w : World} {o : Oper} {a : Act} {K : Act → World → Prop} {Q : Exit → Act → World → Prop} {b : Bool} (hb : b = true) (s x : Operand) (t : TypeId)
    (ho : o.op = .call { callee := .builtin .append, args := #[s, x], argTypes := #[t, t] }) (vs vx : Value) (hs : a.eval s = vs) (hx : a.eval x = vx) (v' : Value) (w' : World)
    (hr : (Builtin.append_ #[t, t] o.type #[vs, vx]).run P w = .ok v' w') (h : K (a.put o.dst v') w') : if b = true then Oper.wp P o a w K Q else K (a.put o.dst undef) w := by
  rw [if_pos hb]
  unfold Oper.wp execOp
  simp only [ho, resolve, invoke, builtin, Sem.run_bind, Sem.run_pure, Result.andThen_ok, List.map_toArray, List.map_cons, List.map_nil, hs, hx, hr]
  exact h
structure Px (g : Nat) (w W0 : World) (o : Value) (bs : List UInt8) (W : World) : Prop where
  own : W.ownsRow g 5 1 o bs.length (Lib.byteCells bs)
  res : I3 W w.heap.size (.string ⟨#[]⟩) (.bool false) (.slice none 0 0)
  bel : Below g W0 W
theorem Px.drew {g : Nat} {w W0 W : World} {o : Value} {bs : List UInt8} (h : Px g w W0 o bs W) : Px g w W0 o bs W.drew := ⟨h.own, h.res, h.bel.drew⟩
theorem Px.alloc {g : Nat} {w W0 W : World} {o : Value} {bs : List UInt8} (h : Px g w W0 o bs W) (hg : g ≤ W.heap.size) (x : Obj) : Px g w W0 o bs (W.alloc x) := ⟨h.own.alloc _, h.res.alloc _, h.bel.alloc hg _⟩

set_option maxRecDepth 20000 in
set_option maxHeartbeats 4000000 in
theorem parse_text (d : Nat) (l : List UInt8) (a : Nat) (w : World) (D : Int) (hD : D + d = 17) (hl : l.length ≤ 100000) (ha : a < l.length) (hd : 1 ≤ d) (h45 : l[a] ≠ 45) (h40 : l[a] ≠ 40) :
    Calls Tryd.prog 24 #[.string (sb l), .int .i64 (a : Int), .int .i64 D] w fun e w' => RefPost d l a w e w' := by
  have i0 := I3.new w (.string ⟨#[]⟩) (.bool false) (.slice none 0 0)
  have BX := bel1 w (.cells #[.string ⟨#[]⟩, .bool false, .slice none 0 0] 24)
  have hsz : (w.alloc (.cells #[.string ⟨#[]⟩, .bool false, .slice none 0 0] 24)).heap.size = w.heap.size + 1 := by simp
  obtain ⟨W0, hW0⟩ : ∃ W0, W0 = w.alloc (.cells #[.string ⟨#[]⟩, .bool false, .slice none 0 0] 24) := ⟨_, rfl⟩
  rw [← hW0] at BX i0 hsz
  have HDR := Lib.hid (List.drop_eq_getElem_cons ha)
  have HNE := Lib.hid (And.intro h40 h45)
  have HD := Lib.hid (show D + d = 17 ∧ l.length ≤ 100000 ∧ 1 ≤ d ∧ a < l.length from ⟨hD, hl, hd, ha⟩)
  have zl : (sb l).size = l.length := sb_size l
  have zp : a < (sb l).size := by omega
  obtain ⟨x, hx⟩ : ∃ x, (sb l)[a]'zp = x := ⟨_, rfl⟩
  have hxl : l[a] = x := by rw [← hx]; exact (sb_at l a zp).symm
  have t3 : ((x.toNat : Int) == 45) = false := by
    rw [beq_eq_false_iff_ne]; intro e; exact h45 (hxl.trans (UInt8.toNat_inj.1 (by have : x.toNat = 45 := (by omega); rw [this]; rfl)))
  have t4 : ((x.toNat : Int) != 40) = true := by
    rw [bne_iff_ne]; intro e; exact h40 (hxl.trans (UInt8.toNat_inj.1 (by have : x.toNat = 40 := (by omega); rw [this]; rfl)))
  have t1 : decide (l.length ≤ a) = false := by simp; omega
  have t2 : decide (16 < D) = false := by simp; omega
  obtain ⟨g, hg⟩ : ∃ g, g = w.heap.size + 1 := ⟨_, rfl⟩
  have HGW := Lib.hid (show g = w.heap.size + 1 ∧ w.heap.size ≤ g from ⟨hg, by omega⟩)
  have HI0 := Lib.hid i0
  have HBW := Lib.hid BX
  have HS := Lib.hid (show W0.heap.size = g by omega)
  obtain ⟨j0, hi, hz0, hz1, hz2⟩ := info_parts byte_info
  have J0 := Lib.hid (And.intro hi (And.intro hz0 (And.intro hz1 hz2)))
  have ZL := Lib.hid zl
  clear BX i0 h45 h40 hD hd hl hg hsz hxl hi hz0 hz1 hz2
  go_enter Tryd.func24, Tryd.ntmps24
  go_wp2_with fail
  rw [← hW0]
  clear hW0 t1 t2 t3 t4 hx zl
  go_loopw [1, 8] (fun i o wr => ∃ (p : Nat) (bs : List UInt8), i = .int .i64 (p : Int) ∧ (p ≤ l.length ∧ p = a + 2 * bs.length ∧ hexs bs ++ l.drop p = l.drop a) ∧ wr.ownsRow g 5 1 o bs.length (Lib.byteCells bs) ∧ I3 wr w.heap.size (.string ⟨#[]⟩) (.bool false) (.slice none 0 0) ∧ Below g W0 wr) (fun i _ _ => l.length - (intOf i).toNat)
  case atStart => exact ⟨a, [], rfl, ⟨by have := HD.out; omega, rfl, rfl⟩, World.ownsRow_nil _ _ _ _, HI0.out, by rw [← HS.out]; exact Below.refl _ _⟩
  case round =>
    obtain ⟨p, bs, rfl, hp, hown, hi3, hbel⟩ := hrel
    obtain ⟨sn, sc, rfl⟩ : ∃ a c, u8 = .slice a bs.length c := by
      rcases hown.2 with ⟨h, h0⟩ | ⟨g', cap, cu, h, _⟩
      · exact ⟨none, 0, by rw [h, h0]⟩
      · exact ⟨_, _, h⟩
    have OW := Lib.hid (And.intro hown (And.intro hi3 hbel))
    have HP0 := hp
    have hpl : p ≤ 100000 := by have := HD.out; omega
    have hpb : p = a + 2 * bs.length := hp.2.1
    have HP := Lib.hid (show p ≤ l.length ∧ (bs ≠ [] → a < p) ∧ hexs bs ++ l.drop p = l.drop a from ⟨hp.1, fun h => by have := List.length_pos_iff.2 h; omega, hp.2.2⟩)
    have HPB := Lib.hid hpb
    clear hown hi3 hbel hp hpb HP0
    by_cases hp1 : p + 1 < l.length
    · have zp0 : p < (sb l).size := by rw [ZL.out]; omega
      have zp1 : p + 1 < (sb l).size := by rw [ZL.out]; omega
      have i2 : (p : Int) + 1 < (l.length : Int) := by omega
      have i3 : (p : Int) + 1 < ((sb l).size : Int) := by omega
      have i4 : (p : Int) < ((sb l).size : Int) := by omega
      obtain ⟨x, hx⟩ : ∃ x, (sb l)[p]'zp0 = x := ⟨_, rfl⟩
      obtain ⟨y, hy⟩ : ∃ y, (sb l)[p + 1]'zp1 = y := ⟨_, rfl⟩
      have XY := Lib.hid (show l.drop p = x :: y :: l.drop (p + 2) from by
        rw [List.drop_eq_getElem_cons (by omega : p < l.length), List.drop_eq_getElem_cons hp1, ← hx, ← hy, sb_at, sb_at])
      have DX := Lib.hid (fun W => digit_any x W)
      have DY := Lib.hid (fun W => digit_any y W)
      by_cases hix : isd x = true
      · have vx : dv x = (hv x : Int) := if_pos hix
        have lx16 := (dg_hv x hix).2
        rw [vx] at DX
        by_cases hiy : isd y = true
        · have vy : dv y = (hv y : Int) := if_pos hiy
          have ly16 := (dg_hv y hiy).2
          rw [vy] at DY
          obtain ⟨q1, hq1⟩ : ∃ q, q = hv x := ⟨_, rfl⟩
          obtain ⟨q2, hq2⟩ : ∃ q, q = hv y := ⟨_, rfl⟩
          have k1 : IntKind.u8.wrap (16 * (q1 : Int) + (q2 : Int)) = ((two x y).toNat : Int) := by
            rw [← hq1] at lx16
            rw [← hq2] at ly16
            rw [IntKind.wrap_u8]
            simp only [two, ← hq1, ← hq2, UInt8.toNat_ofNat']
            omega
          rw [← hq1] at DX lx16
          rw [← hq2] at DY ly16
          have kp1 : IntKind.i64.wrap ((p : Int) + 1) = (p : Int) + 1 := by rw [IntKind.wrap_i64]; omega
          have kw1 : IntKind.i64.wrap (16 * (q1 : Int)) = 16 * (q1 : Int) := by rw [IntKind.wrap_i64]; omega
          have kw2 : IntKind.i64.wrap (16 * (q1 : Int) + (q2 : Int)) = 16 * (q1 : Int) + (q2 : Int) := by rw [IntKind.wrap_i64]; omega
          have i5 : 0 ≤ (p : Int) + 1 ∧ (p : Int) + 1 < ((sb l).size : Int) := ⟨by omega, i3⟩
          have hy' : ∀ h, (sb l)[((p : Int) + 1).toNat]'h = y := fun _ => hy
          have HH := Lib.hid (two_hex x y hix hiy)
          clear hix hiy vx vy hq1 hq2
          go_wp2_with fail
          refine (DX.out _).mono ?_
          rintro e w1 ⟨rfl, rfl⟩
          go_wp2_with fail
          refine (DY.out _).mono ?_
          rintro e w1 ⟨rfl, rfl⟩
          go_upto_region 8 with fail
          have hHeld : True := trivial
          refine wp_region_held_drew (S := fun _ => True) (by kernel_rfl) hHeld (fun hHeld => ?_)
          refine held_take 0 52 (v := ?vk0) rfl rfl (by kernel_rfl) (by kernel_rfl) (by kernel_rfl) (fun _ _ _ h => h) (by rfl) ?hyk0 hHeld ?restk0
          case hyk0 => (intro w hSw; clear hSw; go_simp; (try simp only [kp1, kw1, kw2, k1]); (try rw [dif_pos i5]); (try simp only [hy', Result.andThen_ok]); try with_reducible rfl)
          try simp only [Act.put, List.setIfInBounds_toArray, List.set_cons_zero, List.set_cons_succ]
          refine held_take 1 53 (v := ?vk1) rfl rfl (by kernel_rfl) (by kernel_rfl) (by kernel_rfl) (fun _ _ _ h => h) (by rfl) ?hyk1 hHeld ?restk1
          case hyk1 => (intro w hSw; clear hSw; go_simp; (try simp only [kp1, kw1, kw2, k1]); (try rw [dif_pos i5]); (try simp only [hy', Result.andThen_ok]); try with_reducible rfl)
          try simp only [Act.put, List.setIfInBounds_toArray, List.set_cons_zero, List.set_cons_succ]
          refine held_take 2 54 (v := ?vk2) rfl rfl (by kernel_rfl) (by kernel_rfl) (by kernel_rfl) (fun _ _ _ h => h) (by rfl) ?hyk2 hHeld ?restk2
          case hyk2 => (intro w hSw; clear hSw; go_simp; (try simp only [kp1, kw1, kw2, k1]); (try rw [dif_pos i5]); (try simp only [hy', Result.andThen_ok]); try with_reducible rfl)
          try simp only [Act.put, List.setIfInBounds_toArray, List.set_cons_zero, List.set_cons_succ]
          refine held_take 3 55 (v := ?vk3) rfl rfl (by kernel_rfl) (by kernel_rfl) (by kernel_rfl) (fun _ _ _ h => h) (by rfl) ?hyk3 hHeld ?restk3
          case hyk3 => (intro w hSw; clear hSw; go_simp; (try simp only [kp1, kw1, kw2, k1]); (try rw [dif_pos i5]); (try simp only [hy', Result.andThen_ok]); try with_reducible rfl)
          try simp only [Act.put, List.setIfInBounds_toArray, List.set_cons_zero, List.set_cons_succ]
          refine held_take 6 58 (v := ?vk6) rfl rfl (by kernel_rfl) (by kernel_rfl) (by kernel_rfl) (fun _ _ _ h => h) (by rfl) ?hyk6 hHeld ?restk6
          case hyk6 => (intro w hSw; clear hSw; go_simp; (try simp only [kp1, kw1, kw2, k1]); (try rw [dif_pos i5]); (try simp only [hy', Result.andThen_ok]); try with_reducible rfl)
          try simp only [Act.put, List.setIfInBounds_toArray, List.set_cons_zero, List.set_cons_succ]
          refine held_take 7 59 (v := ?vk7) rfl rfl (by kernel_rfl) (by kernel_rfl) (by kernel_rfl) (fun _ _ _ h => h) (by rfl) ?hyk7 hHeld ?restk7
          case hyk7 => (intro w hSw; clear hSw; go_simp; (try simp only [kp1, kw1, kw2, k1]); (try rw [dif_pos i5]); (try simp only [hy', Result.andThen_ok]); try with_reducible rfl)
          try simp only [Act.put, List.setIfInBounds_toArray, List.set_cons_zero, List.set_cons_succ]
          refine held_take 8 60 (v := .int .i64 ((p : Int) + 1)) rfl rfl (by kernel_rfl) (by kernel_rfl) (by kernel_rfl) (fun _ _ _ h => h) (by rfl) ?hyk8 hHeld ?restk8
          case hyk8 => (intro w hSw; clear hSw; go_simp; (try simp only [kp1, kw1, kw2, k1]); (try rw [dif_pos i5]); (try simp only [hy', Result.andThen_ok]); try with_reducible rfl)
          try simp only [Act.put, List.setIfInBounds_toArray, List.set_cons_zero, List.set_cons_succ]
          refine held_take 9 61 (v := .int .u8 (y.toNat : Int)) rfl rfl (by kernel_rfl) (by kernel_rfl) (by kernel_rfl) (fun _ _ _ h => h) (by rfl) ?hyk9 hHeld ?restk9
          case hyk9 => (intro w hSw; clear hSw; go_simp; (try simp only [kp1, kw1, kw2, k1]); (try rw [dif_pos i5]); (try simp only [hy', Result.andThen_ok]); try with_reducible rfl)
          try simp only [Act.put, List.setIfInBounds_toArray, List.set_cons_zero, List.set_cons_succ]
          refine wpAnyH_ready (rs := [4]) (by kernel_rfl) (by simp) ?_
          refine AllReadyH.cons rfl (fun K hK => ?_) AllReadyH.nil
          go_simp
          refine (DX.out _).mono ?_
          rintro e z0 ⟨rfl, rfl⟩
          have nn := hHeld
          clear hHeld
          refine hK.out _ _ nn (fun hHeld => ?_)
          clear hK K nn
          try simp only [Act.put, List.setIfInBounds_toArray, List.set_cons_zero, List.set_cons_succ]
          refine held_take 5 57 (v := .int .i64 (16 * (q1 : Int))) rfl rfl (by kernel_rfl) (by kernel_rfl) (by kernel_rfl) (fun _ _ _ h => h) (by rfl) ?hyk5 hHeld ?restk5
          case hyk5 => (intro w hSw; clear hSw; go_simp; (try simp only [kp1, kw1, kw2, k1]); (try rw [dif_pos i5]); (try simp only [hy', Result.andThen_ok]); try with_reducible rfl)
          try simp only [Act.put, List.setIfInBounds_toArray, List.set_cons_zero, List.set_cons_succ]
          refine wpAnyH_ready (rs := [10]) (by kernel_rfl) (by simp) ?_
          refine AllReadyH.cons rfl (fun K hK => ?_) AllReadyH.nil
          go_simp
          refine (DY.out _).mono ?_
          rintro e z1 ⟨rfl, rfl⟩
          have nn := hHeld
          clear hHeld
          refine hK.out _ _ nn (fun hHeld => ?_)
          clear hK K nn
          try simp only [Act.put, List.setIfInBounds_toArray, List.set_cons_zero, List.set_cons_succ]
          refine held_take 11 63 (v := .int .i64 (16 * (q1 : Int) + (q2 : Int))) rfl rfl (by kernel_rfl) (by kernel_rfl) (by kernel_rfl) (fun _ _ _ h => h) (by rfl) ?hyk11 hHeld ?restk11
          case hyk11 => (intro w hSw; clear hSw; go_simp; (try simp only [kp1, kw1, kw2, k1]); (try rw [dif_pos i5]); (try simp only [hy', Result.andThen_ok]); try with_reducible rfl)
          try simp only [Act.put, List.setIfInBounds_toArray, List.set_cons_zero, List.set_cons_succ]
          refine held_take 12 64 (v := .int .u8 ((two x y).toNat : Int)) rfl rfl (by kernel_rfl) (by kernel_rfl) (by kernel_rfl) (fun _ _ _ h => h) (by rfl) ?hyk12 hHeld ?restk12
          case hyk12 => (intro w hSw; clear hSw; go_simp; (try simp only [kp1, kw1, kw2, k1]); (try rw [dif_pos i5]); (try simp only [hy', Result.andThen_ok]); try with_reducible rfl)
          try simp only [Act.put, List.setIfInBounds_toArray, List.set_cons_zero, List.set_cons_succ]
          -- last: R1; left: [13, 14, 15]
          refine wpAnyH_ready (rs := [13]) (by kernel_rfl) (by simp) ?_
          refine AllReadyH.cons rfl (fun K hK => ?_) AllReadyH.nil
          go_simp
          have hgw : g ≤ w1.heap.size := by rw [← HS.out]; exact OW.out.2.2.size
          have P0 : Px g w W0 (.slice sn bs.length sc) bs w1 := ⟨OW.out.1, OW.out.2.1, OW.out.2.2⟩
          have PP : Px g w W0 (.slice sn bs.length sc) bs (w1.alloc (.cells #[.int .u8 ((two x y).toNat : Int)] 5)).drew := (P0.alloc hgw _).drew
          have CE : (w1.alloc (.cells #[.int .u8 ((two x y).toNat : Int)] 5)).drew.cell? ⟨w1.heap.size, 0, none⟩ = some (.int .u8 ((two x y).toNat : Int)) := by
            simp
          clear hHeld P0
          refine hK.out _ _ trivial (fun hHeld => ?_)
          clear hK K
          try simp only [Act.put, List.setIfInBounds_toArray, List.set_cons_zero, List.set_cons_succ]
          have hHeld2 := And.intro PP (And.intro CE (show g ≤ (w1.alloc (.cells #[.int .u8 ((two x y).toNat : Int)] 5)).drew.heap.size by simp [World.drew]; omega))
          refine wpAnyH_ready (rs := [14]) (by kernel_rfl) (by simp) ?_
          refine AllReadyH.cons rfl (fun K hK => ?_) AllReadyH.nil
          obtain ⟨hi, hz0, hz1, hz2⟩ := J0.out
          have hnews : ∀ j' u, [Value.int .u8 ((two x y).toNat : Int)][j']? = some u → (w1.alloc (.cells #[.int .u8 ((two x y).toNat : Int)] 5)).drew.cell? ((⟨w1.heap.size, 0, none⟩ : Addr).add j') = some u := by
            intro j' u hj
            match j', hj with
            | 0, hj => simp at hj; subst hj; simp [Addr.add]
          obtain ⟨v', w5, hap, hown', hgrow, _⟩ := run_append_own (P := Tryd.prog) (w1.alloc (.cells #[.int .u8 ((two x y).toNat : Int)] 5)).drew g 40 40 5 j0 (.int .u8 0) 1 1 Tryd.underlying40 hi hz0 hz1 hz2 rfl (by decide) _ _ _ hHeld2.1.own ⟨w1.heap.size, 0, none⟩ 1 1 [.int .u8 ((two x y).toNat : Int)] rfl hnews (by intro u hu; simp at hu; subst hu; rfl) (by unfold maxLen; have := HPB.out; omega) (by have := HPB.out; omega) hHeld2.2.2
          refine ready_append rfl _ _ 40 rfl _ _ rfl rfl v' w5 hap ?_
          have e5 : Lib.byteCells bs ++ [.int .u8 ((two x y).toNat : Int)] = Lib.byteCells (bs ++ [two x y]) := by rw [Lib.byteCells_append]; rfl
          rw [e5] at hown'
          have B5 : Below g W0 w5 := hHeld2.1.bel.grown hgrow hHeld2.2.2 (fun kk hk => (hHeld2.1.own.lt kk hk).1)
          have I5 : I3 w5 w.heap.size (.string ⟨#[]⟩) (.bool false) (.slice none 0 0) := HI0.out.bel (by rw [HS.out]; exact B5)
          have R5 := Lib.hid (show w5.ownsRow g 5 1 v' (bs ++ [two x y]).length (Lib.byteCells (bs ++ [two x y])) ∧ I3 w5 w.heap.size (.string ⟨#[]⟩) (.bool false) (.slice none 0 0) ∧ Below g W0 w5 from
            ⟨by rw [List.length_append, List.length_singleton]; exact hown', I5, B5⟩)
          have E5 := Lib.hid (show hexs (bs ++ [two x y]) ++ l.drop (p + 2) = l.drop a from by
            rw [← HP.out.2.2, XY.out, hexs_append, HH.out, List.append_assoc]; rfl)
          clear hown' hgrow e5 B5 I5 hap hHeld2 PP CE hnews hi hz0 hz1 hz2
          refine hK.out _ _ trivial (fun hHeld => ?_)
          clear hK K
          try simp only [Act.put, List.setIfInBounds_toArray]
          refine held_take 15 8 (v := v') rfl rfl (by kernel_rfl) (by kernel_rfl) (by kernel_rfl) (fun _ _ _ h => h) (by rfl) ?hyk15 hHeld ?restk15
          case hyk15 => (intro w hSw; clear hSw; go_simp; try with_reducible rfl)
          try simp only [Act.put]
          refine wpAnyH_done (by kernel_rfl) ?_ _
          try simp only [Exit.then]
          go_wp2_with fail
          go_roundw
          case rel => exact ⟨p + 2, bs ++ [two x y], by go_num, ⟨by omega, by rw [List.length_append, List.length_singleton]; have := HPB.out; omega, E5.out⟩, R5.out.1, R5.out.2.1, R5.out.2.2⟩
          case measure => (simp [intOf]) <;> omega
        · have hiy' : isd y = false := by simpa using hiy
          have vy : dv y = -1 := by rw [dv, hiy']; rfl
          rw [vy] at DY
          have hbs2 : nd2 (l.drop p) := by
            rw [XY.out]; intro b c q h hb hc
            injection h with h1 h2
            injection h2 with h2 _
            rw [h2] at hiy'
            rw [hc] at hiy'
            cases hiy'
          obtain ⟨q1, hq1⟩ : ∃ q, q = hv x := ⟨_, rfl⟩
          rw [← hq1] at DX lx16
          clear hix vx vy hq1 hiy hiy'
          go_wp2_with fail
          refine (DX.out _).mono ?_
          rintro e w1 ⟨rfl, rfl⟩
          go_wp2_with fail
          refine (DY.out _).mono ?_
          rintro e w1 ⟨rfl, rfl⟩
          have BSN := Lib.hid hbs2
          clear hbs2
          by_cases hbs : bs = []
          · subst hbs
            have i0 := OW.out.2.1
            have x0 := i0.c0
            have x1 := i0.c1
            have x2 := i0.c2
            have lx := i0.lt
            have p0 := i0.free 0
            have p1 := i0.free 1
            have p2 := i0.free 2
            have Q := Lib.hid (ref_end (d := d) (a := a) (l := l) (HBW.out.trans (OW.out.2.2.mono HGW.out.2)) (by
              intro K x' r' hv
              have e := HP.out.2.2
              simp only [hexs, List.nil_append] at e
              rw [HDR.out] at hv e
              exact T.no_text (e ▸ BSN.out) HNE.out.1 HNE.out.2 x' r' hv))
            have Z := Lib.hid (i0.put (.string ⟨#[]⟩) (.bool false) (.slice none 0 0))
            clear i0
            go_wp2_with fail
            have z0 := Z.out.c0
            have z1 := Z.out.c1
            have z2 := Z.out.c2
            show bodyPost Tryd.prog Tryd.f24 (fun e w' => RefPost d l a w e w') .ret _ _
            refine bodyPost_ret (v := .tuple #[ZV, .int .i64 (-1)]) (by simp [results, Tryd.results24, go_sem, z0, z1, z2, ZV]) rfl ?_
            exact Q.out
          · have hb0 : 0 < bs.length := List.length_pos_iff.2 hbs
            have cv := conv_own OW.out.1 rfl hb0
            have i0 := OW.out.2.1
            have x0 := i0.c0
            have x1 := i0.c1
            have x2 := i0.c2
            have lx := i0.lt
            have p0 := i0.free 0
            have p1 := i0.free 1
            have p2 := i0.free 2
            have Q := Lib.hid (show RefPost d l a w (.returned (.tuple #[.agg #[.string (sb bs), .bool false, .slice none 0 0], .int .i64 (p : Int)])) _ from
              ⟨bel_put (g := w.heap.size) (HBW.out.trans (OW.out.2.2.mono HGW.out.2)) (Nat.le_refl _) (.string (sb bs)) (.bool false) (.slice none 0 0),
               .inl ⟨.mk ⟨bs.toArray⟩ false [], .slice none 0 0, p, rfl, by rw [← HP.out.2.2]; exact T.snd_of_text _ _ HD.out.2.2.1 hbs, HP.out.2.1 hbs, HP.out.1,
                ⟨by show (sb bs).size ≤ maxLen; rw [sb_size]; have h1 := HPB.out; have h2 := HP.out.1; have h3 := HD.out.2.1; unfold maxLen; omega, by simp [maxLen], none, 0, rfl, trivial⟩, by
                intro K x' r' hv
                rw [← HP.out.2.2] at hv
                exact T.only_text2 hbs BSN.out hv⟩⟩)
            have Z := Lib.hid (i0.put (.string (sb bs)) (.bool false) (.slice none 0 0))
            have t9 : ((bs.length : Int) == 0) = false := by simp; omega
            clear i0
            go_wp2_with fail
            have z0 := Z.out.c0
            have z1 := Z.out.c1
            have z2 := Z.out.c2
            show bodyPost Tryd.prog Tryd.f24 (fun e w' => RefPost d l a w e w') .ret _ _
            refine bodyPost_ret (v := .tuple #[.agg #[.string (sb bs), .bool false, .slice none 0 0], .int .i64 (p : Int)]) (by simp [results, Tryd.results24, go_sem, z0, z1, z2]) rfl ?_
            exact Q.out
      · have hix' : isd x = false := by simpa using hix
        have vx : dv x = -1 := by rw [dv, hix']; rfl
        rw [vx] at DX
        have hbs2 : nd2 (l.drop p) := by
          rw [XY.out]; intro b c q h hb hc
          injection h with h1 h2
          rw [h1] at hix'
          rw [hb] at hix'
          cases hix'
        clear hix vx hix'
        go_wp2_with fail
        refine (DX.out _).mono ?_
        rintro e w1 ⟨rfl, rfl⟩
        have BSN := Lib.hid hbs2
        clear hbs2
        by_cases hbs : bs = []
        · subst hbs
          have i0 := OW.out.2.1
          have x0 := i0.c0
          have x1 := i0.c1
          have x2 := i0.c2
          have lx := i0.lt
          have p0 := i0.free 0
          have p1 := i0.free 1
          have p2 := i0.free 2
          have Q := Lib.hid (ref_end (d := d) (a := a) (l := l) (HBW.out.trans (OW.out.2.2.mono HGW.out.2)) (by
            intro K x' r' hv
            have e := HP.out.2.2
            simp only [hexs, List.nil_append] at e
            rw [HDR.out] at hv e
            exact T.no_text (e ▸ BSN.out) HNE.out.1 HNE.out.2 x' r' hv))
          have Z := Lib.hid (i0.put (.string ⟨#[]⟩) (.bool false) (.slice none 0 0))
          clear i0
          go_wp2_with fail
          have z0 := Z.out.c0
          have z1 := Z.out.c1
          have z2 := Z.out.c2
          show bodyPost Tryd.prog Tryd.f24 (fun e w' => RefPost d l a w e w') .ret _ _
          refine bodyPost_ret (v := .tuple #[ZV, .int .i64 (-1)]) (by simp [results, Tryd.results24, go_sem, z0, z1, z2, ZV]) rfl ?_
          exact Q.out
        · have hb0 : 0 < bs.length := List.length_pos_iff.2 hbs
          have cv := conv_own OW.out.1 rfl hb0
          have i0 := OW.out.2.1
          have x0 := i0.c0
          have x1 := i0.c1
          have x2 := i0.c2
          have lx := i0.lt
          have p0 := i0.free 0
          have p1 := i0.free 1
          have p2 := i0.free 2
          have Q := Lib.hid (show RefPost d l a w (.returned (.tuple #[.agg #[.string (sb bs), .bool false, .slice none 0 0], .int .i64 (p : Int)])) _ from
            ⟨bel_put (g := w.heap.size) (HBW.out.trans (OW.out.2.2.mono HGW.out.2)) (Nat.le_refl _) (.string (sb bs)) (.bool false) (.slice none 0 0),
             .inl ⟨.mk ⟨bs.toArray⟩ false [], .slice none 0 0, p, rfl, by rw [← HP.out.2.2]; exact T.snd_of_text _ _ HD.out.2.2.1 hbs, HP.out.2.1 hbs, HP.out.1,
              ⟨by show (sb bs).size ≤ maxLen; rw [sb_size]; have h1 := HPB.out; have h2 := HP.out.1; have h3 := HD.out.2.1; unfold maxLen; omega, by simp [maxLen], none, 0, rfl, trivial⟩, by
              intro K x' r' hv
              rw [← HP.out.2.2] at hv
              exact T.only_text2 hbs BSN.out hv⟩⟩)
          have Z := Lib.hid (i0.put (.string (sb bs)) (.bool false) (.slice none 0 0))
          have t9 : ((bs.length : Int) == 0) = false := by simp; omega
          clear i0
          go_wp2_with fail
          have z0 := Z.out.c0
          have z1 := Z.out.c1
          have z2 := Z.out.c2
          show bodyPost Tryd.prog Tryd.f24 (fun e w' => RefPost d l a w e w') .ret _ _
          refine bodyPost_ret (v := .tuple #[.agg #[.string (sb bs), .bool false, .slice none 0 0], .int .i64 (p : Int)]) (by simp [results, Tryd.results24, go_sem, z0, z1, z2]) rfl ?_
          exact Q.out
    · have i2 : ¬ (p : Int) + 1 < (l.length : Int) := by omega
      have t5 : decide ((p : Int) + 1 < (l.length : Int)) = false := by simp; omega
      have hbs2 : nd2 (l.drop p) := by
        intro b c q h _ _
        have := congrArg List.length h
        rw [List.length_drop, List.length_cons, List.length_cons] at this
        omega
      have BSN := Lib.hid hbs2
      clear hbs2
      by_cases hbs : bs = []
      · subst hbs
        have i0 := OW.out.2.1
        have x0 := i0.c0
        have x1 := i0.c1
        have x2 := i0.c2
        have lx := i0.lt
        have p0 := i0.free 0
        have p1 := i0.free 1
        have p2 := i0.free 2
        have Q := Lib.hid (ref_end (d := d) (a := a) (l := l) (HBW.out.trans (OW.out.2.2.mono HGW.out.2)) (by
          intro K x' r' hv
          have e := HP.out.2.2
          simp only [hexs, List.nil_append] at e
          rw [HDR.out] at hv e
          exact T.no_text (e ▸ BSN.out) HNE.out.1 HNE.out.2 x' r' hv))
        have Z := Lib.hid (i0.put (.string ⟨#[]⟩) (.bool false) (.slice none 0 0))
        clear i0
        go_wp2_with fail
        have z0 := Z.out.c0
        have z1 := Z.out.c1
        have z2 := Z.out.c2
        show bodyPost Tryd.prog Tryd.f24 (fun e w' => RefPost d l a w e w') .ret _ _
        refine bodyPost_ret (v := .tuple #[ZV, .int .i64 (-1)]) (by simp [results, Tryd.results24, go_sem, z0, z1, z2, ZV]) rfl ?_
        exact Q.out
      · have hb0 : 0 < bs.length := List.length_pos_iff.2 hbs
        have cv := conv_own OW.out.1 rfl hb0
        have i0 := OW.out.2.1
        have x0 := i0.c0
        have x1 := i0.c1
        have x2 := i0.c2
        have lx := i0.lt
        have p0 := i0.free 0
        have p1 := i0.free 1
        have p2 := i0.free 2
        have Q := Lib.hid (show RefPost d l a w (.returned (.tuple #[.agg #[.string (sb bs), .bool false, .slice none 0 0], .int .i64 (p : Int)])) _ from
          ⟨bel_put (g := w.heap.size) (HBW.out.trans (OW.out.2.2.mono HGW.out.2)) (Nat.le_refl _) (.string (sb bs)) (.bool false) (.slice none 0 0),
           .inl ⟨.mk ⟨bs.toArray⟩ false [], .slice none 0 0, p, rfl, by rw [← HP.out.2.2]; exact T.snd_of_text _ _ HD.out.2.2.1 hbs, HP.out.2.1 hbs, HP.out.1,
            ⟨by show (sb bs).size ≤ maxLen; rw [sb_size]; have h1 := HPB.out; have h2 := HP.out.1; have h3 := HD.out.2.1; unfold maxLen; omega, by simp [maxLen], none, 0, rfl, trivial⟩, by
            intro K x' r' hv
            rw [← HP.out.2.2] at hv
            exact T.only_text2 hbs BSN.out hv⟩⟩)
        have Z := Lib.hid (i0.put (.string (sb bs)) (.bool false) (.slice none 0 0))
        have t9 : ((bs.length : Int) == 0) = false := by simp; omega
        clear i0
        go_wp2_with fail
        have z0 := Z.out.c0
        have z1 := Z.out.c1
        have z2 := Z.out.c2
        show bodyPost Tryd.prog Tryd.f24 (fun e w' => RefPost d l a w e w') .ret _ _
        refine bodyPost_ret (v := .tuple #[.agg #[.string (sb bs), .bool false, .slice none 0 0], .int .i64 (p : Int)]) (by simp [results, Tryd.results24, go_sem, z0, z1, z2]) rfl ?_
        exact Q.out
end Go.Proofs.YtdkeickcbpjedaaDoor
