/-
  The contract of package rlp's pass over this seat's translation. Conditions: bytes of at most 1,000,000; an item of at most 2,000 items.
-/
import Derived.Test.YtaddlobmmmafaaaRlpL
import Derived.Test.YtaddlobmmmafaaaItmHc
namespace Go.Proofs.Ytaddlobmmmafaaa
open Go.RowKit

theorem open_info : (Try.prog.info? 69).map (fun i => (i.zero, i.size, i.bytes)) = some (some (.agg #[.int .i64 0, .slice none 0 0]), 2, 32) := by kernel_rfl
theorem open_cells : (Value.agg #[.int .i64 0, .slice none 0 0]).cells.size = 2 := by simp [Value.cells]

section
variable {B b at_ : Nat} {X : Nat → Prop} {w w' : World} {s : ByteArray} {depth left : Int} {F : List Fo} {sv : Value}
/-- One more list is open. -/
theorem Rs.push (h : Rs B X w b s at_ depth left F sv) (e : Nat) (td : List T) (v' : Value) (own' : Stk w' B 69 v' ((.int .i64 e, .slice none 0 0) :: F.map Fo.p)) (gr : Fr (fun j => sv.ownBlock = some j) w w')
    (ob : v'.ownBlock = sv.ownBlock ∨ ∀ j, v'.ownBlock = some j → w.heap.size ≤ j) (hX : ∀ j, w.heap.size ≤ j → ¬ X j) :
    Rs B X (w'.setCell ⟨b, 4, none⟩ v') b s at_ depth left (⟨e, [], td, .slice none 0 0, []⟩ :: F) v' ∧ Fr (fun j => sv.ownBlock = some j ∨ j = b) w (w'.setCell ⟨b, 4, none⟩ v') := by
  have hbB := h.bB
  have fs : Fr (fun j => j = b) w' (w'.setCell ⟨b, 4, none⟩ v') := fr_set _
  have ff : Fr (fun j => sv.ownBlock = some j ∨ j = b) w (w'.setCell ⟨b, 4, none⟩ v') := (gr.mono fun j _ e => .inl e).then_ fs fun j _ e => .inr e
  have hv : ∀ j, v'.ownBlock = some j → B ≤ j ∧ (sv.ownBlock = some j ∨ w.heap.size ≤ j) := fun j hj => by
    rcases ob with e | e
    · exact ⟨(h.own.block j (e ▸ hj)).1, .inl (e ▸ hj)⟩
    · exact ⟨Nat.le_trans h.sz (e j hj), .inr (e j hj)⟩
  have nn : ∀ j, Nn B X sv F j → j < w.heap.size → Nn B X v' (⟨e, [], td, .slice none 0 0, []⟩ :: F) j ∧ (w'.setCell ⟨b, 4, none⟩ v').heap[j]? = w.heap[j]? := by
    rintro j ⟨h1, h2, h3⟩ hl
    refine ⟨⟨h1, h2, ?_⟩, ff.block j hl (by rintro (e | e); exact h3 (.inl e); omega)⟩
    rintro (e | ⟨q, hq, e⟩)
    · rcases (hv j e).2 with e | e
      · exact h3 (.inl e)
      · omega
    · rcases List.mem_cons.1 hq with rfl | hq
      · cases e
      · exact h3 (.inr ⟨q, hq, e⟩)
  refine ⟨⟨(h.r.keep (gr.block b h.r.lt (fun e => by have := h.own.block b e; omega))).set4 v', hbB, ?_, ?_, ?_, ?_, ?_, Nat.le_trans h.sz ff.size⟩, ff⟩
  · exact own'.fr fs (fun j hj e => by have := hv j hj; omega)
  · intro q hq
    rcases List.mem_cons.1 hq with rfl | hq
    · exact ⟨World.ownsRow_nil _ _ _ _, Got.nil _ _⟩
    · have hq' := h.rows q hq
      refine ⟨own_keep hq'.1 ff ?_, hq'.2.keep ff.size nn⟩
      rintro j hj (e | e)
      · exact h.stk q hq j hj e
      · have := hq'.1.lt j hj; omega
  · exact List.pairwise_cons.2 ⟨fun q _ j hj => (by cases hj), h.apart⟩
  · intro q hq j hj
    rcases List.mem_cons.1 hq with rfl | hq
    · cases hj
    · intro e
      rcases (hv j e).2 with e | e
      · exact h.stk q hq j hj e
      · have := (h.rows q hq).1.lt j hj; omega
  · rintro j (e | ⟨q, hq, e⟩)
    · rcases (hv j e).2 with e | e
      · exact h.nx j (.inl e)
      · exact hX j e
    · rcases List.mem_cons.1 hq with rfl | hq
      · cases e
      · exact h.nx j (.inr ⟨q, hq, e⟩)

/-- What pass leaves of a list that isn't empty. -/
def OpenPost (B : Nat) (X : Nat → Prop) (b : Nat) (s : ByteArray) (at_ e : Nat) (td : List T) (depth left : Int) (F : List Fo) (sv : Value) (w : World) (en : Ending) (w' : World) : Prop :=
  en = .returned (.tuple #[ZV, .bool false]) ∧ Fr (fun j => j = b ∨ Ow sv F j) w w' ∧ ∃ sv', Rs B X w' b s at_ depth left (⟨e, [], td, .slice none 0 0, []⟩ :: F) sv'

set_option maxRecDepth 20000 in
set_option maxHeartbeats 2000000 in
theorem pass_open (h : Rs B X w b s at_ depth left F sv) (z n : Nat) (td : List T) (hn : 0 < n) (hzn : at_ + z + n ≤ 1000000) (hF : F.length ≤ 50000) (hX : ∀ j, w.heap.size ≤ j → ¬ X j) :
    Calls Try.prog 26 #[.pointer (some ⟨b, 0, none⟩), .agg #[.bool true, .int .i64 z, .int .i64 n]] w fun e w' => OpenPost B X b s (at_ + z) (at_ + z + n) td depth left F sv w e w' := by
  have HR := Lib.hid h
  have HXX := Lib.hid hX
  have bb := bel2 w (.cells #[.bool true, .int .i64 z, .int .i64 n] 49) (.cells #[.string ⟨#[]⟩, .bool false, .slice none 0 0] 24)
  have R1 := (h.more (Y := fun j => X j ∨ j = w.heap.size ∨ j = w.heap.size + 1) (fun j hj e => e.elim id fun e => by omega)).bel bb
  have K1 := (H3.new w (.bool true) (.int .i64 z) (.int .i64 n)).alloc (.cells #[.string ⟨#[]⟩, .bool false, .slice none 0 0] 24)
  have I1 := I3.new (w.alloc (.cells #[.bool true, .int .i64 z, .int .i64 n] 49)) (.string ⟨#[]⟩) (.bool false) (.slice none 0 0)
  rw [size_push] at I1
  obtain ⟨W, hW⟩ : ∃ W, W = (w.alloc (.cells #[.bool true, .int .i64 z, .int .i64 n] 49)).alloc (.cells #[.string ⟨#[]⟩, .bool false, .slice none 0 0] 24) := ⟨_, rfl⟩
  have hWz : W.heap.size = w.heap.size + 2 := by rw [hW]; simp
  rw [← hW] at R1 K1 I1 bb
  have c1 := R1.r.c1
  have lb := R1.r.lt
  have k0 := K1.c0
  have k1 := K1.c1
  have k2 := K1.c2
  have kl := K1.lt
  have R1 := Lib.hid R1
  have K1 := Lib.hid K1
  have I1 := Lib.hid I1
  have B1 := Lib.hid bb
  have t1 : decide (0 < n) = true := decide_eq_true hn
  obtain ⟨m1, hm1⟩ : ∃ m1, m1 = at_ + z := ⟨_, rfl⟩
  obtain ⟨m2, hm2⟩ : ∃ m2, m2 = at_ + z + n := ⟨_, rfl⟩
  have e1 : (at_ : Int) + z = (m1 : Int) := by omega
  have e2 : (m1 : Int) + n = (m2 : Int) := by omega
  have hle1 : m1 ≤ 1000000 := by omega
  have hle2 : m2 ≤ 1000000 := by omega
  have hm12 : m2 = m1 + n := by omega
  rw [← hm2]
  try rw [← hm1]
  have HM := Lib.hid (And.intro hm1 (And.intro hm2 hm12))
  clear h hX bb hm1 hm2 hm12
  go_enter Try.func26, Try.ntmps26
  go_upto_region 1 with fail
  rw [← hW]
  clear hW
  go_quiet (fail)
  have b3 : Below W.heap.size W (W.drewN nq) := below_drewN (Below.refl _ _) nq
  have R3 := R1.out.bel b3
  have K3 := K1.out.bel b3
  have I3' := I1.out.bel b3
  have F3 : Fr (fun j => j = b ∨ Ow sv F j) w (W.drewN nq) := Fr.ofBelow (B1.out.trans (b3.mono B1.out.size))
  obtain ⟨w3, hw3⟩ : ∃ w3, w3 = W.drewN nq := ⟨_, rfl⟩
  rw [← hw3] at R3 K3 I3' F3 ⊢
  clear b3 hw3 c1 lb k0 k1 k2 kl
  have c1 := R3.r.c1
  have c1f := R3.r.free 1
  have lb := R3.r.lt
  have k0 := K3.c0
  have k1 := K3.c1
  have k2 := K3.c2
  have kl := K3.lt
  have hbw := HR.out.r.lt
  have f4 : Fr (fun j => j = b) w3 (w3.setCell ⟨b, 1, none⟩ (.int .i64 (m1 : Nat))) := fr_set _
  have R4 := R3.turn (R3.r.set1 m1) f4
  have I4 := I3'.fr f4 (by omega)
  have F4 := F3.then_ f4 (fun j _ e => .inl e)
  obtain ⟨w4, hw4⟩ : ∃ w4, w4 = w3.setCell ⟨b, 1, none⟩ (.int .i64 (m1 : Nat)) := ⟨_, rfl⟩
  rw [← hw4] at R4 I4 F4
  have c4 := R4.r.c4
  have c4f := R4.r.free 4
  have lb4 := R4.r.lt
  have hX4 : ∀ j, w4.heap.size ≤ j → ¬ (X j ∨ j = w.heap.size ∨ j = w.heap.size + 1) := fun j hj e => by
    have h1 := F4.size
    have h2 := I4.lt
    rcases e with e | e | e
    · exact HXX.out j (by omega) e
    · omega
    · omega
  have R5 := R4.bel (bel1 w4 (.cells #[.int .i64 m2, .slice none 0 0] 69))
  have y0 : (w4.alloc (.cells #[.int .i64 m2, .slice none 0 0] 69)).cell? ⟨w4.heap.size, 0, none⟩ = some (.int .i64 m2) := World.cell?_alloc_new w4 _ _ 0
  have y1 : (w4.alloc (.cells #[.int .i64 m2, .slice none 0 0] 69)).cell? ⟨w4.heap.size, 1, none⟩ = some (.slice none 0 0) := World.cell?_alloc_new w4 _ _ 1
  obtain ⟨sv', w8, hap, own8, gr8, ob8⟩ := append_two (w4.alloc (.cells #[.int .i64 m2, .slice none 0 0] 69)) B 45 45 69 (.agg #[.int .i64 0, .slice none 0 0]) Try.underlying45 open_info open_cells sv (F.map Fo.p) R5.own w4.heap.size 1 (.int .i64 m2) (.slice none 0 0) y0 y1
    (by intro u hu; simp at hu; rcases hu with rfl | rfl <;> rfl) (by simp; omega) R5.sz
  obtain ⟨va, vc, esv⟩ := own8.slice
  have fg8 : Fr (fun j => sv.ownBlock = some j) (w4.alloc (.cells #[.int .i64 m2, .slice none 0 0] 69)) w8 := fr_grown gr8
  have PU := R5.push m2 td sv' own8 fg8 (by
    rcases ob8 with e | e
    · exact .inl e
    · refine .inr fun j hj => ?_
      rw [e] at hj; injection hj with hj; omega) (fun j hj => hX4 j (by rw [size_push] at hj; omega))
  have nbo : sv.ownBlock ≠ some b := fun e => by have := (R4.own.block b e).1; have := R4.bB; omega
  have lb8 : b < w8.heap.size := Nat.lt_of_lt_of_le (by rw [size_push]; omega) fg8.size
  have R8 := R5.r.keep (fg8.block b (by rw [size_push]; omega) (fun e => nbo e))
  have d4 := R8.c4
  have d4f := R8.free 4
  have I9 := (I4.alloc (.cells #[.int .i64 m2, .slice none 0 0] 69)).fr PU.2 (by
    have h1 := R5.nx (w.heap.size + 1)
    rintro (e | e)
    · exact h1 (.inl e) (.inr (.inr rfl))
    · omega)
  have F9 := (F4.alloc (.cells #[.int .i64 m2, .slice none 0 0] 69)).then_ PU.2 (fun j _ e => e.elim (fun e => .inr (.inl e)) .inl)
  obtain ⟨w9, hw9⟩ : ∃ w9, w9 = w8.setCell ⟨b, 4, none⟩ sv' := ⟨_, rfl⟩
  rw [← hw9] at I9 F9 PU
  have PP := Lib.hid PU.1
  have hsl := R4.own.slice
  rw [List.length_map] at hsl
  obtain ⟨sa, scap, hsv⟩ := hsl
  have Q := Lib.hid (And.intro (I9.put (.string ⟨#[]⟩) (.bool false) (.slice none 0 0)) (show OpenPost B X b s m1 m2 td depth left F sv w (.returned (.tuple #[ZV, .bool false])) (((w9.setCell ⟨w.heap.size + 1, 0, none⟩ (.string ⟨#[]⟩)).setCell ⟨w.heap.size + 1, 1, none⟩ (.bool false)).setCell ⟨w.heap.size + 1, 2, none⟩ (.slice none 0 0)) from by
    have f3 : Fr (fun j => j = w.heap.size + 1) w9 (((w9.setCell ⟨w.heap.size + 1, 0, none⟩ (.string ⟨#[]⟩)).setCell ⟨w.heap.size + 1, 1, none⟩ (.bool false)).setCell ⟨w.heap.size + 1, 2, none⟩ (.slice none 0 0)) := fr_three
    exact ⟨rfl, F9.then_ f3 (fun j hj e => by omega), sv', (PU.1.keep f3.size (f3.block b PU.1.r.lt (by omega)) (fun j _ hl hx => f3.block j hl (fun e => hx (.inr (.inr e))))).more (fun j _ hx => .inl hx)⟩))
  have q0 := I9.c0
  have q1 := I9.c1
  have q2 := I9.c2
  have g0 := I9.free 0
  have g1 := I9.free 1
  have g2 := I9.free 2
  have ql := I9.lt
  simp only [List.length_cons, List.length_map] at esv
  subst esv
  rw [hsv] at hap c4 d4
  have AP := Lib.hid hap
  have HW4 := Lib.hid hw4
  have HW9 := Lib.hid hw9
  clear R3 K3 I3' F3 f4 R4 I4 F4 hX4 R5 y0 y1 own8 gr8 ob8 fg8 PU nbo R8 I9 F9 hw9 hw4 hsv hap
  go_upto_region 5 with fail
  rw [← HW4.out]
  go_upto_region 6 with (at_builtin; refine wpList_append_run rfl _ _ 45 rfl _ _ rfl rfl _ w8 AP.out ?_)
  rw [← HW9.out]
  go_wp2_with fail
  have z0 := Q.out.1.c0
  have z1 := Q.out.1.c1
  have z2 := Q.out.1.c2
  refine bodyPost_ret (v := .tuple #[ZV, .bool false]) (by simp [results, Try.results26, go_sem, z0, z1, z2, ZV]) rfl ?_
  exact Q.out.2

set_option maxRecDepth 20000 in
set_option maxHeartbeats 2000000 in
theorem pass_none (h : Rs B X w b s at_ depth left F sv) (z n : Nat) (hn : n = 0) (he : Ends F (at_ + z + n)) (hc : T.cnt (T.plug (pf F) (.mk ⟨#[]⟩ true [])) ≤ 2000) (hzn : at_ + z + n ≤ 1000000) (hX : ∀ j, w.heap.size ≤ j → ¬ X j) :
    Calls Try.prog 26 #[.pointer (some ⟨b, 0, none⟩), .agg #[.bool true, .int .i64 z, .int .i64 n]] w fun e w' => ClosePost B X b s (at_ + z + n) depth left F sv (.mk ⟨#[]⟩ true []) w e w' := by
  have HR := Lib.hid h
  have HXX := Lib.hid hX
  have bb := bel2 w (.cells #[.bool true, .int .i64 z, .int .i64 n] 49) (.cells #[.string ⟨#[]⟩, .bool false, .slice none 0 0] 24)
  have R1 := (h.more (Y := fun j => X j ∨ j = w.heap.size ∨ j = w.heap.size + 1) (fun j hj e => e.elim id fun e => by omega)).bel bb
  have K1 := (H3.new w (.bool true) (.int .i64 z) (.int .i64 n)).alloc (.cells #[.string ⟨#[]⟩, .bool false, .slice none 0 0] 24)
  have I1 := I3.new (w.alloc (.cells #[.bool true, .int .i64 z, .int .i64 n] 49)) (.string ⟨#[]⟩) (.bool false) (.slice none 0 0)
  rw [size_push] at I1
  obtain ⟨W, hW⟩ : ∃ W, W = (w.alloc (.cells #[.bool true, .int .i64 z, .int .i64 n] 49)).alloc (.cells #[.string ⟨#[]⟩, .bool false, .slice none 0 0] 24) := ⟨_, rfl⟩
  have hWz : W.heap.size = w.heap.size + 2 := by rw [hW]; simp
  rw [← hW] at R1 K1 I1 bb
  have c1 := R1.r.c1
  have lb := R1.r.lt
  have k0 := K1.c0
  have k1 := K1.c1
  have k2 := K1.c2
  have kl := K1.lt
  have R1 := Lib.hid R1
  have K1 := Lib.hid K1
  have I1 := Lib.hid I1
  have B1 := Lib.hid bb
  have t1 : decide (0 < n) = false := by simp [hn]
  clear hn
  obtain ⟨m1, hm1⟩ : ∃ m1, m1 = at_ + z := ⟨_, rfl⟩
  obtain ⟨m2, hm2⟩ : ∃ m2, m2 = at_ + z + n := ⟨_, rfl⟩
  have e1 : (at_ : Int) + z = (m1 : Int) := by omega
  have e2 : (m1 : Int) + n = (m2 : Int) := by omega
  have hle1 : m1 ≤ 1000000 := by omega
  have hle2 : m2 ≤ 1000000 := by omega
  have hm12 : m2 = m1 + n := by omega
  rw [← hm2] at he ⊢
  try rw [← hm1]
  have HM := Lib.hid (And.intro hm1 (And.intro hm2 hm12))
  clear h hX bb hm1 hm2 hm12
  go_enter Try.func26, Try.ntmps26
  go_upto_region 1 with fail
  rw [← hW]
  clear hW
  go_quiet (fail)
  have b3 : Below W.heap.size W (W.drewN nq) := below_drewN (Below.refl _ _) nq
  have R3 := R1.out.bel b3
  have K3 := K1.out.bel b3
  have I3' := I1.out.bel b3
  have F3 : Fr (fun j => j = b ∨ Ow sv F j) w (W.drewN nq) := Fr.ofBelow (B1.out.trans (b3.mono B1.out.size))
  obtain ⟨w3, hw3⟩ : ∃ w3, w3 = W.drewN nq := ⟨_, rfl⟩
  rw [← hw3] at R3 K3 I3' F3 ⊢
  clear b3 hw3 c1 lb k0 k1 k2 kl
  have c1 := R3.r.c1
  have c1f := R3.r.free 1
  have lb := R3.r.lt
  have k0 := K3.c0
  have k1 := K3.c1
  have k2 := K3.c2
  have kl := K3.lt
  have hbw := HR.out.r.lt
  have f4 : Fr (fun j => j = b) w3 (w3.setCell ⟨b, 1, none⟩ (.int .i64 (m2 : Nat))) := fr_set _
  have R4 := R3.turn (R3.r.set1 m2) f4
  have I4 := I3'.fr f4 (by omega)
  have F4 := F3.then_ f4 (fun j _ e => .inl e)
  obtain ⟨w4, hw4⟩ : ∃ w4, w4 = w3.setCell ⟨b, 1, none⟩ (.int .i64 (m2 : Nat)) := ⟨_, rfl⟩
  rw [← hw4] at R4 I4 F4
  have hX4 : ∀ j, w4.heap.size ≤ j → ¬ (X j ∨ j = w.heap.size ∨ j = w.heap.size + 1) := fun j hj e => by
    have h1 := F4.size
    have h2 := I4.lt
    rcases e with e | e | e
    · exact HXX.out j (by omega) e
    · omega
    · omega
  have sc0 := R4.r.c0
  have lb4 := R4.r.lt
  have R4 := Lib.hid R4
  have I4 := Lib.hid I4
  have F4 := Lib.hid F4
  have HW4 := Lib.hid hw4
  have HX4 := Lib.hid hX4
  have HE := Lib.hid he
  clear R3 K3 I3' F3 f4 hX4 hw4 he
  go_upto_region 9 with fail
  rw [← HW4.out]
  have R5 := R4.out
  have I5 := I4.out
  have F5 := F4.out
  have HX5 := HX4.out
  have IT : (⟨#[]⟩ : ByteArray).size ≤ maxLen := by decide
  go_wp2_with fail
  refine (close_any R5 (.mk ⟨#[]⟩ true []) (.slice none 0 0) ⟨IT, by simp [maxLen], none, 0, rfl, trivial⟩ HE.out hc HX5).mono ?_
  rintro e w6 ⟨f6, h6⟩
  have I6 := I5.fr f6 (by
    have h1 := R5.nx (w.heap.size + 1)
    rintro (e | e)
    · omega
    · exact h1 e (.inr (.inr rfl)))
  have F6 := F5.then_ f6 (fun j _ e => e)
  have q0 := I6.c0
  have q1 := I6.c1
  have q2 := I6.c2
  have g0 := I6.free 0
  have g1 := I6.free 1
  have g2 := I6.free 2
  have ql := I6.lt
  rcases h6 with ⟨f, r, z', sv', rfl, hr, hp, ho, ht, hen⟩ | ⟨vX, sv', rfl, hin, ht, ho, hr⟩
  · have Q := Lib.hid (And.intro (I6.put (.string ⟨#[]⟩) (.bool false) (.slice none 0 0)) (show ClosePost B X b s m2 depth left F sv (.mk ⟨#[]⟩ true []) w (.returned (.tuple #[ZV, .bool false])) (((w6.setCell ⟨w.heap.size + 1, 0, none⟩ (.string ⟨#[]⟩)).setCell ⟨w.heap.size + 1, 1, none⟩ (.bool false)).setCell ⟨w.heap.size + 1, 2, none⟩ (.slice none 0 0)) from by
      have f3 : Fr (fun j => j = w.heap.size + 1) w6 (((w6.setCell ⟨w.heap.size + 1, 0, none⟩ (.string ⟨#[]⟩)).setCell ⟨w.heap.size + 1, 1, none⟩ (.bool false)).setCell ⟨w.heap.size + 1, 2, none⟩ (.slice none 0 0)) := fr_three
      exact ⟨F6.then_ f3 (fun j hj e => by omega), .inl ⟨f, r, z', sv', rfl, (hr.keep f3.size (f3.block b hr.r.lt (by omega)) (fun j _ hl hx => f3.block j hl (fun e => hx (.inr (.inr e))))).more (fun j _ hx => .inl hx), hp, ho, ht, hen⟩⟩))
    unfold ZV
    clear I6 F6 hr hp ho ht hen f6 R5 I5 F5
    go_wp2_with fail
    have z0 := Q.out.1.c0
    have z1 := Q.out.1.c1
    have z2 := Q.out.1.c2
    refine bodyPost_ret (v := .tuple #[ZV, .bool false]) (by simp [results, Try.results26, go_sem, z0, z1, z2, ZV]) rfl ?_
    exact Q.out.2
  · obtain ⟨xa, xc, rfl⟩ := hin.slice
    obtain ⟨Y, hY⟩ : ∃ Y, Y = T.plug (pf F) (.mk ⟨#[]⟩ true []) := ⟨_, rfl⟩
    rw [← hY] at hin
    rw [← hY]
    have Q := Lib.hid (And.intro (I6.put (.string Y.s) (.bool Y.l) (.slice xa Y.ts.length xc)) (show ClosePost B X b s m2 depth left F sv (.mk ⟨#[]⟩ true []) w (.returned (.tuple #[.agg #[.string Y.s, .bool Y.l, .slice xa Y.ts.length xc], .bool true])) (((w6.setCell ⟨w.heap.size + 1, 0, none⟩ (.string Y.s)).setCell ⟨w.heap.size + 1, 1, none⟩ (.bool Y.l)).setCell ⟨w.heap.size + 1, 2, none⟩ (.slice xa Y.ts.length xc)) from by
      have f3 : Fr (fun j => j = w.heap.size + 1) w6 (((w6.setCell ⟨w.heap.size + 1, 0, none⟩ (.string Y.s)).setCell ⟨w.heap.size + 1, 1, none⟩ (.bool Y.l)).setCell ⟨w.heap.size + 1, 2, none⟩ (.slice xa Y.ts.length xc)) := fr_three
      refine ⟨F6.then_ f3 (fun j hj e => by omega), .inr ⟨.slice xa Y.ts.length xc, sv', by rw [hY], ?_, ht, ho, hr.keep (f3.block b hr.lt (by omega))⟩⟩
      rw [← hY]
      exact InP.keep f3.size (fun j hj hl => ⟨fun hx => hj (.inl hx), f3.block j hl (fun e => hj (.inr (.inr e)))⟩) Y _ hin))
    clear I6 F6 hr hin ht ho f6 R5 I5 F5 hY
    go_wp2_with fail
    have z0 := Q.out.1.c0
    have z1 := Q.out.1.c1
    have z2 := Q.out.1.c2
    refine bodyPost_ret (v := .tuple #[.agg #[.string Y.s, .bool Y.l, .slice xa Y.ts.length xc], .bool true]) (by simp [results, Try.results26, go_sem, z0, z1, z2]) rfl ?_
    exact Q.out.2

set_option maxRecDepth 20000 in
set_option maxHeartbeats 2000000 in
theorem pass_text (h : Rs B X w b s at_ depth left F sv) (z n : Nat) (p : List UInt8) (hpl : p.length ≤ 1000000) (hex : s.extract (at_ + z) (at_ + z + n) = bs p) (hsz : at_ + z + n ≤ s.size) (he : Ends F (at_ + z + n)) (hc : T.cnt (T.plug (pf F) (.mk (bs p) false [])) ≤ 2000) (hzn : at_ + z + n ≤ 1000000) (hX : ∀ j, w.heap.size ≤ j → ¬ X j) :
    Calls Try.prog 26 #[.pointer (some ⟨b, 0, none⟩), .agg #[.bool false, .int .i64 z, .int .i64 n]] w fun e w' => ClosePost B X b s (at_ + z + n) depth left F sv (.mk (bs p) false []) w e w' := by
  have HR := Lib.hid h
  have HXX := Lib.hid hX
  have bb := bel2 w (.cells #[.bool false, .int .i64 z, .int .i64 n] 49) (.cells #[.string ⟨#[]⟩, .bool false, .slice none 0 0] 24)
  have R1 := (h.more (Y := fun j => X j ∨ j = w.heap.size ∨ j = w.heap.size + 1) (fun j hj e => e.elim id fun e => by omega)).bel bb
  have K1 := (H3.new w (.bool false) (.int .i64 z) (.int .i64 n)).alloc (.cells #[.string ⟨#[]⟩, .bool false, .slice none 0 0] 24)
  have I1 := I3.new (w.alloc (.cells #[.bool false, .int .i64 z, .int .i64 n] 49)) (.string ⟨#[]⟩) (.bool false) (.slice none 0 0)
  rw [size_push] at I1
  obtain ⟨W, hW⟩ : ∃ W, W = (w.alloc (.cells #[.bool false, .int .i64 z, .int .i64 n] 49)).alloc (.cells #[.string ⟨#[]⟩, .bool false, .slice none 0 0] 24) := ⟨_, rfl⟩
  have hWz : W.heap.size = w.heap.size + 2 := by rw [hW]; simp
  rw [← hW] at R1 K1 I1 bb
  have c1 := R1.r.c1
  have lb := R1.r.lt
  have k0 := K1.c0
  have k1 := K1.c1
  have k2 := K1.c2
  have kl := K1.lt
  have R1 := Lib.hid R1
  have K1 := Lib.hid K1
  have I1 := Lib.hid I1
  have B1 := Lib.hid bb
  obtain ⟨m1, hm1⟩ : ∃ m1, m1 = at_ + z := ⟨_, rfl⟩
  obtain ⟨m2, hm2⟩ : ∃ m2, m2 = at_ + z + n := ⟨_, rfl⟩
  have e1 : (at_ : Int) + z = (m1 : Int) := by omega
  have e2 : (m1 : Int) + n = (m2 : Int) := by omega
  have hle1 : m1 ≤ 1000000 := by omega
  have hle2 : m2 ≤ 1000000 := by omega
  have hm12 : m2 = m1 + n := by omega
  rw [← hm2] at he hex hsz ⊢
  rw [← hm1] at hex
  have HM := Lib.hid (And.intro hm1 (And.intro hm2 hm12))
  clear h hX bb hm1 hm2 hm12
  go_enter Try.func26, Try.ntmps26
  go_upto_region 1 with fail
  rw [← hW]
  clear hW
  go_quiet (fail)
  have b3 : Below W.heap.size W (W.drewN nq) := below_drewN (Below.refl _ _) nq
  have R3 := R1.out.bel b3
  have K3 := K1.out.bel b3
  have I3' := I1.out.bel b3
  have F3 : Fr (fun j => j = b ∨ Ow sv F j) w (W.drewN nq) := Fr.ofBelow (B1.out.trans (b3.mono B1.out.size))
  obtain ⟨w3, hw3⟩ : ∃ w3, w3 = W.drewN nq := ⟨_, rfl⟩
  rw [← hw3] at R3 K3 I3' F3 ⊢
  clear b3 hw3 c1 lb k0 k1 k2 kl
  have c1 := R3.r.c1
  have c1f := R3.r.free 1
  have lb := R3.r.lt
  have k0 := K3.c0
  have k1 := K3.c1
  have k2 := K3.c2
  have kl := K3.lt
  have hbw := HR.out.r.lt
  have f4 : Fr (fun j => j = b) w3 (w3.setCell ⟨b, 1, none⟩ (.int .i64 (m2 : Nat))) := fr_set _
  have R4 := R3.turn (R3.r.set1 m2) f4
  have I4 := I3'.fr f4 (by omega)
  have F4 := F3.then_ f4 (fun j _ e => .inl e)
  obtain ⟨w4, hw4⟩ : ∃ w4, w4 = w3.setCell ⟨b, 1, none⟩ (.int .i64 (m2 : Nat)) := ⟨_, rfl⟩
  rw [← hw4] at R4 I4 F4
  have hX4 : ∀ j, w4.heap.size ≤ j → ¬ (X j ∨ j = w.heap.size ∨ j = w.heap.size + 1) := fun j hj e => by
    have h1 := F4.size
    have h2 := I4.lt
    rcases e with e | e | e
    · exact HXX.out j (by omega) e
    · omega
    · omega
  have sc0 := R4.r.c0
  have lb4 := R4.r.lt
  have R4 := Lib.hid R4
  have I4 := Lib.hid I4
  have F4 := Lib.hid F4
  have HW4 := Lib.hid hw4
  have HX4 := Lib.hid hX4
  have HE := Lib.hid he
  clear R3 K3 I3' F3 f4 hX4 hw4 he
  have i1 : (m1 : Int) ≤ (m2 : Int) := by omega
  have i2 : (m2 : Int) ≤ (s.size : Int) := by omega
  go_upto_region 10 with fail
  rw [← HW4.out]
  go_wp2_with fail
  refine (strClone_any (bs p) _ (by rw [bs_size]; omega)).mono ?_
  rintro e w5 ⟨rfl, b5⟩
  have R5 := R4.out.bel b5
  have I5 := I4.out.bel b5
  have F5 := F4.out.then_ (Fr.ofBelow (S := fun _ => False) b5) (fun _ _ e => e.elim)
  have HX5 : ∀ j, w5.heap.size ≤ j → ¬ (X j ∨ j = w.heap.size ∨ j = w.heap.size + 1) := fun j hj => HX4.out j (Nat.le_trans b5.size hj)
  have IT : (bs p).size ≤ maxLen := by rw [bs_size]; unfold maxLen; omega
  clear b5
  go_wp2_with fail
  refine (close_any R5 (.mk (bs p) false []) (.slice none 0 0) ⟨IT, by simp [maxLen], none, 0, rfl, trivial⟩ HE.out hc HX5).mono ?_
  rintro e w6 ⟨f6, h6⟩
  have I6 := I5.fr f6 (by
    have h1 := R5.nx (w.heap.size + 1)
    rintro (e | e)
    · omega
    · exact h1 e (.inr (.inr rfl)))
  have F6 := F5.then_ f6 (fun j _ e => e)
  have q0 := I6.c0
  have q1 := I6.c1
  have q2 := I6.c2
  have g0 := I6.free 0
  have g1 := I6.free 1
  have g2 := I6.free 2
  have ql := I6.lt
  rcases h6 with ⟨f, r, z', sv', rfl, hr, hp, ho, ht, hen⟩ | ⟨vX, sv', rfl, hin, ht, ho, hr⟩
  · have Q := Lib.hid (And.intro (I6.put (.string ⟨#[]⟩) (.bool false) (.slice none 0 0)) (show ClosePost B X b s m2 depth left F sv (.mk (bs p) false []) w (.returned (.tuple #[ZV, .bool false])) (((w6.setCell ⟨w.heap.size + 1, 0, none⟩ (.string ⟨#[]⟩)).setCell ⟨w.heap.size + 1, 1, none⟩ (.bool false)).setCell ⟨w.heap.size + 1, 2, none⟩ (.slice none 0 0)) from by
      have f3 : Fr (fun j => j = w.heap.size + 1) w6 (((w6.setCell ⟨w.heap.size + 1, 0, none⟩ (.string ⟨#[]⟩)).setCell ⟨w.heap.size + 1, 1, none⟩ (.bool false)).setCell ⟨w.heap.size + 1, 2, none⟩ (.slice none 0 0)) := fr_three
      exact ⟨F6.then_ f3 (fun j hj e => by omega), .inl ⟨f, r, z', sv', rfl, (hr.keep f3.size (f3.block b hr.r.lt (by omega)) (fun j _ hl hx => f3.block j hl (fun e => hx (.inr (.inr e))))).more (fun j _ hx => .inl hx), hp, ho, ht, hen⟩⟩))
    unfold ZV
    clear I6 F6 hr hp ho ht hen f6 R5 I5 F5
    go_wp2_with fail
    have z0 := Q.out.1.c0
    have z1 := Q.out.1.c1
    have z2 := Q.out.1.c2
    refine bodyPost_ret (v := .tuple #[ZV, .bool false]) (by simp [results, Try.results26, go_sem, z0, z1, z2, ZV]) rfl ?_
    exact Q.out.2
  · obtain ⟨xa, xc, rfl⟩ := hin.slice
    obtain ⟨Y, hY⟩ : ∃ Y, Y = T.plug (pf F) (.mk (bs p) false []) := ⟨_, rfl⟩
    rw [← hY] at hin
    rw [← hY]
    have Q := Lib.hid (And.intro (I6.put (.string Y.s) (.bool Y.l) (.slice xa Y.ts.length xc)) (show ClosePost B X b s m2 depth left F sv (.mk (bs p) false []) w (.returned (.tuple #[.agg #[.string Y.s, .bool Y.l, .slice xa Y.ts.length xc], .bool true])) (((w6.setCell ⟨w.heap.size + 1, 0, none⟩ (.string Y.s)).setCell ⟨w.heap.size + 1, 1, none⟩ (.bool Y.l)).setCell ⟨w.heap.size + 1, 2, none⟩ (.slice xa Y.ts.length xc)) from by
      have f3 : Fr (fun j => j = w.heap.size + 1) w6 (((w6.setCell ⟨w.heap.size + 1, 0, none⟩ (.string Y.s)).setCell ⟨w.heap.size + 1, 1, none⟩ (.bool Y.l)).setCell ⟨w.heap.size + 1, 2, none⟩ (.slice xa Y.ts.length xc)) := fr_three
      refine ⟨F6.then_ f3 (fun j hj e => by omega), .inr ⟨.slice xa Y.ts.length xc, sv', by rw [hY], ?_, ht, ho, hr.keep (f3.block b hr.lt (by omega))⟩⟩
      rw [← hY]
      exact InP.keep f3.size (fun j hj hl => ⟨fun hx => hj (.inl hx), f3.block j hl (fun e => hj (.inr (.inr e)))⟩) Y _ hin))
    clear I6 F6 hr hin ht ho f6 R5 I5 F5 hY
    go_wp2_with fail
    have z0 := Q.out.1.c0
    have z1 := Q.out.1.c1
    have z2 := Q.out.1.c2
    refine bodyPost_ret (v := .tuple #[.agg #[.string Y.s, .bool Y.l, .slice xa Y.ts.length xc], .bool true]) (by simp [results, Try.results26, go_sem, z0, z1, z2]) rfl ?_
    exact Q.out.2

end
end Go.Proofs.Ytaddlobmmmafaaa
