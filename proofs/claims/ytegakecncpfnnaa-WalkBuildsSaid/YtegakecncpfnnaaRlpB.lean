/-
  The contract of the closure of package rlp's lay that begins an item, over this seat's translation. Conditions: items as they lie in memory, of at most 60,000 bytes.
-/
import Derived.Test.YtegakecncpfnnaaRlpA
import Derived.Test.YtegakecncpfnnaaRlpS
import Derived.Test.YtegakecncpfnnaaRlpI
namespace Go.Proofs.Ytegakecncpfnnaa
open Go.RowKit

/-- A list that is open while it is laid: what is still to be laid of it, as a slice, and how many bytes stand behind it. -/
structure Lf where
  a : Option Addr
  ts : List T
  c : Nat
  bh : Nat
def Lf.p (f : Lf) : Value × Value := (.slice f.a f.ts.length f.c, .int .i64 f.bh)
def pl (F : List Lf) : List (List T × Nat) := F.map fun f => (f.ts, f.bh)

/-- The memory of lay, whose variables are in the blocks from b on. -/
structure Ls (w0 w : World) (b k : Nat) (caps : Array Value) (F : List Lf) (n : Nat) (sv : Value) : Prop where
  v : Lv w b k caps n
  stk : V w (b + 5) 103 sv
  own : Stk w (b + 6) 105 sv (F.map Lf.p)
  items : ∀ f ∈ F, RowC w0 f.a f.ts 0 ∧ f.ts.length ≤ f.c ∧ f.ts.length ≤ maxLen ∧ f.bh ≤ n
  bel : Below w0.heap.size w0 w

set_option maxRecDepth 100000 in
theorem laying_info : (Try.prog.info? 105).map (fun i => (i.zero, i.size, i.bytes)) = some (some (.agg #[.slice none 0 0, .int .i64 0]), 2, 32) := by kernel_rfl
theorem laying_cells : (Value.agg #[.slice none 0 0, .int .i64 0]).cells.size = 2 := by simp [Value.cells]
section
variable {w0 w w' : World} {b k n : Nat} {caps : Array Value} {F : List Lf} {sv : Value}
theorem Ls.alloc (h : Ls w0 w b k caps F n sv) (hw : w0.heap.size ≤ b) (o : Obj) : Ls w0 (w.alloc o) b k caps F n sv :=
  ⟨h.v.bel (bel1 w o), h.stk.alloc o, h.own.alloc o, h.items, h.bel.alloc (by have := h.stk.lt; omega) o⟩
/-- What a piece leaves. -/
theorem Ls.lay (h : Ls w0 w b k caps F n sv) {m : Nat} (hm : n ≤ m) (hv : Lv w' b k caps m) {S : Nat → Prop} (f : Fr (fun j => S j ∨ j = b + 2) w w') (hS : ∀ j, S j → w0.heap.size ≤ j ∧ j < b) (hw : w0.heap.size ≤ b) : Ls w0 w' b k caps F m sv :=
  ⟨hv, h.stk.fr f (by rintro (e | e); have := hS _ e; omega; omega), h.own.fr f (fun j hj => by have := h.own.block j hj; rintro (e | e); have := hS _ e; omega; omega),
    fun x hx => ⟨(h.items x hx).1, (h.items x hx).2.1, (h.items x hx).2.2.1, Nat.le_trans (h.items x hx).2.2.2 hm⟩,
    h.bel.trans (f.below h.bel.size (by rintro j (e | e); exact (hS _ e).1; omega))⟩
end

section
variable {k : Nat} {caps : Array Value} {S : Nat → Prop} {I : List UInt8 → World → Prop} {M : Nat}
set_option maxRecDepth 20000 in
theorem begin_text (hT : Teller k caps S I M) (hM : M ≤ 1000000) (w0 : World) (b : Nat) (hb : w0.heap.size ≤ b) (hS : ∀ j, S j → w0.heap.size ≤ j ∧ j < b) (F : List Lf) (acc : List UInt8) (sv : Value) (s : ByteArray) (v : Value) (w : World)
    (hL : Ls w0 w b k caps F acc.length sv) (hI : I acc w) (hp : (ptx s.data.toList).length + acc.length ≤ M) (hz : s.size ≤ 60000) :
    Calls Try.prog 66 #[.agg #[.string s, .bool false, v], .pointer (some ⟨b + 5, 0, none⟩), .pointer (some ⟨b + 2, 0, none⟩), .pointer (some ⟨b + 3, 0, none⟩), .pointer (some ⟨b + 4, 0, none⟩)] w
      fun e w' => e = .returned (.tuple #[]) ∧ Ls w0 w' b k caps F (ptx s.data.toList ++ acc).length sv ∧ I (ptx s.data.toList ++ acc) w' ∧ Fr (fun j => S j ∨ j = b + 2) w w' := by
  obtain ⟨l, rfl⟩ : ∃ l, s = bs l := ⟨_, (bs_of s).symm⟩
  rw [bs_list] at hp ⊢
  have hz' : l.length ≤ 60000 := by rw [bs_size] at hz; exact hz
  have HT := Lib.hid hT
  have HL := Lib.hid hL
  have HI := Lib.hid hI
  have HS := Lib.hid hS
  have HB := Lib.hid hb
  have HP1 := Lib.hid (show l.length + acc.length ≤ M by
    have h1 := hp
    unfold ptx at h1
    split at h1
    · exact h1
    · rw [List.length_append] at h1; omega)
  have HPB := Lib.hid (show bare l = false → (hd 128 l.length).length + (l ++ acc).length ≤ M by
    intro h
    have h1 := hp
    unfold ptx at h1
    rw [h] at h1
    simp only [Bool.false_eq_true, if_false, List.length_append] at h1 ⊢
    omega)
  have L1 := hL.alloc hb (.cells #[.string (bs l), .bool false, v] 24)
  have c0 := box0 w (.string (bs l)) (.bool false) v 24
  have c1 := box1 w (.string (bs l)) (.bool false) v 24
  obtain ⟨w1, hw1⟩ : ∃ w1, w1 = w.alloc (.cells #[.string (bs l), .bool false, v] 24) := ⟨_, rfl⟩
  rw [← hw1] at L1 c0 c1
  have I1 := hT.bel hI (w' := w1) (by rw [hw1]; exact bel1 _ _)
  have F1 := Lib.hid (show Fr (fun j => S j ∨ j = b + 2) w w1 by rw [hw1]; exact (Fr.refl _ _).alloc _)
  have lx : w.heap.size < w1.heap.size := by rw [hw1]; simp
  have hlt := hL.stk.lt
  have p3 := L1.v.put.cell
  have l3 := L1.v.put.lt
  have L1 := Lib.hid L1
  have I1 := Lib.hid I1
  have hz2 := bs_size l
  clear hL hI hS hT hp hb
  go_enter Try.func66, Try.ntmps66
  go_upto_region 1 with fail
  rw [← hw1]
  clear hw1
  go_wp2_with fail
  refine (put_any HT.out hM b (fun j hj => (HS.out j hj).2) l acc _ L1.out.v I1.out HP1.out).mono ?_
  rintro e w2 ⟨rfl, v2, i2, f2⟩
  have c0 := cells_fr f2 c0 (by rintro (e | e); have := HS.out _ e; omega; omega)
  have lx : w.heap.size < w2.heap.size := Nat.lt_of_lt_of_le lx f2.size
  have L2 := L1.out.lay (by rw [List.length_append]; omega) v2 f2 HS.out HB.out
  have p4 := L2.v.head.cell
  have l4 := L2.v.head.lt
  have L2 := Lib.hid L2
  have I2 := Lib.hid i2
  have V2 := Lib.hid v2
  have F2 := Lib.hid (F1.out.trans f2)
  clear p3 l3 v2 i2 f2 c1 F1 L1 I1
  go_wp2_with fail
  refine (bare_any l _).mono ?_
  rintro e w3 ⟨rfl, rfl⟩
  cases hbr : bare l
  · have e1 : ptx l = hd 128 l.length ++ l := by unfold ptx; rw [hbr]; rfl
    have E1 := Lib.hid (show hd 128 l.length ++ (l ++ acc) = ptx l ++ acc by rw [e1, List.append_assoc])
    have LE := Lib.hid (show (l ++ acc).length ≤ (ptx l ++ acc).length by rw [e1]; simp only [List.length_append]; omega)
    have HP2 := Lib.hid (HPB.out hbr)
    clear e1 HPB hbr
    go_wp2_with fail
    refine (head_any HT.out hM b (fun j hj => (HS.out j hj).2) 128 l.length (by omega) hz' (l ++ acc) _ V2.out I2.out HP2.out).mono ?_
    rintro e w3 ⟨rfl, v3, i3, f3⟩
    rw [E1.out] at v3 i3
    have Q := Lib.hid (And.intro (L2.out.lay LE.out v3 f3 HS.out HB.out) (And.intro i3 (F2.out.trans f3)))
    clear v3 i3 f3
    go_wp2
    go_end0
    exact ⟨rfl, Q.out⟩
  · have E1 := Lib.hid (show ptx l = l by unfold ptx; rw [hbr]; rfl)
    clear HPB hbr
    go_wp2
    go_end0
    rw [E1.out]
    exact ⟨rfl, L2.out, I2.out, F2.out⟩

set_option maxRecDepth 20000 in
set_option maxHeartbeats 4000000 in
theorem begin_list (w0 : World) (b : Nat) (hb : w0.heap.size ≤ b) (F : List Lf) (n : Nat) (sv : Value) (s : ByteArray) (ts : List T) (v : Value) (w : World)
    (hL : Ls w0 w b k caps F n sv) (hx : InC w0 (.mk s true ts) v) (hF : F.length ≤ 50000) :
    Calls Try.prog 66 #[.agg #[.string s, .bool true, v], .pointer (some ⟨b + 5, 0, none⟩), .pointer (some ⟨b + 2, 0, none⟩), .pointer (some ⟨b + 3, 0, none⟩), .pointer (some ⟨b + 4, 0, none⟩)] w
      fun e w' => e = .returned (.tuple #[]) ∧ ∃ f sv', f.ts = ts ∧ f.bh = n ∧ Ls w0 w' b k caps (f :: F) n sv' ∧ Fr (fun j => j = b + 5 ∨ sv.ownBlock = some j) w w' ∧ (sv'.ownBlock = sv.ownBlock ∨ ∀ j, sv'.ownBlock = some j → w.heap.size ≤ j) := by
  obtain ⟨a, c, rfl, hc, hml, hr⟩ := hx.slice
  simp only [T.ts] at hc hml hr ⊢
  have L1 := (hL.alloc hb (.cells #[.string s, .bool true, .slice a ts.length c] 24))
  have c0 := box0 w (.string s) (.bool true) (.slice a ts.length c) 24
  have c1 := box1 w (.string s) (.bool true) (.slice a ts.length c) 24
  have c2 := box2 w (.string s) (.bool true) (.slice a ts.length c) 24
  obtain ⟨w1, hw1⟩ : ∃ w1, w1 = w.alloc (.cells #[.string s, .bool true, .slice a ts.length c] 24) := ⟨_, rfl⟩
  rw [← hw1] at L1 c0 c1 c2
  have z1 : w1.heap.size = w.heap.size + 1 := by rw [hw1]; simp
  have F1 := Lib.hid (show Fr (fun j => j = b + 5 ∨ sv.ownBlock = some j) w w1 by rw [hw1]; exact (Fr.refl _ _).alloc _)
  have lx : w.heap.size < w1.heap.size := by omega
  have hlt := hL.stk.lt
  have d0 := L1.stk.cell
  have d1 := L1.stk.free
  have d2 := L1.stk.lt
  have e0 := L1.v.laid.cell
  have e2 := L1.v.laid.lt
  have L2 := L1.alloc hb (.cells #[.slice a ts.length c, .int .i64 n] 105)
  obtain ⟨w2, hw2⟩ : ∃ w2, w2 = w1.alloc (.cells #[.slice a ts.length c, .int .i64 n] 105) := ⟨_, rfl⟩
  rw [← hw2] at L2
  have z2 : w2.heap.size = w1.heap.size + 1 := by rw [hw2]; simp
  have y0 : w2.cell? ⟨w1.heap.size, 0, none⟩ = some (.slice a ts.length c) := by rw [hw2]; exact World.cell?_alloc_new w1 _ _ 0
  have y1 : w2.cell? ⟨w1.heap.size, 1, none⟩ = some (.int .i64 n) := by rw [hw2]; exact World.cell?_alloc_new w1 _ _ 1
  obtain ⟨sv', w8, hap, own8, gr8, ob8⟩ := append_two w2 (b + 6) 103 103 105 (.agg #[.slice none 0 0, .int .i64 0]) Try.underlying103 laying_info laying_cells sv (F.map Lf.p) L2.own w1.heap.size 1 (.slice a ts.length c) (.int .i64 n) y0 y1
    (by intro u hu; simp at hu; rcases hu with rfl | rfl <;> rfl) (by simp; omega) (by have := L2.stk.lt; omega)
  obtain ⟨va, vc, esv⟩ := own8.slice
  have f8 := fr_grown gr8
  have nb : ∀ j, j < b + 6 → ¬ sv.ownBlock = some j := fun j hj e => by have := (L2.own.block j e).1; omega
  have st8 := L2.stk.fr f8 (nb _ (by omega))
  obtain ⟨w9, hw9⟩ : ∃ w9, w9 = w8.setCell ⟨b + 5, 0, none⟩ sv' := ⟨_, rfl⟩
  have f9 : Fr (fun j => j = b + 5) w8 w9 := by rw [hw9]; exact fr_set _
  have FF : Fr (fun j => j = b + 5 ∨ sv.ownBlock = some j) w w9 := by
    refine Fr.then_ ?_ f9 (fun j _ h => .inl h)
    refine Fr.then_ ?_ f8 (fun j _ h => .inr h)
    rw [hw2]
    exact F1.out.alloc _
  have Q := Lib.hid (show ∃ f sv', Lf.ts f = ts ∧ f.bh = n ∧ Ls w0 w9 b k caps (f :: F) n sv' ∧ Fr (fun j => j = b + 5 ∨ sv.ownBlock = some j) w w9 ∧ (sv'.ownBlock = sv.ownBlock ∨ ∀ j, sv'.ownBlock = some j → w.heap.size ≤ j) from by
    refine ⟨⟨a, ts, c, n⟩, sv', rfl, rfl, ⟨?_, ?_, ?_, ?_, ?_⟩, FF, ?_⟩
    · exact hL.v.fr FF (by rintro j (h | h); omega; have := hL.own.block j h; omega)
    · rw [hw9]; exact st8.set _
    · refine Stk.fr (l := Lf.p ⟨a, ts, c, n⟩ :: F.map Lf.p) own8 f9 ?_
      intro j hj h
      rcases ob8 with e | e
      · rw [e] at hj; exact nb j (by omega) hj
      · rw [e] at hj; injection hj with hj; omega
    · intro f hf
      rcases List.mem_cons.1 hf with rfl | hf
      · exact ⟨hr, hc, hml, Nat.le_refl _⟩
      · exact hL.items f hf
    · exact hL.bel.trans (FF.below hL.bel.size (by rintro j (h | h); omega; have := hL.own.block j h; omega))
    · rcases ob8 with e | e
      · exact .inl e
      · refine .inr fun j hj => ?_
        rw [e] at hj; injection hj with hj; omega)
  have g0 := st8.cell
  have g1 := st8.free
  have g2 := st8.lt
  have hsl := hL.own.slice
  rw [List.length_map] at hsl
  obtain ⟨sa, scap, rfl⟩ := hsl
  simp only [List.length_cons, List.length_map] at esv hap d0 g0 Q hw9
  subst esv
  have hk : ts.length ≤ 9223372036854775807 := hml
  rw [hw2] at hap
  have HW9 := Lib.hid hw9
  clear hw9
  have AP := Lib.hid hap
  clear hap hw2 z1 z2
  clear hL L1 L2 own8 f8 nb f9 FF st8 gr8 ob8 y0 y1 hr F1
  go_enter Try.func66, Try.ntmps66
  go_upto_region 1 with fail
  rw [← hw1]
  clear hw1
  go_wp2_with (at_builtin; refine wpList_append_run rfl _ _ 103 rfl _ _ rfl rfl _ w8 AP.out ?_)
  rw [← HW9.out]
  refine bodyPost_ret (v := .tuple #[]) (by simp [results, Try.results66, go_sem]) rfl ?_
  exact ⟨rfl, Q.out⟩
end
end Go.Proofs.Ytegakecncpfnnaa
