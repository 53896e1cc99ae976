/-
  The contract of package rlp's lay over this seat's translation: it tells the item's bytes, the last ones first. Conditions: an item as it lies in memory, of at most 60,000 bytes.
-/
import Derived.Test.YtegakecncpfnnaaRlpB
namespace Go.Proofs.Ytegakecncpfnnaa
open Go.RowKit

theorem ptx_ge (l : List UInt8) : l.length ≤ (ptx l).length := by
  unfold ptx
  split
  · exact Nat.le_refl _
  · rw [List.length_append]; omega
theorem todo_len : ∀ F : List Lf, F.length ≤ T.todo (pl F)
  | [] => Nat.le_refl _
  | f :: r => by have := todo_len r; simp only [pl, List.map_cons, T.todo, List.length_cons] at this ⊢; omega

section
variable {w0 w w' : World} {b k n g c : Nat} {caps : Array Value} {F r : List Lf} {f : Lf} {sv : Value}
theorem Ls.toBel (h : Ls w0 w b k caps F n sv) (f : Below w.heap.size w w') : Ls w0 w' b k caps F n sv :=
  ⟨h.v.bel f, h.stk.bel f h.stk.lt, h.own.bel f, h.items, h.bel.trans (f.mono h.bel.size)⟩
theorem Ls.form (h : Ls w0 w b k caps (f :: r) n sv) : ∃ g c, sv = .slice (some ⟨g, 0, none⟩) (r.length + 1) c ∧ r.length + 1 ≤ c := by
  obtain ⟨g, c, h1, h2⟩ := Stk.form (r := r.map Lf.p) h.own
  rw [List.length_map] at h1 h2
  exact ⟨g, c, h1, h2⟩
theorem Ls.cells (h : Ls w0 w b k caps (f :: r) n (.slice (some ⟨g, 0, none⟩) (r.length + 1) c)) :
    w.cell? ⟨g, r.length * 2, none⟩ = some (.slice f.a f.ts.length f.c) ∧ w.cell? ⟨g, r.length * 2 + 1, none⟩ = some (.int .i64 f.bh) ∧ w.frozen? ⟨g, r.length * 2, none⟩ = false ∧ b + 6 ≤ g ∧ g < w.heap.size := by
  have h1 : Stk w (b + 6) 105 (.slice (some ⟨g, 0, none⟩) ((r.map Lf.p).length + 1) c) (Lf.p f :: r.map Lf.p) := by rw [List.length_map]; exact h.own
  have c0 := h1.c0
  have c1 := h1.c1
  rw [List.length_map] at c0 c1
  exact ⟨c0, c1, h1.free _, h1.lt.1, h1.lt.2⟩
theorem Ls.pop (h : Ls w0 w b k caps (f :: r) n (.slice (some ⟨g, 0, none⟩) (r.length + 1) c)) (hw : w0.heap.size ≤ b) :
    Ls w0 (w.setCell ⟨b + 5, 0, none⟩ (.slice (some ⟨g, 0, none⟩) r.length c)) b k caps r n (.slice (some ⟨g, 0, none⟩) r.length c) := by
  have ff : Fr (fun j => j = b + 5) w (w.setCell ⟨b + 5, 0, none⟩ (.slice (some ⟨g, 0, none⟩) r.length c)) := fr_set _
  have hp : Stk w (b + 6) 105 (.slice (some ⟨g, 0, none⟩) r.length c) (r.map Lf.p) := by
    have := h.own
    rw [show r.length = (r.map Lf.p).length by simp] at this ⊢
    exact this.pop
  exact ⟨h.v.fr ff (by rintro j rfl; omega), h.stk.set _, hp.fr ff (fun j hj e => by have := hp.block j hj; omega), fun x hx => h.items x (List.mem_cons_of_mem _ hx),
    h.bel.trans (ff.below h.bel.size (by rintro j rfl; omega))⟩
theorem Ls.cut (h : Ls w0 w b k caps (f :: r) n (.slice (some ⟨g, 0, none⟩) (r.length + 1) c)) (hw : w0.heap.size ≤ b) {q : List T} {z : T} (hq : f.ts = q ++ [z]) :
    Ls w0 (w.setCell ⟨g, r.length * 2, none⟩ (.slice f.a q.length f.c)) b k caps (⟨f.a, q, f.c, f.bh⟩ :: r) n (.slice (some ⟨g, 0, none⟩) (r.length + 1) c) := by
  have hg := h.own.block g rfl
  have ff : Fr (fun j => j = g) w (w.setCell ⟨g, r.length * 2, none⟩ (.slice f.a q.length f.c)) := fr_set _
  have hi := h.items f List.mem_cons_self
  have hl := congrArg List.length hq
  rw [List.length_append, List.length_singleton] at hl
  have hp : Stk (w.setCell ⟨g, r.length * 2, none⟩ (.slice f.a q.length f.c)) (b + 6) 105 (.slice (some ⟨g, 0, none⟩) (r.length + 1) c) (Lf.p ⟨f.a, q, f.c, f.bh⟩ :: r.map Lf.p) := by
    have := h.own
    rw [show r.length = (r.map Lf.p).length by simp] at this ⊢
    exact this.set0 _
  refine ⟨h.v.fr ff (by rintro j rfl; omega), h.stk.fr ff (by omega), hp, ?_, h.bel.trans (ff.below h.bel.size (by rintro j rfl; omega))⟩
  intro x hx
  rcases List.mem_cons.1 hx with rfl | hx
  · refine ⟨?_, ?_, ?_, hi.2.2.2⟩
    · exact RowC.left q [z] 0 (hq ▸ hi.1)
    · show q.length ≤ f.c; omega
    · show q.length ≤ maxLen; omega
  · exact h.items x (List.mem_cons_of_mem _ hx)
end

/-- Five variables made behind an object. -/
theorem six (w : World) (o : Obj) (t1 t2 t3 t4 t5 : TypeId) (v1 v2 v3 v4 v5 : Value) :
    V ((((((w.alloc o).alloc (.cells #[v1] t1)).alloc (.cells #[v2] t2)).alloc (.cells #[v3] t3)).alloc (.cells #[v4] t4)).alloc (.cells #[v5] t5)) (w.heap.size + 1) t1 v1 ∧
    V ((((((w.alloc o).alloc (.cells #[v1] t1)).alloc (.cells #[v2] t2)).alloc (.cells #[v3] t3)).alloc (.cells #[v4] t4)).alloc (.cells #[v5] t5)) (w.heap.size + 2) t2 v2 ∧
    V ((((((w.alloc o).alloc (.cells #[v1] t1)).alloc (.cells #[v2] t2)).alloc (.cells #[v3] t3)).alloc (.cells #[v4] t4)).alloc (.cells #[v5] t5)) (w.heap.size + 3) t3 v3 ∧
    V ((((((w.alloc o).alloc (.cells #[v1] t1)).alloc (.cells #[v2] t2)).alloc (.cells #[v3] t3)).alloc (.cells #[v4] t4)).alloc (.cells #[v5] t5)) (w.heap.size + 4) t4 v4 ∧
    V ((((((w.alloc o).alloc (.cells #[v1] t1)).alloc (.cells #[v2] t2)).alloc (.cells #[v3] t3)).alloc (.cells #[v4] t4)).alloc (.cells #[v5] t5)) (w.heap.size + 5) t5 v5 ∧
    Below w.heap.size w ((((((w.alloc o).alloc (.cells #[v1] t1)).alloc (.cells #[v2] t2)).alloc (.cells #[v3] t3)).alloc (.cells #[v4] t4)).alloc (.cells #[v5] t5)) ∧
    ((((((w.alloc o).alloc (.cells #[v1] t1)).alloc (.cells #[v2] t2)).alloc (.cells #[v3] t3)).alloc (.cells #[v4] t4)).alloc (.cells #[v5] t5)).heap[w.heap.size]? = (w.alloc o).heap[w.heap.size]? := by
  have n1 := V.new (w.alloc o) t1 v1
  have n2 := V.new ((w.alloc o).alloc (.cells #[v1] t1)) t2 v2
  have n3 := V.new (((w.alloc o).alloc (.cells #[v1] t1)).alloc (.cells #[v2] t2)) t3 v3
  have n4 := V.new ((((w.alloc o).alloc (.cells #[v1] t1)).alloc (.cells #[v2] t2)).alloc (.cells #[v3] t3)) t4 v4
  have n5 := V.new (((((w.alloc o).alloc (.cells #[v1] t1)).alloc (.cells #[v2] t2)).alloc (.cells #[v3] t3)).alloc (.cells #[v4] t4)) t5 v5
  have b1 := (((((Below.refl (w.alloc o).heap.size (w.alloc o)).alloc (Nat.le_refl _) (.cells #[v1] t1)).alloc (by simp) (.cells #[v2] t2)).alloc (by simp) (.cells #[v3] t3)).alloc (by simp) (.cells #[v4] t4)).alloc (by simp) (.cells #[v5] t5)
  simp only [size_push] at n1 n2 n3 n4 n5
  refine ⟨(((n1.alloc _).alloc _).alloc _).alloc _, ((n2.alloc _).alloc _).alloc _, (n3.alloc _).alloc _, n4.alloc _, n5, (bel1 w o).trans (b1.mono (by simp)), b1.block _ (by simp)⟩

section
variable {k : Nat} {caps : Array Value} {S : Nat → Prop} {I : List UInt8 → World → Prop} {M : Nat}
/-- What the loop of lay keeps, with at most g rounds to come. -/
structure Ll (w0 w wr : World) (k : Nat) (caps : Array Value) (S : Nat → Prop) (I : List UInt8 → World → Prop) (R : List UInt8) (g : Nat) (F : List Lf) (acc : List UInt8) (sv : Value) : Prop where
  s : Ls w0 wr w.heap.size k caps F acc.length sv
  i : I acc wr
  fin : T.fin (pl F) acc = R
  todo : T.todo (pl F) ≤ g
  fr : Fr S w wr
  gb : g ≤ 2400

/-- What beginning an item leaves. -/
def BeginPost (w0 : World) (b k : Nat) (caps : Array Value) (S : Nat → Prop) (I : List UInt8 → World → Prop) (t : T) (F : List Lf) (acc : List UInt8) (w : World) (e : Ending) (w' : World) : Prop :=
  e = .returned (.tuple #[]) ∧ ∃ F' acc' sv', Ls w0 w' b k caps F' acc'.length sv' ∧ I acc' w' ∧ T.fin (pl F') acc' = T.fin (pl F) (T.put t ++ acc) ∧ T.todo (pl F') + 1 ≤ T.todo (pl F) + 2 * T.cnt t ∧ Fr (fun j => S j ∨ b ≤ j) w w'
theorem begin_any (hT : Teller k caps S I M) (hM : M ≤ 1000000) (w0 : World) (b : Nat) (hb : w0.heap.size ≤ b) (hS : ∀ j, S j → w0.heap.size ≤ j ∧ j < b) (F : List Lf) (acc : List UInt8) (sv : Value) (t : T) (v : Value) (w : World)
    (hL : Ls w0 w b k caps F acc.length sv) (hI : I acc w) (hx : InC w0 t v) (hF : F.length ≤ 50000) (hp : (T.fin (pl F) (T.put t ++ acc)).length ≤ M) (hz : (T.fin (pl F) (T.put t ++ acc)).length ≤ 60000) :
    Calls Try.prog 66 #[.agg #[.string t.s, .bool t.l, v], .pointer (some ⟨b + 5, 0, none⟩), .pointer (some ⟨b + 2, 0, none⟩), .pointer (some ⟨b + 3, 0, none⟩), .pointer (some ⟨b + 4, 0, none⟩)] w
      fun e w' => BeginPost w0 b k caps S I t F acc w e w' := by
  have hle := T.fin_len (pl F) (T.put t ++ acc)
  rw [List.length_append] at hle
  obtain ⟨s, l, ts⟩ := t
  have hsz : l = false → s.size ≤ 60000 := by
    rintro rfl
    have h1 := ptx_ge s.data.toList
    rw [T.sz] at h1
    rw [T.put_text] at hle hz
    omega
  have hcp := T.cnt_pos (T.mk s l ts)
  cases l
  · simp only [T.put_text, T.s, T.l] at hp hle ⊢
    refine (begin_text hT hM w0 b hb hS F acc sv s v w hL hI (by omega) (hsz rfl)).mono ?_
    rintro e w' ⟨rfl, h1, h2, h3⟩
    exact ⟨rfl, F, _, sv, h1, h2, by rw [T.put_text], by omega, h3.mono fun j _ h => h.elim .inl fun e => .inr (by omega)⟩
  · refine (begin_list w0 b hb F acc.length sv s ts v w hL hx hF).mono ?_
    rintro e w' ⟨rfl, f, sv', h1, h2, h3, h4, _⟩
    refine ⟨rfl, f :: F, acc, sv', h3, hT.keep acc w w' hI h4.size (fun j hj hs => h4.block j hj ?_), ?_, ?_, h4.mono fun j _ h => .inr ?_⟩
    · have := hS j hs
      rintro (e | e)
      · omega
      · have := hL.own.block j e; omega
    · rw [← T.fin_list]
      simp only [pl, List.map_cons, h1, h2]
    · simp only [pl, List.map_cons, T.todo, h1, T.cnt]; omega
    · rcases h with e | e
      · omega
      · have := hL.own.block j e; omega

set_option maxRecDepth 20000 in
set_option maxHeartbeats 1000000 in
theorem layAll_any (hT : Teller k caps S I M) (hM : M ≤ 1000000) (w0 : World) (t : T) (v : Value) (w : World) (hw : Below w0.heap.size w0 w) (hS : ∀ j, S j → w0.heap.size ≤ j) (hI : I [] w) (hx : InC w0 t v) (hp : (T.put t).length ≤ M) (hz : T.siz t ≤ 6000) (hc : T.cnt t ≤ 1200) :
    Calls Try.prog 49 #[.agg #[.string t.s, .bool t.l, v], .func (Fn.func k) #[] caps] w
      fun e w' => e = .returned (.int .i64 ((T.put t).length : Nat)) ∧ I (T.put t) w' ∧ Fr S w w' := by
  have HT := Lib.hid hT
  have HI := Lib.hid hI
  have HS := Lib.hid hS
  obtain ⟨p, p', rfl, _⟩ := hx.slice
  have HX := Lib.hid hx
  clear hT hI hS hx
  go_enter Try.func49, Try.ntmps49
  go_upto_region 5 with fail
  simp only [Nat.add_assoc, Nat.reduceAdd]
  have SX := six w (Obj.cells #[Value.string t.s, Value.bool t.l, Value.slice p t.ts.length p'] 24) 91 3 91 102 103 (Value.func (Fn.func k) #[] caps) (Value.int IntKind.i64 0)
    (Value.func (Fn.func 64) #[] #[Value.pointer (some { block := w.heap.size + 1, off := 0 }), Value.pointer (some { block := w.heap.size + 2, off := 0 })]) (Value.func (Fn.func 65) #[] #[Value.pointer (some { block := w.heap.size + 3, off := 0 })]) (Value.slice none 0 0)
  obtain ⟨W, hW⟩ : ∃ W, W = ((((((w.alloc (Obj.cells #[Value.string t.s, Value.bool t.l, Value.slice p t.ts.length p'] 24)).alloc (Obj.cells #[Value.func (Fn.func k) #[] caps] 91)).alloc (Obj.cells #[Value.int IntKind.i64 0] 3)).alloc
      (Obj.cells #[Value.func (Fn.func 64) #[] #[Value.pointer (some { block := w.heap.size + 1, off := 0 }), Value.pointer (some { block := w.heap.size + 2, off := 0 })]] 91)).alloc
      (Obj.cells #[Value.func (Fn.func 65) #[] #[Value.pointer (some { block := w.heap.size + 3, off := 0 })]] 102)).alloc (Obj.cells #[Value.slice none 0 0] 103)) := ⟨_, rfl⟩
  rw [← hW] at SX ⊢
  obtain ⟨s1, s2, s3, s4, s5, sb, sx⟩ := SX
  have L0 : Ls w0 W w.heap.size k caps [] 0 (.slice none 0 0) := ⟨⟨s1, s2, s3, s4⟩, s5, Stk.nil _ _ _, fun f hf => absurd hf List.not_mem_nil, hw.trans (sb.mono hw.size)⟩
  have I0 := HT.out.bel HI.out sb
  have F0 : Fr S w W := Fr.ofBelow sb
  have c0 : W.cell? ⟨w.heap.size, 0, none⟩ = some (.string t.s) := by rw [World.cell?_of_block (w := w.alloc (Obj.cells #[Value.string t.s, Value.bool t.l, Value.slice p t.ts.length p'] 24)) sx]; exact box0 _ _ _ _ _
  have c1 : W.cell? ⟨w.heap.size, 1, none⟩ = some (.bool t.l) := by rw [World.cell?_of_block (w := w.alloc (Obj.cells #[Value.string t.s, Value.bool t.l, Value.slice p t.ts.length p'] 24)) sx]; exact box1 _ _ _ _ _
  have c2 : W.cell? ⟨w.heap.size, 2, none⟩ = some (.slice p t.ts.length p') := by rw [World.cell?_of_block (w := w.alloc (Obj.cells #[Value.string t.s, Value.bool t.l, Value.slice p t.ts.length p'] 24)) sx]; exact box2 _ _ _ _ _
  have l0 := s5.lt
  have H0 := Lib.hid L0
  have J0 := Lib.hid I0
  have G0 := Lib.hid F0
  have S2 := Lib.hid (show ∀ j, S j → w0.heap.size ≤ j ∧ j < w.heap.size from fun j hj => ⟨HS.out j hj, HT.out.lt [] w HI.out j hj⟩)
  have HB := Lib.hid hw.size
  clear hW s1 s2 s3 s4 s5 sb sx L0 I0 F0
  go_wp2_with fail
  refine (begin_any HT.out hM w0 w.heap.size HB.out S2.out [] [] _ t _ W H0.out J0.out HX.out (by decide) (by simpa [pl, T.fin] using hp) (by have := T.put_le t (by omega); simp only [pl, List.map_nil, T.fin, List.append_nil]; omega)).mono ?_
  rintro e w1 ⟨rfl, F1, acc1, sv1, h1, h2, h3, h4, h5⟩
  simp only [pl, List.map_nil, T.fin, List.append_nil, T.todo, Nat.zero_add] at h3 h4
  have LL := Lib.hid (show Ll w0 w w1 k caps S I (T.put t) (2 * T.cnt t) F1 acc1 sv1 from ⟨h1, h2, h3, by unfold pl; omega, G0.out.then_ h5 (fun j hj h => h.elim id fun e => by omega), by omega⟩)
  clear h1 h2 h3 h4 h5 H0 J0 G0 c0 c1 c2 l0
  go_wp2
  go_loopg [9, 10, 11] (2 * T.cnt t) (fun g _ _ _ wr => ∃ F acc sv, Ll w0 w wr k caps S I (T.put t) g F acc sv)
  case atStart => exact ⟨_, _, _, LL.out⟩
  case round =>
    obtain ⟨F, acc, sv, hL⟩ := hrel
    have HL := Lib.hid hL
    have d0 := hL.s.stk.cell
    have d1 := hL.s.stk.lt
    have d2 := hL.s.stk.free
    rcases F with _ | ⟨f, r⟩
    · obtain ⟨a, c, rfl⟩ := hL.s.own.slice
      have e0 := hL.s.v.laid.cell
      have e1 := hL.s.v.laid.lt
      have e2 := hL.s.v.laid.free
      obtain rfl : acc = T.put t := hL.fin
      have Z := Lib.hid ((hL.s.v.laid.set (.int .i64 ((T.put t).length : Nat))).cell)
      clear hL LL
      simp only [List.map_nil, List.length_nil] at d0
      go_wp2
      have z0 := Z.out
      refine bodyPost_ret (v := .int .i64 ((T.put t).length : Nat)) (by simp [results, Try.results49, go_sem, z0]) rfl ?_
      exact ⟨rfl, HT.out.keep _ _ _ HL.out.i (by simp [World.setCell]) (fun j _ hs => Below.heap_setCell _ _ _ j (by have := S2.out j hs; simp; omega)),
        HL.out.fr.setCell (p := ⟨w.heap.size + 2, 0, none⟩) (.inr (by simp)) _⟩
    · obtain ⟨g, c, rfl, hrc⟩ := hL.s.form
      obtain ⟨g0, g1, g2, g3, g4⟩ := hL.s.cells
      have hrl : r.length ≤ 2400 := by have h1 := todo_len (f :: r); have h2 := hL.todo; have h3 := hL.gb; simp only [List.length_cons] at h1; omega
      have hal : acc.length ≤ 9600 := by
        have h1 := T.fin_len (pl (f :: r)) acc
        have h2 := T.put_le t (by omega)
        rw [hL.fin] at h1
        omega
      obtain ⟨m, hm⟩ : ∃ m, acc.length = f.bh + m := ⟨acc.length - f.bh, by have := (hL.s.items f List.mem_cons_self).2.2.2; omega⟩
      rcases List.eq_nil_or_concat f.ts with hts | ⟨q, z, hts⟩
      · have t1 : f.ts.length = 0 := by rw [hts]; rfl
        rw [t1] at g0
        have e0 : wr.cell? ⟨w.heap.size + 2, 0, none⟩ = some (.int .i64 ((f.bh : Int) + m)) := by rw [hL.s.v.laid.cell, hm]; rfl
        have e1 := hL.s.v.laid.lt
        have h0 := hL.s.v.head.cell
        have h1 := hL.s.v.head.lt
        have hm2 : m ≤ 9600 := by omega
        have e5 : (f.bh : Int) + m - f.bh = (m : Int) := by omega
        have HM := Lib.hid hm
        clear hL LL hts hm
        go_upto_region 13 with fail
        go_still_tail 7, (by kernel_rfl)
        have B1 : Below wr.heap.size wr wr.drew := (Below.refl _ _).drew
        have L1 := HL.out.s.toBel B1
        have I1 := Lib.hid (HT.out.bel HL.out.i B1)
        have F1 := Lib.hid (HL.out.fr.drew)
        change wpList _ _ _ _ _ wr.drew
        have BD := Lib.hid B1
        have L1 := Lib.hid L1
        generalize wr.drew = w1 at *
        clear B1 g0 g1 g2 e0 e1 h0 h1 d0 d1 d2
        have HP := Lib.hid (show (hd 192 m).length + acc.length ≤ M by
          have h1 := HL.out.fin
          simp only [pl, List.map_cons] at h1
          have h0 : f.ts = [] := List.eq_nil_of_length_eq_zero t1
          rw [h0, T.fin_end, HM.out, Nat.add_sub_cancel_left] at h1
          have h2 := T.fin_len (pl r) (hd 192 m ++ acc)
          rw [pl, h1, List.length_append] at h2
          omega)
        go_wp2_with fail
        refine (head_any HT.out hM w.heap.size (fun j hj => (S2.out j hj).2) 192 m (by omega) (by omega) acc w1 L1.out.v I1.out HP.out).mono ?_
        rintro e w2 ⟨rfl, v2, i2, f2⟩
        have L2 := L1.out.lay (m := (hd 192 m ++ acc).length) (by rw [List.length_append]; omega) v2 f2 S2.out HB.out
        have d0 := L2.stk.cell
        have d1 := L2.stk.lt
        have d2 := L2.stk.free
        have LN := Lib.hid (show Ll w0 w (w2.setCell ⟨w.heap.size + 5, 0, none⟩ (.slice (some ⟨g, 0, none⟩) r.length c)) k caps S I (T.put t) (gk - 1) r (hd 192 m ++ acc) (.slice (some ⟨g, 0, none⟩) r.length c) from by
          have h0 : f.ts = [] := List.eq_nil_of_length_eq_zero t1
          have h1 := HL.out.fin
          have h2 := HL.out.todo
          have h3 := HL.out.gb
          simp only [pl, List.map_cons] at h1 h2
          rw [h0, T.fin_end, HM.out, Nat.add_sub_cancel_left] at h1
          rw [h0] at h2
          simp only [T.todo, T.cnts] at h2
          refine ⟨L2.pop HB.out, HT.out.keep _ _ _ i2 (by simp [World.setCell]) (fun j _ hs => Below.heap_setCell _ _ _ j (by have := S2.out j hs; simp; omega)), h1, by unfold pl; omega, ?_, by omega⟩
          exact (F1.out.then_ f2 (fun j hj h => h.elim id fun e => by omega)).setCell (p := ⟨w.heap.size + 5, 0, none⟩) (.inr (by simp)) _)
        have HG := Lib.hid (show 1 ≤ gk from by
          have h2 := HL.out.todo
          simp only [pl, List.map_cons, T.todo] at h2
          omega)
        clear L2 v2 i2 f2
        go_wp2
        go_roundg (gk - 1)
        case measure => have := HG.out; omega
        case rel => exact ⟨_, _, _, LN.out⟩
      · rw [List.concat_eq_append] at hts
        have hql : f.ts.length = q.length + 1 := by rw [hts, List.length_append]; rfl
        have hi0 := hL.s.items f List.mem_cons_self
        have hml : q.length + 1 ≤ 9223372036854775807 := by have h1 := hi0.2.2.1; rw [hql] at h1; exact h1
        have hcap : q.length ≤ f.c := by have h1 := hi0.2.1; omega
        obtain ⟨bb, o, vz, ha, k0, k1, k2, hiz⟩ := RowC.at f.ts 0 q.length (by omega) hi0.1
        have hz1 : f.ts[q.length]'(by omega) = z := by simp [hts]
        simp only [hz1, Nat.zero_add] at k0 k1 k2 hiz
        replace k0 := cells_below hL.s.bel _ _ _ k0
        replace k1 := cells_below hL.s.bel _ _ _ k1
        replace k2 := cells_below hL.s.bel _ _ _ k2
        have kb := lt_of_cell k0
        obtain ⟨zp, zp', rfl, _⟩ := hiz.slice
        rw [hql, ha] at g0
        have L1 := hL.s.cut HB.out hts
        rw [ha] at L1
        have L2 := L1.alloc HB.out (.cells #[.string z.s, .bool z.l, .slice zp z.ts.length zp'] 24)
        have hsz : (wr.setCell ⟨g, r.length * 2, none⟩ (.slice (some ⟨bb, o, none⟩) q.length f.c)).heap.size = wr.heap.size := by simp [World.setCell]
        have I2 := HT.out.bel (HT.out.keep _ _ _ hL.i (Nat.le_of_eq hsz.symm) (fun j _ hs => Below.heap_setCell _ _ _ j (by have := S2.out j hs; simp; omega))) (bel1 (wr.setCell ⟨g, r.length * 2, none⟩ (.slice (some ⟨bb, o, none⟩) q.length f.c)) (.cells #[.string z.s, .bool z.l, .slice zp z.ts.length zp'] 24))
        have F2 := (hL.fr.setCell (p := ⟨g, r.length * 2, none⟩) (.inr (by simp; omega)) (.slice (some ⟨bb, o, none⟩) q.length f.c)).alloc (.cells #[.string z.s, .bool z.l, .slice zp z.ts.length zp'] 24)
        have x0 := box0 (wr.setCell ⟨g, r.length * 2, none⟩ (.slice (some ⟨bb, o, none⟩) q.length f.c)) (.string z.s) (.bool z.l) (.slice zp z.ts.length zp') 24
        have x1 := box1 (wr.setCell ⟨g, r.length * 2, none⟩ (.slice (some ⟨bb, o, none⟩) q.length f.c)) (.string z.s) (.bool z.l) (.slice zp z.ts.length zp') 24
        have x2 := box2 (wr.setCell ⟨g, r.length * 2, none⟩ (.slice (some ⟨bb, o, none⟩) q.length f.c)) (.string z.s) (.bool z.l) (.slice zp z.ts.length zp') 24
        have lx : wr.heap.size < ((wr.setCell ⟨g, r.length * 2, none⟩ (.slice (some ⟨bb, o, none⟩) q.length f.c)).alloc (.cells #[.string z.s, .bool z.l, .slice zp z.ts.length zp'] 24)).heap.size := by rw [size_push, hsz]; omega
        rw [hsz] at x0 x1 x2
        obtain ⟨W2, hW2⟩ : ∃ W2, W2 = (wr.setCell ⟨g, r.length * 2, none⟩ (.slice (some ⟨bb, o, none⟩) q.length f.c)).alloc (.cells #[.string z.s, .bool z.l, .slice zp z.ts.length zp'] 24) := ⟨_, rfl⟩
        rw [← hW2] at L2 I2 F2 x0 x1 x2 lx
        clear hsz
        have ZZ := Lib.hid hiz
        have L2 := Lib.hid L2
        have I2 := Lib.hid I2
        have F2 := Lib.hid F2
        have e5 : (q.length : Int) + 1 - 1 = q.length := by omega
        have HTS := Lib.hid hts
        clear hL LL hts hm hi0 hz1 hiz L1
        go_upto_region 12 with fail
        rw [← hW2]
        have FE := Lib.hid (show T.fin (pl (⟨some ⟨bb, o, none⟩, q, f.c, f.bh⟩ :: r)) (T.put z ++ acc) = T.put t from by
          have h1 := HL.out.fin
          simp only [pl, List.map_cons] at h1 ⊢
          rw [HTS.out, T.fin_last] at h1
          exact h1)
        have TD := Lib.hid (show T.todo (pl (⟨some ⟨bb, o, none⟩, q, f.c, f.bh⟩ :: r)) + 2 * T.cnt z ≤ gk from by
          have h1 := HL.out.todo
          simp only [pl, List.map_cons] at h1 ⊢
          rw [HTS.out] at h1
          simp only [T.todo, T.cnts_append, T.cnts] at h1 ⊢
          omega)
        clear hW2 g0 g1 g2 k0 k1 k2 d0 d1 d2 hml hcap hql
        go_wp2_with fail
        refine (begin_any HT.out hM w0 w.heap.size HB.out S2.out _ acc _ z _ W2 L2.out I2.out ZZ.out (by simp; omega) (by rw [FE.out]; exact hp) (by rw [FE.out]; have := T.put_le t (by omega); omega)).mono ?_
        rintro e w3 ⟨rfl, F3, acc3, sv3, h1, h2, h3, h4, h5⟩
        have LN := Lib.hid (show Ll w0 w w3 k caps S I (T.put t) (gk - 1) F3 acc3 sv3 from ⟨h1, h2, h3.trans FE.out, by have := TD.out; omega, F2.out.then_ h5 (fun j hj h => h.elim id fun e => by omega), by have := HL.out.gb; omega⟩)
        have HG := Lib.hid (show 1 ≤ gk by have := TD.out; have := T.cnt_pos z; omega)
        clear h1 h2 h3 h4 h5
        go_wp2
        go_roundg (gk - 1)
        case measure => have := HG.out; omega
        case rel => exact ⟨_, _, _, LN.out⟩
end
end Go.Proofs.Ytegakecncpfnnaa
