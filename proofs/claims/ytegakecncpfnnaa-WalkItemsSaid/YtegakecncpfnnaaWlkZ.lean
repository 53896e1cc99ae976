/-
  The contracts of walk's head, word and sizes (layer 10) over this seat's translation: how many bytes the items of each list have, and all. Conditions: at most 60,000 bytes; the tokens of an item of at most 6,000 bytes and 1,200 items.
-/
import Derived.Test.YtegakecncpfnnaaWlkS
import Derived.Test.YtegakecncpfnnaaRlpA
import Derived.Test.YtegakecncpfnnaaWlkK
import Derived.Test.YtegakecncpfnnaaWlkB
import Derived.Test.YtegakecncpfnnaaNum
import Derived.Test.YtegakecncpfnnaaRlpD
namespace Go.Proofs.Ytegakecncpfnnaa
open Go.RowKit

set_option maxRecDepth 100000 in
theorem whead_any (n : Nat) (hn : n ≤ 60000) (w : World) :
    Calls Try.prog 34 #[.int .i64 n] w fun e w' => e = .returned (.string (bs (hd 192 n))) ∧ Below w.heap.size w w' := by
  by_cases h55 : n ≤ 55
  · have t1 : decide ((55 : Int) < n) = false := by simp; omega
    have eh : hd 192 n = [UInt8.ofNat (192 + n)] := by unfold hd; rw [if_pos h55]
    have hl1 : (bs (hd 192 n)).size = 1 := by rw [bs_size, eh]; rfl
    have one := one_byte w ((192 : Int) + n) (by omega) (by omega)
    rw [show ((192 : Int) + n).toNat = 192 + n by omega, ← eh] at one
    clear eh
    go_enter Try.func34, Try.ntmps34
    go_wp2
    go_ret
    exact ⟨congrArg (fun x => Ending.returned (.string x)) (show bs (hd 192 n) ++ ⟨#[]⟩ = bs (hd 192 n) from by rw [show (⟨#[]⟩ : ByteArray) = bs [] from rfl, bs_append, List.append_nil]), bel1 _ _⟩
  · have t1 : decide ((55 : Int) < n) = true := by simp; omega
    have h8 := digs2 hn
    have eh : hd 192 n = UInt8.ofNat (192 + 55 + digs n) :: least n := by unfold hd; rw [if_neg h55]
    have hl : (bs (least n)).size = digs n := bs_size _
    obtain ⟨c0, hc0⟩ : ∃ c, c = UInt8.ofNat (192 + 55 + digs n) := ⟨_, rfl⟩
    rw [← hc0] at eh
    have HC := Lib.hid hc0
    have EH := Lib.hid (show bs [c0] ++ bs (least n) = bs (hd 192 n) by rw [eh, bs_append]; rfl)
    have hl1 : (bs [c0]).size = 1 := rfl
    clear hc0 eh
    go_enter Try.func34, Try.ntmps34
    go_wp2_with fail
    refine (least_any n _ (by omega)).mono ?_
    rintro e w1 ⟨rfl, b1⟩
    have one := one_byte w1 ((192 : Int) + (55 + digs n)) (by omega) (by omega)
    rw [show ((192 : Int) + (55 + digs n)).toNat = 192 + 55 + digs n by omega, ← HC.out] at one
    have B1 := Lib.hid b1
    clear b1
    go_wp2
    go_ret
    exact ⟨by rw [← EH.out]; rfl, B1.out.alloc B1.out.size _⟩

theorem word_item (s : ByteArray) (w : World) :
    Calls Try.prog 36 #[.string s] w fun e w' => e = .returned (.agg #[.string s, .bool false, .slice none 0 0]) ∧ Below w.heap.size w w' := by
  have R := Lib.hid (And.intro (I3.new w (.string s) (.bool false) (.slice none 0 0)) (bel1 w (.cells #[.string s, .bool false, .slice none 0 0] 24)))
  have z0 := R.out.1.c0
  have z1 := R.out.1.c1
  have z2 := R.out.1.c2
  go_enter Try.func36, Try.ntmps36
  go_wp2
  refine bodyPost_ret (v := .agg #[.string s, .bool false, .slice none 0 0]) (by simp [results, Try.results36, go_sem, z0, z1, z2]) rfl ?_
  exact ⟨rfl, R.out.2⟩

theorem bm_le : ∀ (l : List Tok) (bh : List Nat) (all : Nat) (acc r : List Nat) (tot : Nat), bm l bh all acc = some (r, tot) → all ≤ tot
  | [], _, _, _, _, _, h => by simp only [bm, Option.some.injEq, Prod.mk.injEq] at h; omega
  | a :: l, bh, all, acc, r, tot, h => by
    unfold bm at h
    split at h
    · have := bm_le l _ _ _ _ _ h; omega
    · split at h
      · exact bm_le l _ _ _ _ _ h
      · split at h
        · split at h
          · cases h
          · split at h
            · cases h
            · have := bm_le l _ _ _ _ _ h; omega
        · cases h
theorem bm_word (s : ByteArray) (r : List Tok) (bh : List Nat) (all : Nat) (acc : List Nat) : bm (⟨3, s⟩ :: r) bh all acc = bm r bh (all + (ptx s.data.toList).length) (0 :: acc) := by simp [bm]
theorem bm_shut' (s : ByteArray) (r : List Tok) (bh : List Nat) (all : Nat) (acc : List Nat) : bm (⟨2, s⟩ :: r) bh all acc = bm r (all :: bh) all (0 :: acc) := by simp [bm]
theorem bm_open_nil (s : ByteArray) (r : List Tok) (all : Nat) (acc : List Nat) : bm (⟨1, s⟩ :: r) [] all acc = none := by simp [bm]
theorem bm_open' (s : ByteArray) (r : List Tok) (b : Nat) (q : List Nat) (all : Nat) (acc : List Nat) : bm (⟨1, s⟩ :: r) (b :: q) all acc = if all < b then none else bm r q (all + (hd 192 (all - b)).length) ((all - b) :: acc) := by simp [bm]
theorem bm_else (k : Int) (s : ByteArray) (r : List Tok) (bh : List Nat) (all : Nat) (acc : List Nat) (h3 : k ≠ 3) (h1 : k ≠ 1) (h2 : k ≠ 2) : bm (⟨k, s⟩ :: r) bh all acc = none := by simp [bm, h3, h1, h2]

set_option maxRecDepth 100000 in
theorem int_info : (Try.prog.info? 3).map (fun i => (i.zero, i.size, i.bytes)) = some (some (.int .i64 0), 1, 8) := by kernel_rfl
set_option maxRecDepth 100000 in
theorem makeInts (k : Nat) (hk : k ≤ 1000000) (w : World) : (Instr.makeSlice 60 (.int .i64 (k : Int)) (.int .i64 (k : Int))).run Try.prog w =
    .ok (.slice (some ⟨w.heap.size, 0, none⟩) k k) (w.alloc (.cells (Array.replicate k (.int .i64 0)) 3)) := by
  obtain ⟨i, hi, hz, hs, hb⟩ := info_parts int_info
  have := run_make (P := Try.prog) w 60 3 i _ Try.underlying60 hi hz .i64 .i64 k k (by omega) (Int.le_refl _) (by rw [hb]; omega) (by omega)
  rw [this]
  simp only [Int.toNat_natCast, hs, Nat.mul_one]
  congr 3
  apply Array.ext_getElem?
  intro j
  by_cases hj : j < k <;> simp [madeCells, hj, Value.cells, Nat.mod_one]

/-- A text as an item has its bytes, as Size tells them. -/
theorem size_word (s : ByteArray) (hs : s.size ≤ 6000) (w : World) :
    Calls Try.prog 45 #[.agg #[.string s, .bool false, .slice none 0 0]] w fun e w' => e = .returned (.int .i64 ((ptx s.data.toList).length : Int)) ∧ Below w.heap.size w w' := by
  have h := sizeOf_any (.mk s false []) (.slice none 0 0) w ⟨by unfold maxLen; omega, by unfold maxLen; simp, none, 0, rfl, Nat.le_refl _, trivial⟩ (by simp [T.siz, T.sizs]; exact hs) (by simp [T.cnt, T.cnts])
  have e : szd (.mk s false []) = (ptx s.data.toList).length := by
    unfold szd
    have : T.may (.mk s false []) = true := by simp [T.may, T.rgt, T.own, T.rgts, T.dep, T.deps, T.cnt, T.cnts]
    rw [this, T.put_text]
    rfl
  rw [e] at h
  exact h

/-- What the loop of sizes keeps, behind so many rounds. -/
structure Zi (B a g b : Nat) (l : List Tok) (R : List Nat × Nat) (w0 : World) (i : Nat) (Y : Nat → Prop) (W : World) : Prop where
  v1 : V W a 60 (.slice (some ⟨g, 0, none⟩) l.length l.length)
  ex : ∃ (bh : List Nat) (all : Nat) (acc : List Nat) (bv : Value), V W (a + 1) 3 (.int .i64 all) ∧ V W b 60 bv ∧ Sk1 W B 3 bv (bh.map fun (n : Nat) => Value.int .i64 (n : Int)) ∧ (∀ j, Y j ↔ bv.ownBlock = some j) ∧
    Nums .i64 3 W g (List.replicate (l.length - i) 0 ++ acc) ∧ acc.length = i ∧ bm (l.reverse.drop i) bh all acc = some R ∧ bh.length ≤ i ∧ ∀ n ∈ bh, n ≤ R.2
  fr : Fr (fun j => j = a ∨ j = a + 1 ∨ j = g ∨ j = b ∨ B ≤ j) w0 W
  le : i ≤ l.length

theorem Zi.keep {B a g b : Nat} {l : List Tok} {R : List Nat × Nat} {w0 : World} {i : Nat} {Y : Nat → Prop} {W W' : World} (h : Zi B a g b l R w0 i Y W) (hb : a + 1 < B ∧ g < B ∧ b < B)
    (f : Fr (fun j => B ≤ j ∧ ¬ Y j) W W') : Zi B a g b l R w0 i Y W' := by
  obtain ⟨bh, all, acc, bv, h1, h2, h3, h4, h5, h6, h7, h8, h9⟩ := h.ex
  exact ⟨h.v1.fr f (by omega), ⟨bh, all, acc, bv, h1.fr f (by omega), h2.fr f (by omega), h3.fr f (fun j e hj => hj.2 ((h4 j).2 e)), h4, h5.frame f (by omega), h6, h7, h8, h9⟩, h.fr.trans (f.mono fun j _ hj => by omega), h.le⟩

/-- One more round is done. -/
theorem Zi.step {B a g b : Nat} {l : List Tok} {R : List Nat × Nat} {w0 W2 W' : World} {i : Nat} {Y : Nat → Prop} (h : Zi B a g b l R w0 i Y W2) (hY : ∀ j, Y j → B ≤ j) (ac : Act) {bh : List Nat} {all : Nat} {acc : List Nat} {bv : Value}
    (v1 : V W' a 60 (.slice (some ⟨g, 0, none⟩) l.length l.length)) (v2 : V W' (a + 1) 3 (.int .i64 all)) (v3 : V W' b 60 bv) (sk : Sk1 W' B 3 bv (bh.map fun (n : Nat) => Value.int .i64 (n : Int)))
    (nm : Nums .i64 3 W' g (List.replicate (l.length - (i + 1)) 0 ++ acc)) (hl : acc.length = i + 1) (hb : bm (l.reverse.drop (i + 1)) bh all acc = some R) (hbl : bh.length ≤ i + 1) (hbs : ∀ n ∈ bh, n ≤ R.2) (hi : i + 1 ≤ l.length)
    (f : Fr (fun j => (j = a ∨ j = a + 1 ∨ j = g ∨ j = b) ∨ Y j) W2 W') (ow : ∀ j, bv.ownBlock = some j → Y j ∨ W2.heap.size ≤ j) : roundTo (Zi B a g b l R w0) (fun j => j = a ∨ j = a + 1 ∨ j = g ∨ j = b) Y i W2 .normal ac W' :=
  ⟨fun j => bv.ownBlock = some j, ⟨v1, ⟨bh, all, acc, bv, v2, v3, sk, fun _ => Iff.rfl, nm, hl, hb, hbl, hbs⟩, h.fr.then_ f (fun j _ hj => by
    rcases hj with (e | e | e | e) | e
    · exact .inl e
    · exact .inr (.inl e)
    · exact .inr (.inr (.inl e))
    · exact .inr (.inr (.inr (.inl e)))
    · exact .inr (.inr (.inr (.inr (hY j e))))), hi⟩, fun j e => ⟨ow j e, (sk.block j e).2⟩, f⟩
theorem rep_more (n i : Nat) (acc : List Nat) (h : i < n) : List.replicate (n - i) 0 ++ acc = List.replicate (n - (i + 1)) 0 ++ 0 :: acc := by
  rw [show n - i = (n - (i + 1)) + 1 by omega, List.replicate_succ', List.append_assoc]; rfl
theorem rep_set (n i d : Nat) (acc : List Nat) (h : i < n) : (List.replicate (n - i) 0 ++ acc).set (n - 1 - i) d = List.replicate (n - (i + 1)) 0 ++ d :: acc := by
  rw [rep_more n i acc h, show n - 1 - i = (List.replicate (n - (i + 1)) 0).length + 0 by simp; omega, set_app]; rfl

set_option maxRecDepth 100000 in
set_option maxHeartbeats 1000000 in
theorem sizes_any (t : T) (v : Value) (w : World) (hl : TSl w v (T.toks t)) (hn : (T.toks t).length ≤ 10000) (hz : tsz (T.toks t) ≤ 6000) (hp : (T.put t).length ≤ 60000) :
    Calls Try.prog 31 #[v] w fun e w' => ∃ g, e = .returned (.tuple #[.slice (some ⟨g, 0, none⟩) (T.toks t).length (T.toks t).length, .int .i64 ((T.put t).length : Nat)]) ∧ Nums .i64 3 w' g (T.wth t) ∧ Below w.heap.size w w' := by
  have BA := bm_all t
  have tp := T.toks_pos t
  obtain ⟨l, hlt⟩ : ∃ l, l = T.toks t := ⟨_, rfl⟩
  rw [← hlt] at hl hn hz BA tp ⊢
  obtain ⟨a, c, rfl, hc, hr⟩ := hl
  have HZ := Lib.hid hz
  have BA := Lib.hid BA
  have HR := Lib.hid hr
  obtain ⟨n, hnn⟩ : ∃ n, n = l.length := ⟨_, rfl⟩
  have HN := Lib.hid hnn
  rw [← hnn] at hn hc tp ⊢
  clear hz hr hlt hnn
  refine (callsIn_wide (n := 3)).1 (callsIn_of_wp_marks Try.func31 rfl trivial (wpIn_wide.2 ?_) rfl)
  simp only [Try.ntmps31, List.size_toArray, List.length_cons, List.length_nil, Nat.reduceAdd, Nat.reduceSub, Array.replicate_succ, Array.replicate_zero, List.push_toArray, List.append_toArray, List.nil_append, List.cons_append]
  have mk := makeInts n (by omega) ((w.alloc (.cells #[.slice none 0 0] 60)).alloc (.cells #[.int .i64 0] 3))
  go_wp2_with fail
  clear mk
  obtain ⟨x, hx⟩ : ∃ x, x = w.heap.size := ⟨_, rfl⟩
  rw [← hx]
  obtain ⟨W3, hW3⟩ : ∃ W3, W3 = ((((w.alloc (.cells #[.slice (some ⟨x + 1 + 1, 0, none⟩) n n] 60)).alloc (.cells #[.int .i64 0] 3)).alloc (.cells (Array.replicate n (.int .i64 0)) 3)).alloc (.cells #[.slice none 0 0] 60)) := ⟨_, rfl⟩
  rw [← hW3]
  refine (backward_any a n c W3).mono ?_
  rintro e w4 ⟨rfl, hw4⟩
  have z3 : W3.heap.size = x + 4 := by rw [hW3]; simp [hx]
  have z4 : w4.heap.size = x + 5 := by rw [hw4, size_push, z3]
  have F3 : Below x w W3 := by rw [hW3, hx]; exact (((bel1 w _).alloc (by simp only [size_push]; omega) _).alloc (by simp only [size_push]; omega) _).alloc (by simp only [size_push]; omega) _
  have F4 : Below x w w4 := by rw [hw4]; exact F3.alloc (by omega) _
  have u1 : V W3 x 60 (.slice (some ⟨x + 2, 0, none⟩) n n) := by rw [hW3, hx]; exact (((V.new w _ _).alloc _).alloc _).alloc _
  have u2 : V W3 (x + 1) 3 (.int .i64 0) := by
    rw [hW3]
    have := V.new (w.alloc (.cells #[.slice (some ⟨x + 1 + 1, 0, none⟩) n n] 60)) 3 (.int .i64 0)
    rw [size_push, ← hx] at this
    exact (this.alloc _).alloc _
  have u3 : Nums .i64 3 W3 (x + 2) (List.replicate n 0) := by
    rw [hW3]
    have := Nums.zeros .i64 3 ((w.alloc (.cells #[.slice (some ⟨x + 1 + 1, 0, none⟩) n n] 60)).alloc (.cells #[.int .i64 0] 3)) n
    rw [size_push, size_push, ← hx] at this
    exact this.alloc _
  have u4 : V W3 (x + 3) 60 (.slice none 0 0) := by
    rw [hW3]
    have := V.new (((w.alloc (.cells #[.slice (some ⟨x + 1 + 1, 0, none⟩) n n] 60)).alloc (.cells #[.int .i64 0] 3)).alloc (.cells (Array.replicate n (.int .i64 0)) 3)) 60 (.slice none 0 0)
    rw [size_push, size_push, size_push, ← hx] at this
    exact this
  have Z0 := Lib.hid (show Zi (x + 5) x (x + 2) (x + 3) l (T.wth t, (T.put t).length) w4 0 (fun _ => False) w4 from by
    rw [hw4]
    exact ⟨HN.out ▸ u1.alloc _, ⟨[], 0, [], .slice none 0 0, u2.alloc _, u4.alloc _, World.ownsRow_nil _ _ _ _, fun j => ⟨fun h => h.elim, fun h => by cases h⟩, by
      rw [List.append_nil, Nat.sub_zero, ← HN.out]; exact u3.alloc _, rfl, by rw [List.drop_zero]; exact BA.out, Nat.le_refl _, fun _ h => absurd h List.not_mem_nil⟩, Fr.refl _ _, Nat.zero_le _⟩)
  have C4 := Lib.hid (show w4.cell? ⟨x + 4, 0, none⟩ = some (.slice a l.length c) ∧ TRow w4 a l ∧ (∀ b o, a = some ⟨b, o, none⟩ → b < x) from by
    have v4 := V.new W3 27 (.slice a n c)
    rw [z3] at v4
    refine ⟨by rw [hw4, ← HN.out]; exact v4.cell, HR.out.bel (by rw [← hx]; exact F4), fun b o e => ?_⟩
    obtain ⟨b', o', e', d, _⟩ := HR.out 0 (by have := HN.out; omega)
    rw [e] at e'
    injection e' with e'
    injection e' with e1 e2
    rw [e1, hx]
    exact lt_of_cell d)
  rw [z3]
  have F4 := Lib.hid F4
  have Z4 := Lib.hid z4
  have HX := Lib.hid hx
  clear hW3 hw4 z3 z4 F3 u1 u2 u3 u4 HR hx
  go_wp2_with fail
  refine wp_rangeOwn (gf := 57) (lb := #[.pointer (some ⟨x + 4, 0, none⟩)]) rfl (enters_of Try.func57 (by kernel_rfl) rfl)
    (backward_tells l a c (x + 4) (fun j => j = x ∨ j = x + 1 ∨ j = x + 2 ∨ j = x + 3) w4 C4.out.1 C4.out.2.1 (by have := HN.out; omega) (by omega) (fun b o e => by have := C4.out.2.2 b o e; omega)) (fun j hj => by have := Z4.out; omega) (fun i => backs_size l i)
    (Zi (x + 5) x (x + 2) (x + 3) l (T.wth t, (T.put t).length) w4) ?hI Z0.out ?hround ?hdone
  case hI =>
    intro i Y A B h f
    rw [Z4.out] at f
    exact h.keep ⟨by omega, by omega, by omega⟩ f
  case hround =>
    intro y i Y W hz hZi hY hi
    rw [Z4.out] at hz hY ⊢
    obtain ⟨k, hk⟩ : ∃ k : Nat, k = l.length - 1 - i := ⟨_, rfl⟩
    have hkl : k < l.length := by omega
    have hki : k + i + 1 = l.length := by omega
    rw [backs_at l i k hkl hki, zip2]
    simp only [List.setIfInBounds_toArray, List.set_cons_zero, List.set_cons_succ]
    obtain ⟨tk, htk⟩ : ∃ tk, tk = l[k] := ⟨_, rfl⟩
    rw [← htk]
    obtain ⟨kk, ss⟩ := tk
    have HT := Lib.hid htk
    clear htk
    refine wpIn_seq_k fun K1 hK1 => ?_
    refine round_region (by kernel_rfl) (fun ⟨_, _, hh⟩ => hh) ?_
    go_wp2
    refine round_region (by kernel_rfl) (fun ⟨_, _, hh⟩ => hh) ?_
    go_wp2
    refine ⟨(Fr.refl _ W).alloc _, fun W2 f2 => ?_⟩
    have ft : Fr (fun j => j = x + 6) W W2 := ((Fr.refl _ W).alloc _).trans (f2.mono fun j _ hj => by omega)
    have Z2 := Lib.hid (hZi.keep ⟨by omega, by omega, by omega⟩ (ft.mono fun j _ hj => (show x + 5 ≤ j ∧ ¬ Y j from ⟨by omega, fun e => by have := (hY j e).1; omega⟩)))
    obtain ⟨tb, htb⟩ : ∃ tb, tb = W.heap.size := ⟨_, rfl⟩
    have T2 := Lib.hid (show B2 W2 tb 48 (.int .i64 kk) (.string ss) from by rw [htb]; exact (B2.new W _ _ _).fr f2 (by omega))
    rw [← htb]
    have HY := Lib.hid (fun j (e : Y j) => show x + 7 ≤ j ∧ j < tb from ⟨(hY j e).1, by rw [htb]; exact (hY j e).2⟩)
    have LT := Lib.hid (show x + 6 < tb ∧ tb < W2.heap.size from ⟨by omega, T2.out.lt⟩)
    have ZS := tsz_mem l l[k] (List.getElem_mem hkl)
    rw [← HT.out] at ZS
    have hss : ss.size ≤ 6000 := by have := HZ.out; simp only at ZS; omega
    obtain ⟨bh, all, acc, bv, h1, h2, h3, h4, h5, h6, h7, h8, h9⟩ := Z2.out.ex
    have hmm : bm (⟨kk, ss⟩ :: l.reverse.drop (i + 1)) bh all acc = some (T.wth t, (T.put t).length) := by
      rw [← h7, List.drop_eq_getElem_cons (l := l.reverse) (i := i) (by simp; omega)]
      congr 2
      rw [List.getElem_reverse, HT.out]
      congr 1
    have HM := Lib.hid hmm
    have HB := Lib.hid (And.intro h1 (And.intro h2 (And.intro h3 (And.intro h4 (And.intro h5 (And.intro h6 (And.intro h8 h9)))))))
    have tc0 := T2.out.c0
    have tc1 := T2.out.c1
    have hlt := T2.out.lt
    clear hmm h1 h2 h3 h4 h5 h6 h7 h8 h9 ZS ft f2 hZi hY htb hk
    refine wpIn_block ?_
    refine wpIn_seq_k fun K2 hK2 => ?_
    refine round_region (by kernel_rfl) (fun ⟨_, _, hh⟩ => hh) ?_
    go_wp2
    refine wpIn_block ?_
    refine wpIn_seq_k fun K3 hK3 => ?_
    refine round_region (by kernel_rfl) (fun ⟨_, _, hh⟩ => hh) ?_
    by_cases k3 : kk = 3
    · subst k3
      have hm := HM.out
      rw [bm_word] at hm
      obtain ⟨all1, ha1⟩ : ∃ m, m = all + (ptx ss.data.toList).length := ⟨_, rfl⟩
      rw [← ha1] at hm
      have hle := bm_le _ _ _ _ _ _ hm
      have HM1 := Lib.hid hm
      have SZ := Lib.hid (fun W => size_word ss hss W)
      have WD := Lib.hid (fun W => word_item ss W)
      obtain ⟨pl, hpl⟩ : ∃ m, m = (ptx ss.data.toList).length := ⟨_, rfl⟩
      rw [← hpl] at ha1 SZ
      have kadd : (all : Int) + (pl : Int) = (all1 : Int) := by omega
      have kwr : IntKind.i64.wrap (all1 : Int) = (all1 : Int) := IntWalk.i64_in _ (by omega)
      have DONE := Lib.hid (fun (ac : Act) (W : World) (f : Fr (fun _ => False) W2 W) (v : V W (x + 1) 3 (.int .i64 all)) => show roundTo (Zi (x + 5) x (x + 2) (x + 3) l (T.wth t, (T.put t).length) w4) (fun j => j = x ∨ j = x + 1 ∨ j = x + 2 ∨ j = x + 3) Y i W2 .normal ac (W.setCell ⟨x + 1, 0, none⟩ (.int .i64 all1)) from by
        obtain ⟨h1, h2, h3, h4, h5, h6, h8, h9⟩ := HB.out
        have f1 : Fr (fun j => j = x + 1) W2 (W.setCell ⟨x + 1, 0, none⟩ (.int .i64 all1)) := (f.mono fun _ _ e => e.elim).trans (fr_set _)
        refine Z2.out.step (fun j e => by have := (HY.out j e).1; omega) ac (Z2.out.v1.fr f1 (by omega)) (v.set _) (h2.fr f1 (by omega)) (h3.fr f1 (fun j e => by have := (HY.out j ((h4 j).2 e)).1; omega)) (acc := 0 :: acc) (by rw [← rep_more _ _ _ hi]; exact h5.frame f1 (by omega)) (by simp [h6]) HM1.out (by omega) h9 (by omega) (f1.mono fun j _ e => .inl (.inr (.inl e))) (fun j e => .inl ((h4 j).2 e)))
      clear hm HM hpl ha1
      go_wp2
      refine wpIn_cond_true rfl ?_
      --WALK8
      refine round_region_held (S := fun W => B2 W tb 48 (.int .i64 3) (.string ss)) (by kernel_rfl) (by kernel_rfl) (fun ⟨_, _, hh⟩ => hh) (T2.out.bel (Below.refl _ _).drew) (fun hHeld => ?_)
      have FF := Lib.hid (show Fr (fun _ => False) W2 W2.drew from (Fr.refl _ W2).drew)
      have VV := Lib.hid (show V W2.drew (x + 1) 3 (.int .i64 all) from HB.out.1)
      generalize W2.drew = W5 at *
      refine held_take 1 20 (v := .pointer (some ⟨tb, 1, none⟩)) rfl rfl (by kernel_rfl) (by kernel_rfl) (by kernel_rfl) (fun _ _ _ h => h) (by rfl) ?hzc1 hHeld ?rezc1
      case hzc1 => (intro W hSw; have hSl := hSw.lt; clear hSw; go_simp; try with_reducible rfl)
      try simp only [Act.put, List.setIfInBounds_toArray, List.set_cons_zero, List.set_cons_succ]
      refine held_take 2 21 (v := .string ss) rfl rfl (by kernel_rfl) (by kernel_rfl) (by kernel_rfl) (fun _ _ _ h => h) (by rfl) ?hzc2 hHeld ?rezc2
      case hzc2 => (intro W hSw; have hS1 := hSw.c1; have hSl := hSw.lt; clear hSw; go_simp; try with_reducible rfl)
      try simp only [Act.put, List.setIfInBounds_toArray, List.set_cons_zero, List.set_cons_succ]
      refine wpAnyH_ready (rs := [0, 3]) (by kernel_rfl) (by simp) ?_
      refine AllReadyH.cons rfl (fun K hK => ?_) (AllReadyH.cons rfl (fun K hK => ?_) AllReadyH.nil)
      · have cV := VV.out.cell
        go_simp
        clear cV
        refine hK.out _ _ hHeld (fun hHeld => ?_)
        clear hK K
        try simp only [Act.put, List.setIfInBounds_toArray, List.set_cons_zero, List.set_cons_succ]
        refine wpAnyH_ready (rs := [3]) (by kernel_rfl) (by simp) ?_
        refine AllReadyH.cons rfl (fun K hK => ?_) AllReadyH.nil
        go_simp
        refine (WD.out _).mono ?_
        rintro e u ⟨rfl, bu⟩
        have nF := Lib.hid (FF.out.trans (Fr.ofBelow bu))
        have nV := Lib.hid (VV.out.bel bu VV.out.lt)
        have nu := hHeld.bel bu
        clear FF VV hHeld bu
        have FF := nF
        have VV := nV
        clear nF nV
        refine hK.out _ _ nu (fun hHeld => ?_)
        clear hK K
        try simp only [Act.put, List.setIfInBounds_toArray, List.set_cons_zero, List.set_cons_succ]
        refine wpAnyH_ready (rs := [4]) (by kernel_rfl) (by simp) ?_
        refine AllReadyH.cons rfl (fun K hK => ?_) AllReadyH.nil
        go_simp
        refine (SZ.out _).mono ?_
        rintro e u ⟨rfl, bu⟩
        have nF := Lib.hid (FF.out.trans (Fr.ofBelow bu))
        have nV := Lib.hid (VV.out.bel bu VV.out.lt)
        have nu := hHeld.bel bu
        clear FF VV hHeld bu
        have FF := nF
        have VV := nV
        clear nF nV
        refine hK.out _ _ nu (fun hHeld => ?_)
        clear hK K
        try simp only [Act.put, List.setIfInBounds_toArray, List.set_cons_zero, List.set_cons_succ]
        refine held_take 5 24 (v := .int .i64 (all1 : Nat)) rfl rfl (by kernel_rfl) (by kernel_rfl) (by kernel_rfl) (fun _ _ _ h => h) (by rfl) ?hzc3 hHeld ?rezc3
        case hzc3 => (intro W hSw; clear hSw; go_simp; try with_reducible rfl)
        try simp only [Act.put, List.setIfInBounds_toArray, List.set_cons_zero, List.set_cons_succ]
        refine wpAnyH_ready (rs := [6]) (by kernel_rfl) (by simp) ?_
        refine AllReadyH.cons rfl (fun K hK => ?_) AllReadyH.nil
        have cV := VV.out.cell
        have lV := VV.out.lt
        have fV := VV.out.free
        go_simp
        clear cV
        refine hK.out _ _ (hHeld.fr (fr_set (g := x + 1) (i := 0) _) (by have := LT.out; omega)) (fun hHeld => ?_)
        clear hK K
        try simp only [Act.put, List.setIfInBounds_toArray, List.set_cons_zero, List.set_cons_succ]
        refine wpAnyH_done (by kernel_rfl) ?_ _
        clear lV fV
        exact DONE.out { tmps := #[], defers := [] } _ FF.out VV.out
      · go_simp
        refine (WD.out _).mono ?_
        rintro e u ⟨rfl, bu⟩
        have nF := Lib.hid (FF.out.trans (Fr.ofBelow bu))
        have nV := Lib.hid (VV.out.bel bu VV.out.lt)
        have nu := hHeld.bel bu
        clear FF VV hHeld bu
        have FF := nF
        have VV := nV
        clear nF nV
        refine hK.out _ _ nu (fun hHeld => ?_)
        clear hK K
        try simp only [Act.put, List.setIfInBounds_toArray, List.set_cons_zero, List.set_cons_succ]
        refine wpAnyH_ready (rs := [0, 4]) (by kernel_rfl) (by simp) ?_
        refine AllReadyH.cons rfl (fun K hK => ?_) (AllReadyH.cons rfl (fun K hK => ?_) AllReadyH.nil)
        · have cV := VV.out.cell
          go_simp
          clear cV
          refine hK.out _ _ hHeld (fun hHeld => ?_)
          clear hK K
          try simp only [Act.put, List.setIfInBounds_toArray, List.set_cons_zero, List.set_cons_succ]
          refine wpAnyH_ready (rs := [4]) (by kernel_rfl) (by simp) ?_
          refine AllReadyH.cons rfl (fun K hK => ?_) AllReadyH.nil
          go_simp
          refine (SZ.out _).mono ?_
          rintro e u ⟨rfl, bu⟩
          have nF := Lib.hid (FF.out.trans (Fr.ofBelow bu))
          have nV := Lib.hid (VV.out.bel bu VV.out.lt)
          have nu := hHeld.bel bu
          clear FF VV hHeld bu
          have FF := nF
          have VV := nV
          clear nF nV
          refine hK.out _ _ nu (fun hHeld => ?_)
          clear hK K
          try simp only [Act.put, List.setIfInBounds_toArray, List.set_cons_zero, List.set_cons_succ]
          refine held_take 5 24 (v := .int .i64 (all1 : Nat)) rfl rfl (by kernel_rfl) (by kernel_rfl) (by kernel_rfl) (fun _ _ _ h => h) (by rfl) ?hzc4 hHeld ?rezc4
          case hzc4 => (intro W hSw; clear hSw; go_simp; try with_reducible rfl)
          try simp only [Act.put, List.setIfInBounds_toArray, List.set_cons_zero, List.set_cons_succ]
          refine wpAnyH_ready (rs := [6]) (by kernel_rfl) (by simp) ?_
          refine AllReadyH.cons rfl (fun K hK => ?_) AllReadyH.nil
          have cV := VV.out.cell
          have lV := VV.out.lt
          have fV := VV.out.free
          go_simp
          clear cV
          refine hK.out _ _ (hHeld.fr (fr_set (g := x + 1) (i := 0) _) (by have := LT.out; omega)) (fun hHeld => ?_)
          clear hK K
          try simp only [Act.put, List.setIfInBounds_toArray, List.set_cons_zero, List.set_cons_succ]
          refine wpAnyH_done (by kernel_rfl) ?_ _
          clear lV fV
          exact DONE.out { tmps := #[], defers := [] } _ FF.out VV.out
        · go_simp
          refine (SZ.out _).mono ?_
          rintro e u ⟨rfl, bu⟩
          have nF := Lib.hid (FF.out.trans (Fr.ofBelow bu))
          have nV := Lib.hid (VV.out.bel bu VV.out.lt)
          have nu := hHeld.bel bu
          clear FF VV hHeld bu
          have FF := nF
          have VV := nV
          clear nF nV
          refine hK.out _ _ nu (fun hHeld => ?_)
          clear hK K
          try simp only [Act.put, List.setIfInBounds_toArray, List.set_cons_zero, List.set_cons_succ]
          refine wpAnyH_ready (rs := [0]) (by kernel_rfl) (by simp) ?_
          refine AllReadyH.cons rfl (fun K hK => ?_) AllReadyH.nil
          have cV := VV.out.cell
          go_simp
          clear cV
          refine hK.out _ _ hHeld (fun hHeld => ?_)
          clear hK K
          try simp only [Act.put, List.setIfInBounds_toArray, List.set_cons_zero, List.set_cons_succ]
          refine held_take 5 24 (v := .int .i64 (all1 : Nat)) rfl rfl (by kernel_rfl) (by kernel_rfl) (by kernel_rfl) (fun _ _ _ h => h) (by rfl) ?hzc5 hHeld ?rezc5
          case hzc5 => (intro W hSw; clear hSw; go_simp; try with_reducible rfl)
          try simp only [Act.put, List.setIfInBounds_toArray, List.set_cons_zero, List.set_cons_succ]
          refine wpAnyH_ready (rs := [6]) (by kernel_rfl) (by simp) ?_
          refine AllReadyH.cons rfl (fun K hK => ?_) AllReadyH.nil
          have cV := VV.out.cell
          have lV := VV.out.lt
          have fV := VV.out.free
          go_simp
          clear cV
          refine hK.out _ _ (hHeld.fr (fr_set (g := x + 1) (i := 0) _) (by have := LT.out; omega)) (fun hHeld => ?_)
          clear hK K
          try simp only [Act.put, List.setIfInBounds_toArray, List.set_cons_zero, List.set_cons_succ]
          refine wpAnyH_done (by kernel_rfl) ?_ _
          clear lV fV
          exact DONE.out { tmps := #[], defers := [] } _ FF.out VV.out
      --ENDWALK8
    · have t3 : (kk == (3 : Int)) = false := by simpa using k3
      go_wp2
      refine wpIn_cond_false rfl ?_
      refine wpIn_seq_k fun K4 hK4 => ?_
      refine round_region (by kernel_rfl) (fun ⟨_, _, hh⟩ => hh) ?_
      by_cases k2 : kk = 2
      · subst k2
        have hm := HM.out
        rw [bm_shut'] at hm
        have hle := bm_le _ _ _ _ _ _ hm
        have HM1 := Lib.hid hm
        obtain ⟨ba, bc, hbv⟩ := HB.out.2.2.1.slice
        rw [List.length_map] at hbv
        subst hbv
        have FA := Lib.hid (show Fr (fun _ => False) W2 (W2.alloc (.cells #[.int .i64 all] 3)) from (Fr.refl _ W2).alloc _)
        have ap := append_one (W2.alloc (.cells #[.int .i64 all] 3)) (x + 5) 60 60 3 (.int .i64 0) 8 (by omega) Try.underlying60 int_info (by rfl) _ _ (HB.out.2.2.1.fr FA.out (fun _ _ e => e)) W2.heap.size 1 (.int .i64 all) (V.new W2 3 (.int .i64 all)).cell rfl (by have := HB.out.2.2.2.2.2.2.1; have := HN.out; simp; omega) (by have := LT.out; rw [size_push]; omega)
        obtain ⟨bv', wA, hap, ownA, grA, obA⟩ := ap
        obtain ⟨sa', sn', sc', rfl⟩ : ∃ a n c, bv' = .slice a n c := by
          obtain ⟨a, c, h⟩ := ownA.slice
          exact ⟨_, _, _, h⟩
        have fA : Fr (fun j => (Value.slice ba bh.length bc).ownBlock = some j) W2 wA := (FA.out.mono (fun _ _ e => e.elim)).trans (fr_grown grA)
        have nb : ∀ j, (Value.slice ba bh.length bc).ownBlock = some j → x + 7 ≤ j := fun j e => (HY.out j ((HB.out.2.2.2.1 j).2 e)).1
        have DONE := Lib.hid (show roundTo (Zi (x + 5) x (x + 2) (x + 3) l (T.wth t, (T.put t).length) w4) (fun j => j = x ∨ j = x + 1 ∨ j = x + 2 ∨ j = x + 3) Y i W2 .normal { tmps := #[], defers := [] } (wA.setCell ⟨x + 3, 0, none⟩ (.slice sa' sn' sc')) from by
          obtain ⟨h1, h2, h3, h4, h5, h6, h8, h9⟩ := HB.out
          have fs : Fr (fun j => j = x + 3) wA (wA.setCell ⟨x + 3, 0, none⟩ (.slice sa' sn' sc')) := fr_set _
          have f1 : Fr (fun j => j = x + 3 ∨ (Value.slice ba bh.length bc).ownBlock = some j) W2 (wA.setCell ⟨x + 3, 0, none⟩ (.slice sa' sn' sc')) := (fA.mono fun _ _ e => .inr e).then_ fs (fun _ _ e => .inl e)
          have n1 : ∀ j, j < x + 7 → j ≠ x + 3 → ¬ (j = x + 3 ∨ (Value.slice ba bh.length bc).ownBlock = some j) := fun j h e => by
            rintro (h' | h')
            · exact e h'
            · have := nb j h'; omega
          have ob : ∀ j, (Value.slice sa' sn' sc').ownBlock = some j → Y j ∨ W2.heap.size ≤ j := fun j e => by
            rcases obA with h | h
            · exact .inl ((h4 j).2 (h ▸ e))
            · rw [h, size_push] at e
              injection e with e
              exact .inr (by omega)
          refine Z2.out.step (fun j e => by have := (HY.out j e).1; omega) _ (Z2.out.v1.fr f1 (n1 _ (by omega) (by omega))) (h1.fr f1 (n1 _ (by omega) (by omega))) (V.set (h2.fr fA (fun e => by have := nb _ e; omega)) _) (bh := all :: bh) (Sk1.fr (w := wA) ownA fs (fun j e h => ?_)) (acc := 0 :: acc) (by rw [← rep_more _ _ _ hi]; exact h5.frame f1 (n1 _ (by omega) (by omega))) (by simp [h6]) HM1.out (by simp; omega) ?_ (by omega) (f1.mono fun j _ e => ?_) ob
          · rcases ob j e with h' | h'
            · have := (HY.out j h').1; omega
            · have := LT.out; omega
          · intro m hm
            rcases List.mem_cons.1 hm with rfl | hm
            · exact hle
            · exact h9 m hm
          · rcases e with e | e
            · exact .inl (.inr (.inr (.inr e)))
            · exact .inr ((h4 j).2 e))
        have h2A : V wA (x + 3) 60 (.slice ba bh.length bc) := HB.out.2.1.fr fA (fun e => by have := nb _ e; omega)
        have cA := h2A.cell
        have lA := h2A.lt
        have gA := h2A.free
        have c2 := HB.out.2.1.cell
        have l2 := HB.out.2.1.lt
        have c1 := HB.out.1.cell
        have l1 := HB.out.1.lt
        have HAP := Lib.hid hap
        clear hap ownA grA obA fA FA h2A nb HM hm
        go_wp2
        refine wpIn_cond_true rfl ?_
        refine round_region (by kernel_rfl) (fun ⟨_, _, hh⟩ => hh) ?_
        go_wp2_with (at_builtin; refine wpList_append_run rfl _ _ 60 rfl _ _ rfl rfl _ wA HAP.out ?_)
        exact DONE.out
      · have t2 : (kk == (2 : Int)) = false := by simpa using k2
        go_wp2
        refine wpIn_cond_false rfl ?_
        refine wpIn_seq_k fun K5 hK5 => ?_
        refine round_region (by kernel_rfl) (fun ⟨_, _, hh⟩ => hh) ?_
        have k1 : kk = 1 := by
          by_cases k1 : kk = 1
          · exact k1
          · exfalso
            have hm := HM.out
            rw [bm_else _ _ _ _ _ _ k3 k1 k2] at hm
            cases hm
        subst k1
        rcases bh with _ | ⟨b0, q⟩
        · exfalso
          have hm := HM.out
          rw [bm_open_nil] at hm
          cases hm
        have hm := HM.out
        rw [bm_open'] at hm
        by_cases hab : all < b0
        · exfalso
          rw [if_pos hab] at hm
          cases hm
        rw [if_neg hab] at hm
        obtain ⟨d0, hd0⟩ : ∃ d, d = all - b0 := ⟨_, rfl⟩
        rw [← hd0] at hm
        obtain ⟨hl, hhl⟩ : ∃ m, m = (hd 192 d0).length := ⟨_, rfl⟩
        rw [← hhl] at hm
        have hle := bm_le _ _ _ _ _ _ hm
        have HM1 := Lib.hid hm
        obtain ⟨all1, ha1⟩ : ∃ m, m = all + hl := ⟨_, rfl⟩
        have HDD := Lib.hid (fun W => whead_any d0 (by omega) W)
        have hszh : (bs (hd 192 d0)).size = hl := by rw [bs_size, hhl]
        obtain ⟨bg, bc, hbv, hbc⟩ := HB.out.2.2.1.form
        rw [List.length_map] at hbv hbc
        subst hbv
        have sk := HB.out.2.2.1
        rw [List.map_cons, show q.length + 1 = (q.map fun (n : Nat) => Value.int .i64 (n : Int)).length + 1 by simp] at sk
        have ct := sk.top
        rw [List.length_map] at ct
        have CT := Lib.hid (And.intro ct sk.lt.2)
        have BG := Lib.hid (show x + 7 ≤ bg from (HY.out bg ((HB.out.2.2.2.1 bg).2 rfl)).1)
        have pop := sk.pop
        rw [List.length_map] at pop
        have POP := Lib.hid pop
        have c2 := HB.out.2.1.cell
        have l2 := HB.out.2.1.lt
        have hql : q.length ≤ 10000 := by have := HB.out.2.2.2.2.2.2.1; have := HN.out; simp only [List.length_cons] at *; omega
        have hkn : (k : Int) < (l.length : Int) := by omega
        have ksub : (all : Int) - (b0 : Int) = (d0 : Int) := by omega
        have kadd : (all : Int) + (hl : Int) = (all1 : Int) := by omega
        have kw0 : IntKind.i64.wrap (d0 : Int) = (d0 : Int) := IntWalk.i64_in _ (by omega)
        have kw1 : IntKind.i64.wrap (all1 : Int) = (all1 : Int) := IntWalk.i64_in _ (by omega)
        have HA1 := Lib.hid (And.intro ha1 (And.intro hd0 hhl))
        clear hm HM sk ct pop ha1 hd0 hhl
        go_wp2
        refine wpIn_cond_true rfl ?_
        refine wpIn_seq_k fun K6 hK6 => ?_
        refine round_region (by kernel_rfl) (fun ⟨_, _, hh⟩ => hh) ?_
        go_wp2
        refine wpIn_seq_k fun K7 hK7 => ?_
      --WALK13
        refine round_region_held (S := fun W => V W x 60 (.slice (some ⟨x + 2, 0, none⟩) l.length l.length) ∧ V W (x + 1) 3 (.int .i64 all) ∧ V W (x + 3) 60 (.slice (some ⟨bg, 0, none⟩) (q.length + 1) bc) ∧ (W.cell? ⟨bg, q.length, none⟩ = some (.int .i64 b0) ∧ bg < W.heap.size)) (by kernel_rfl) (by kernel_rfl) (fun ⟨_, _, hh⟩ => hh) ⟨Z2.out.v1, HB.out.1, HB.out.2.1, CT.out.1, CT.out.2⟩ (fun hHeld => ?_)
        have NN := Lib.hid (show Nums .i64 3 W2.drew (x + 2) (List.replicate (l.length - i) 0 ++ acc) from HB.out.2.2.2.2.1)
        have FF := Lib.hid (show Fr (fun _ => False) W2 W2.drew from (Fr.refl _ W2).drew)
        generalize W2.drew = W5 at *
        refine held_take 0 36 (v := .slice (some ⟨x + 2, 0, none⟩) l.length l.length) rfl rfl (by kernel_rfl) (by kernel_rfl) (by kernel_rfl) (fun _ _ _ h => h) (by rfl) ?hzc6 hHeld ?rezc6
        case hzc6 => (intro W hSw; have hS0 := hSw.1.cell; have hL0 := hSw.1.lt; clear hSw; go_simp; try with_reducible rfl)
        try simp only [Act.put, List.setIfInBounds_toArray, List.set_cons_zero, List.set_cons_succ]
        refine held_take 1 37 (v := .int .i64 k) rfl rfl (by kernel_rfl) (by kernel_rfl) (by kernel_rfl) (fun _ _ _ h => h) (by rfl) ?hzc7 hHeld ?rezc7
        case hzc7 => (intro W hSw; clear hSw; go_simp; try with_reducible rfl)
        try simp only [Act.put, List.setIfInBounds_toArray, List.set_cons_zero, List.set_cons_succ]
        refine held_take 2 38 (v := .int .i64 all) rfl rfl (by kernel_rfl) (by kernel_rfl) (by kernel_rfl) (fun _ _ _ h => h) (by rfl) ?hzc8 hHeld ?rezc8
        case hzc8 => (intro W hSw; have hS0 := hSw.2.1.cell; have hL0 := hSw.2.1.lt; clear hSw; go_simp; try with_reducible rfl)
        try simp only [Act.put, List.setIfInBounds_toArray, List.set_cons_zero, List.set_cons_succ]
        refine held_take 3 39 (v := .slice (some ⟨bg, 0, none⟩) (q.length + 1) bc) rfl rfl (by kernel_rfl) (by kernel_rfl) (by kernel_rfl) (fun _ _ _ h => h) (by rfl) ?hzc9 hHeld ?rezc9
        case hzc9 => (intro W hSw; have hS0 := hSw.2.2.1.cell; have hL0 := hSw.2.2.1.lt; clear hSw; go_simp; try with_reducible rfl)
        try simp only [Act.put, List.setIfInBounds_toArray, List.set_cons_zero, List.set_cons_succ]
        refine held_take 4 40 (v := .int .i64 q.length) rfl rfl (by kernel_rfl) (by kernel_rfl) (by kernel_rfl) (fun _ _ _ h => h) (by rfl) ?hzc10 hHeld ?rezc10
        case hzc10 => (intro W hSw; clear hSw; go_simp; try with_reducible rfl)
        try simp only [Act.put, List.setIfInBounds_toArray, List.set_cons_zero, List.set_cons_succ]
        refine held_take 5 41 (v := .pointer (some ⟨bg, q.length, none⟩)) rfl rfl (by kernel_rfl) (by kernel_rfl) (by kernel_rfl) (fun _ _ _ h => h) (by rfl) ?hzc11 hHeld ?rezc11
        case hzc11 => (intro W hSw; clear hSw; go_simp; intro hh; exfalso; omega; )
        try simp only [Act.put, List.setIfInBounds_toArray, List.set_cons_zero, List.set_cons_succ]
        refine held_take 6 42 (v := .int .i64 b0) rfl rfl (by kernel_rfl) (by kernel_rfl) (by kernel_rfl) (fun _ _ _ h => h) (by rfl) ?hzc12 hHeld ?rezc12
        case hzc12 => (intro W hSw; have hS0 := hSw.2.2.2.1; have hL0 := hSw.2.2.2.2; clear hSw; go_simp; try with_reducible rfl)
        try simp only [Act.put, List.setIfInBounds_toArray, List.set_cons_zero, List.set_cons_succ]
        refine held_take 7 43 (v := .int .i64 (d0 : Nat)) rfl rfl (by kernel_rfl) (by kernel_rfl) (by kernel_rfl) (fun _ _ _ h => h) (by rfl) ?hzc13 hHeld ?rezc13
        case hzc13 => (intro W hSw; clear hSw; go_simp; try with_reducible rfl)
        try simp only [Act.put, List.setIfInBounds_toArray, List.set_cons_zero, List.set_cons_succ]
        refine held_take 8 44 (v := .pointer (some ⟨x + 2, k, none⟩)) rfl rfl (by kernel_rfl) (by kernel_rfl) (by kernel_rfl) (fun _ _ _ h => h) (by rfl) ?hzc14 hHeld ?rezc14
        case hzc14 => (intro W hSw; clear hSw; go_simp; try with_reducible rfl)
        try simp only [Act.put, List.setIfInBounds_toArray, List.set_cons_zero, List.set_cons_succ]
        refine wpAnyH_ready (rs := [9]) (by kernel_rfl) (by simp) ?_
        refine AllReadyH.cons rfl (fun K hK => ?_) AllReadyH.nil
        have cN := NN.out.free k
        have cM := NN.out.cellD k (by have := HB.out.2.2.2.2.2.1; simp; omega)
        have lN := NN.out.lt
        go_simp
        clear cN cM
        refine hK.out _ _ ⟨hHeld.1.far (p := ⟨x + 2, k, none⟩) (by show x ≠ x + 2; omega) _, hHeld.2.1.far (p := ⟨x + 2, k, none⟩) (by show x + 1 ≠ x + 2; omega) _, hHeld.2.2.1.far (p := ⟨x + 2, k, none⟩) (by show x + 3 ≠ x + 2; omega) _, (World.cell?_setCell_far _ _ _ _ (by show x + 2 ≠ bg; have := BG.out; omega)).trans hHeld.2.2.2.1, by simpa [World.setCell] using hHeld.2.2.2.2⟩ (fun hHeld => ?_)
        clear hK K
        try simp only [Act.put, List.setIfInBounds_toArray, List.set_cons_zero, List.set_cons_succ]
        refine wpAnyH_done (by kernel_rfl) ?_ _
        clear lN
      --ENDWALK13
        refine hK7 _ _ ?_
        have f5 : Fr (fun j => j = x + 2) W2 (W5.setCell ⟨x + 2, k, none⟩ (.int .i64 d0)) := (FF.out.mono fun _ _ e => e.elim).trans (fr_set _)
        have n5 := NN.out.set k d0
        rw [show k = l.length - 1 - i from by omega, rep_set _ _ _ _ hi, ← show k = l.length - 1 - i from by omega] at n5
        obtain ⟨W6, hW6⟩ : ∃ W6, W6 = (W5.setCell ⟨x + 2, k, none⟩ (.int .i64 d0)).setCell ⟨x + 3, 0, none⟩ (.slice (some ⟨bg, 0, none⟩) q.length bc) := ⟨_, rfl⟩
        have v5 := hHeld.2.2.1.cell
        have l5 := hHeld.2.2.1.lt
        have g5 := hHeld.2.2.1.free
        have fs6 : Fr (fun j => j = x + 3) (W5.setCell ⟨x + 2, k, none⟩ (.int .i64 d0)) W6 := by rw [hW6]; exact fr_set _
        have f6 : Fr (fun j => j = x + 2 ∨ j = x + 3) W2 W6 := (f5.mono fun _ _ e => .inl e).trans (fs6.mono fun _ _ e => .inr e)
        have n6 := n5.frame fs6 (by omega)
        have S6 := Lib.hid (show V W6 x 60 (.slice (some ⟨x + 2, 0, none⟩) l.length l.length) ∧ W6.cell? ⟨x + 2, k, none⟩ = some (.int .i64 d0) ∧ x + 2 < W6.heap.size ∧ V W6 (x + 1) 3 (.int .i64 all) from by
          refine ⟨hHeld.1.fr fs6 (by omega), ?_, n6.lt, hHeld.2.1.fr fs6 (by omega)⟩
          have hj := n6.cellD k (by have := HB.out.2.2.2.2.2.1; simp; omega)
          rw [hj]
          congr 3
          rw [List.getD, List.getElem?_append_right (by simp; omega)]
          simp only [List.length_replicate]
          rw [show k - (l.length - (i + 1)) = 0 by omega]
          rfl)
        have DONE := Lib.hid (fun (ac : Act) (W : World) (f : Fr (fun _ => False) W6 W) (v : V W (x + 1) 3 (.int .i64 all)) => show roundTo (Zi (x + 5) x (x + 2) (x + 3) l (T.wth t, (T.put t).length) w4) (fun j => j = x ∨ j = x + 1 ∨ j = x + 2 ∨ j = x + 3) Y i W2 .normal ac (W.setCell ⟨x + 1, 0, none⟩ (.int .i64 all1)) from by
          obtain ⟨h1, h2, h3, h4, h5, h6, h8, h9⟩ := HB.out
          have f1 : Fr (fun j => j = x + 1) W6 (W.setCell ⟨x + 1, 0, none⟩ (.int .i64 all1)) := (f.mono fun _ _ e => e.elim).trans (fr_set _)
          have v3 : V W6 (x + 3) 60 (.slice (some ⟨bg, 0, none⟩) q.length bc) := by rw [hW6]; exact hHeld.2.2.1.set _
          have sk : Sk1 W6 (x + 5) 3 (.slice (some ⟨bg, 0, none⟩) q.length bc) (q.map fun (n : Nat) => Value.int .i64 (n : Int)) := by
            refine Sk1.fr (POP.out) f6 (fun j e => ?_)
            injection e with e
            have e : bg = j := e
            have := BG.out
            omega
          refine Z2.out.step (fun j e => by have := (HY.out j e).1; omega) ac (S6.out.1.fr f1 (by omega)) (v.set _) (v3.fr f1 (by omega)) (bh := q) (sk.fr f1 (fun j e => ?_)) (acc := d0 :: acc) (n6.frame f1 (by omega)) (by simp [h6]) (by rw [HA1.out.1]; exact HM1.out) (by simp only [List.length_cons] at h8; omega) (fun m hm => h9 m (List.mem_cons_of_mem _ hm)) (by omega) ((f6.mono fun j _ e => ?_).trans (f1.mono fun j _ e => .inl (.inr (.inl e)))) (fun j e => .inl ((h4 j).2 e))
          · injection e with e
            have e : bg = j := e
            have := BG.out
            omega
          · rcases e with e | e
            · exact .inl (.inr (.inr (.inl e)))
            · exact .inl (.inr (.inr (.inr e))))
        have HW6 := Lib.hid hW6
        clear hHeld FF NN f5 n5 hW6 fs6 f6 n6
        refine wpIn_seq_k fun K8 hK8 => ?_
        refine round_region (by kernel_rfl) (fun ⟨_, _, hh⟩ => hh) ?_
        go_wp2
        rw [← HW6.out]
      --WALK15
        refine round_region_held (S := fun W => V W x 60 (.slice (some ⟨x + 2, 0, none⟩) l.length l.length) ∧ (W.cell? ⟨x + 2, k, none⟩ = some (.int .i64 d0) ∧ x + 2 < W.heap.size)) (by kernel_rfl) (by kernel_rfl) (fun ⟨_, _, hh⟩ => hh) ⟨S6.out.1, S6.out.2.1, S6.out.2.2.1⟩ (fun hHeld => ?_)
        have FF := Lib.hid (show Fr (fun _ => False) W6 W6.drew from (Fr.refl _ W6).drew)
        have VV := Lib.hid (show V W6.drew (x + 1) 3 (.int .i64 all) from S6.out.2.2.2)
        generalize W6.drew = W7 at *
        refine held_take 1 49 (v := .slice (some ⟨x + 2, 0, none⟩) l.length l.length) rfl rfl (by kernel_rfl) (by kernel_rfl) (by kernel_rfl) (fun _ _ _ h => h) (by rfl) ?hzc15 hHeld ?rezc15
        case hzc15 => (intro W hSw; have hS0 := hSw.1.cell; have hL0 := hSw.1.lt; clear hSw; go_simp; try with_reducible rfl)
        try simp only [Act.put, List.setIfInBounds_toArray, List.set_cons_zero, List.set_cons_succ]
        refine held_take 2 50 (v := .int .i64 k) rfl rfl (by kernel_rfl) (by kernel_rfl) (by kernel_rfl) (fun _ _ _ h => h) (by rfl) ?hzc16 hHeld ?rezc16
        case hzc16 => (intro W hSw; clear hSw; go_simp; try with_reducible rfl)
        try simp only [Act.put, List.setIfInBounds_toArray, List.set_cons_zero, List.set_cons_succ]
        refine held_take 3 51 (v := .pointer (some ⟨x + 2, k, none⟩)) rfl rfl (by kernel_rfl) (by kernel_rfl) (by kernel_rfl) (fun _ _ _ h => h) (by rfl) ?hzc17 hHeld ?rezc17
        case hzc17 => (intro W hSw; clear hSw; go_simp; try with_reducible rfl)
        try simp only [Act.put, List.setIfInBounds_toArray, List.set_cons_zero, List.set_cons_succ]
        refine held_take 4 52 (v := .int .i64 d0) rfl rfl (by kernel_rfl) (by kernel_rfl) (by kernel_rfl) (fun _ _ _ h => h) (by rfl) ?hzc18 hHeld ?rezc18
        case hzc18 => (intro W hSw; have hS0 := hSw.2.1; have hL0 := hSw.2.2; clear hSw; go_simp; try with_reducible rfl)
        try simp only [Act.put, List.setIfInBounds_toArray, List.set_cons_zero, List.set_cons_succ]
        refine wpAnyH_ready (rs := [0, 5]) (by kernel_rfl) (by simp) ?_
        refine AllReadyH.cons rfl (fun K hK => ?_) (AllReadyH.cons rfl (fun K hK => ?_) AllReadyH.nil)
        · have cV := VV.out.cell
          go_simp
          clear cV
          refine hK.out _ _ hHeld (fun hHeld => ?_)
          clear hK K
          try simp only [Act.put, List.setIfInBounds_toArray, List.set_cons_zero, List.set_cons_succ]
          refine wpAnyH_ready (rs := [5]) (by kernel_rfl) (by simp) ?_
          refine AllReadyH.cons rfl (fun K hK => ?_) AllReadyH.nil
          go_simp
          refine (HDD.out _).mono ?_
          rintro e u ⟨rfl, bu⟩
          have nF := Lib.hid (FF.out.trans (Fr.ofBelow bu))
          have nV := Lib.hid (VV.out.bel bu VV.out.lt)
          have nu := And.intro (hHeld.1.bel bu hHeld.1.lt) (And.intro (cells_below bu _ _ _ hHeld.2.1) (Nat.lt_of_lt_of_le hHeld.2.2 bu.size))
          clear FF VV hHeld bu
          have FF := nF
          have VV := nV
          clear nF nV
          refine hK.out _ _ nu (fun hHeld => ?_)
          clear hK K
          try simp only [Act.put, List.setIfInBounds_toArray, List.set_cons_zero, List.set_cons_succ]
          refine held_take 6 54 (v := .int .i64 (hl : Nat)) rfl rfl (by kernel_rfl) (by kernel_rfl) (by kernel_rfl) (fun _ _ _ h => h) (by rfl) ?hzc19 hHeld ?rezc19
          case hzc19 => (intro W hSw; clear hSw; go_simp; try with_reducible rfl)
          try simp only [Act.put, List.setIfInBounds_toArray, List.set_cons_zero, List.set_cons_succ]
          refine held_take 7 55 (v := .int .i64 (all1 : Nat)) rfl rfl (by kernel_rfl) (by kernel_rfl) (by kernel_rfl) (fun _ _ _ h => h) (by rfl) ?hzc20 hHeld ?rezc20
          case hzc20 => (intro W hSw; clear hSw; go_simp; try with_reducible rfl)
          try simp only [Act.put, List.setIfInBounds_toArray, List.set_cons_zero, List.set_cons_succ]
          refine wpAnyH_ready (rs := [8]) (by kernel_rfl) (by simp) ?_
          refine AllReadyH.cons rfl (fun K hK => ?_) AllReadyH.nil
          have cV := VV.out.cell
          have lV := VV.out.lt
          have fV := VV.out.free
          go_simp
          clear cV
          refine hK.out _ _ ⟨hHeld.1.far (p := ⟨x + 1, 0, none⟩) (by show x ≠ x + 1; omega) _, (World.cell?_setCell_far _ _ _ _ (by show x + 1 ≠ x + 2; omega)).trans hHeld.2.1, by simpa [World.setCell] using hHeld.2.2⟩ (fun hHeld => ?_)
          clear hK K
          try simp only [Act.put, List.setIfInBounds_toArray, List.set_cons_zero, List.set_cons_succ]
          refine wpAnyH_done (by kernel_rfl) ?_ _
          clear lV fV
          exact DONE.out { tmps := #[], defers := [] } _ FF.out VV.out
        · go_simp
          refine (HDD.out _).mono ?_
          rintro e u ⟨rfl, bu⟩
          have nF := Lib.hid (FF.out.trans (Fr.ofBelow bu))
          have nV := Lib.hid (VV.out.bel bu VV.out.lt)
          have nu := And.intro (hHeld.1.bel bu hHeld.1.lt) (And.intro (cells_below bu _ _ _ hHeld.2.1) (Nat.lt_of_lt_of_le hHeld.2.2 bu.size))
          clear FF VV hHeld bu
          have FF := nF
          have VV := nV
          clear nF nV
          refine hK.out _ _ nu (fun hHeld => ?_)
          clear hK K
          try simp only [Act.put, List.setIfInBounds_toArray, List.set_cons_zero, List.set_cons_succ]
          refine held_take 6 54 (v := .int .i64 (hl : Nat)) rfl rfl (by kernel_rfl) (by kernel_rfl) (by kernel_rfl) (fun _ _ _ h => h) (by rfl) ?hzc21 hHeld ?rezc21
          case hzc21 => (intro W hSw; clear hSw; go_simp; try with_reducible rfl)
          try simp only [Act.put, List.setIfInBounds_toArray, List.set_cons_zero, List.set_cons_succ]
          refine wpAnyH_ready (rs := [0]) (by kernel_rfl) (by simp) ?_
          refine AllReadyH.cons rfl (fun K hK => ?_) AllReadyH.nil
          have cV := VV.out.cell
          go_simp
          clear cV
          refine hK.out _ _ hHeld (fun hHeld => ?_)
          clear hK K
          try simp only [Act.put, List.setIfInBounds_toArray, List.set_cons_zero, List.set_cons_succ]
          refine held_take 7 55 (v := .int .i64 (all1 : Nat)) rfl rfl (by kernel_rfl) (by kernel_rfl) (by kernel_rfl) (fun _ _ _ h => h) (by rfl) ?hzc22 hHeld ?rezc22
          case hzc22 => (intro W hSw; clear hSw; go_simp; try with_reducible rfl)
          try simp only [Act.put, List.setIfInBounds_toArray, List.set_cons_zero, List.set_cons_succ]
          refine wpAnyH_ready (rs := [8]) (by kernel_rfl) (by simp) ?_
          refine AllReadyH.cons rfl (fun K hK => ?_) AllReadyH.nil
          have cV := VV.out.cell
          have lV := VV.out.lt
          have fV := VV.out.free
          go_simp
          clear cV
          refine hK.out _ _ ⟨hHeld.1.far (p := ⟨x + 1, 0, none⟩) (by show x ≠ x + 1; omega) _, (World.cell?_setCell_far _ _ _ _ (by show x + 1 ≠ x + 2; omega)).trans hHeld.2.1, by simpa [World.setCell] using hHeld.2.2⟩ (fun hHeld => ?_)
          clear hK K
          try simp only [Act.put, List.setIfInBounds_toArray, List.set_cons_zero, List.set_cons_succ]
          refine wpAnyH_done (by kernel_rfl) ?_ _
          clear lV fV
          exact DONE.out { tmps := #[], defers := [] } _ FF.out VV.out
      --ENDWALK15
  case hdone =>
    intro D Y W hD hDl hYD hZi hdef
    obtain ⟨bh, all, acc, bv, h1, h2, h3, h4, h5, h6, h7, h8, h9⟩ := hZi.ex
    rw [show l.reverse.drop l.length = [] from List.drop_eq_nil_of_le (by simp), bm] at h7
    injection h7 with h7
    injection h7 with e1 e2
    subst e1 e2
    rw [Nat.sub_self, List.replicate_zero, List.nil_append] at h5
    have d1 := hZi.v1.cell
    have l1 := hZi.v1.lt
    have g1 := hZi.v1.free
    have d2 := h1.cell
    have l2 := h1.lt
    have g2 := h1.free
    have R9 := Lib.hid (And.intro hZi.v1 (And.intro h1 (And.intro h5 (And.intro hZi.fr (And.intro hdef (And.intro hD hDl))))))
    clear hZi h1 h2 h3 h4 h5 h6 h8 h9 hdef
    go_wp2_with fail
    --WALK16
    refine wp_region_held_drew (S := fun W => V W x 60 (.slice (some ⟨x + 2, 0, none⟩) n n) ∧ V W (x + 1) 3 (.int .i64 ((T.put t).length : Nat))) (by kernel_rfl) ⟨by have := R9.out.1; rw [← HN.out] at this; exact this, R9.out.2.1⟩ (fun hHeld => ?_)
    refine wpAnyH_ready (rs := [0, 1]) (by kernel_rfl) (by simp) ?_
    refine AllReadyH.cons rfl (fun K hK => ?_) (AllReadyH.cons rfl (fun K hK => ?_) AllReadyH.nil)
    · have cV := hHeld.1.cell
      have lV := hHeld.1.lt
      go_simp
      clear cV lV
      refine hK.out _ _ hHeld (fun hHeld => ?_)
      clear hK K
      try simp only [Act.put, List.setIfInBounds_toArray, List.set_cons_zero, List.set_cons_succ]
      refine wpAnyH_ready (rs := [1, 2]) (by kernel_rfl) (by simp) ?_
      refine AllReadyH.cons rfl (fun K hK => ?_) (AllReadyH.cons rfl (fun K hK => ?_) AllReadyH.nil)
      · have cV := hHeld.2.cell
        have lV := hHeld.2.lt
        go_simp
        clear cV lV
        refine hK.out _ _ hHeld (fun hHeld => ?_)
        clear hK K
        try simp only [Act.put, List.setIfInBounds_toArray, List.set_cons_zero, List.set_cons_succ]
        refine wpAnyH_ready (rs := [2]) (by kernel_rfl) (by simp) ?_
        refine AllReadyH.cons rfl (fun K hK => ?_) AllReadyH.nil
        have cV := hHeld.1.cell
        have lV := hHeld.1.lt
        have fV := hHeld.1.free
        go_simp
        clear cV lV fV
        refine hK.out _ _ ⟨hHeld.1.set _, hHeld.2.far (p := ⟨x, 0, none⟩) (by show x + 1 ≠ x; omega) _⟩ (fun hHeld => ?_)
        clear hK K
        try simp only [Act.put, List.setIfInBounds_toArray, List.set_cons_zero, List.set_cons_succ]
        refine wpAnyH_ready (rs := [3]) (by kernel_rfl) (by simp) ?_
        refine AllReadyH.cons rfl (fun K hK => ?_) AllReadyH.nil
        have cV := hHeld.2.cell
        have lV := hHeld.2.lt
        have fV := hHeld.2.free
        go_simp
        clear cV lV fV
        refine hK.out _ _ ⟨hHeld.1.far (p := ⟨x + 1, 0, none⟩) (by show x ≠ x + 1; omega) _, hHeld.2.set _⟩ (fun hHeld => ?_)
        clear hK K
        try simp only [Act.put, List.setIfInBounds_toArray, List.set_cons_zero, List.set_cons_succ]
        refine wpAnyH_done (by kernel_rfl) ?_ _
        go_wp2_with fail
        have fF : Fr (fun j => j = x ∨ j = x + 1) W ((W.setCell ⟨x, 0, none⟩ (.slice (some ⟨x + 2, 0, none⟩) n n)).setCell ⟨x + 1, 0, none⟩ (.int .i64 ((T.put t).length : Nat))).drew := (((fr_set (g := x) _).mono fun _ _ e => .inl e).trans ((fr_set (g := x + 1) _).mono fun _ _ e => .inr e)).drew
        obtain ⟨WF, hWF⟩ : ∃ WF, WF = ((W.setCell ⟨x, 0, none⟩ (.slice (some ⟨x + 2, 0, none⟩) n n)).setCell ⟨x + 1, 0, none⟩ (.int .i64 ((T.put t).length : Nat))).drew := ⟨_, rfl⟩
        have V1 : V WF x 60 (.slice (some ⟨x + 2, 0, none⟩) n n) := by rw [hWF]; exact hHeld.1
        have V2 : V WF (x + 1) 3 (.int .i64 ((T.put t).length : Nat)) := by rw [hWF]; exact hHeld.2
        rw [← hWF] at fF ⊢
        obtain ⟨r1, r2, r3, r4, r5, r6, r7⟩ := R9.out
        have z4 := Z4.out
        have hdF : WF.heap[D]? = some (.deferred (some [])) := (fF.block D r7 (by omega)).trans r5
        have fD : Fr (fun j => j = D) WF (WF.putObj D (.deferred none)) := fr_putObj (S := fun j => j = D) (Fr.refl _ WF) (.inl rfl) _
        have q1 := (V1.fr fD (by omega)).cell
        have q2 := (V2.fr fD (by omega)).cell
        have q3 := (r3.frame fF (by omega)).frame fD (by omega)
        have q4 : Below x w (WF.putObj D (.deferred none)) := by
          have hw := F4.out.size
          have e1 : Fr (fun j => x ≤ j) w w4 := ⟨F4.out.os, F4.out.tape, F4.out.output, F4.out.size, fun j hj hn => F4.out.block j (by omega)⟩
          exact ((((e1.then_ r4 fun j _ e => by omega).then_ fF fun j _ e => by omega).then_ fD fun j _ e => by omega)).below (by rw [HX.out]; exact Nat.le_refl _) fun j e => e
        refine ⟨by simp, .inl ⟨_, _, rfl, run_takeDeferred hdF, ?_⟩⟩
        refine ⟨.tuple #[.slice (some ⟨x + 2, 0, none⟩) n n, .int .i64 ((T.put t).length : Nat)], by simp [results, Try.results31, go_sem, q1, q2], x + 2, rfl, q3, by rw [← HX.out]; exact q4⟩
      · have cV := hHeld.1.cell
        have lV := hHeld.1.lt
        have fV := hHeld.1.free
        go_simp
        clear cV lV fV
        refine hK.out _ _ ⟨hHeld.1.set _, hHeld.2.far (p := ⟨x, 0, none⟩) (by show x + 1 ≠ x; omega) _⟩ (fun hHeld => ?_)
        clear hK K
        try simp only [Act.put, List.setIfInBounds_toArray, List.set_cons_zero, List.set_cons_succ]
        refine wpAnyH_ready (rs := [1]) (by kernel_rfl) (by simp) ?_
        refine AllReadyH.cons rfl (fun K hK => ?_) AllReadyH.nil
        have cV := hHeld.2.cell
        have lV := hHeld.2.lt
        go_simp
        clear cV lV
        refine hK.out _ _ hHeld (fun hHeld => ?_)
        clear hK K
        try simp only [Act.put, List.setIfInBounds_toArray, List.set_cons_zero, List.set_cons_succ]
        refine wpAnyH_ready (rs := [3]) (by kernel_rfl) (by simp) ?_
        refine AllReadyH.cons rfl (fun K hK => ?_) AllReadyH.nil
        have cV := hHeld.2.cell
        have lV := hHeld.2.lt
        have fV := hHeld.2.free
        go_simp
        clear cV lV fV
        refine hK.out _ _ ⟨hHeld.1.far (p := ⟨x + 1, 0, none⟩) (by show x ≠ x + 1; omega) _, hHeld.2.set _⟩ (fun hHeld => ?_)
        clear hK K
        try simp only [Act.put, List.setIfInBounds_toArray, List.set_cons_zero, List.set_cons_succ]
        refine wpAnyH_done (by kernel_rfl) ?_ _
        go_wp2_with fail
        have fF : Fr (fun j => j = x ∨ j = x + 1) W ((W.setCell ⟨x, 0, none⟩ (.slice (some ⟨x + 2, 0, none⟩) n n)).setCell ⟨x + 1, 0, none⟩ (.int .i64 ((T.put t).length : Nat))).drew := (((fr_set (g := x) _).mono fun _ _ e => .inl e).trans ((fr_set (g := x + 1) _).mono fun _ _ e => .inr e)).drew
        obtain ⟨WF, hWF⟩ : ∃ WF, WF = ((W.setCell ⟨x, 0, none⟩ (.slice (some ⟨x + 2, 0, none⟩) n n)).setCell ⟨x + 1, 0, none⟩ (.int .i64 ((T.put t).length : Nat))).drew := ⟨_, rfl⟩
        have V1 : V WF x 60 (.slice (some ⟨x + 2, 0, none⟩) n n) := by rw [hWF]; exact hHeld.1
        have V2 : V WF (x + 1) 3 (.int .i64 ((T.put t).length : Nat)) := by rw [hWF]; exact hHeld.2
        rw [← hWF] at fF ⊢
        obtain ⟨r1, r2, r3, r4, r5, r6, r7⟩ := R9.out
        have z4 := Z4.out
        have hdF : WF.heap[D]? = some (.deferred (some [])) := (fF.block D r7 (by omega)).trans r5
        have fD : Fr (fun j => j = D) WF (WF.putObj D (.deferred none)) := fr_putObj (S := fun j => j = D) (Fr.refl _ WF) (.inl rfl) _
        have q1 := (V1.fr fD (by omega)).cell
        have q2 := (V2.fr fD (by omega)).cell
        have q3 := (r3.frame fF (by omega)).frame fD (by omega)
        have q4 : Below x w (WF.putObj D (.deferred none)) := by
          have hw := F4.out.size
          have e1 : Fr (fun j => x ≤ j) w w4 := ⟨F4.out.os, F4.out.tape, F4.out.output, F4.out.size, fun j hj hn => F4.out.block j (by omega)⟩
          exact ((((e1.then_ r4 fun j _ e => by omega).then_ fF fun j _ e => by omega).then_ fD fun j _ e => by omega)).below (by rw [HX.out]; exact Nat.le_refl _) fun j e => e
        refine ⟨by simp, .inl ⟨_, _, rfl, run_takeDeferred hdF, ?_⟩⟩
        refine ⟨.tuple #[.slice (some ⟨x + 2, 0, none⟩) n n, .int .i64 ((T.put t).length : Nat)], by simp [results, Try.results31, go_sem, q1, q2], x + 2, rfl, q3, by rw [← HX.out]; exact q4⟩
    · have cV := hHeld.2.cell
      have lV := hHeld.2.lt
      go_simp
      clear cV lV
      refine hK.out _ _ hHeld (fun hHeld => ?_)
      clear hK K
      try simp only [Act.put, List.setIfInBounds_toArray, List.set_cons_zero, List.set_cons_succ]
      refine wpAnyH_ready (rs := [0]) (by kernel_rfl) (by simp) ?_
      refine AllReadyH.cons rfl (fun K hK => ?_) AllReadyH.nil
      have cV := hHeld.1.cell
      have lV := hHeld.1.lt
      go_simp
      clear cV lV
      refine hK.out _ _ hHeld (fun hHeld => ?_)
      clear hK K
      try simp only [Act.put, List.setIfInBounds_toArray, List.set_cons_zero, List.set_cons_succ]
      refine wpAnyH_ready (rs := [2]) (by kernel_rfl) (by simp) ?_
      refine AllReadyH.cons rfl (fun K hK => ?_) AllReadyH.nil
      have cV := hHeld.1.cell
      have lV := hHeld.1.lt
      have fV := hHeld.1.free
      go_simp
      clear cV lV fV
      refine hK.out _ _ ⟨hHeld.1.set _, hHeld.2.far (p := ⟨x, 0, none⟩) (by show x + 1 ≠ x; omega) _⟩ (fun hHeld => ?_)
      clear hK K
      try simp only [Act.put, List.setIfInBounds_toArray, List.set_cons_zero, List.set_cons_succ]
      refine wpAnyH_ready (rs := [3]) (by kernel_rfl) (by simp) ?_
      refine AllReadyH.cons rfl (fun K hK => ?_) AllReadyH.nil
      have cV := hHeld.2.cell
      have lV := hHeld.2.lt
      have fV := hHeld.2.free
      go_simp
      clear cV lV fV
      refine hK.out _ _ ⟨hHeld.1.far (p := ⟨x + 1, 0, none⟩) (by show x ≠ x + 1; omega) _, hHeld.2.set _⟩ (fun hHeld => ?_)
      clear hK K
      try simp only [Act.put, List.setIfInBounds_toArray, List.set_cons_zero, List.set_cons_succ]
      refine wpAnyH_done (by kernel_rfl) ?_ _
      go_wp2_with fail
      have fF : Fr (fun j => j = x ∨ j = x + 1) W ((W.setCell ⟨x, 0, none⟩ (.slice (some ⟨x + 2, 0, none⟩) n n)).setCell ⟨x + 1, 0, none⟩ (.int .i64 ((T.put t).length : Nat))).drew := (((fr_set (g := x) _).mono fun _ _ e => .inl e).trans ((fr_set (g := x + 1) _).mono fun _ _ e => .inr e)).drew
      obtain ⟨WF, hWF⟩ : ∃ WF, WF = ((W.setCell ⟨x, 0, none⟩ (.slice (some ⟨x + 2, 0, none⟩) n n)).setCell ⟨x + 1, 0, none⟩ (.int .i64 ((T.put t).length : Nat))).drew := ⟨_, rfl⟩
      have V1 : V WF x 60 (.slice (some ⟨x + 2, 0, none⟩) n n) := by rw [hWF]; exact hHeld.1
      have V2 : V WF (x + 1) 3 (.int .i64 ((T.put t).length : Nat)) := by rw [hWF]; exact hHeld.2
      rw [← hWF] at fF ⊢
      obtain ⟨r1, r2, r3, r4, r5, r6, r7⟩ := R9.out
      have z4 := Z4.out
      have hdF : WF.heap[D]? = some (.deferred (some [])) := (fF.block D r7 (by omega)).trans r5
      have fD : Fr (fun j => j = D) WF (WF.putObj D (.deferred none)) := fr_putObj (S := fun j => j = D) (Fr.refl _ WF) (.inl rfl) _
      have q1 := (V1.fr fD (by omega)).cell
      have q2 := (V2.fr fD (by omega)).cell
      have q3 := (r3.frame fF (by omega)).frame fD (by omega)
      have q4 : Below x w (WF.putObj D (.deferred none)) := by
        have hw := F4.out.size
        have e1 : Fr (fun j => x ≤ j) w w4 := ⟨F4.out.os, F4.out.tape, F4.out.output, F4.out.size, fun j hj hn => F4.out.block j (by omega)⟩
        exact ((((e1.then_ r4 fun j _ e => by omega).then_ fF fun j _ e => by omega).then_ fD fun j _ e => by omega)).below (by rw [HX.out]; exact Nat.le_refl _) fun j e => e
      refine ⟨by simp, .inl ⟨_, _, rfl, run_takeDeferred hdF, ?_⟩⟩
      refine ⟨.tuple #[.slice (some ⟨x + 2, 0, none⟩) n n, .int .i64 ((T.put t).length : Nat)], by simp [results, Try.results31, go_sem, q1, q2], x + 2, rfl, q3, by rw [← HX.out]; exact q4⟩
    --ENDWALK16
end Go.Proofs.Ytegakecncpfnnaa
