/-
  The contracts of package item's reading: skip, value, text over this seat's translation, and of the document's digit. Conditions: a reading in a block of its own, texts of at most 100,000 bytes.
-/
import Derived.Test.YtdkeickcbpjedaaDoorItmK
import Derived.Test.YtdkeickcbpjedaaDoorItmQ
import Derived.Lib.AsciiSet
import Derived.Deep.Cut
import Derived.Laws.MakeOwn
import Derived.OwnWalk
import Derived.Lib.BufferRead
import Derived.Lib.SlBytesRow
import Derived.Shelf.Strings.SlTrimAscii
namespace Go.Proofs.YtdkeickcbpjedaaDoor
open Go.RowKit

/-- The reading in block b: what is left of the line, and how many items may still come. -/
def Rg (w : World) (b : Nat) (l : List UInt8) (k : Nat) : Prop := w.heap[b]? = some (.cells #[.string (sb l), .int .i64 (k : Int)] 46 (0, 0))
section
variable {w w' : World} {b k : Nat} {l : List UInt8}
theorem Rg.lt (h : Rg w b l k) : b < w.heap.size := lt_of_block h
theorem Rg.c0 (h : Rg w b l k) : w.cell? ⟨b, 0, none⟩ = some (.string (sb l)) := by unfold Rg at h; simp [World.cell?, h]
theorem Rg.c1 (h : Rg w b l k) : w.cell? ⟨b, 1, none⟩ = some (.int .i64 (k : Int)) := by unfold Rg at h; simp [World.cell?, h]
theorem Rg.free (h : Rg w b l k) (i : Nat) : w.frozen? ⟨b, i, none⟩ = false := by unfold Rg at h; simp [World.frozen?, h]
theorem Rg.keep (h : Rg w b l k) (hb : w'.heap[b]? = w.heap[b]?) : Rg w' b l k := hb.trans h
theorem Rg.alloc (h : Rg w b l k) (o : Obj) : Rg (w.alloc o) b l k := h.keep (Below.heap_alloc w o b h.lt)
theorem Rg.bel (h : Rg w b l k) (f : Below w.heap.size w w') : Rg w' b l k := h.keep (f.block b h.lt)
theorem Rg.fr (h : Rg w b l k) {S : Nat → Prop} (f : Fr S w w') (hs : ¬ S b) : Rg w' b l k := h.keep (f.block b h.lt hs)
theorem Rg.far (h : Rg w b l k) {p : Addr} (hp : b ≠ p.block) (v : Value) : Rg (w.setCell p v) b l k := h.keep (Below.heap_setCell w p v b hp)
theorem Rg.rest (h : Rg w b l k) (m : List UInt8) : Rg (w.setCell ⟨b, 0, none⟩ (.string (sb m))) b m k := (set_cells (i := 0) h _).trans rfl
theorem Rg.left (h : Rg w b l k) (m : Nat) : Rg (w.setCell ⟨b, 1, none⟩ (.int .i64 (m : Int))) b l m := (set_cells (i := 1) h _).trans rfl
end

/-- What is cut off by one byte, and whether it is there. -/
def cutl (l : List UInt8) (m : UInt8) : List UInt8 := match l with | [] => [] | a :: r => if a = m then r else a :: r
def cutb (l : List UInt8) (m : UInt8) : Bool := match l with | [] => false | a :: _ => decide (a = m)
theorem trim_one (l : List UInt8) (m : UInt8) : Lib.trimPrefix (sb l).data.toList [m] = cutl l m ∧ Lib.hasPrefix (sb l).data.toList [m] = cutb l m := by
  rcases l with _ | ⟨a, r⟩
  · exact ⟨rfl, rfl⟩
  · by_cases h : a = m
    · subst h; simp [Lib.trimPrefix, Lib.hasPrefix, cutl, cutb, sb]
    · have e : [m].isPrefixOf (a :: r) = false := by
        simp only [List.isPrefixOf, Bool.and_eq_false_iff, beq_eq_false_iff_ne]
        exact .inl (Ne.symm h)
      simp [Lib.trimPrefix, Lib.hasPrefix, cutl, cutb, sb, h, e]

theorem cut_any (l : List UInt8) (m : UInt8) (w : World) :
    Calls Tryd.prog 41 #[.string (sb l), .string ⟨#[m]⟩] w fun e w' => e = .returned (.tuple #[.string (sb (cutl l m)), .bool (cutb l m)]) ∧ w' = w := by
  have := Tryd.strings_CutPrefix (sb l) ⟨#[m]⟩ w
  rw [show (⟨#[m]⟩ : ByteArray).data.toList = [m] from rfl, (trim_one l m).1, (trim_one l m).2] at this
  exact this

theorem skip_any (b : Nat) (l : List UInt8) (k : Nat) (m : UInt8) (w : World) (h : Rg w b l k) :
    Calls Tryd.prog 30 #[.pointer (some ⟨b, 0, none⟩), .string ⟨#[m]⟩] w fun e w' => e = .returned (.bool (cutb l m)) ∧ Rg w' b (cutl l m) k ∧ Fr (fun j => j = b) w w' := by
  have c0 := h.c0
  have f0 := h.free 0
  have lb := h.lt
  have H := Lib.hid h
  clear h
  go_enter Tryd.func30, Tryd.ntmps30
  go_wp2_with fail
  refine (cut_any l m _).mono ?_
  rintro e w1 ⟨rfl, rfl⟩
  go_wp2
  go_ret
  exact ⟨rfl, H.out.rest _, fr_set _⟩

theorem idx_eq (b : UInt8) (h : isd b = true) : Lib.indexByte DG b = (hv b : Int) := by
  have hall : ∀ f : Fin 16, Lib.indexByte DG (dg f.1) = (f.1 : Int) := by decide
  obtain ⟨h1, h2⟩ := dg_hv b h
  have := hall ⟨hv b, h2⟩
  rw [h1] at this
  exact this

theorem value_any (b : UInt8) (w : World) (h : isd b = true) :
    Calls Tryd.prog 43 #[.int .u8 b.toNat] w fun e w' => e = .returned (.int .u8 (hv b)) ∧ w' = w := by
  have h2 := (dg_hv b h).2
  have hI : ∀ W, Calls Tryd.prog 51 #[.string ⟨#[48, 49, 50, 51, 52, 53, 54, 55, 56, 57, 97, 98, 99, 100, 101, 102]⟩, .int .u8 b.toNat] W fun e w' => e = .returned (.int .i64 (hv b)) ∧ w' = W := by
    intro W
    have := Tryd.strings_IndexByte ⟨#[48, 49, 50, 51, 52, 53, 54, 55, 56, 57, 97, 98, 99, 100, 101, 102]⟩ b.toNat W
    rw [show (⟨#[48, 49, 50, 51, 52, 53, 54, 55, 56, 57, 97, 98, 99, 100, 101, 102]⟩ : ByteArray).data.toList = DG from rfl, show ((b.toNat : Int).toNat.toUInt8) = b by simp, idx_eq b h] at this
    exact this
  have HI := Lib.hid hI
  clear hI
  obtain ⟨q, hq⟩ : ∃ q, q = hv b := ⟨_, rfl⟩
  rw [← hq] at h2 HI ⊢
  clear hq
  go_enter Tryd.func43, Tryd.ntmps43
  go_wp2_with fail
  refine (HI.out _).mono ?_
  rintro e w1 ⟨rfl, rfl⟩
  go_wp2
  go_ret
  exact ⟨by go_num, rfl⟩

/-- What the document's digit answers. -/
def dv (b : UInt8) : Int := if isd b then (hv b : Int) else -1
set_option maxRecDepth 20000 in
theorem dv_step (b : UInt8) : ∀ j : Nat, (hj : j < 16) → (∀ i, i < j → dg i ≠ b) → ((dg j).toNat = b.toNat → dv b = (j : Int)) := by
  intro j hj _ he
  have e := UInt8.toNat_inj.1 he
  have h := hv_dg j hj
  rw [e] at h
  rw [dv, if_pos h.2, h.1]
theorem digit_any (b : UInt8) (w : World) :
    Calls Tryd.prog 33 #[.int .u8 b.toNat] w fun e w' => e = .returned (.int .i64 (dv b)) ∧ w' = w := by
  go_enter Tryd.func33, Tryd.ntmps33
  go_wp2
  go_loopw [3] (fun i wr => ∃ j : Nat, j ≤ 16 ∧ i = .int .i64 j ∧ (∀ i, i < j → dg i ≠ b) ∧ wr = w) (fun i _ => 16 - (intOf i).toNat)
  case atStart => exact ⟨0, by omega, rfl, fun i h => absurd h (Nat.not_lt_zero i), rfl⟩
  case round =>
    obtain ⟨j, hj, rfl, hn, rfl⟩ := hrel
    by_cases hlt : j < 16
    · have hx := dgx j hlt
      by_cases he : (dg j).toNat = b.toNat
      · have E := Lib.hid (dv_step b j hlt hn he)
        clear hn
        go_wp2
        go_ret
        rw [E.out]
        exact ⟨rfl, rfl⟩
      · have hn2 : ∀ i, i < j + 1 → dg i ≠ b := fun i hi => by
          rcases Nat.lt_or_eq_of_le (Nat.le_of_lt_succ hi) with h | rfl
          · exact hn i h
          · exact fun e => he (by rw [e])
        have HN := Lib.hid hn2
        clear hn hn2
        go_wp2
        go_roundw
        case rel => exact ⟨j + 1, by omega, by go_num, HN.out, trivial⟩
        case measure => (simp [intOf]) <;> omega
    · obtain rfl : j = 16 := by omega
      have E := Lib.hid (show dv b = -1 by
        rw [dv, if_neg]
        intro h
        obtain ⟨h1, h2⟩ := dg_hv b h
        exact hn _ h2 h1)
      clear hn
      go_wp2
      go_ret
      rw [E.out]
      exact ⟨rfl, rfl⟩

/-- What TrimLeft leaves. -/
def tl (l : List UInt8) : List UInt8 := l.dropWhile isd
def hd (l : List UInt8) : List UInt8 := l.takeWhile isd
theorem hd_tl (l : List UInt8) : hd l ++ tl l = l := List.takeWhile_append_dropWhile
theorem tl_nd (l : List UInt8) : nd (tl l) := by
  intro b q h
  unfold tl at h
  have h2 : (l.dropWhile isd) ≠ [] := by rw [h]; simp
  have h3 := List.head_dropWhile_not isd h2
  simpa [h] using h3
theorem sb_at (l : List UInt8) (i : Nat) (h : i < (sb l).size) : (sb l)[i] = l[i]'(by rwa [sb_size] at h) := rfl
theorem hd_at (l : List UInt8) (i : Nat) (h : i < (hd l).length) (h2 : i < l.length) : l[i] = (hd l)[i] := by
  have := hd_tl l
  have e : l[i]? = (hd l)[i]? := by
    conv => lhs; rw [← this]
    rw [List.getElem?_append_left h]
  rw [List.getElem?_eq_getElem h2, List.getElem?_eq_getElem h] at e
  exact Option.some.inj e
theorem hd_all (l : List UInt8) : ∀ i (h : i < (hd l).length), isd (hd l)[i] = true := fun i h => by
  have := List.all_takeWhile (p := isd) (l := l)
  exact List.all_eq_true.1 this _ (List.getElem_mem h)

theorem trimLeft_any (l : List UInt8) (w : World) :
    Calls Tryd.prog 42 #[.string (sb l), .string ⟨#[48, 49, 50, 51, 52, 53, 54, 55, 56, 57, 97, 98, 99, 100, 101, 102]⟩] w fun e w' => e = .returned (.string (sb (tl l))) ∧ Below w.heap.size w w' := by
  have := Any.strings_TrimLeft_laid Tryd.lays161 (by kernel_rfl) (sb l) ⟨#[48, 49, 50, 51, 52, 53, 54, 55, 56, 57, 97, 98, 99, 100, 101, 102]⟩ w (by decide) (ascii_of_all (by decide))
  exact this

/-- Pairs of digits as bytes. -/
def dec : List UInt8 → List UInt8
  | a :: b :: r => two a b :: dec r
  | _ => []
theorem dec_length : ∀ l : List UInt8, (dec l).length = l.length / 2
  | [] => rfl
  | [_] => by simp [dec]
  | a :: b :: r => by simp [dec, dec_length r]; omega
theorem dec_hexs : ∀ l : List UInt8, l.length % 2 = 0 → (∀ i (h : i < l.length), isd l[i] = true) → hexs (dec l) = l
  | [], _, _ => rfl
  | [_], h, _ => by simp at h
  | a :: b :: r, h, hd => by
    have h1 := two_hex a b (hd 0 (by simp)) (hd 1 (by simp))
    have h2 := dec_hexs r (by simp at h; omega) (fun i hi => hd (i + 2) (by simp; omega))
    simp only [hexs, List.cons.injEq] at h1
    simp only [dec, hexs, h1.1, h1.2.1, h2]
theorem dec_take : ∀ (l : List UInt8) (j : Nat) (h : 2 * j + 1 < l.length), (dec l).take (j + 1) = (dec l).take j ++ [two l[2 * j] l[2 * j + 1]]
  | a :: b :: r, 0, _ => rfl
  | a :: b :: r, j + 1, h => by
    have := dec_take r j (by simp at h; omega)
    simp only [dec, List.take_succ_cons, this, List.cons_append, List.cons.injEq, true_and]
    rfl
  | [], j, h => by simp at h
  | [_], j, h => by simp at h

theorem value_q (b : UInt8) (w : World) (h : isd b = true) :
    Calls Tryd.prog 43 #[.int .u8 b.toNat] w fun e w' => e = .returned (.int .u8 (hv b)) ∧ w = w' :=
  (value_any b w h).mono fun _ _ ⟨h1, h2⟩ => ⟨h1, h2.symm⟩
theorem digit_q (b : UInt8) (w : World) :
    Calls Tryd.prog 33 #[.int .u8 b.toNat] w fun e w' => e = .returned (.int .i64 (dv b)) ∧ w = w' :=
  (digit_any b w).mono fun _ _ ⟨h1, h2⟩ => ⟨h1, h2.symm⟩

theorem conv_own {w : World} {B n : Nat} {v : Value} {l : List UInt8} (h : w.ownsRow B 5 1 v n (Lib.byteCells l)) (hn : l.length = n) (h0 : 0 < n) :
    (convert 40 9 v).run Tryd.prog w = .ok (.string (sb l)) w := by
  rcases h.2 with ⟨_, h1⟩ | ⟨g, cap, cur, rfl, _, hg, _, _, _, ht⟩
  · omega
  · have hb : Lib.Bytes w g 0 (sb l) := by
      intro i hi
      rw [sb_size] at hi
      have := Lib.bytes_of_row (l := l) hg (by rw [← Nat.mul_one l.length, hn]; exact ht) i hi
      rw [Addr.add_lit] at this
      rw [this]
      rfl
    have := Lib.run_convert_whole (P := Tryd.prog) w 40 5 9 Tryd.underlying40 Tryd.underlying5 Tryd.underlying9 g 0 (sb l) hb cap
    rwa [sb_size, hn] at this

set_option maxRecDepth 20000 in
theorem or16 (a b : Nat) (ha : a < 16) (hb : b < 16) : bits BinOp.or IntKind.u8 ((a : Int) * 16) (b : Int) = ((16 * a + b : Nat) : Int) := by
  have : ∀ f g : Fin 16, bits BinOp.or IntKind.u8 ((f.1 : Int) * 16) (g.1 : Int) = ((16 * f.1 + g.1 : Nat) : Int) := by decide
  exact this ⟨a, ha⟩ ⟨b, hb⟩

/-- What text answers and leaves. -/
def TextPost (l : List UInt8) (k b : Nat) (w : World) (e : Ending) (w' : World) : Prop :=
  Fr (fun j => j = b) w w' ∧
  ((∃ r, l = 45 :: r ∧ e = .returned (.tuple #[.string ⟨#[]⟩, .bool true]) ∧ Rg w' b r k) ∨
   ((∀ r, l ≠ 45 :: r) ∧ (hd l).length % 2 = 0 ∧ hd l ≠ [] ∧ e = .returned (.tuple #[.string (sb (dec (hd l))), .bool true]) ∧ Rg w' b (tl l) k) ∨
   ((∀ r, l ≠ 45 :: r) ∧ ((hd l).length % 2 ≠ 0 ∨ hd l = []) ∧ e = .returned (.tuple #[.string ⟨#[]⟩, .bool false]) ∧ Rg w' b l k))

set_option maxRecDepth 20000 in
set_option maxHeartbeats 1000000 in
theorem text_rd (b : Nat) (l : List UInt8) (k : Nat) (w : World) (h : Rg w b l k) (hl : l.length ≤ 100000) :
    Calls Tryd.prog 32 #[.pointer (some ⟨b, 0, none⟩)] w fun e w' => TextPost l k b w e w' := by
  have H := Lib.hid h
  clear h
  go_enter Tryd.func32, Tryd.ntmps32
  go_wp2_with fail
  refine (skip_any b l k 45 _ H.out).mono ?_
  rintro e w1 ⟨rfl, h1, f1⟩
  have H1 := Lib.hid h1
  have F1 := Lib.hid f1
  clear h1 f1
  cases hc : cutb l 45
  case true =>
    obtain ⟨r, rfl⟩ : ∃ r, l = 45 :: r := by
      rcases l with _ | ⟨a, r⟩
      · cases hc
      · exact ⟨r, by rw [of_decide_eq_true hc]⟩
    have H2 := H1.out
    rw [show cutl (45 :: r) 45 = r by simp [cutl]] at H2
    have R := Lib.hid (And.intro F1.out H2)
    clear hc hl H2
    go_wp2
    go_ret2
    exact ⟨R.out.1, .inl ⟨r, rfl, rfl, R.out.2⟩⟩
  case false =>
    have hne : ∀ r, l ≠ 45 :: r := by
      rintro r rfl
      simp [cutb] at hc
    have hcl : cutl l 45 = l := by
      rcases l with _ | ⟨a, r⟩
      · rfl
      · simp only [cutb, decide_eq_false_iff_not] at hc
        simp [cutl, hc]
    have H2 := H1.out
    rw [hcl] at H2
    have H1 := Lib.hid H2
    have HNE := Lib.hid hne
    have c0 := H2.c0
    have f0 := H2.free 0
    have lb := H2.lt
    clear hne hc hcl H2
    have zl : (sb l).size = l.length := sb_size l
    have zt : (sb (tl l)).size = (tl l).length := sb_size _
    have hn : (hd l).length + (tl l).length = l.length := by rw [← List.length_append, hd_tl]
    obtain ⟨n, hnn⟩ : ∃ n, n = (hd l).length := ⟨_, rfl⟩
    have HNN := Lib.hid hnn
    rw [← hnn] at hn
    clear hnn
    go_wp2_with fail
    refine (trimLeft_any l _).mono ?_
    rintro e w2 ⟨rfl, b2⟩
    have H2 := Lib.hid (H1.out.bel b2)
    have F2 := Lib.hid (F1.out.trans (Fr.ofBelow b2))
    clear b2 c0 f0 lb H1
    have c0 := H2.out.c0
    have f0 := H2.out.free 0
    have lb := H2.out.lt
    have d1 : (l.length : Int) - ((tl l).length : Int) = (n : Int) := by omega
    go_upto_region 5 with fail
    clear d1 zt
    by_cases h0 : n = 0
    · have R := Lib.hid (show TextPost l k b w (.returned (.tuple #[.string ⟨#[]⟩, .bool false])) w2 from ⟨F2.out, .inr (.inr ⟨HNE.out, .inr (by have := HNN.out; exact List.length_eq_zero_iff.1 (by omega)), rfl, H2.out⟩)⟩)
      subst h0
      go_wp2
      go_ret2
      exact R.out
    · have t1 : ((n : Int) == 0) = false := by simpa using h0
      by_cases h2 : n % 2 = 0
      · obtain ⟨m, hm⟩ : ∃ m, n = 2 * m := ⟨n / 2, by omega⟩
        have t2 : ((n : Int) % 2 != 0) = false := by
          simp only [bne_eq_false_iff_eq]
          omega
        have t3 : Int.tdiv (n : Int) 2 = (m : Int) := by rw [Int.tdiv_eq_ediv_of_nonneg (by omega)]; omega
        obtain ⟨i0, hi, hz0, hz1, hz2⟩ := info_parts byte_info
        have mk := run_make (P := Tryd.prog) w2 40 5 i0 _ Tryd.underlying40 hi hz0 .i64 .i64 0 (m : Int) (by omega) (by omega) (by rw [hz2]; omega) (by omega)
        rw [hz1, Int.toNat_natCast, show (0 : Int).toNat = 0 from rfl] at mk
        have own := World.ownsRow_made (base := w2.heap.size) (e := 5) (size := 1) w2 (madeCells (Value.int .u8 0).cells (m * 1)) m (Nat.le_refl _) (by unfold maxLen; omega) (by simp [madeCells])
        have H3 := H2.out.alloc (.cells (madeCells (Value.int .u8 0).cells (m * 1)) 5)
        have F3 := F2.out.alloc (.cells (madeCells (Value.int .u8 0).cells (m * 1)) 5)
        obtain ⟨W3, hW3⟩ : ∃ W3, W3 = w2.alloc (.cells (madeCells (Value.int .u8 0).cells (m * 1)) 5) := ⟨_, rfl⟩
        obtain ⟨g, hg⟩ : ∃ g, g = w2.heap.size := ⟨_, rfl⟩
        rw [← hW3] at mk own H3 F3
        rw [← hg] at mk own
        have hbg : b < g := by rw [hg]; exact lb
        have hgW : g < W3.heap.size := by rw [hW3, hg, size_push]; omega
        have OW := Lib.hid own
        have H3 := Lib.hid H3
        have F3 := Lib.hid F3
        have HM := Lib.hid hm
        have HNP := Lib.hid (show 0 < n by omega)
        have hlen1 : 2 * m ≤ l.length := by omega
        have hgw : w.heap.size ≤ g := by rw [hg]; exact F2.out.size
        have HW := Lib.hid (And.intro hbg (And.intro hgW hgw))
        have I0 := Lib.hid (And.intro hi (And.intro hz0 (And.intro hz1 hz2)))
        clear own hW3 hg H2 F2 c0 f0 lb hm hbg hgW hgw hi hz0 hz1 hz2
        go_wp2
        clear t1 t2 h0 h2 t3 mk
        go_loopw [6, 7] (fun s i wr => ∃ j p : Nat, j ≤ m ∧ p = 2 * j ∧ i = .int .i64 (p : Int) ∧ wr.ownsRow g 5 1 s j (Lib.byteCells ((dec (hd l)).take j)) ∧ Rg wr b l k ∧ Below g W3 wr) (fun _ i _ => 2 * m - (intOf i).toNat)
        case atStart => exact ⟨0, 0, Nat.zero_le _, rfl, rfl, by simpa [Lib.byteCells] using OW.out, H3.out, Below.refl _ _⟩
        case round =>
          obtain ⟨j, p, hj, hp, rfl, hown, hrg, hbel⟩ := hrel
          have OWR := Lib.hid hown
          have HG := Lib.hid hrg
          have HB := Lib.hid hbel
          clear hown hbel
          by_cases hlt : j < m
          · have c0 := hrg.c0
            have lb := hrg.lt
            clear hrg
            have hh1 : p < (hd l).length := by have := HNN.out; have := HM.out; omega
            have hh2 : p + 1 < (hd l).length := by have := HNN.out; have := HM.out; omega
            have hp1 : p + 1 < l.length := by omega
            have hp2 : p + 1 < n := by have := HM.out; omega
            have zp0 : p < (sb l).size := by rw [zl]; omega
            have zp1 : p + 1 < (sb l).size := by rw [zl]; omega
            obtain ⟨x, hx⟩ : ∃ x, (sb l)[p]'zp0 = x := ⟨_, rfl⟩
            obtain ⟨y, hy⟩ : ∃ y, (sb l)[p + 1]'zp1 = y := ⟨_, rfl⟩
            have XY := Lib.hid (show isd x = true ∧ isd y = true ∧ (dec (hd l)).take (j + 1) = (dec (hd l)).take j ++ [two x y] from by
              rw [sb_at, hd_at l _ hh1] at hx
              rw [sb_at, hd_at l _ hh2] at hy
              refine ⟨hx ▸ hd_all l _ hh1, hy ▸ hd_all l _ hh2, ?_⟩
              subst hp
              rw [dec_take _ _ hh2, hx, hy])
            have HP := Lib.hid (And.intro hp (And.intro hj hlt))
            clear hh1 hh2 hp hj hlt
            have i1 : (p : Int) < ((sb l).size : Int) := by omega
            have i2 : (p : Int) + 1 < ((sb l).size : Int) := by omega
            have hln : n ≤ 100000 := by omega
            clear zl hn hlen1
            have VX := Lib.hid (fun W => value_any x W XY.out.1)
            have VY := Lib.hid (fun W => value_any y W XY.out.2.1)
            go_upto_region 11 with fail
            go_quiet (first | (go_at_call 43; exact Calls.quiet_of_same (VX.out _)) | (go_at_call 43; exact Calls.quiet_of_same (VY.out _)))
            obtain ⟨q1, hq1⟩ : ∃ q, q = hv x := ⟨_, rfl⟩
            obtain ⟨q2, hq2⟩ : ∃ q, q = hv y := ⟨_, rfl⟩
            have lq1 : q1 < 16 := by rw [hq1]; exact (dg_hv x XY.out.1).2
            have lq2 : q2 < 16 := by rw [hq2]; exact (dg_hv y XY.out.2.1).2
            have hor : bits BinOp.or IntKind.u8 ((q1 : Int) * 16) (q2 : Int) = ((two x y).toNat : Int) := by
              rw [or16 q1 q2 lq1 lq2]
              congr 1
              simp only [two, ← hq1, ← hq2, UInt8.toNat_ofNat']
              omega
            rw [← hq1, ← hq2]
            have O4 := Lib.hid (show (wr.drewN nq).ownsRow g 5 1 u6 j (Lib.byteCells ((dec (hd l)).take j)) from OWR.out)
            have G4 := Lib.hid (show Rg (wr.drewN nq) b l k from HG.out)
            have B4 := Lib.hid (below_drewN HB.out nq)
            generalize wr.drewN nq = w4 at *
            clear hq1 hq2 OWR HG HB c0 lb hx hy VX VY i1 i2 zp0 zp1
            obtain ⟨hi, hz0, hz1, hz2⟩ := I0.out
            go_wp2_with (at_builtin; refine wpList_append_own _ rfl _ _ 40 rfl g 5 i0 (.int .u8 0) 1 1 Tryd.underlying40 hi hz0 hz1 hz2 rfl (by decide) _ _ _ rfl (O4.out.alloc _) ⟨w4.heap.size, 0, none⟩ 1 1 [.int .u8 (two x y).toNat] rfl rfl ?c1 (by intro u hu; simp at hu; subst hu; rfl) (by unfold maxLen; have := HP.out; omega) (by have := HP.out; omega) (by have := B4.out.size; have := HW.out; simp; omega) ?_)
            case c1 =>
              intro j' u hj
              match j', hj with
              | 0, hj => simp at hj; subst hj; simp [Addr.add]
            intro v' w5 hown' hgrow _
            have e5 : Lib.byteCells ((dec (hd l)).take j) ++ [.int .u8 (two x y).toNat] = Lib.byteCells ((dec (hd l)).take (j + 1)) := by rw [XY.out.2.2, Lib.byteCells_append]; rfl
            rw [e5] at hown'
            have O5 := Lib.hid hown'
            have B5 := Lib.hid ((B4.out.alloc (by have := B4.out.size; have := HW.out; omega) (.cells #[.int .u8 (two x y).toNat] 5)).grown hgrow (by have := B4.out.size; have := HW.out; simp; omega) (fun kk hk => (O4.out.lt kk hk).1))
            have G5 := Lib.hid (H3.out.keep (B5.out.block b HW.out.1))
            clear hown' hgrow e5 hor lq1 lq2 hi hz0 hz1 hz2
            go_wp2
            go_roundw
            case rel => exact ⟨j + 1, p + 2, by have := HP.out; omega, by have := HP.out; omega, by go_num, O5.out, G5.out, B5.out⟩
            case measure => (have h1 := HP.out; have h2 := HM.out; (simp [intOf]) <;> omega)
          · obtain rfl : j = m := by omega
            obtain rfl : p = n := by have := HM.out; omega
            have hlen2 : (dec (hd l)).length = j := by rw [dec_length]; have := HNN.out; have := HM.out; omega
            have own := OWR.out
            rw [List.take_of_length_le (Nat.le_of_eq hlen2)] at own
            have hj0 : 0 < j := by have h1 := HM.out; have h2 := HNP.out; omega
            have F5 : Fr (fun j => j = b) w wr := ⟨HB.out.os.trans F3.out.os, HB.out.tape.trans F3.out.tape, HB.out.output.trans F3.out.output, Nat.le_trans F3.out.size HB.out.size, fun i hi hb => (HB.out.block i (by have := HW.out; omega)).trans (F3.out.block i hi hb)⟩
            have c0 := hrg.c0
            have f0 := hrg.free 0
            have lb := hrg.lt
            have e1 := cell_cells (i := 0) hrg
            have own2 : (wr.setCell ⟨b, 0, none⟩ (.string (sb (tl l)))).ownsRow g 5 1 u6 j (Lib.byteCells (dec (hd l))) :=
              own.kept (row := some b) ⟨rfl, rfl, rfl, by simp [World.setCell], fun k _ hk => Below.heap_setCell _ _ _ _ (fun e => hk (by simp [e]))⟩ (.inr (fun e => by have := (own.lt b e).1; have := HW.out; omega))
            have cv := conv_own own2 hlen2 hj0
            have R := Lib.hid (show TextPost l k b w (.returned (.tuple #[.string (sb (dec (hd l))), .bool true])) (wr.setCell ⟨b, 0, none⟩ (.string (sb (tl l)))) from
              ⟨F5.trans (fr_set _), .inr (.inl ⟨HNE.out, by have := HNN.out; have := HM.out; omega, by intro e; have := HNN.out; rw [e] at this; simp at this; omega, rfl, hrg.rest _⟩)⟩)
            clear own own2 F5 hlen2 e1 hrg
            go_wp2
            go_ret2
            exact R.out
      · have R := Lib.hid (show TextPost l k b w (.returned (.tuple #[.string ⟨#[]⟩, .bool false])) w2 from ⟨F2.out, .inr (.inr ⟨HNE.out, .inl (by have := HNN.out; omega), rfl, H2.out⟩)⟩)
        have t2 : ((n : Int) % 2 != 0) = true := by
          simp only [bne_iff_ne, ne_eq]
          omega
        go_wp2
        go_ret2
        exact R.out
end Go.Proofs.YtdkeickcbpjedaaDoor
