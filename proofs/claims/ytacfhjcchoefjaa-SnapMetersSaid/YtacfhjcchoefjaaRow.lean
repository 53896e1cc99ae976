/-
  Words for rows of bytes in memory, and for conversions between them and strings, over this seat's translation. No condition beyond the sizes named.
-/
import Derived.Test.YtacfhjcchoefjaaRows
import Derived.Test.YtacfhjcchoefjaaFr
import Derived.WalkKit
import Derived.ProofKit
import Derived.OneCell
import Derived.OwnWalk
import Derived.BigQuiet
import Derived.Deep.QuietTactic
import Derived.Lib.Hide
import Derived.Lib.SlBytesRow
import Derived.Laws.IdiomStrings
import Derived.Laws.MakeOwn
import Derived.Sort.WalkB12
namespace Go.Proofs.Ytacfhjcchoefjaa
open Go.RowKit Go.Sort

/-- A text of these bytes. -/
def bs (l : List UInt8) : ByteArray := ⟨l.toArray⟩
theorem bs_size (l : List UInt8) : (bs l).size = l.length := by simp [bs, ByteArray.size]
theorem bs_list (l : List UInt8) : (bs l).data.toList = l := by simp [bs]
theorem bs_nil : bs [] = ByteArray.empty := rfl
theorem bs_of (s : ByteArray) : bs s.data.toList = s := by cases s; simp [bs]
theorem bs_inj {l m : List UInt8} (h : bs l = bs m) : l = m := by
  have := congrArg (fun s => s.data.toList) h
  simpa [bs] using this
theorem bs_append (l m : List UInt8) : bs l ++ bs m = bs (l ++ m) := by
  apply ByteArray.ext
  simp [bs]
theorem bs_get (l : List UInt8) (i : Nat) (h : i < (bs l).size) : (bs l)[i] = l[i]'(by rwa [bs_size] at h) := by
  simp [bs]
  rfl

/-- A byte in memory. -/
def enc8 (b : UInt8) : Value := .int .u8 (b.toNat : Int)
/-- Block g holds these bytes from its head on, and may be written. -/
def Row8 (w : World) (g : Nat) (l : List UInt8) : Prop := Holds enc8 w g 0 l.toArray

theorem row8_iff {w : World} {g : Nat} {l : List UInt8} : Row8 w g l ↔ ∀ i (h : i < l.length), w.cell? ⟨g, i, none⟩ = some (.int .u8 (l[i].toNat : Int)) ∧ w.frozen? ⟨g, i, none⟩ = false := by
  unfold Row8 Holds
  constructor
  · intro h i hi
    have := h i (by simpa using hi)
    simp only [Nat.zero_add] at this
    rw [this.1]
    refine ⟨?_, this.2⟩
    simp [enc8, hi]
  · intro h i hi
    have hi' : i < l.length := by simpa using hi
    have := h i hi'
    simp only [Nat.zero_add]
    rw [this.1]
    refine ⟨?_, this.2⟩
    simp [enc8, hi']

theorem Row8.cell {w : World} {g : Nat} {l : List UInt8} (h : Row8 w g l) (i : Nat) (hi : i < l.length) : w.cell? ⟨g, i, none⟩ = some (.int .u8 (l[i].toNat : Int)) := (row8_iff.1 h i hi).1
theorem Row8.free {w : World} {g : Nat} {l : List UInt8} (h : Row8 w g l) (i : Nat) (hi : i < l.length) : w.frozen? ⟨g, i, none⟩ = false := (row8_iff.1 h i hi).2
theorem Row8.ex {w : World} {g : Nat} {l : List UInt8} (h : Row8 w g l) (i : Nat) (hi : i < l.length) : ∃ x : Int, w.cell? ⟨g, i, none⟩ = .some (.int .u8 x) := ⟨_, h.cell i hi⟩
theorem Row8.keep {w w' : World} {g : Nat} {l : List UInt8} (h : Row8 w g l) (hb : w'.heap[g]? = w.heap[g]?) : Row8 w' g l :=
  row8_iff.2 fun i hi => ⟨(World.cell?_of_block (w := w) hb).trans (h.cell i hi), (World.frozen?_of_block (w := w) hb).trans (h.free i hi)⟩
theorem Row8.drewN {w : World} {g : Nat} {l : List UInt8} (h : Row8 w g l) (n : Nat) : Row8 (w.drewN n) g l := h
theorem Row8.drew {w : World} {g : Nat} {l : List UInt8} (h : Row8 w g l) : Row8 w.drew g l := h
theorem Row8.frame {S : Nat → Prop} {w w' : World} {g : Nat} {l : List UInt8} (h : Row8 w g l) (hf : Fr S w w') (hg : g < w.heap.size) (hs : ¬ S g) : Row8 w' g l := h.keep (hf.block g hg hs)
theorem Row8.below {B : Nat} {w w' : World} {g : Nat} {l : List UInt8} (h : Row8 w g l) (hf : Below B w w') (hg : g < B) : Row8 w' g l := h.keep (hf.block g hg)
theorem Row8.bytes {w : World} {g : Nat} {l : List UInt8} (h : Row8 w g l) : Lib.Bytes w g 0 (bs l) := by
  intro i hi
  rw [bs_get, Nat.zero_add]
  exact h.cell i _

set_option maxRecDepth 100000 in
/-- 'string(b)'. -/
theorem conv8 {w : World} {g n : Nat} {l : List UInt8} (h : Row8 w g l) (hn : l.length = n) (c : Nat) :
    (convert 34 9 (.slice (some ⟨g, 0, none⟩) n c)).run Try.prog w = .ok (.string (bs l)) w := by
  have := Lib.run_convert_whole (P := Try.prog) w 34 5 9 Try.underlying34 Try.underlying5 Try.underlying9 g 0 (bs l) h.bytes c
  rwa [bs_size, hn] at this

theorem row8_of_block {W : World} {g : Nat} {l : List UInt8} {C : Array Value} {t : TypeId} {fr : Nat × Nat} (h : W.heap[g]? = some (.cells C t fr))
    (hc : ∀ i (_ : i < l.length), C[i]? = some (.int .u8 (l[i].toNat : Int))) (hf : ∀ i, i < l.length → ¬ (fr.1 ≤ i ∧ i < fr.2)) : Row8 W g l :=
  row8_iff.2 fun i hi => ⟨by simp [World.cell?, h, hc i hi], by
    have := hf i hi
    simp only [World.frozen?, h]
    simpa using this⟩

set_option maxRecDepth 100000 in
/-- '[]byte(s)'. -/
theorem bytes8 (s : ByteArray) (w : World) : ∃ c W, (convert 9 34 (.string s)).run Try.prog w = .ok (.slice (some ⟨w.heap.size, 0, none⟩) s.size c) W ∧
    Row8 W w.heap.size s.data.toList ∧ Below w.heap.size w W ∧ w.heap.size < W.heap.size := by
  refine ⟨_, _, run_bytes_of_string (P := Try.prog) w 9 34 5 s Try.underlying9 Try.underlying34 Try.underlying5, ?_, ?_, ?_⟩
  · refine row8_of_block (heap_alloc_new w.drew _) (fun i hi => ?_) (fun i hi => ?_)
    · have hi' : i < s.data.size := by simpa using hi
      rw [bytesRow_at s _ i hi']
      simp
    · have hi' : i < s.data.size := by simpa using hi
      simp only [bytesRow, Array.size_append, Array.size_map]
      omega
  · exact ((Below.refl _ _).drew).alloc (Nat.le_refl _) _
  · exact Nat.lt_of_lt_of_eq (Nat.lt_succ_self _) (by simp)

set_option maxRecDepth 100000 in
/-- 'make([]byte, k)'. -/
theorem byte_info : (Try.prog.info? 5).map (fun i => (i.zero, i.size, i.bytes)) = some (some (.int .u8 0), 1, 1) := by kernel_rfl
set_option maxRecDepth 100000 in
theorem make8 (k : Nat) (hk : k ≤ 281474976710656) (w : World) : (Instr.makeSlice 34 (.int .i64 (k : Int)) (.int .i64 (k : Int))).run Try.prog w =
    .ok (.slice (some ⟨w.heap.size, 0, none⟩) k k) (w.alloc (.cells (Array.replicate k (.int .u8 0)) 5)) := by
  obtain ⟨i, hi, hz, hs, hb⟩ := info_parts byte_info
  have := run_make (P := Try.prog) w 34 5 i _ Try.underlying34 hi hz .i64 .i64 k k (by omega) (Int.le_refl _) (by rw [hb]; omega) (by omega)
  rw [this]
  simp only [Int.toNat_natCast, hs, Nat.mul_one]
  congr 3
  apply Array.ext_getElem?
  intro j
  by_cases hj : j < k <;> simp [madeCells, hj, Value.cells, Nat.mod_one]
theorem row8_made (k : Nat) (w : World) : Row8 (w.alloc (.cells (Array.replicate k (.int .u8 0)) 5)) w.heap.size (List.replicate k 0) := by
  refine row8_of_block (heap_alloc_new w _) (fun i hi => ?_) (fun i _ => by omega)
  have hi' : i < k := by simpa using hi
  simp [hi']

/-- A row that is laid anew turns one block. -/
theorem fr_putRow (w : World) (g : Nat) (l : List UInt8) : Fr (fun j => j = g) w (putRow enc8 w g 0 l.toArray) := by
  refine ⟨rfl, rfl, rfl, by simp [putRow, mapBlock], fun j _ hj => ?_⟩
  simp only [putRow, mapBlock, Array.getElem?_modify]
  rw [if_neg (fun e => hj e.symm)]
theorem row8_put {w : World} {g : Nat} {l m : List UInt8} (h : Row8 w g l) (hm : m.length = l.length) : Row8 (putRow enc8 w g 0 m.toArray) g m :=
  holds_putRow enc8 w g 0 l.toArray m.toArray h (by simpa using hm)

theorem one_byte (W : World) (x : Int) (h0 : 0 ≤ x) (h1 : x < 256) :
    (convert 34 9 (.slice (some ⟨W.heap.size, 0, none⟩) 1 1)).run Try.prog (W.alloc (.cells #[.int .u8 x] 5)) = .ok (.string (bs [UInt8.ofNat x.toNat])) (W.alloc (.cells #[.int .u8 x] 5)) := by
  refine conv8 (l := [UInt8.ofNat x.toNat]) (row8_of_block (heap_alloc_new W _) (fun i hi => ?_) (fun i _ => by omega)) rfl 1
  have : i = 0 := by simpa using hi
  subst this
  simp
  omega

theorem bs_extract (l : List UInt8) (a b : Nat) : (bs l).extract a b = bs ((l.drop a).take (b - a)) := by
  rw [← bs_of ((bs l).extract a b), Lib.extract_data, bs_list]
theorem bs_tail (l : List UInt8) (a : Nat) : (bs l).extract a (bs l).size = bs (l.drop a) := by
  rw [bs_extract, List.take_of_length_le (by rw [List.length_drop, bs_size]; exact Nat.le_refl _)]

theorem extract_one (s : ByteArray) (j : Nat) (hj : j < s.size) : s.extract j (j + 1) = bs [s.data.toList[j]'(by simpa using hj)] := by
  apply ByteArray.ext
  apply Array.toList_inj.1
  rw [Lib.extract_data, show j + 1 - j = 1 by omega, List.drop_eq_getElem_cons (by simpa using hj)]
  rfl


end Go.Proofs.Ytacfhjcchoefjaa
