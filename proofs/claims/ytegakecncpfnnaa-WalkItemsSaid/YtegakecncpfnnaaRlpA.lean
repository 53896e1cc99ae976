/-
  The contracts of package rlp's bare and of the closures that lay a piece and a head, over this seat's translation. Conditions: pieces of at most 60,000 bytes.
-/
import Derived.Test.YtegakecncpfnnaaRlpM
import Derived.Test.YtegakecncpfnnaaFixLe
import Derived.Test.YtegakecncpfnnaaItmF
import Derived.Test.YtegakecncpfnnaaItmUw
namespace Go.Proofs.Ytegakecncpfnnaa
open Go.RowKit

set_option maxRecDepth 100000 in
theorem bare_any (l : List UInt8) (w : World) : Calls Try.prog 67 #[.string (bs l)] w fun e w' => e = .returned (.bool (bare l)) ∧ w = w' := by
  have hz := bs_size l
  by_cases h : l.length = 1
  · obtain ⟨b, rfl⟩ : ∃ b, l = [b] := by
      match l, h with
      | [b], _ => exact ⟨b, rfl⟩
    have hz1 : (bs [b]).size = 1 := hz
    have hz2 : 0 < (bs [b]).size := by omega
    have hx : (bs [b])[0]'hz2 = b := bs_get [b] 0 _
    have e0 : bare [b] = decide ((b.toNat : Int) < 128) := by simp only [bare]; congr 1; simp; omega
    rw [e0]
    clear hz h e0
    go_enter Try.func67, Try.ntmps67
    go_wp2
    go_ret
    exact ⟨rfl, rfl⟩
  · have e0 : bare l = false := by
      match l, h with
      | [], _ => rfl
      | _ :: _ :: _, _ => rfl
    have t1 : (((bs l).size : Int) == 1) = false := by rw [hz]; simpa using fun e : (l.length : Int) = 1 => h (by omega)
    rw [e0]
    clear hz h e0
    go_enter Try.func67, Try.ntmps67
    go_wp2
    go_ret
    exact ⟨rfl, rfl⟩

/-- What the function that is told the pieces (number k, with its own captures) does: it turns what I says of the bytes told so far. -/
structure Teller (k : Nat) (caps : Array Value) (S : Nat → Prop) (I : List UInt8 → World → Prop) (M : Nat) : Prop where
  enter : ∀ args w, (callFunc k args).run Try.prog w = .ok (.enter k args) w
  call : ∀ p acc w, I acc w → p.length + acc.length ≤ M → Calls Try.prog k (#[.string (bs p)] ++ caps) w fun e w' => e = .returned (.tuple #[]) ∧ I (p ++ acc) w' ∧ Fr S w w'
  keep : ∀ acc w w', I acc w → w.heap.size ≤ w'.heap.size → (∀ j, j < w.heap.size → S j → w'.heap[j]? = w.heap[j]?) → I acc w'
  lt : ∀ acc w, I acc w → ∀ j, S j → j < w.heap.size

/-- The variables of lay, in the blocks from b on. -/
structure Lv (w : World) (b k : Nat) (caps : Array Value) (n : Nat) : Prop where
  tell : V w (b + 1) 91 (.func (Fn.func k) #[] caps)
  laid : V w (b + 2) 3 (.int .i64 n)
  put : V w (b + 3) 91 (.func (Fn.func 64) #[] #[.pointer (some ⟨b + 1, 0, none⟩), .pointer (some ⟨b + 2, 0, none⟩)])
  head : V w (b + 4) 102 (.func (Fn.func 65) #[] #[.pointer (some ⟨b + 3, 0, none⟩)])
theorem Lv.fr {w w' : World} {b k : Nat} {caps : Array Value} {n : Nat} (h : Lv w b k caps n) {S : Nat → Prop} (f : Fr S w w') (hs : ∀ j, S j → j < b ∨ b + 4 < j) : Lv w' b k caps n :=
  ⟨h.tell.fr f (fun e => by have := hs _ e; omega), h.laid.fr f (fun e => by have := hs _ e; omega), h.put.fr f (fun e => by have := hs _ e; omega), h.head.fr f (fun e => by have := hs _ e; omega)⟩

theorem Lv.set {w : World} {b k : Nat} {caps : Array Value} {n : Nat} (h : Lv w b k caps n) (m : Nat) : Lv (w.setCell ⟨b + 2, 0, none⟩ (.int .i64 m)) b k caps m :=
  ⟨h.tell.far (by simp) _, h.laid.set _, h.put.far (by simp) _, h.head.far (by simp) _⟩
theorem Lv.bel {w w' : World} {b k : Nat} {caps : Array Value} {n : Nat} (h : Lv w b k caps n) (f : Below w.heap.size w w') : Lv w' b k caps n :=
  ⟨h.tell.bel f h.tell.lt, h.laid.bel f h.laid.lt, h.put.bel f h.put.lt, h.head.bel f h.head.lt⟩
theorem Teller.bel {k : Nat} {caps : Array Value} {S : Nat → Prop} {I : List UInt8 → World → Prop} {M : Nat} (h : Teller k caps S I M) {acc : List UInt8} {w w' : World} (hi : I acc w) (f : Below w.heap.size w w') : I acc w' :=
  h.keep acc w w' hi f.size fun j hj _ => f.block j hj

section
variable {k : Nat} {caps : Array Value} {S : Nat → Prop} {I : List UInt8 → World → Prop} {M : Nat}
set_option maxRecDepth 20000 in
theorem put_any (hT : Teller k caps S I M) (hM : M ≤ 1000000) (b : Nat) (hS : ∀ j, S j → j < b) (p acc : List UInt8) (w : World) (hv : Lv w b k caps acc.length) (hI : I acc w) (hp : p.length + acc.length ≤ M) :
    Calls Try.prog 64 #[.string (bs p), .pointer (some ⟨b + 1, 0, none⟩), .pointer (some ⟨b + 2, 0, none⟩)] w
      fun e w' => e = .returned (.tuple #[]) ∧ Lv w' b k caps (p ++ acc).length ∧ I (p ++ acc) w' ∧ Fr (fun j => S j ∨ j = b + 2) w w' := by
  have HT := Lib.hid hT
  have HV := Lib.hid hv
  have HI := Lib.hid hI
  have HS := Lib.hid hS
  have HP := Lib.hid hp
  have c1 := hv.tell.cell
  have l1 := hv.tell.lt
  have f1 := hv.tell.free
  clear hv hI hS hT hp
  go_enter Try.func64, Try.ntmps64
  go_wp2_with fail
  rw [HT.out.enter, Oper.upon_enter]
  refine (HT.out.call p acc w HI.out HP.out).mono ?_
  rintro e w1 ⟨rfl, hi1, f1⟩
  have v1 := HV.out.fr f1 (fun j hj => .inl (HS.out j hj))
  have I1 := Lib.hid hi1
  have d2 := v1.laid.cell
  have e2 := v1.laid.free
  have g2 := v1.laid.lt
  have F1 := Lib.hid f1
  have V1 := Lib.hid v1
  have hz := bs_size p
  have hle : (acc.length : Int) + p.length ≤ 1000000 := by have := HP.out; omega
  clear f1 v1 hi1 c1 l1
  go_wp2
  go_end0
  have e1 : ((acc.length : Int) + p.length) = (((p ++ acc).length : Nat) : Int) := by rw [List.length_append]; omega
  rw [e1]
  exact ⟨rfl, V1.out.set _, HT.out.keep _ _ _ I1.out (by simp [World.setCell]) (fun j _ hs => Below.heap_setCell _ _ _ j (by have := HS.out j hs; simp; omega)),
    (F1.out.mono fun j _ h => .inl h).setCell (p := ⟨b + 2, 0, none⟩) (.inl (.inr rfl)) _⟩

set_option maxRecDepth 20000 in
theorem head_any (hT : Teller k caps S I M) (hM : M ≤ 1000000) (b : Nat) (hS : ∀ j, S j → j < b) (by_ n : Nat) (hby : by_ ≤ 192) (hn : n ≤ 60000) (acc : List UInt8) (w : World) (hv : Lv w b k caps acc.length) (hI : I acc w) (hp : (hd by_ n).length + acc.length ≤ M) :
    Calls Try.prog 65 #[.int .i64 by_, .int .i64 n, .pointer (some ⟨b + 3, 0, none⟩)] w
      fun e w' => e = .returned (.tuple #[]) ∧ Lv w' b k caps (hd by_ n ++ acc).length ∧ I (hd by_ n ++ acc) w' ∧ Fr (fun j => S j ∨ j = b + 2) w w' := by
  have HT := Lib.hid hT
  have HV := Lib.hid hv
  have HI := Lib.hid hI
  have HS := Lib.hid hS
  have HP := Lib.hid hp
  have c1 := hv.put.cell
  have l1 := hv.put.lt
  have f1 := hv.put.free
  clear hv hI hS hT hp
  by_cases h55 : n ≤ 55
  · have t1 : decide ((55 : Int) < (n : Int)) = false := by simp; omega
    have eh : hd by_ n = [UInt8.ofNat (by_ + n)] := by unfold hd; rw [if_pos h55]
    have one := one_byte w ((by_ : Int) + n) (by omega) (by omega)
    rw [show ((by_ : Int) + n).toNat = by_ + n by omega, ← eh] at one
    have PU := Lib.hid (fun W (hB : Below w.heap.size w W) => put_any HT.out hM b HS.out (hd by_ n) acc W (HV.out.bel hB) (HT.out.bel HI.out hB) HP.out)
    clear eh
    go_enter Try.func65, Try.ntmps65
    go_wp2_with fail
    refine (PU.out _ (bel1 _ _)).mono ?_
    rintro e w1 ⟨rfl, v1, i1, f1⟩
    have Q := Lib.hid (And.intro v1 (And.intro i1 ((Fr.ofBelow (bel1 w _)).trans f1)))
    clear v1 i1 f1
    go_wp2
    go_end0
    exact ⟨rfl, Q.out⟩
  · have t1 : decide ((55 : Int) < (n : Int)) = true := by simp; omega
    have h8 := digs2 hn
    have eh : hd by_ n = UInt8.ofNat (by_ + 55 + digs n) :: least n := by unfold hd; rw [if_neg h55]
    have hl : (bs (least n)).size = digs n := bs_size _
    obtain ⟨c0, hc0⟩ : ∃ c, c = UInt8.ofNat (by_ + 55 + digs n) := ⟨_, rfl⟩
    rw [← hc0] at eh
    have HC := Lib.hid hc0
    clear hc0
    have HP2 : (least n).length + acc.length ≤ M := by have := HP.out; rw [eh, List.length_cons] at this; omega
    have HP3 : 1 + (least n ++ acc).length ≤ M := by have := HP.out; rw [eh, List.length_cons] at this; rw [List.length_append]; omega
    have PU := Lib.hid (fun W (hB : Below w.heap.size w W) => put_any HT.out hM b HS.out (least n) acc W (HV.out.bel hB) (HT.out.bel HI.out hB) HP2)
    have PV := Lib.hid (fun W (hv : Lv W b k caps (least n ++ acc).length) (hi : I (least n ++ acc) W) => put_any HT.out hM b HS.out [c0] (least n ++ acc) W hv hi HP3)
    have EH := Lib.hid (show [c0] ++ (least n ++ acc) = hd by_ n ++ acc by rw [eh]; rfl)
    clear eh HP2 HP3
    go_enter Try.func65, Try.ntmps65
    go_wp2_with fail
    refine (least_any n _ (by omega)).mono ?_
    rintro e w1 ⟨rfl, b1⟩
    have c2 := (HV.out.bel b1).put.cell
    have l2 := (HV.out.bel b1).put.lt
    have g2 := (HV.out.bel b1).put.free
    have B1 := Lib.hid b1
    clear b1 c1 l1 f1
    go_wp2_with fail
    refine (PU.out _ B1.out).mono ?_
    rintro e w2 ⟨rfl, v2, i2, f2⟩
    have c3 := v2.put.cell
    have l3 := v2.put.lt
    have g3 := v2.put.free
    have V2 := Lib.hid v2
    have I2 := Lib.hid i2
    have F2 := Lib.hid ((Fr.ofBelow B1.out).trans f2)
    have one := one_byte w2 ((by_ : Int) + (55 + digs n)) (by omega) (by omega)
    rw [show ((by_ : Int) + (55 + digs n)).toNat = by_ + 55 + digs n by omega, ← HC.out] at one
    clear v2 i2 f2 c2 l2 g2 PU
    go_wp2_with fail
    refine (PV.out _ (V2.out.bel (bel1 _ _)) (HT.out.bel I2.out (bel1 _ _))).mono ?_
    rintro e w3 ⟨rfl, v3, i3, f3⟩
    rw [EH.out] at v3 i3
    have Q := Lib.hid (And.intro v3 (And.intro i3 ((F2.out.alloc _).trans f3)))
    clear v3 i3 f3 one
    go_wp2
    go_end0
    exact ⟨rfl, Q.out⟩
end
end Go.Proofs.Ytegakecncpfnnaa
