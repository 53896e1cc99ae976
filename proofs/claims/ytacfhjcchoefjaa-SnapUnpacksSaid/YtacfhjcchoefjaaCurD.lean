/-
  The contracts of package cursor's step over this seat's translation: behind a fault nothing is done; else what the function answers is faulted. Conditions: the reader's own block; of the function what its own contract says.
-/
import Derived.Test.YtacfhjcchoefjaaCurC
namespace Go.Proofs.Ytacfhjcchoefjaa
open Go.RowKit

theorem step_skip (b : Nat) (s : ByteArray) (k : Nat) (d : Int) (w : World) (h : Rd w b s k d) (hd : d ≠ 0) (fn : Fn) (first caps : Array Value) :
    Calls Try.prog 35 #[.pointer (some ⟨b, 0, none⟩), .func fn first caps] w fun e w' => e = .returned (.tuple #[]) ∧ w = w' := by
  have hd0 : (d == 0) = false := by simpa using hd
  have H := Lib.hid h
  clear h
  go_enter Try.func35, Try.ntmps35
  go_wp2_with (go_at_call 18; refine (fault_any b s k d _ H.out).mono ?_; rintro e w' ⟨rfl, rfl⟩)
  go_end0
  exact ⟨rfl, rfl⟩

theorem step_do (b : Nat) (s : ByteArray) (k : Nat) (w : World) (h : Rd w b s k 0) (f : FuncId) (hin : ∀ (args : Array Value) (w : World), (callFunc f args).run Try.prog w = .ok (.enter f args) w) (caps : Array Value) (v : Int) (Q : World → Prop)
    (hf : Calls Try.prog f caps w fun e w' => e = .returned (.int .i64 v) ∧ (∃ k', Rd w' b s k' 0) ∧ Q w') :
    Calls Try.prog 35 #[.pointer (some ⟨b, 0, none⟩), .func (.func f) #[] caps] w fun e w' => e = .returned (.tuple #[]) ∧ ∃ w1, Q w1 ∧ w' = w1.setCell ⟨b, 2, none⟩ (.int .i64 v) := by
  have H := Lib.hid h
  have HF := Lib.hid hf
  clear h hf
  go_enter Try.func35, Try.ntmps35
  go_wp2_with (go_at_call 18; refine (fault_any b s k 0 _ H.out).mono ?_; rintro e w' ⟨rfl, rfl⟩)
  refine HF.out.mono ?_
  rintro e w1 ⟨rfl, ⟨k1, h1⟩, hq⟩
  have c2 := h1.fault
  have f2 := h1.free 2
  have H1 := Lib.hid hq
  clear h1 hq hin
  go_wp2
  go_end0
  exact ⟨rfl, w1, H1.out, rfl⟩

theorem enters {f : FuncId} {fn : Func} {c : Code} (hf : Try.prog.funcs[f]? = some fn) (hname : (fn.name == "runtime.NumGoroutine") = false) (hb : fn.body = some c) (args : Array Value) (w : World) :
    (callFunc f args).run Try.prog w = .ok (.enter f args) w := by
  have h1 : fn.name ≠ "runtime.NumGoroutine" := by simpa using hname
  simp [callFunc, hf, h1, hb]
theorem enters_take (args : Array Value) (w : World) : (callFunc 39 args).run Try.prog w = .ok (.enter 39 args) w :=
  enters Try.func39 (by kernel_rfl) rfl args w
end Go.Proofs.Ytacfhjcchoefjaa
