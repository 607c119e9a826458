/- The makers of code. -/
import Derived.Test.YtbkopghghoolmaaQ2
namespace Go.Proofs.Ytbkopghghoolmaa
open Go.RowKit

/-- a pointer to the first cell of a block. -/
abbrev ptr (b : Nat) : Value := .pointer (some ⟨b, 0, none⟩)

theorem mkload_any (a : Option Addr) (i : Int) (f : FuncId) (cap : Array Value) (w : World) :
    Calls Try.prog 18 #[.pointer a, .int .i64 i, .func (.func f) #[] cap] w fun e w' => e = .returned (.func (.func 34) #[] #[ptr (w.heap.size + 2), ptr w.heap.size, ptr (w.heap.size + 1)]) ∧
      ((w.alloc (.cells #[.pointer a] 26)).alloc (.cells #[.int .i64 i] 3)).alloc (.cells #[.func (.func f) #[] cap] 56) = w' := by
  have hmf : ∀ (fn : Fn) (first cap : Array Value) (w : World), (Instr.makeFunc fn first cap).run Try.prog w = .ok (.func fn first cap) w := fun _ _ _ _ => rfl
  go_enter Try.func18, Try.ntmps18
  go_wp2
  go_ret
  exact ⟨by simp, rfl⟩

theorem mkstore_any (a : Option Addr) (i x : Int) (f : FuncId) (cap : Array Value) (w : World) :
    Calls Try.prog 20 #[.pointer a, .int .i64 i, .int .u64 x, .func (.func f) #[] cap] w fun e w' => e = .returned (.func (.func 35) #[] #[ptr w.heap.size, ptr (w.heap.size + 1), ptr (w.heap.size + 2), ptr (w.heap.size + 3)]) ∧
      (((w.alloc (.cells #[.pointer a] 26)).alloc (.cells #[.int .i64 i] 3)).alloc (.cells #[.int .u64 x] 44)).alloc (.cells #[.func (.func f) #[] cap] 40) = w' := by
  have hmf : ∀ (fn : Fn) (first cap : Array Value) (w : World), (Instr.makeFunc fn first cap).run Try.prog w = .ok (.func fn first cap) w := fun _ _ _ _ => rfl
  go_enter Try.func20, Try.ntmps20
  go_wp2
  go_ret
  exact ⟨by simp, rfl⟩

theorem mkswap_any (a : Option Addr) (i x : Int) (f : FuncId) (cap : Array Value) (w : World) :
    Calls Try.prog 26 #[.pointer a, .int .i64 i, .int .u64 x, .func (.func f) #[] cap] w fun e w' => e = .returned (.func (.func 38) #[] #[ptr (w.heap.size + 3), ptr w.heap.size, ptr (w.heap.size + 1), ptr (w.heap.size + 2)]) ∧
      (((w.alloc (.cells #[.pointer a] 26)).alloc (.cells #[.int .i64 i] 3)).alloc (.cells #[.int .u64 x] 44)).alloc (.cells #[.func (.func f) #[] cap] 56) = w' := by
  have hmf : ∀ (fn : Fn) (first cap : Array Value) (w : World), (Instr.makeFunc fn first cap).run Try.prog w = .ok (.func fn first cap) w := fun _ _ _ _ => rfl
  go_enter Try.func26, Try.ntmps26
  go_wp2
  go_ret
  exact ⟨by simp, rfl⟩

theorem mkcas_any (a : Option Addr) (i o x : Int) (f : FuncId) (cap : Array Value) (w : World) :
    Calls Try.prog 27 #[.pointer a, .int .i64 i, .int .u64 o, .int .u64 x, .func (.func f) #[] cap] w fun e w' => e = .returned (.func (.func 40) #[] #[ptr (w.heap.size + 4), ptr w.heap.size, ptr (w.heap.size + 1), ptr (w.heap.size + 2), ptr (w.heap.size + 3)]) ∧
      ((((w.alloc (.cells #[.pointer a] 26)).alloc (.cells #[.int .i64 i] 3)).alloc (.cells #[.int .u64 o] 44)).alloc (.cells #[.int .u64 x] 44)).alloc (.cells #[.func (.func f) #[] cap] 72) = w' := by
  have hmf : ∀ (fn : Fn) (first cap : Array Value) (w : World), (Instr.makeFunc fn first cap).run Try.prog w = .ok (.func fn first cap) w := fun _ _ _ _ => rfl
  go_enter Try.func27, Try.ntmps27
  go_wp2
  go_ret
  exact ⟨by simp, rfl⟩

theorem mkidle_any (f : FuncId) (cap : Array Value) (w : World) :
    Calls Try.prog 29 #[.func (.func f) #[] cap] w fun e w' => e = .returned (.func (.func 42) #[] #[ptr w.heap.size]) ∧ w.alloc (.cells #[.func (.func f) #[] cap] 40) = w' := by
  have hmf : ∀ (fn : Fn) (first cap : Array Value) (w : World), (Instr.makeFunc fn first cap).run Try.prog w = .ok (.func fn first cap) w := fun _ _ _ _ => rfl
  go_enter Try.func29, Try.ntmps29
  go_wp2
  go_ret
  exact ⟨by simp, rfl⟩

theorem ent_of {f : FuncId} {fn : Func} (h : Try.prog.funcs[f]? = some fn) (h1 : (fn.name == "runtime.NumGoroutine") = false) (h2 : fn.body.isNone = false) : Ent f := fun args W => by
  have h1 : ¬ fn.name = "runtime.NumGoroutine" := by simpa using h1
  have h2 : ¬ fn.body = none := by
    intro e
    rw [e] at h2
    cases h2
  simp [callFunc, Sem.run_bind, h, h1, h2]
theorem ent_load1 : Ent 34 := ent_of Try.func34 (by kernel_rfl) (by kernel_rfl)
theorem ent_store1 : Ent 35 := ent_of Try.func35 (by kernel_rfl) (by kernel_rfl)
theorem ent_swap1 : Ent 38 := ent_of Try.func38 (by kernel_rfl) (by kernel_rfl)
theorem ent_cas1 : Ent 40 := ent_of Try.func40 (by kernel_rfl) (by kernel_rfl)
theorem ent_idle1 : Ent 42 := ent_of Try.func42 (by kernel_rfl) (by kernel_rfl)

end Go.Proofs.Ytbkopghghoolmaa
