import Derived.Test.YtnlfheapclnppaaY5
namespace Go.Proofs.Ytnlfheapclnppaa
open Go.RowKit

theorem run_copies (x y : Value) (w : World) : Sem.run Try.prog (callFunc 64 #[x, y]) w = .ok (.enter 64 #[x, y]) w := by kernel_rfl
theorem run_join (x : Value) (w : World) : Sem.run Try.prog (callFunc 63 #[x]) w = .ok (.enter 63 #[x]) w := by kernel_rfl

/-- A call of a function, its operands told, as a step of a region that draws its order. -/
theorem step_call_o {w : World} {ops : Array Oper} {o : Oper} {a : Act} {K : Act → World → Prop} {Q : Exit → Act → World → Prop} {E : Prop} (F : FuncId) (cargs : Array Operand) (ts : Array TypeId) (ho : o.op = .call { callee := .value (.func F), args := cargs, argTypes := ts }) (vals : Array Value) (hgd : o.guard = none) (hev : cargs.map a.eval = vals)
    (hf : ∀ w, Sem.run Try.prog (callFunc F vals) w = .ok (.enter F vals) w)
    {Post : Ending → World → Prop} (h : Calls Try.prog F vals w Post) (hK : ∀ e w', Post e w' → ∃ v, e = .returned v ∧ K (a.put o.dst v) w') : if Region.wanted o (yielded ops a.tmps) = true then Oper.wp Try.prog o a w K Q else E := by
  refine step_call F vals hgd ?_ h hK
  have e1 : a.eval (.func F) = .func (.func F) #[] #[] := rfl
  simp [execOp, ho, resolve, hev, e1, Deferred.ofValue, invoke, hf]

end Go.Proofs.Ytnlfheapclnppaa
