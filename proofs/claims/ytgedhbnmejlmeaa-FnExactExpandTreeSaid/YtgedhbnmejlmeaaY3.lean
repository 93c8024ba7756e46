import Derived.Test.YtgedhbnmejlmeaaY2
namespace Go.Proofs.Ytgedhbnmejlmeaa
open Go.RowKit

theorem ops_e (w : World) : Sem.run Try.prog (method 224 96 (.agg #[]) "loop.example/s0027/impl.appendOps") w = .ok (89, .agg #[]) w := by kernel_rfl
theorem ocall_e (y : Value) (w : World) : Sem.run Try.prog (callFunc 89 #[.agg #[], y]) w = .ok (.enter 89 #[.agg #[], y]) w := by kernel_rfl
theorem ops_s (x : Value) (w : World) : Sem.run Try.prog (method 224 102 x "loop.example/s0027/impl.appendOps") w = .ok (92, x) w := by kernel_rfl
theorem ocall_s (x y : Value) (w : World) : Sem.run Try.prog (callFunc 92 #[x, y]) w = .ok (.enter 92 #[x, y]) w := by kernel_rfl
theorem ops_cat (x : Value) (w : World) : Sem.run Try.prog (method 224 87 x "loop.example/s0027/impl.appendOps") w = .ok (82, x) w := by kernel_rfl
theorem ocall_cat (x y : Value) (w : World) : Sem.run Try.prog (callFunc 82 #[x, y]) w = .ok (.enter 82 #[x, y]) w := by kernel_rfl
theorem ops_alt (x : Value) (w : World) : Sem.run Try.prog (method 224 88 x "loop.example/s0027/impl.appendOps") w = .ok (85, x) w := by kernel_rfl
theorem ocall_alt (x y : Value) (w : World) : Sem.run Try.prog (callFunc 85 #[x, y]) w = .ok (.enter 85 #[x, y]) w := by kernel_rfl
theorem ops_rep (x : Value) (w : World) : Sem.run Try.prog (method 224 90 x "loop.example/s0027/impl.appendOps") w = .ok (87, x) w := by kernel_rfl
theorem ocall_rep (x y : Value) (w : World) : Sem.run Try.prog (callFunc 87 #[x, y]) w = .ok (.enter 87 #[x, y]) w := by kernel_rfl

def eV : Value := .iface 96 (.agg #[])
def sV (g : Nat → Nat) : Value := .iface 102 (ws4 g)
def cV (u v : Value) : Value := .iface 87 (.agg #[u, v])
def aV (u v : Value) : Value := .iface 88 (.agg #[u, v])
def rV (u : Value) (mn mx : Int) : Value := .iface 90 (.agg #[u, .int .i64 mn, .int .i64 mx])

theorem OpsAs.e : OpsAs eV [⟨0, [], 0, 0⟩] := ⟨_, _, _, rfl, ops_e, ocall_e, fun base v ps w h1 h2 h3 => eOps_any base v ps w h1 h2 (by omega)⟩
theorem OpsAs.s {g : Nat → Nat} {xs : List Int} (hg : WordsOf xs g) (hc : Canon xs) : OpsAs (sV g) [⟨1, xs, 0, 0⟩] := ⟨_, _, _, rfl, ops_s _, ocall_s _, fun base v ps w h1 h2 h3 => sOps_any g xs hg hc base v ps w h1 h2 (by omega)⟩
theorem OpsAs.cat {u v : Value} {L R : List El} (hu : OpsAs u L) (hv : OpsAs v R) : OpsAs (cV u v) (L ++ R ++ [⟨2, [], 0, 0⟩]) := ⟨_, _, _, rfl, ops_cat _, ocall_cat _, fun base y ps w h1 h2 h3 => catOps_any u v L R hu hv base y ps w h1 h2 (by simp only [List.length_append, List.length_singleton] at h3; omega)⟩
theorem OpsAs.alt {u v : Value} {L R : List El} (hu : OpsAs u L) (hv : OpsAs v R) : OpsAs (aV u v) (L ++ R ++ [⟨3, [], 0, 0⟩]) := ⟨_, _, _, rfl, ops_alt _, ocall_alt _, fun base y ps w h1 h2 h3 => altOps_any u v L R hu hv base y ps w h1 h2 (by simp only [List.length_append, List.length_singleton] at h3; omega)⟩
theorem OpsAs.rep {u : Value} {L : List El} (hu : OpsAs u L) (mn mx : Int) : OpsAs (rV u mn mx) (L ++ [⟨4, [], mn, mx⟩]) := ⟨_, _, _, rfl, ops_rep _, ocall_rep _, fun base y ps w h1 h2 h3 => repOps_any u L mn mx hu base y ps w h1 h2 (by simp only [List.length_append, List.length_singleton] at h3; omega)⟩

end Go.Proofs.Ytgedhbnmejlmeaa
