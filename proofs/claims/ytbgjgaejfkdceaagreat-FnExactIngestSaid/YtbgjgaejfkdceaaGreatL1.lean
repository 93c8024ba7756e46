import Derived.Test.YtbgjgaejfkdceaaGreatI14
import Derived.Test.YtbgjgaejfkdceaaGreatP6
import Derived.Laws.BytesArg
namespace Go.Proofs.YtbgjgaejfkdceaaGreat
open Go.RowKit

/-- A list of bytes as a string. -/
theorem str_of {N : Nat} {v : Value} {x : List Int} {w : World} (h : SlAt mB 0 0 N w v x) : Sem.run Tryz.prog (convert 25 9 v) w = .ok (.string (strOfNums x)) w := by
  obtain ⟨a, cap, rfl, hl, hc⟩ := h
  by_cases hp : 0 < x.length
  · obtain ⟨b, off, rfl, -, -, hcell⟩ := hc hp
    exact run_convert_bytes_arg (P := Tryz.prog) w 25 5 Tryz.underlying25 Tryz.underlying5 b off x.length cap x rfl (fun i hi => by rw [hcell i hi, List.getD_eq_getElem?_getD]; rfl) 9 Tryz.underlying9
  · have e : x = [] := List.eq_nil_of_length_eq_zero (by omega)
    subst e
    have h1 := run_convert_bytes_string (P := Tryz.prog) w 25 9 5 a 0 cap Tryz.underlying25 Tryz.underlying5 Tryz.underlying9
    rw [show (([] : List Int).length) = 0 from rfl, h1]
    cases a <;> simp [Conv.bytesToString, loadCells]
    all_goals rfl

set_option maxHeartbeats 1000000 in
set_option maxRecDepth 100000 in
theorem l4sameBytes_same (u v : Value) (x : List Int) (N : Nat) (w : World) (hu : SlAt mB 0 0 N w u x) (hv : SlAt mB 0 0 N w v x) :
    Calls Tryz.prog 52 #[u, v] w fun e w' => e = .returned (.bool true) ∧ ∃ q, w' = w.drewN q := by
  have c1 := str_of hu
  have c2 := str_of hv
  obtain ⟨a, cap, rfl, -, -⟩ := hu
  obtain ⟨a2, cap2, rfl, -, -⟩ := hv
  go_enter Tryz.func52, Tryz.ntmps52
  go_wp2
  go_ret
  exact ⟨rfl, 0, rfl⟩

/-- A segment as its fields. -/
theorem SegRd.parts {w : World} {v : Value} {base : Int} {xss pss : List (List Int)} {ks : List Int} (h : SegRd w v base xss ks pss) : ∃ a1 c1 a2 c2 a3 c3, v = .agg #[.int .i64 base, .slice a1 xss.length c1, .slice a2 ks.length c2, .slice a3 pss.length c3] ∧ SsAt mB 0 w.heap.size w (.slice a1 xss.length c1) xss ∧ SlAt mI 0 0 w.heap.size w (.slice a2 ks.length c2) ks ∧ SsAt mI 0 w.heap.size w (.slice a3 pss.length c3) pss := by
  obtain ⟨lv, kv, pv, rfl, h1, h2, h3⟩ := h
  obtain ⟨a1, c1, rfl, -⟩ := id h1
  obtain ⟨a2, c2, rfl, -⟩ := id h2
  obtain ⟨a3, c3, rfl, -⟩ := id h3
  exact ⟨a1, c1, a2, c2, a3, c3, rfl, h1, h2, h3⟩

end Go.Proofs.YtbgjgaejfkdceaaGreat
