import Derived.Test.YtijejbdpagbmpaaDoorPo2
import Derived.Test.YtijejbdpagbmpaaDoorAm
namespace Go.Proofs.YtijejbdpagbmpaaDoor
open Go.RowKit

/-- The positions of a list of elements. -/
def lvs : List El → Nat
  | [] => 0
  | x :: r => (if x.kind = 1 then 1 else 0) + lvs r
theorem lvs_app (a b : List El) : lvs (a ++ b) = lvs a + lvs b := by
  induction a with
  | nil => simp [lvs]
  | cons x r ih => simp only [List.cons_append, lvs, ih]; omega
theorem lvs_le (a : List El) : lvs a ≤ a.length := by
  induction a with
  | nil => simp [lvs]
  | cons x r ih => simp only [lvs, List.length_cons]; split <;> omega
theorem oPush_c (s : Ms) (x : El) : (oPush s x).c = s.c + (if x.kind = 1 then 1 else 0) := by
  unfold oPush
  split
  · rw [if_neg (by omega)]; rfl
  · split
    · rfl
    · split <;> (try split) <;> (try split) <;> simp
theorem oRun_c (L : List El) : ∀ s : Ms, (oRun s L).c = s.c + lvs L := by
  induction L with
  | nil => intro s; simp [oRun, lvs]
  | cons x r ih => intro s; simp only [oRun, lvs, ih, oPush_c]; omega
theorem SegO.n {L : List El} {n : Nat} {a : It} {ln : List Lk} {ss : List (List Int)} (h : SegO L n a ln ss) : n = lvs L := by
  have h1 := congrArg Ms.c (h ⟨0, [], [], []⟩)
  have h2 := oRun_c L ⟨0, [], [], []⟩
  simp only at h1 h2
  omega

set_option maxHeartbeats 1000000 in
set_option maxRecDepth 100000 in
theorem l2leaves_any (v : Value) (L : List El) (w : World) (hv : ElsAt 0 w.heap.size w v L) (hlen : L.length ≤ 3000) :
    Calls Tryd.prog 40 #[v] w fun e w' => e = .returned (.int .i64 (lvs L : Nat)) ∧ w' = w := by
  obtain ⟨a, cp, rfl, hcap, hc⟩ := hv
  go_enter Tryd.func40, Tryd.ntmps40
  go_wp2_with fail
  go_loop [3, 4] (fun nv iv => ∃ k : Nat, k ≤ L.length ∧ iv = .int .i64 k ∧ nv = .int .i64 (lvs (L.take k) : Nat)) (fun _ iv => L.length - (intOf iv).toNat)
  case atStart => exact ⟨0, Nat.zero_le _, rfl, rfl⟩
  case round =>
    obtain ⟨k, hk, rfl, rfl⟩ := hrel
    have hl1 := lvs_le (L.take k)
    have hl2 : (L.take k).length ≤ 3000 := by rw [List.length_take]; omega
    by_cases hlt : k < L.length
    · have hlt' : (k : Int) < (L.length : Int) := by omega
      obtain ⟨b, off, rfl, -, hbn, hcell⟩ := hc (by omega)
      obtain ⟨-, -, -, sv, c0, -⟩ := hcell k hlt
      have HS : Hid (lvs (L.take (k + 1)) = lvs (L.take k) + (if (L[k]?.getD dE).kind = 1 then 1 else 0)) := by
        show lvs (L.take (k + 1)) = _
        rw [List.take_add_one, List.getElem?_eq_getElem hlt, lvs_app]
        simp [lvs]
      clear hc hcell
      generalize (L[k]?.getD dE).kind = kd at *
      generalize lvs (L.take k) = n at *
      have g3 : IntKind.i64.wrap ((n : Int) + 1) = (n : Int) + 1 := k64i (by omega) (by omega)
      by_cases hq : kd = 1
      · subst hq
        go_wp2
        go_round
        case rel => exact ⟨k + 1, by omega, by go_num, by rw [unhide HS]; go_num⟩
        case measure => simp [intOf]; omega
      · go_wp2
        go_round
        case rel => exact ⟨k + 1, by omega, by go_num, by rw [unhide HS, if_neg hq]; rfl⟩
        case measure => simp [intOf]; omega
    · obtain rfl : k = L.length := by omega
      rw [List.take_length] at *
      go_wp2
      go_ret
      exact ⟨rfl, rfl⟩

end Go.Proofs.YtijejbdpagbmpaaDoor
