import Derived.Test.YtinhliecfjlocaaGreatPk6
import Derived.Test.YtinhliecfjlocaaGreatPk4
import Derived.Test.YtinhliecfjlocaaGreatX6
namespace Go.Proofs.YtinhliecfjlocaaGreat
open Go.RowKit
set_option maxHeartbeats 1000000 in
theorem copies_any (T : TypeId) (y : Value) (n : Int) (w : World) (hn : n ≤ 1000) :
    Calls Tryz.prog 107 #[.iface T y, .int .i64 n] w fun e w' => ∃ v, e = .returned v ∧ w'.ownsRow w.heap.size 82 1 v n.toNat (List.replicate n.toNat (.iface T y)) ∧ Below w.heap.size w w' := by
  obtain ⟨i0, hi, hz0, hz1, hz2⟩ := info_parts Tryz.info82
  go_enter Tryz.func107, Tryz.ntmps107
  go_wp2
  go_loopw [5, 7] (fun ov i wr => ∃ j : Nat, i = .int .i64 (j : Int) ∧ (j = 0 ∨ (j : Int) ≤ n) ∧ wr.ownsRow w.heap.size 82 1 ov j (List.replicate j (.iface T y)) ∧ Below w.heap.size w wr) (fun _ i _ => (n - intOf i).toNat)
  case atStart => exact ⟨0, rfl, Or.inl rfl, World.ownsRow_nil _ _ _ _, Below.refl _ _⟩
  case round =>
    obtain ⟨j, rfl, hj, hown, hb⟩ := hrel
    have hz := hb.size
    have Hown := hide hown
    obtain ⟨oa, oc, rfl⟩ := own_is hown
    clear hown
    by_cases hlt : (j : Int) < n
    · go_wp2_with (at_builtin; refine wpList_append_own _ rfl _ _ 120 rfl w.heap.size 82 i0 .nilIface 1 16 Tryz.underlying120 hi hz0 hz1 hz2 rfl (by decide) _ _ _ rfl ((unhide Hown).alloc _) ⟨wr.heap.size, 0, none⟩ 1 1 [.iface T y] rfl rfl ?_ ?_ ?_ ?_ ?_ ?_)
      · exact cell_one (by simp)
      · intro u hu; simp at hu; subst hu; rfl
      · unfold maxLen; omega
      · omega
      · simp only [sz_alloc]; omega
      intro v' w' h1 hg _
      have H1 : Hid (w'.ownsRow w.heap.size 82 1 v' (j + 1) (List.replicate (j + 1) (.iface T y))) := by rw [List.replicate_succ']; exact h1
      have hB : Below w.heap.size w w' := (hb.alloc hz (.cells #[.iface T y] 82)).grown hg (by rw [sz_alloc]; omega) (fun k hk => ((unhide Hown).lt k hk).1)
      clear h1 hg
      go_wp2
      go_roundw
      case rel => exact ⟨j + 1, by go_num, Or.inr (by omega), unhide H1, hB⟩
      case measure => simp [intOf]; omega
    · have hjn : Hid (n.toNat = j) := by show n.toNat = j; omega
      go_wp2
      go_ret
      exact ⟨_, rfl, by rw [unhide hjn]; exact unhide Hown, hb⟩
def jV : List Value → Value
  | [] => undef
  | p :: r => r.foldl cV p
theorem foldV (r : List Value) : ∀ p : Value, (∃ T x, p = .iface T x) → ∃ T x, r.foldl cV p = .iface T x := by
  induction r with
  | nil => intro p h; exact h
  | cons q r ih => intro p _; exact ih (cV p q) ⟨_, _, rfl⟩
theorem foldV_next (r : List Value) (p : Value) (j : Nat) (h : j < r.length) : (r.take (j + 1)).foldl cV p = cV ((r.take j).foldl cV p) r[j] := by
  rw [List.take_succ_eq_append_getElem h, List.foldl_append]; rfl
set_option maxHeartbeats 1000000 in
theorem joinParts_any (base : Nat) (v p : Value) (r : List Value) (w : World) (hown : w.ownsRow base 82 1 v (r.length + 1) (p :: r)) (hif : ∀ u ∈ p :: r, ∃ T x, u = .iface T x) (hl : r.length ≤ 1000000) :
    Calls Tryz.prog 106 #[v] w fun e w' => e = .returned (jV (p :: r)) ∧ w' = w := by
  obtain ⟨g, cap, rfl, hcell⟩ := own_at_g hown (by omega)
  have hcap : r.length + 1 ≤ cap := by
    rcases hown.2 with ⟨e, -⟩ | ⟨g', cap', cur, e, -, -, hnc, -⟩
    · simp at e
    · simp only [Value.slice.injEq] at e
      rw [e.2.2]; exact hnc
  have hx0 : w.cell? ⟨g, 0, none⟩ = some p := hcell 0 (by omega)
  have hxs : Hid (∀ j : Nat, (h : j < r.length) → w.cell? ⟨g, 1 + j, none⟩ = some r[j]) := fun j h => by
    rw [hcell (1 + j) (by omega), Nat.add_comm 1 j, List.getElem?_cons_succ, List.getElem?_eq_getElem h]
  obtain ⟨T0, x0, rfl⟩ := hif p (by simp)
  have Hif := hide hif
  have hcI : ((r.length + 1 : Nat) : Int) ≤ (cap : Int) := by omega
  clear hcell hown hif
  by_cases hc1 : cap = 1
  · subst hc1
    obtain rfl : r = [] := List.eq_nil_of_length_eq_zero (by omega)
    go_enter Tryz.func106, Tryz.ntmps106
    go_wp2
    go_loop [3, 12] (fun q i => q = .iface T0 x0 ∧ i = .int .i64 0) (fun _ _ => 0)
    case atStart => exact ⟨rfl, rfl⟩
    case round =>
      obtain ⟨rfl, rfl⟩ := hrel
      go_wp2
      go_ret
      exact ⟨rfl, rfl⟩
  · go_enter Tryz.func106, Tryz.ntmps106
    go_wp2
    go_loop [3, 12] (fun q i => ∃ j : Nat, j ≤ r.length ∧ i = .int .i64 (j : Int) ∧ q = (r.take j).foldl cV (.iface T0 x0)) (fun _ i => r.length - (intOf i).toNat)
    case atStart => exact ⟨0, Nat.zero_le _, rfl, rfl⟩
    case round =>
      obtain ⟨j, hj, rfl, hq⟩ := hrel
      obtain ⟨T1, x1, e1⟩ := foldV (r.take j) _ ⟨T0, x0, rfl⟩
      by_cases hlt : j < r.length
      · have hx := unhide hxs j hlt
        obtain ⟨T2, x2, e2⟩ := unhide Hif r[j] (by simp)
        have Hn := hide (foldV_next r (.iface T0 x0) j hlt)
        rw [e1] at hq Hn
        rw [e2] at hx Hn
        subst hq
        have hlt' : (j : Int) < (r.length : Int) := by omega
        clear e1 e2
        go_wp2
        go_round
        case rel => exact ⟨j + 1, by omega, by go_num, by rw [unhide Hn]; rfl⟩
        case measure => simp [intOf]; omega
      · obtain rfl : j = r.length := by omega
        rw [List.take_length] at hq e1
        have He := hide e1
        rw [e1] at hq
        subst hq
        clear e1
        go_wp2
        go_ret
        exact ⟨by rw [← unhide He]; rfl, rfl⟩
end Go.Proofs.YtinhliecfjlocaaGreat
