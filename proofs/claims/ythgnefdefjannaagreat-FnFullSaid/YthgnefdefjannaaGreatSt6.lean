import Derived.Test.YthgnefdefjannaaGreatSt4
import Derived.BigQuiet
import Derived.BigRegion
namespace Go.Proofs.YthgnefdefjannaaGreat
open Go.RowKit

theorem newStore_any (w : World) :
    Calls Tryz.prog 47 #[] w fun e w' => e = .returned (.pointer (some ⟨w.heap.size, 0, none⟩)) ∧ w' = w.alloc (.cells #[.slice none 0 0, .slice none 0 0, .int .i64 1000, .int .i64 20000] 71) := by
  go_enter Tryz.func47, Tryz.ntmps47
  go_wp2
  go_ret
  exact ⟨rfl, rfl⟩

/-- What takeRoom answers, and leaves. -/
def RoomR (e : Ending) (BX : Nat) (sg op : Value) (lr br : Int) (xss : List (List Int)) (w w' : World) : Prop :=
  (((xss.length : Int) ≤ lr ∧ (tot xss : Int) ≤ br) ∧ e = .returned (.bool true) ∧ Row4 w' BX 71 sg op (.int .i64 (lr - xss.length)) (.int .i64 (br - tot xss)) ∧ Only BX w w') ∨
  (¬ ((xss.length : Int) ≤ lr ∧ (tot xss : Int) ≤ br) ∧ e = .returned (.bool false) ∧ Row4 w' BX 71 sg op (.int .i64 lr) (.int .i64 br) ∧ Only BX w w')
theorem only_drew {B : Nat} {w : World} (q : Nat) : Only B w (w.drewN q) := ⟨rfl, rfl, rfl, rfl, fun _ _ => rfl⟩
theorem only_put {B o : Nat} {w w' : World} {u : Value} (h : Only B w w') : Only B w (w'.setCell ⟨B, o, none⟩ u) := ChgF.put (S := fun k => k = B) h rfl u

set_option maxHeartbeats 2000000 in
set_option maxRecDepth 100000 in
theorem takeRoom_any (BX : Nat) (sg op v : Value) (lr br : Int) (xss : List (List Int)) (w : World) (hr : Row4 w BX 71 sg op (.int .i64 lr) (.int .i64 br)) (hv : SsAt mB 0 w.heap.size w v xss) (r0 : 0 ≤ lr) (r1 : lr ≤ 1000) (r2 : 0 ≤ br) (r3 : br ≤ 20000) (hT : tot xss ≤ 1048576) (hL : xss.length ≤ 1048576) :
    Calls Tryz.prog 35 #[.pointer (some ⟨BX, 0, none⟩), v] w fun e w' => RoomR e BX sg op lr br xss w w' := by
  have HR := hide hr
  obtain ⟨a, cap, rfl, hl, hc⟩ := hv
  obtain ⟨f0, f1, f2, f3, z0, z1, z2, z3⟩ := hr.facts
  clear hr
  unfold maxLen at hl
  go_enter Tryz.func35, Tryz.ntmps35
  go_wp2_with fail
  go_quiet (fail)
  by_cases h1 : lr < (xss.length : Int)
  · have h1' : lr - (xss.length : Int) < 0 := by omega
    go_wp2
    go_ret
    exact Or.inr ⟨fun h => by omega, rfl, unhide HR, only_drew _⟩
  · have h1' : ¬ lr - (xss.length : Int) < 0 := by omega
    go_wp2_with fail
    go_loopw [6, 24] (fun bv iv wr => (∃ k : Nat, k ≤ xss.length ∧ iv = .int .i64 k ∧ bv = .int .i64 (br - (tot (xss.take k) : Nat))) ∧ ∃ q, wr = w.drewN q) (fun _ iv _ => xss.length - (intOf iv).toNat)
    case atStart => exact ⟨⟨0, Nat.zero_le _, rfl, by simp [tot]⟩, _, rfl⟩
    case round =>
      obtain ⟨⟨k, hk, rfl, rfl⟩, q, rfl⟩ := hrel
      by_cases hlt : k < xss.length
      · obtain ⟨b, off, rfl, hbn, hcell⟩ := hc (by omega)
        obtain ⟨s, hx, hs, -⟩ := hcell k hlt
        obtain ⟨sa, sc, rfl, hsl, -⟩ := hs
        have hlt' : (k : Int) < (xss.length : Int) := by omega
        have HB := hide (tot_step xss k hlt)
        have ht := tot_take xss k
        have ht2 := tot_get xss k
        have ht3 := tot_take xss (k + 1)
        clear hcell hc
        generalize xss[k]?.getD [] = x at *
        generalize tot (xss.take k) = t at *
        go_wp2
        go_roundw
        case rel => exact ⟨⟨k + 1, by omega, by go_num, by rw [unhide HB]; congr 1; omega⟩, _, rfl⟩
        case measure => simp [intOf]; omega
      · obtain rfl : k = xss.length := by omega
        rw [List.take_length]
        clear hc
        generalize ht : tot xss = t at *
        have HT := hide ht
        clear ht
        by_cases h2 : br - (t : Int) < 0
        · go_wp2
          go_ret
          exact Or.inr ⟨fun h => by rw [unhide HT] at h; omega, rfl, unhide HR, only_drew _⟩
        · go_wp2
          go_ret
          exact Or.inl ⟨⟨by omega, by rw [unhide HT]; omega⟩, rfl, by rw [unhide HT]; exact (Row4.put2 (w := w.drewN q) (unhide HR)).put3, only_put (only_put (only_drew _))⟩

/-- The last segment says how many lines there are. -/
def LastOk (gs : List Sg) : Prop := ∀ l g, gs = l ++ [g] → g.b = ((nL l : Nat) : Int)
theorem LastOk.nil : LastOk [] := fun l g h => by simp at h
theorem LastOk.snoc {gs : List Sg} {g : Sg} (h : g.b = ((nL gs : Nat) : Int)) : LastOk (gs ++ [g]) := fun l g' e => by
  have := List.append_inj' e rfl
  obtain ⟨rfl, h2⟩ := this
  simp at h2
  subst h2
  exact h

theorem SgRow.at {base : Nat} {w : World} {v : Value} {ss : List Sv} (h : SgRow base w v ss) (i : Nat) (s : Sv) (hi : ss[i]? = some s) : ∃ q cap, v = .slice (some ⟨q, 0, none⟩) ss.length cap ∧ base ≤ q ∧ q < w.heap.size ∧ w.cell? ⟨q, i * 4, none⟩ = some (.int .i64 s.g.b) ∧ w.cell? ⟨q, i * 4 + 1, none⟩ = some s.lv ∧ w.cell? ⟨q, i * 4 + 2, none⟩ = some s.kv ∧ w.cell? ⟨q, i * 4 + 3, none⟩ = some s.pv := by
  have hlt : i < ss.length := (List.getElem?_eq_some_iff.1 hi).1
  rcases h.own.2 with ⟨rfl, hz⟩ | ⟨g, cap, cur, rfl, hbg, hgc, hnc, hcm, hcs, htake⟩
  · omega
  · have hc : ∀ j, j < 4 → w.cell? ⟨g, i * 4 + j, none⟩ = (cell4v s)[j]? := fun j hj => by
      rw [h.own.cellAt (i * 4 + j) (by omega)]; exact cellsV_get ss i _ hi j hj
    exact ⟨g, cap, rfl, hbg, (h.own.lt g rfl).2, hc 0 (by omega), hc 1 (by omega), hc 2 (by omega), hc 3 (by omega)⟩
theorem SgRow.vals {base : Nat} {w : World} {v : Value} {ss : List Sv} (h : SgRow base w v ss) (s : Sv) (hs : s ∈ ss) : ∃ a1 c1 a2 c2 a3 c3, s.lv = .slice a1 s.g.xs.length c1 ∧ s.kv = .slice a2 s.g.ks.length c2 ∧ s.pv = .slice a3 s.g.pss.length c3 := by
  obtain ⟨a1, c1, a2, c2, a3, c3, e⟩ := ((h.seg s hs).rd (h.blk s hs).2.1).val
  unfold Sv.v at e
  simp only [Value.agg.injEq, Array.mk.injEq, List.cons.injEq, and_true] at e
  exact ⟨a1, c1, a2, c2, a3, c3, e.2.1, e.2.2.1, e.2.2.2⟩

set_option maxHeartbeats 2000000 in
set_option maxRecDepth 100000 in
theorem sealedLines_any (BX base : Nat) (sg op : Value) (lr br : Int) (ss : List Sv) (w : World) (hr : Row4 w BX 71 sg op (.int .i64 lr) (.int .i64 br)) (hs : SgRow base w sg ss) (hla : LastOk (ss.map Sv.g)) (hn : nL (ss.map Sv.g) ≤ 1000) (hln : ss.length ≤ 1000) :
    Calls Tryz.prog 49 #[.pointer (some ⟨BX, 0, none⟩)] w fun e w' => e = .returned (.int .i64 ((nL (ss.map Sv.g) : Nat) : Int)) ∧ Below w.heap.size w w' := by
  obtain ⟨f0, f1, f2, f3, z0, z1, z2, z3⟩ := hr.facts
  rcases List.eq_nil_or_concat ss with rfl | ⟨l, s, rfl⟩
  · obtain ⟨a, c, rfl⟩ := hs.form
    go_enter Tryz.func49, Tryz.ntmps49
    go_wp2
    go_ret
    exact ⟨rfl, Below.refl _ _⟩
  · rw [List.concat_eq_append] at *
    have hb := hla (l.map Sv.g) s.g (by simp)
    obtain ⟨q, cap, rfl, hq1, hq2, c0, c1, c2, c3⟩ := hs.at l.length s (by simp)
    obtain ⟨a1, k1, a2, k2, a3, k3, e1, e2, e3⟩ := hs.vals s (by simp)
    rw [e1] at c1
    rw [e2] at c2
    rw [e3] at c3
    rw [hb] at c0
    rw [List.map_append, nL_app, List.map_singleton, nL_one] at hn ⊢
    rw [List.length_append, List.length_singleton] at *
    generalize nL (l.map Sv.g) = n0 at *
    generalize s.g.xs.length = n1 at *
    generalize l.length = m at *
    have hi1 : wrap64 (((m + 1 : Nat) : Int) - 1) = (m : Int) := by unfold wrap64; omega
    have hi2 : IntKind.i64.wrap (((m + 1 : Nat) : Int) - 1) = (m : Int) := by rw [k64i (by omega) (by omega)]; omega
    have hi3 : IntKind.i64.wrap (m : Int) = (m : Int) := k64i (by omega) (by omega)
    have hi4 : (0 : Int) ≤ (m : Int) := by omega
    have hi5 : (m : Int) < ((m + 1 : Nat) : Int) := by omega
    have hA := below1 w (.cells #[.int .i64 0, .slice none 0 0, .slice none 0 0, .slice none 0 0] 59)
    obtain ⟨F0, -⟩ := (hr.alloc (.cells #[.int .i64 0, .slice none 0 0, .slice none 0 0, .slice none 0 0] 59)).facts
    have C0 := (hA.cell (p := ⟨q, m * 4, none⟩) hq2).trans c0
    have C1 := (hA.cell (p := ⟨q, m * 4 + 1, none⟩) hq2).trans c1
    have C2 := (hA.cell (p := ⟨q, m * 4 + 2, none⟩) hq2).trans c2
    have C3 := (hA.cell (p := ⟨q, m * 4 + 3, none⟩) hq2).trans c3
    clear e1 e2 e3 hb hla hs hA
    go_enter Tryz.func49, Tryz.ntmps49
    go_wp2_with fail
    go_region
    all_goals go_wp2
    all_goals go_ret
    all_goals exact ⟨by push_cast; rfl, (below1 w _).drew⟩

end Go.Proofs.YthgnefdefjannaaGreat
