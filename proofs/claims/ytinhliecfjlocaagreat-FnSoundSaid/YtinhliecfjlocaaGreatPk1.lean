import Derived.Test.YtinhliecfjlocaaGreatRows
import Derived.WalkKit
import Derived.ProofKit
import Derived.Below
import Derived.Deep.QuietTactic
import Derived.BigQuiet
import Derived.WalkSmall
namespace Go.Proofs.YtinhliecfjlocaaGreat
open Go.RowKit
structure El where
  kind : Int
  set : List Int
  mn : Int
  mx : Int
def dE : El := ⟨0, [], 0, 0⟩
def In64 (x : Int) : Prop := -9223372036854775808 ≤ x ∧ x ≤ 9223372036854775807
def IntsAt (lo n : Nat) (w : World) (v : Value) (xs : List Int) : Prop :=
  ∃ a cap, v = .slice a xs.length cap ∧ xs.length ≤ maxLen ∧ (∀ i : Nat, In64 (xs[i]?.getD 0)) ∧
    (0 < xs.length → ∃ b off, a = some ⟨b, off, none⟩ ∧ lo ≤ b ∧ b < n ∧ ∀ i : Nat, i < xs.length → w.cell? ⟨b, off + i, none⟩ = some (.int .i64 (xs[i]?.getD 0)))
def ElAt (lo n : Nat) (w : World) (b o : Nat) (x : El) : Prop :=
  In64 x.kind ∧ In64 x.mn ∧ In64 x.mx ∧ ∃ v, w.cell? ⟨b, o, none⟩ = some (.int .i64 x.kind) ∧ w.cell? ⟨b, o + 1, none⟩ = some v ∧
    w.cell? ⟨b, o + 2, none⟩ = some (.int .i64 x.mn) ∧ w.cell? ⟨b, o + 3, none⟩ = some (.int .i64 x.mx) ∧ IntsAt lo n w v x.set
def ElsAt (lo n : Nat) (w : World) (v : Value) (xs : List El) : Prop :=
  ∃ a cap, v = .slice a xs.length cap ∧ (xs.length ≤ cap ∧ cap ≤ maxLen) ∧
    (0 < xs.length → ∃ b off, a = some ⟨b, off, none⟩ ∧ lo ≤ b ∧ b < n ∧ ∀ i : Nat, i < xs.length → ElAt lo n w b (off + i * 4) (xs[i]?.getD dE))
def Same (lo n : Nat) (w w' : World) : Prop := ∀ b o, lo ≤ b → b < n → w'.cell? ⟨b, o, none⟩ = w.cell? ⟨b, o, none⟩
theorem Same.of_below {lo n m : Nat} {w w' : World} (hb : Below m w w') (hm : n ≤ m) : Same lo n w w' := fun b o _ h => hb.cell (p := ⟨b, o, none⟩) (by show b < m; omega)
theorem Same.refl (lo n : Nat) (w : World) : Same lo n w w := fun _ _ _ _ => rfl
theorem Same.trans {lo n : Nat} {a b c : World} (h : Same lo n a b) (k : Same lo n b c) : Same lo n a c := fun x o h1 h2 => (k x o h1 h2).trans (h x o h1 h2)
theorem Same.mono {lo n lo' n' : Nat} {a b : World} (h : Same lo n a b) (h1 : lo ≤ lo') (h2 : n' ≤ n) : Same lo' n' a b := fun x o k1 k2 => h x o (by omega) (by omega)
theorem Same.setCell {lo n : Nat} {w w' : World} (h : Same lo n w w') {b o : Nat} (hb : b < lo ∨ n ≤ b) (u : Value) : Same lo n w (w'.setCell ⟨b, o, none⟩ u) := by
  intro x p h1 h2
  rw [← h x p h1 h2]
  exact World.cell?_of_block (Below.heap_setCell _ _ _ _ (by show x ≠ b; omega))
theorem IntsAt.same {lo n : Nat} {w w' : World} {v : Value} {xs : List Int} (h : IntsAt lo n w v xs) (hs : Same lo n w w') : IntsAt lo n w' v xs := by
  obtain ⟨a, cap, rfl, hl, hr, hc⟩ := h
  refine ⟨a, cap, rfl, hl, hr, fun hp => ?_⟩
  obtain ⟨b, off, rfl, hlo, hbn, hcell⟩ := hc hp
  exact ⟨b, off, rfl, hlo, hbn, fun i hi => by rw [hs b _ hlo hbn]; exact hcell i hi⟩
theorem IntsAt.mono {lo n lo' m : Nat} {w : World} {v : Value} {xs : List Int} (h : IntsAt lo n w v xs) (hl' : lo' ≤ lo) (hm : n ≤ m) : IntsAt lo' m w v xs := by
  obtain ⟨a, cap, rfl, hl, hr, hc⟩ := h
  refine ⟨a, cap, rfl, hl, hr, fun hp => ?_⟩
  obtain ⟨b, off, rfl, hlo, hbn, hcell⟩ := hc hp
  exact ⟨b, off, rfl, by omega, by omega, hcell⟩
theorem ElAt.same {lo n b o : Nat} {w w' : World} {x : El} (h : ElAt lo n w b o x) (hs : Same lo n w w') (h1 : lo ≤ b) (h2 : b < n) : ElAt lo n w' b o x := by
  obtain ⟨i1, i2, i3, v, c0, c1, c2, c3, hi⟩ := h
  refine ⟨i1, i2, i3, v, ?_, ?_, ?_, ?_, hi.same hs⟩ <;> rw [hs _ _ h1 h2] <;> assumption
theorem ElAt.mono {lo n lo' m b o : Nat} {w : World} {x : El} (h : ElAt lo n w b o x) (hl' : lo' ≤ lo) (hm : n ≤ m) : ElAt lo' m w b o x := by
  obtain ⟨h1, h2, h3, v, c0, c1, c2, c3, hi⟩ := h
  exact ⟨h1, h2, h3, v, c0, c1, c2, c3, hi.mono hl' hm⟩
theorem ElsAt.same {lo n : Nat} {w w' : World} {v : Value} {xs : List El} (h : ElsAt lo n w v xs) (hs : Same lo n w w') : ElsAt lo n w' v xs := by
  obtain ⟨a, cap, rfl, hl, hc⟩ := h
  refine ⟨a, cap, rfl, hl, fun hp => ?_⟩
  obtain ⟨b, off, rfl, hlo, hbn, hcell⟩ := hc hp
  exact ⟨b, off, rfl, hlo, hbn, fun i hi => (hcell i hi).same hs hlo hbn⟩
theorem ElsAt.mono {lo n lo' m : Nat} {w : World} {v : Value} {xs : List El} (h : ElsAt lo n w v xs) (hl' : lo' ≤ lo) (hm : n ≤ m) : ElsAt lo' m w v xs := by
  obtain ⟨a, cap, rfl, hl, hc⟩ := h
  refine ⟨a, cap, rfl, hl, fun hp => ?_⟩
  obtain ⟨b, off, rfl, hlo, hbn, hcell⟩ := hc hp
  exact ⟨b, off, rfl, by omega, by omega, fun i hi => (hcell i hi).mono hl' hm⟩
theorem IntsAt.below {lo m : Nat} {w w' : World} {v : Value} {xs : List Int} (h : IntsAt lo w.heap.size w v xs) (hb : Below m w w') (hm : w.heap.size ≤ m) : IntsAt lo w'.heap.size w' v xs :=
  (h.same (Same.of_below hb hm)).mono (Nat.le_refl _) hb.size
theorem ElsAt.below {lo m : Nat} {w w' : World} {v : Value} {xs : List El} (h : ElsAt lo w.heap.size w v xs) (hb : Below m w w') (hm : w.heap.size ≤ m) : ElsAt lo w'.heap.size w' v xs :=
  (h.same (Same.of_below hb hm)).mono (Nat.le_refl _) hb.size
theorem bcell {W w1 : World} {n : Nat} (hb : Below n W w1) : (∀ b o, b < n → w1.cell? ⟨b, o, none⟩ = W.cell? ⟨b, o, none⟩) ∧ (∀ b o, b < n → w1.frozen? ⟨b, o, none⟩ = W.frozen? ⟨b, o, none⟩) :=
  ⟨fun b o h => hb.cell (p := ⟨b, o, none⟩) h, fun b o h => hb.frozen (p := ⟨b, o, none⟩) h⟩
theorem sz_alloc (w : World) (o : Obj) : (w.alloc o).heap.size = w.heap.size + 1 := by simp
theorem below1 (w : World) (o : Obj) : Below w.heap.size w (w.alloc o) := (Below.refl _ _).alloc (Nat.le_refl _) _
theorem below2 (w : World) (o p : Obj) : Below w.heap.size w ((w.alloc o).alloc p) := (below1 w o).alloc (by rw [sz_alloc]; omega) _
theorem below3 (w : World) (o p q : Obj) : Below w.heap.size w (((w.alloc o).alloc p).alloc q) := (below2 w o p).alloc (by rw [sz_alloc, sz_alloc]; omega) _
theorem bput {B : Nat} {a w : World} (h : Below B a w) {b o : Nat} (hp : B ≤ b) (u : Value) : Below B a (w.setCell ⟨b, o, none⟩ u) := h.setCell hp u
theorem sz_put (w : World) (p : Addr) (u : Value) : (w.setCell p u).heap.size = w.heap.size := by simp [World.setCell]
def RetB (e : Ending) (P : Prop) : Prop := ∃ r : Bool, e = .returned (.bool r) ∧ (r = true ↔ P)
theorem RetB.yes {P : Prop} (h : P) : RetB (.returned (.bool true)) P := ⟨true, rfl, by simp [h]⟩
theorem RetB.no {P : Prop} (h : ¬ P) : RetB (.returned (.bool false)) P := ⟨false, rfl, by simp [h]⟩
theorem RetB.of {P : Prop} {b : Bool} (h : b = true ↔ P) : RetB (.returned (.bool b)) P := ⟨b, rfl, h⟩
theorem RetB.cases {e : Ending} {P : Prop} (h : RetB e P) : (e = .returned (.bool true) ∧ P) ∨ (e = .returned (.bool false) ∧ ¬ P) := by
  obtain ⟨r, rfl, hr⟩ := h
  cases r with
  | true => exact Or.inl ⟨rfl, hr.1 rfl⟩
  | false => exact Or.inr ⟨rfl, fun hp => Bool.noConfusion (hr.2 hp)⟩
theorem hide {p : Prop} (h : p) : Hid p := h
theorem unhide {p : Prop} (h : Hid p) : p := h
theorem ret_int {k : IntKind} {a b : Int} (h : a = b) : Ending.returned (.int k a) = .returned (.int k b) := by rw [h]
theorem ret_bool {a b : Bool} (h : a = b) : Ending.returned (.bool a) = .returned (.bool b) := by rw [h]
def PairOk (xs : List Int) (i : Nat) : Prop := xs[i]?.getD 0 ≤ xs[i + 1]?.getD 0 ∧ (0 < i → 2 ≤ xs[i]?.getD 0 - xs[i - 1]?.getD 0)
def Canon (xs : List Int) : Prop :=
  xs.length % 2 = 0 ∧ (∀ i : Nat, i < xs.length → 0 ≤ xs[i]?.getD 0 ∧ xs[i]?.getD 0 ≤ 255) ∧ ∀ m : Nat, 2 * m < xs.length → PairOk xs (2 * m)
set_option maxHeartbeats 1000000 in
theorem l1canon_any (v : Value) (xs : List Int) (w : World) (hv : IntsAt 0 w.heap.size w v xs) :
    Calls Tryz.prog 98 #[v] w fun e w' => RetB e (Canon xs) ∧ Below w.heap.size w w' := by
  obtain ⟨a, cap, rfl, hl, hr, hc⟩ := hv
  unfold maxLen at hl
  by_cases hev : xs.length % 2 = 0
  · have hev' : ((xs.length : Int) % 2 != 0) = false := by simp; omega
    go_enter Tryz.func98, Tryz.ntmps98
    go_wp2
    go_loop [3] (fun i => ∃ k : Nat, k ≤ xs.length ∧ i = .int .i64 k ∧ ∀ j : Nat, j < k → 0 ≤ xs[j]?.getD 0 ∧ xs[j]?.getD 0 ≤ 255) (fun i => xs.length - (intOf i).toNat)
    case atStart => exact ⟨0, Nat.zero_le _, rfl, fun j hj => absurd hj (Nat.not_lt_zero _)⟩
    case round =>
      obtain ⟨k, hk, rfl, hin⟩ := hrel
      by_cases hlt : k < xs.length
      · obtain ⟨b, off, rfl, -, hbn, hcell⟩ := hc (by omega)
        have hx := hcell k hlt
        have hlt' : (k : Int) < (xs.length : Int) := by omega
        have Hin := hide hin
        clear hin
        generalize hX : xs[k]?.getD 0 = x at *
        have HX := hide hX
        clear hX hcell
        by_cases h1 : x < 0
        · go_wp2
          go_ret
          exact ⟨RetB.no (by intro hcn; have := (hcn.2.1 k hlt).1; rw [unhide HX] at this; omega), Below.refl _ _⟩
        · by_cases h2 : 255 < x
          · go_wp2
            go_ret
            exact ⟨RetB.no (by intro hcn; have := (hcn.2.1 k hlt).2; rw [unhide HX] at this; omega), Below.refl _ _⟩
          · go_wp2
            go_round
            case rel => exact ⟨k + 1, by omega, by go_num, fun j hj => by
              by_cases e : j = k
              · subst e; rw [unhide HX]; omega
              · exact unhide Hin j (by omega)⟩
            case measure => simp [intOf]; omega
      · obtain rfl : k = xs.length := by omega
        have Hin := hide hin
        clear hin
        go_wp2
        go_loopw [4] (fun i wr => ∃ m : Nat, 2 * m ≤ xs.length ∧ i = .int .i64 (2 * m : Nat) ∧ (∀ j : Nat, j < m → PairOk xs (2 * j)) ∧ Below w.heap.size w wr) (fun i _ => xs.length - (intOf i).toNat)
        case atStart => exact ⟨0, Nat.zero_le _, rfl, fun j hj => absurd hj (Nat.not_lt_zero _), Below.refl _ _⟩
        case round =>
          obtain ⟨m, hm, rfl, hpr, hb⟩ := hrel
          have Hpr := hide hpr
          clear hpr
          by_cases hlt2 : 2 * m < xs.length
          · obtain ⟨b, off, rfl, -, hbn, hcell⟩ := hc (by omega)
            have hx : wr.cell? ⟨b, off + 2 * m, none⟩ = some (.int .i64 (xs[2 * m]?.getD 0)) := by rw [hb.cell (p := ⟨b, off + 2 * m, none⟩) hbn]; exact hcell _ hlt2
            have hy : wr.cell? ⟨b, off + (2 * m + 1), none⟩ = some (.int .i64 (xs[2 * m + 1]?.getD 0)) := by rw [hb.cell (p := ⟨b, off + (2 * m + 1), none⟩) hbn]; exact hcell _ (by omega)
            have hlt2' : (2 * (m : Int)) < (xs.length : Int) := by omega
            have hlt3' : (2 * (m : Int)) + 1 < (xs.length : Int) := by omega
            have bx := unhide Hin (2 * m) hlt2
            have byy := unhide Hin (2 * m + 1) (by omega)
            have e1 : ((2 * m : Nat) : Int) = 2 * (m : Int) := by omega
            generalize hX : xs[2 * m]?.getD 0 = x at *
            generalize hY : xs[2 * m + 1]?.getD 0 = y at *
            have HX := hide hX
            have HY := hide hY
            clear hX hY
            by_cases hgt : y < x
            · go_wp2
              go_quiet (fail)
              go_wp2
              go_ret
              exact ⟨RetB.no (by intro hcn; have := (hcn.2.2 m hlt2).1; rw [unhide HX, unhide HY] at this; omega), below_drewN hb _⟩
            · go_wp2
              go_quiet (fail)
              go_wp2
              by_cases hmp : 0 < m
              · have hmp' : 0 < 2 * (m : Int) := by omega
                have hz : wr.cell? ⟨b, off + (2 * m - 1), none⟩ = some (.int .i64 (xs[2 * m - 1]?.getD 0)) := by rw [hb.cell (p := ⟨b, off + (2 * m - 1), none⟩) hbn]; exact hcell _ (by omega)
                have bz := unhide Hin (2 * m - 1) (by omega)
                have hz1 : (2 * (m : Int) - 1).toNat = 2 * m - 1 := by omega
                have hz2 : 0 ≤ 2 * (m : Int) - 1 := by omega
                have hz3 : 2 * (m : Int) - 1 < (xs.length : Int) := by omega
                generalize hZ : xs[2 * m - 1]?.getD 0 = z at *
                have HZ := hide hZ
                clear hZ
                by_cases hdd : x - z < 2
                · go_quiet (fail)
                  go_wp2
                  go_ret
                  exact ⟨RetB.no (by intro hcn; have := (hcn.2.2 m hlt2).2 (by omega); rw [unhide HX, unhide HZ] at this; omega), below_drewN (below_drewN hb _) _⟩
                · go_quiet (fail)
                  go_wp2
                  go_roundw
                  case rel => exact ⟨m + 1, by omega, by congr 1, fun j hj => by
                    by_cases e : j = m
                    · subst e; exact ⟨by rw [unhide HX, unhide HY]; omega, fun _ => by rw [unhide HX, unhide HZ]; omega⟩
                    · exact unhide Hpr j (by omega), below_drewN hb _⟩
                  case measure => simp [intOf]; omega
              · have hmp' : decide (0 < 2 * (m : Int)) = false := by simp; omega
                go_quiet (fail)
                go_wp2
                go_roundw
                case rel => exact ⟨m + 1, by omega, by congr 1, fun j hj => by
                  by_cases e : j = m
                  · subst e; exact ⟨by rw [unhide HX, unhide HY]; omega, fun h => absurd h (by omega)⟩
                  · exact unhide Hpr j (by omega), below_drewN hb _⟩
                case measure => simp [intOf]; omega
          · go_wp2
            go_ret
            exact ⟨RetB.yes ⟨hev, unhide Hin, fun j hj => unhide Hpr j (by omega)⟩, hb⟩
  · have hev' : ((xs.length : Int) % 2 != 0) = true := by simp; omega
    go_enter Tryz.func98, Tryz.ntmps98
    go_wp2
    go_ret
    exact ⟨RetB.no (fun hcn => hev hcn.1), Below.refl _ _⟩
end Go.Proofs.YtinhliecfjlocaaGreat
