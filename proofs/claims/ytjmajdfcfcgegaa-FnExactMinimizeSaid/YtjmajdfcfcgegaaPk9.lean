import Derived.Test.YtjmajdfcfcgegaaR1
import Derived.Test.YtjmajdfcfcgegaaPk3
import Derived.Deep.RegionWith
import Derived.OwnWalk
import Derived.Test.YtjmajdfcfcgegaaU0
import Derived.Test.YtjmajdfcfcgegaaS5
import Derived.Test.YtjmajdfcfcgegaaPk2
import Derived.Test.YtjmajdfcfcgegaaPk1
import Derived.Lib.SmallJoins
import Derived.Deep.Slices
import Derived.OpenShut
import Derived.ShutString
import Derived.ChangeOld
namespace Go.Proofs.Ytjmajdfcfcgegaa
open Go.RowKit

/-- The state behind n bytes. -/
def stt (xs ys bs : List Int) (nc : Int) : Nat → Int
  | 0 => 0
  | n + 1 => ys[(stt xs ys bs nc n * nc + xs[(bs[n]?.getD 0).toNat]?.getD 0).toNat]?.getD 0
def trace (xs ys bs : List Int) (nc : Int) (n : Nat) : List Int := (List.range n).map (stt xs ys bs nc)
theorem trace_len (xs ys bs : List Int) (nc : Int) (n : Nat) : (trace xs ys bs nc n).length = n := by simp [trace]
theorem trace_get (xs ys bs : List Int) (nc : Int) (n i : Nat) (h : i < n) : (trace xs ys bs nc n)[i]?.getD 0 = stt xs ys bs nc i := by simp [trace, h]
theorem trace_succ (xs ys bs : List Int) (nc : Int) (n : Nat) : trace xs ys bs nc (n + 1) = trace xs ys bs nc n ++ [stt xs ys bs nc n] := by simp [trace, List.range_succ]

theorem idx_bd {s c nc S : Int} (s0 : 0 ≤ s) (s1 : s < S) (c0 : 0 ≤ c) (c1 : c < nc) (hn : nc ≤ 256) (hS : S ≤ 1024) : 0 ≤ s * nc ∧ s * nc ≤ 262144 ∧ s * nc + c < S * nc := by
  have h1 : 0 ≤ s * nc := Int.mul_nonneg s0 (by omega)
  have h2 : s * nc + nc ≤ S * nc := by
    have : (s + 1) * nc ≤ S * nc := Int.mul_le_mul_of_nonneg_right (by omega) (by omega)
    rw [Int.add_mul, Int.one_mul] at this
    exact this
  have h3 : s * nc ≤ 1024 * 256 := Int.mul_le_mul (by omega) (by omega) (by omega) (by omega)
  omega

theorem stt_bd {xs ys bs : List Int} {zs : List Bool} {nc : Int} (h : TabOk xs ys zs nc) (hb : ∀ i : Nat, 0 ≤ bs[i]?.getD 0 ∧ bs[i]?.getD 0 ≤ 255) : ∀ n : Nat, 0 ≤ stt xs ys bs nc n ∧ stt xs ys bs nc n < zs.length := by
  intro n
  induction n with
  | zero => have := h.st; simp [stt]; omega
  | succ n ih =>
    have hc := h.cls (b := (bs[n]?.getD 0).toNat) (by have := hb n; omega)
    have hi := idx_bd ih.1 ih.2 hc.1 hc.2 h.hn.2 (by have := h.st; omega)
    have hx := h.nx
    simp only [stt]
    exact h.to _ (by omega)

/-- What the run of a table answers. -/
def RunRet (e : Ending) (w w' : World) (xs ys bs : List Int) (zs : List Bool) (nc : Int) : Prop :=
  (¬ TabOk xs ys zs nc ∧ e = .returned (.tuple #[.bool false, .slice none 0 0])) ∨
  (TabOk xs ys zs nc ∧ ∃ v, e = .returned (.tuple #[.bool (zs[(stt xs ys bs nc bs.length).toNat]?.getD false), v]) ∧ SlW mI 0 w.heap.size w'.heap.size w' v (trace xs ys bs nc (bs.length + 1)))

/-- One state more. -/
theorem run_step {xs ys bs : List Int} {nc : Int} {n : Nat} {w1 wr w2 : World} {tv v' : Value} {o : Obj} {q : Nat} (hown : wr.ownsRow w1.heap.size 3 1 tv n ((trace xs ys bs nc n).map mI)) (hb : Below w1.heap.size w1 wr)
    (h1 : w2.ownsRow w1.heap.size 3 1 v' (n + 1) ((trace xs ys bs nc n).map mI ++ [.int .i64 (stt xs ys bs nc n)])) (hg : ((wr.drewN q).alloc o).grownBy w2 tv.ownBlock) :
    w2.ownsRow w1.heap.size 3 1 v' (n + 1) ((trace xs ys bs nc (n + 1)).map mI) ∧ Below w1.heap.size w1 w2 := by
  refine ⟨by rw [trace_succ, List.map_append]; exact h1, ((below_drewN hb q).alloc hb.size o).grown hg (by rw [sz_alloc]; exact Nat.le_succ_of_le hb.size) (fun k hk => (hown.lt k hk).1)⟩

end Go.Proofs.Ytjmajdfcfcgegaa

namespace Go.Proofs.Ytjmajdfcfcgegaa
open Go.RowKit

/-- What a run of a table answers, as data. -/
def RunV (xs ys bs : List Int) (zs : List Bool) (nc : Int) (acc : Bool) (tr : List Int) : Prop :=
  (TabOk xs ys zs nc ∧ acc = zs[(stt xs ys bs nc bs.length).toNat]?.getD false ∧ tr = trace xs ys bs nc (bs.length + 1)) ∨ (¬ TabOk xs ys zs nc ∧ acc = false ∧ tr = [])

theorem RunV.uniq {xs ys bs : List Int} {zs : List Bool} {nc : Int} {a b : Bool} {s t : List Int} (h : RunV xs ys bs zs nc a s) (k : RunV xs ys bs zs nc b t) : a = b ∧ s = t := by
  rcases h with ⟨h1, h2, h3⟩ | ⟨h1, h2, h3⟩ <;> rcases k with ⟨k1, k2, k3⟩ | ⟨k1, k2, k3⟩
  · exact ⟨by rw [h2, k2], by rw [h3, k3]⟩
  · exact absurd h1 k1
  · exact absurd k1 h1
  · exact ⟨by rw [h2, k2], by rw [h3, k3]⟩
theorem RunV.len {xs ys bs : List Int} {zs : List Bool} {nc : Int} {a : Bool} {s : List Int} (h : RunV xs ys bs zs nc a s) (hb : bs.length ≤ 1048576) : s.length ≤ 1048577 := by
  rcases h with ⟨-, -, h3⟩ | ⟨-, -, h3⟩
  · rw [h3, trace_len]; omega
  · rw [h3]; simp

/-- The contract of a function that runs a table. -/
def RunsTable (f : FuncId) : Prop := ∀ (cl nx ac ln : Value) (xs ys bs : List Int) (zs : List Bool) (nc : Int) (w : World), SlAt mI 0 0 w.heap.size w cl xs → SlAt mI 0 0 w.heap.size w nx ys → SlAt mT false 0 w.heap.size w ac zs → SlAt mB 0 0 w.heap.size w ln bs →
  Bytes bs → bs.length ≤ 1048576 → In64 nc → xs.length ≤ 1048576 → ys.length ≤ 1048576 → zs.length ≤ 1048576 → (∀ i : Nat, In64 (xs[i]?.getD 0)) → (∀ i : Nat, In64 (ys[i]?.getD 0)) →
  Calls Try.prog f #[.agg #[cl, .int .i64 nc, nx, ac], ln] w fun e w' => ∃ acc tr v, RunV xs ys bs zs nc acc tr ∧ e = .returned (.tuple #[.bool acc, v]) ∧ SlW mI 0 w.heap.size w'.heap.size w' v tr ∧ Below w.heap.size w w'

end Go.Proofs.Ytjmajdfcfcgegaa

namespace Go.Proofs.Ytjmajdfcfcgegaa
open Go.RowKit

structure ClsOk (xs : List Int) (nc : Int) : Prop where
  cl : xs.length = 256
  up : ∀ b : Nat, b < 256 → 0 ≤ xs[b]?.getD 0 ∧ xs[b]?.getD 0 ≤ top xs b + 1
  tp : top xs 256 = nc - 1

theorem ClsOk.hn {xs : List Int} {nc : Int} (h : ClsOk xs nc) : 1 ≤ nc ∧ nc ≤ 256 := by
  have h1 := top_bd xs 256 h.up
  have h2 := h.up 0 (by omega)
  have h3 := top_ge xs 0
  have h4 := top_mono xs 1 256 (by omega)
  have h5 := h.tp
  have e0 : top xs 0 = -1 := rfl
  have e1 : top xs (0 + 1) = top xs 1 := rfl
  omega

theorem tab_of {xs ys : List Int} {zs : List Bool} {nc : Int} : TabOk xs ys zs nc ↔ (1 ≤ zs.length ∧ zs.length ≤ 1024) ∧ ClsOk xs nc ∧ (ys.length : Int) = zs.length * nc ∧ ∀ i : Nat, i < ys.length → 0 ≤ ys[i]?.getD 0 ∧ ys[i]?.getD 0 < zs.length :=
  ⟨fun h => ⟨h.st, ⟨h.cl, h.up, h.tp⟩, h.nx, h.to⟩, fun h => ⟨h.1, h.2.1.hn, h.2.1.cl, h.2.1.up, h.2.1.tp, h.2.2.1, h.2.2.2⟩⟩

set_option maxHeartbeats 2000000 in
set_option maxRecDepth 100000 in
theorem classes_any (cl : Value) (xs : List Int) (nc : Int) (w : World) (h1 : SlAt mI 0 0 w.heap.size w cl xs) :
    Calls Try.prog 26 #[cl, .int .i64 nc] w fun e w' => RetB e (ClsOk xs nc) ∧ w' = w := by
  obtain ⟨a1, c1, rfl, l1, hc1⟩ := h1
  unfold maxLen at l1
  by_cases m3 : xs.length = 256
  · have m3' : ((xs.length : Int) != 256) = false := by simp; omega
    have M3 := hide m3
    have m3n : 256 ≤ xs.length := by omega
    have m3m : xs.length ≤ 256 := by omega
    clear m3
    go_enter Try.func26, Try.ntmps26
    go_wp2
    go_loop [5, 13] (fun t i => ∃ b : Nat, b ≤ 256 ∧ i = .int .i64 b ∧ t = .int .i64 (top xs b + 1) ∧ ∀ j : Nat, j < b → 0 ≤ xs[j]?.getD 0 ∧ xs[j]?.getD 0 ≤ top xs j + 1) (fun _ i => 256 - (intOf i).toNat)
    case atStart => exact ⟨0, Nat.zero_le _, rfl, rfl, fun j hj => absurd hj (Nat.not_lt_zero _)⟩
    case round =>
      obtain ⟨b, hb, rfl, rfl, hup⟩ := hrel
      have htb := top_bd xs b hup
      have Hup := hide hup
      clear hup
      by_cases hlt : b < 256
      · obtain ⟨q, off, rfl, -, hqn, hcell⟩ := hc1 (by omega)
        have hx : w.cell? ⟨q, off + b, none⟩ = some (.int .i64 (xs[b]?.getD 0)) := hcell b (by omega)
        have hbl : (b : Int) < (xs.length : Int) := by omega
        have hts : Hid (top xs (b + 1) = if top xs b < xs[b]?.getD 0 then xs[b]?.getD 0 else top xs b) := rfl
        have hP : Hid (∀ h : ClsOk xs nc, 0 ≤ xs[b]?.getD 0 ∧ xs[b]?.getD 0 ≤ top xs b + 1) := fun h => h.up b hlt
        have hnext : Hid (0 ≤ xs[b]?.getD 0 ∧ xs[b]?.getD 0 ≤ top xs b + 1 → ∀ j : Nat, j < b + 1 → 0 ≤ xs[j]?.getD 0 ∧ xs[j]?.getD 0 ≤ top xs j + 1) := fun hq j hj => by
          by_cases e : j = b
          · subst e; exact hq
          · exact unhide Hup j (by omega)
        clear hcell Hup hc1
        generalize xs[b]?.getD 0 = x at *
        generalize top xs b = t at *
        by_cases g1 : x < 0
        · go_wp2
          go_ret
          exact ⟨RetB.no (fun h => by have := unhide hP h; omega), rfl⟩
        · by_cases g2 : t + 1 < x
          · go_wp2
            go_ret
            exact ⟨RetB.no (fun h => by have := unhide hP h; omega), rfl⟩
          · by_cases g3 : t < x
            · have g4 : (x == t + 1) = true := by simp; omega
              have g4' : x = t + 1 := by omega
              subst g4'
              go_wp2
              go_round
              case rel => exact ⟨b + 1, by omega, by go_num, by rw [unhide hts, if_pos g3], unhide hnext ⟨by omega, by omega⟩⟩
              case measure => simp [intOf]; omega
            · have g4 : (x == t + 1) = false := by simp; omega
              go_wp2
              go_round
              case rel => exact ⟨b + 1, by omega, by go_num, by rw [unhide hts, if_neg (by omega)], unhide hnext ⟨by omega, by omega⟩⟩
              case measure => simp [intOf]; omega
      · obtain rfl : b = 256 := by omega
        have hbl : ¬ (256 : Int) < (xs.length : Int) := by omega
        have Htop := hide (show ClsOk xs nc ↔ top xs 256 = nc - 1 from ⟨fun h => h.tp, fun h => ⟨unhide M3, unhide Hup, h⟩⟩)
        clear hc1
        generalize top xs 256 = t at *
        by_cases g1 : t + 1 = nc
        · subst g1
          go_wp2
          go_ret
          exact ⟨RetB.yes ((unhide Htop).2 (by omega)), rfl⟩
        · have g1' : (t + 1 == nc) = false := by simp; omega
          go_wp2
          go_ret
          exact ⟨RetB.no (fun h => by have := (unhide Htop).1 h; omega), rfl⟩
  · have m3' : ((xs.length : Int) != 256) = true := by simp; omega
    go_enter Try.func26, Try.ntmps26
    go_wp2
    go_ret
    exact ⟨RetB.no (fun h => m3 h.cl), rfl⟩

end Go.Proofs.Ytjmajdfcfcgegaa

namespace Go.Proofs.Ytjmajdfcfcgegaa
open Go.RowKit

set_option maxHeartbeats 2000000 in
set_option maxRecDepth 100000 in
theorem validTable_any (cl nx ac : Value) (xs ys : List Int) (zs : List Bool) (nc : Int) (w : World) (h1 : SlAt mI 0 0 w.heap.size w cl xs) (h2 : SlAt mI 0 0 w.heap.size w nx ys) (h3 : SlAt mT false 0 w.heap.size w ac zs) :
    Calls Try.prog 17 #[.agg #[cl, .int .i64 nc, nx, ac]] w fun e w' => RetB e (TabOk xs ys zs nc) ∧ Below w.heap.size w w' := by
  obtain ⟨a1, c1, rfl, l1, hc1⟩ := id h1
  obtain ⟨a2, c2, rfl, l2, hc2⟩ := id h2
  obtain ⟨a3, c3, rfl, l3, -⟩ := h3
  unfold maxLen at l1 l2 l3
  have H1 := hide (h1.below (below1 w (.cells #[.slice a1 xs.length c1, .int .i64 nc, .slice a2 ys.length c2, .slice a3 zs.length c3] 27)) (Nat.le_refl _))
  clear h1
  by_cases n1 : zs.length < 1
  · have n1' : (zs.length : Int) < 1 := by omega
    go_enter Try.func17, Try.ntmps17
    go_wp2_with fail
    go_ret
    exact ⟨RetB.no (fun h => by have := h.st; omega), below1 w _⟩
  · have n1' : ¬ (zs.length : Int) < 1 := by omega
    by_cases n2 : 1024 < zs.length
    · have n2' : 1024 < (zs.length : Int) := by omega
      go_enter Try.func17, Try.ntmps17
      go_wp2_with fail
      go_ret
      exact ⟨RetB.no (fun h => by have := h.st; omega), below1 w _⟩
    · have n2' : ¬ 1024 < (zs.length : Int) := by omega
      go_enter Try.func17, Try.ntmps17
      go_wp2_with fail
      refine (classes_any _ xs nc _ (unhide H1)).mono ?_
      rintro e w1 ⟨hret, rfl⟩
      rcases hret.cases with ⟨rfl, hok⟩ | ⟨rfl, hbad⟩
      · have hn := hok.hn
        have Hok := hide hok
        clear hok hret
        have p1 : 0 ≤ (zs.length : Int) * nc := Int.mul_nonneg (by omega) (by omega)
        have p2 : (zs.length : Int) * nc ≤ 1024 * 256 := Int.mul_le_mul (by omega) (by omega) (by omega) (by omega)
        have p3 : wrap64 ((zs.length : Int) * nc) = (zs.length : Int) * nc := w64 p1 (by omega)
        by_cases g2 : (ys.length : Int) = (zs.length : Int) * nc
        · have g2' : ((ys.length : Int) != (zs.length : Int) * nc) = false := by simp [g2]
          have G2 := hide g2
          clear g2
          go_wp2
          go_loop [34] (fun i => ∃ k : Nat, k ≤ ys.length ∧ i = .int .i64 k ∧ ∀ j : Nat, j < k → 0 ≤ ys[j]?.getD 0 ∧ ys[j]?.getD 0 < zs.length) (fun i => ys.length - (intOf i).toNat)
          case atStart => exact ⟨0, Nat.zero_le _, rfl, fun j hj => absurd hj (Nat.not_lt_zero _)⟩
          case round =>
            obtain ⟨k, hk, rfl, hin⟩ := hrel
            have Hin := hide hin
            clear hin
            by_cases hlt : k < ys.length
            · obtain ⟨q, off, rfl, -, hqn, hcell⟩ := hc2 (by omega)
              have hx : w.cell? ⟨q, off + k, none⟩ = some (.int .i64 (ys[k]?.getD 0)) := hcell k (by omega)
              have hlt' : (k : Int) < (ys.length : Int) := by omega
              clear hcell hc2 hc1
              generalize hX : ys[k]?.getD 0 = x at *
              have HX := hide hX
              clear hX
              by_cases f1 : x < 0
              · go_wp2
                go_ret
                exact ⟨RetB.no (fun h => by have := h.to k hlt; rw [unhide HX] at this; omega), below1 w _⟩
              · by_cases f2 : (zs.length : Int) ≤ x
                · go_wp2
                  go_ret
                  exact ⟨RetB.no (fun h => by have := h.to k hlt; rw [unhide HX] at this; omega), below1 w _⟩
                · go_wp2
                  go_round
                  case rel => exact ⟨k + 1, by omega, by go_num, fun j hj => by
                    by_cases e : j = k
                    · subst e; rw [unhide HX]; omega
                    · exact unhide Hin j (by omega)⟩
                  case measure => simp [intOf]; omega
            · obtain rfl : k = ys.length := by omega
              go_wp2
              go_ret
              exact ⟨RetB.yes (tab_of.2 ⟨⟨by omega, by omega⟩, unhide Hok, unhide G2, unhide Hin⟩), below1 w _⟩
        · have g2' : ((ys.length : Int) != (zs.length : Int) * nc) = true := by simp [g2]
          go_wp2
          go_ret
          exact ⟨RetB.no (fun h => g2 h.nx), below1 w _⟩
      · have Hbad := hide hbad
        clear hbad hret
        go_wp2
        go_ret
        exact ⟨RetB.no (fun h => unhide Hbad (tab_of.1 h).2.1), below1 w _⟩

end Go.Proofs.Ytjmajdfcfcgegaa

namespace Go.Proofs.Ytjmajdfcfcgegaa
open Go.RowKit

/-- Nothing of the block is frozen. -/
def Free (w : World) (b : Nat) : Prop := ∃ c t, w.heap[b]? = some (.cells c t (0, 0))
theorem Free.same {w w' : World} {b : Nat} (h : Free w b) (e : w'.heap[b]? = w.heap[b]?) : Free w' b := by
  obtain ⟨c, t, hb⟩ := h
  exact ⟨c, t, e.trans hb⟩
theorem Free.put {w : World} {b b' o : Nat} {u : Value} (h : Free w b) : Free (w.setCell ⟨b', o, none⟩ u) b := by
  by_cases e : b = b'
  · subst e; exact own_put h
  · exact h.same (Below.heap_setCell _ _ _ _ (by exact e))

/-- The blocks from lo on and below n. -/
def Rng (lo n : Nat) (k : Nat) : Prop := lo ≤ k ∧ k < n

/-- Outside the blocks of S the world w' is as w was. -/
structure ChgF (S : Nat → Prop) (w w' : World) : Prop where
  os : w'.os = w.os
  tape : w'.tape = w.tape
  output : w'.output = w.output
  size : w'.heap.size = w.heap.size
  block : ∀ k, ¬ S k → w'.heap[k]? = w.heap[k]?
theorem ChgF.refl (S : Nat → Prop) (w : World) : ChgF S w w := ⟨rfl, rfl, rfl, rfl, fun _ _ => rfl⟩
theorem ChgF.trans {S : Nat → Prop} {a b c : World} (h : ChgF S a b) (k : ChgF S b c) : ChgF S a c :=
  ⟨k.os.trans h.os, k.tape.trans h.tape, k.output.trans h.output, k.size.trans h.size, fun i hi => (k.block i hi).trans (h.block i hi)⟩
theorem ChgF.mono {S T : Nat → Prop} {a b : World} (h : ChgF S a b) (hs : ∀ k, S k → T k) : ChgF T a b := ⟨h.os, h.tape, h.output, h.size, fun k hk => h.block k (fun q => hk (hs k q))⟩
theorem Chg.foot {lo n : Nat} {S : Nat → Prop} {a b : World} (h : Chg lo n a b) (hs : ∀ k, lo ≤ k → k < n → S k) : ChgF S a b := ⟨h.os, h.tape, h.output, h.size, fun k hk => h.block k (by
  by_cases e : lo ≤ k ∧ k < n
  · exact absurd (hs k e.1 e.2) hk
  · omega)⟩
theorem ChgF.chg {lo n : Nat} {a b : World} (h : ChgF (Rng lo n) a b) : Chg lo n a b := ⟨h.os, h.tape, h.output, h.size, fun k hk => h.block k (by unfold Rng; omega)⟩
theorem ChgF.below {S : Nat → Prop} {lo : Nat} {w w' : World} (h : ChgF S w w') (hs : ∀ k, S k → lo ≤ k) : Below lo w w' := ⟨h.os, h.tape, h.output, by rw [h.size]; exact Nat.le_refl _, fun k hk => h.block k (fun q => by have := hs k q; omega)⟩
theorem ChgF.put {S : Nat → Prop} {a w : World} (h : ChgF S a w) {b o : Nat} (h1 : S b) (u : Value) : ChgF S a (w.setCell ⟨b, o, none⟩ u) :=
  h.trans ⟨rfl, rfl, rfl, by simp [World.setCell], fun k hk => Below.heap_setCell _ _ _ _ (by show k ≠ b; intro e; subst e; exact hk h1)⟩

/-- v is a slice, element by element mk of xs, in the blocks of S, which nothing has frozen. -/
def SlF {α : Type} (mk : α → Value) (d : α) (S : Nat → Prop) (w : World) (v : Value) (xs : List α) : Prop :=
  ∃ lo n, SlW mk d lo n w v xs ∧ ∀ k, lo ≤ k → k < n → S k
theorem SlW.foot {α : Type} {mk : α → Value} {d : α} {lo n : Nat} {w : World} {v : Value} {xs : List α} (h : SlW mk d lo n w v xs) : SlF mk d (Rng lo n) w v xs := ⟨lo, n, h, fun _ h1 h2 => ⟨h1, h2⟩⟩
theorem SlF.same {α : Type} {mk : α → Value} {d : α} {S : Nat → Prop} {w w' : World} {v : Value} {xs : List α} (h : SlF mk d S w v xs) (hs : ∀ k, S k → w'.heap[k]? = w.heap[k]?) : SlF mk d S w' v xs := by
  obtain ⟨lo, n, h1, h2⟩ := h
  exact ⟨lo, n, h1.same (fun k k1 k2 => hs k (h2 k k1 k2)), h2⟩
theorem SlF.mono {α : Type} {mk : α → Value} {d : α} {S T : Nat → Prop} {w : World} {v : Value} {xs : List α} (h : SlF mk d S w v xs) (hs : ∀ k, S k → T k) : SlF mk d T w v xs := by
  obtain ⟨lo, n, h1, h2⟩ := h
  exact ⟨lo, n, h1, fun k k1 k2 => hs k (h2 k k1 k2)⟩
theorem SlF.at {α : Type} {mk : α → Value} {d : α} {S : Nat → Prop} {N : Nat} {w : World} {v : Value} {xs : List α} (h : SlF mk d S w v xs) (hs : ∀ k, S k → k < N) : SlAt mk d 0 N w v xs := by
  obtain ⟨lo, n, ⟨a, cap, rfl, hl, hc⟩, h2⟩ := h
  refine ⟨a, cap, rfl, hl, fun hp => ?_⟩
  obtain ⟨b, off, rfl, h3, h4, h5, hcell⟩ := hc hp
  exact ⟨b, off, rfl, Nat.zero_le _, hs b (h2 b h3 h4), hcell⟩
theorem SlF.val {α : Type} {mk : α → Value} {d : α} {S : Nat → Prop} {w : World} {v : Value} {xs : List α} (h : SlF mk d S w v xs) : ∃ a cap, v = .slice a xs.length cap := by
  obtain ⟨lo, n, ⟨a, cap, e, -⟩, -⟩ := h
  exact ⟨a, cap, e⟩

/-- v is a slice of slices that reads as xss, in blocks below N. -/
def SsAt {α : Type} (mk : α → Value) (d : α) (N : Nat) (w : World) (v : Value) (xss : List (List α)) : Prop :=
  ∃ a cap, v = .slice a xss.length cap ∧ (xss.length ≤ cap ∧ cap ≤ maxLen) ∧
    (0 < xss.length → ∃ b off, a = some ⟨b, off, none⟩ ∧ b < N ∧ ∀ i : Nat, i < xss.length → ∃ s, w.cell? ⟨b, off + i, none⟩ = some s ∧ SlAt mk d 0 N w s (xss[i]?.getD []) ∧ CapOk s)
theorem SsAt.below {α : Type} {mk : α → Value} {d : α} {m : Nat} {w w' : World} {v : Value} {xss : List (List α)} (h : SsAt mk d w.heap.size w v xss) (hb : Below m w w') (hm : w.heap.size ≤ m) : SsAt mk d w'.heap.size w' v xss := by
  obtain ⟨a, cap, rfl, hl, hc⟩ := h
  refine ⟨a, cap, rfl, hl, fun hp => ?_⟩
  obtain ⟨b, off, rfl, h1, h2⟩ := hc hp
  refine ⟨b, off, rfl, by have := hb.size; omega, fun i hi => ?_⟩
  obtain ⟨s, h3, h4, h5⟩ := h2 i hi
  exact ⟨s, by rw [hb.cell (p := ⟨b, off + i, none⟩) (by show b < m; omega)]; exact h3, h4.below hb hm, h5⟩
theorem SsAt.drewN {α : Type} {mk : α → Value} {d : α} {n : Nat} {w : World} {v : Value} {xss : List (List α)} (h : SsAt mk d n w v xss) (q : Nat) : SsAt mk d n (w.drewN q) v xss := h

/-- v is a slice of slices, xss, that owns its memory, in the blocks of S: the row of the slices and one for each slice, all apart. -/
def SsF {α : Type} (mk : α → Value) (d : α) (S : Nat → Prop) (w : World) (v : Value) (xss : List (List α)) : Prop :=
  ∃ a cap, v = .slice a xss.length cap ∧ (xss.length ≤ cap ∧ cap ≤ maxLen) ∧ (0 < xss.length → ∃ (b off : Nat) (sv : Nat → Value) (T : Nat → Nat → Prop), a = some ⟨b, off, none⟩ ∧ S b ∧ Free w b ∧
    (∀ i : Nat, i < xss.length → w.cell? ⟨b, off + i, none⟩ = some (sv i)) ∧ (∀ i : Nat, i < xss.length → SlF mk d (T i) w (sv i) (xss[i]?.getD []) ∧ CapOk (sv i)) ∧
    (∀ i : Nat, i < xss.length → ∀ k, T i k → S k ∧ k ≠ b) ∧ ∀ i j : Nat, i < xss.length → j < xss.length → i ≠ j → ∀ k, T i k → ¬ T j k)
theorem SsF.same {α : Type} {mk : α → Value} {d : α} {S : Nat → Prop} {w w' : World} {v : Value} {xss : List (List α)} (h : SsF mk d S w v xss) (hs : ∀ k, S k → w'.heap[k]? = w.heap[k]?) : SsF mk d S w' v xss := by
  obtain ⟨a, cap, rfl, hl, hc⟩ := h
  refine ⟨a, cap, rfl, hl, fun hp => ?_⟩
  obtain ⟨b, off, sv, T, e, h1, h2, h3, h4, h5, h6⟩ := hc hp
  exact ⟨b, off, sv, T, e, h1, h2.same (hs b h1), fun i hi => by rw [World.cell?_of_block (w := w) (a := ⟨b, off + i, none⟩) (hs b h1)]; exact h3 i hi, fun i hi => ⟨(h4 i hi).1.same (fun k hk => hs k (h5 i hi k hk).1), (h4 i hi).2⟩, h5, h6⟩
theorem SsF.mono {α : Type} {mk : α → Value} {d : α} {S S' : Nat → Prop} {w : World} {v : Value} {xss : List (List α)} (h : SsF mk d S w v xss) (hs : ∀ k, S k → S' k) : SsF mk d S' w v xss := by
  obtain ⟨a, cap, rfl, hl, hc⟩ := h
  refine ⟨a, cap, rfl, hl, fun hp => ?_⟩
  obtain ⟨b, off, sv, T, e, h1, h2, h3, h4, h5, h6⟩ := hc hp
  exact ⟨b, off, sv, T, e, hs b h1, h2, h3, h4, fun i hi k hk => ⟨hs k (h5 i hi k hk).1, (h5 i hi k hk).2⟩, h6⟩
theorem SsF.at {α : Type} {mk : α → Value} {d : α} {S : Nat → Prop} {N : Nat} {w : World} {v : Value} {xss : List (List α)} (h : SsF mk d S w v xss) (hs : ∀ k, S k → k < N) : SsAt mk d N w v xss := by
  obtain ⟨a, cap, rfl, hl, hc⟩ := h
  refine ⟨a, cap, rfl, hl, fun hp => ?_⟩
  obtain ⟨b, off, sv, T, e, h1, h2, h3, h4, h5, h6⟩ := hc hp
  exact ⟨b, off, e, hs b h1, fun i hi => ⟨sv i, h3 i hi, (h4 i hi).1.at (fun k hk => hs k (h5 i hi k hk).1), (h4 i hi).2⟩⟩
theorem SsF.keep {α : Type} {mk : α → Value} {d : α} {lo n m : Nat} {w w' : World} {v : Value} {xss : List (List α)} (h : SsF mk d (Rng lo n) w v xss) (hb : Below m w w') (hn : n ≤ m) : SsF mk d (Rng lo n) w' v xss := h.same (fun k hk => hb.block k (by unfold Rng at hk; omega))
theorem SsF.all {α : Type} {mk : α → Value} {d : α} {lo n : Nat} {w : World} {v : Value} {xss : List (List α)} (h : SsF mk d (Rng lo n) w v xss) (hn : n ≤ w.heap.size) : SsAt mk d w.heap.size w v xss := h.at (fun k hk => by unfold Rng at hk; omega)
theorem SsF.nil {α : Type} (mk : α → Value) (d : α) (S : Nat → Prop) (w : World) (a : Option Addr) (cap : Nat) (hc : cap ≤ maxLen) : SsF mk d S w (.slice a 0 cap) ([] : List (List α)) := ⟨a, cap, rfl, ⟨Nat.zero_le _, hc⟩, fun h => absurd h (by simp)⟩

/-- The part of a copy that is made. -/
def PartS {α : Type} (mk : α → Value) (d : α) (t : TypeId) (N : Nat) (w : World) (xss : List (List α)) (k : Nat) : Prop :=
  ∃ (f : Nat → Value) (T : Nat → Nat → Prop), w.rowIs N t xss.length f ∧ (∀ i : Nat, i < k → SlF mk d (T i) w (f i) (xss[i]?.getD []) ∧ CapOk (f i)) ∧ (∀ i : Nat, i < k → ∀ j, T i j → N < j ∧ j < w.heap.size) ∧
    ∀ i j : Nat, i < k → j < k → i ≠ j → ∀ q, T i q → ¬ T j q
theorem partS_step {α : Type} {mk : α → Value} {d : α} {t : TypeId} {N k : Nat} {wr w1 : World} {xss : List (List α)} {v : Value} (h : PartS mk d t N wr xss k) (hk : k < xss.length) (hb : Below wr.heap.size wr w1)
    (hv : SlW mk d wr.heap.size w1.heap.size w1 v (xss[k]?.getD [])) (hcv : CapOk v) : PartS mk d t N (w1.setCell ⟨N, k, none⟩ v) xss (k + 1) := by
  obtain ⟨f, T, hrow, h4, h5, h6⟩ := h
  have hN := hrow.lt
  have hz := hb.size
  have hrow1 := hrow.of_block (hb.block N hN)
  have hput : ∀ k', k' ≠ N → (w1.setCell ⟨N, k, none⟩ v).heap[k']? = w1.heap[k']? := fun k' hne => Below.heap_setCell _ _ _ _ (by exact hne)
  refine ⟨_, fun i => if i = k then Rng wr.heap.size w1.heap.size else T i, hrow1.set k v, fun i hi => ?_, fun i hi j hj => ?_, fun i j hi hj hne q hq hq' => ?_⟩
  · by_cases e : i = k
    · subst e
      simp only [if_true]
      exact ⟨hv.foot.same (fun k' hk' => hput k' (by unfold Rng at hk'; omega)), hcv⟩
    · simp only [e, if_false]
      refine ⟨((h4 i (by omega)).1.same (w' := w1) (fun k' hk' => hb.block k' (h5 i (by omega) k' hk').2)).same (fun k' hk' => hput k' ?_), (h4 i (by omega)).2⟩
      have := h5 i (by omega) k' hk'
      omega
  · rw [sz_put]
    by_cases e : i = k
    · simp only [e, if_true] at hj; unfold Rng at hj; omega
    · simp only [e, if_false] at hj
      have := h5 i (by omega) j hj
      omega
  · by_cases e1 : i = k
    · by_cases e2 : j = k
      · omega
      · simp only [e1, e2, if_true, if_false] at hq hq'
        have := h5 j (by omega) q hq'
        unfold Rng at hq
        omega
    · by_cases e2 : j = k
      · simp only [e1, e2, if_true, if_false] at hq hq'
        have := h5 i (by omega) q hq
        unfold Rng at hq'
        omega
      · simp only [e1, e2, if_false] at hq hq'
        exact h6 i j (by omega) (by omega) hne q hq hq'
theorem partS_done {α : Type} {mk : α → Value} {d : α} {t : TypeId} {N cap : Nat} {w : World} {xss : List (List α)} (h : PartS mk d t N w xss xss.length) (hl : xss.length ≤ cap ∧ cap ≤ maxLen) : SsF mk d (Rng N w.heap.size) w (.slice (some ⟨N, 0, none⟩) xss.length cap) xss := by
  obtain ⟨f, T, hrow, h4, h5, h6⟩ := h
  have hN := hrow.lt
  have hfr : Free w N := by obtain ⟨c, hcb, -⟩ := hrow; exact ⟨c, t, hcb⟩
  exact ⟨_, cap, rfl, hl, fun _ => ⟨N, 0, f, T, rfl, ⟨Nat.le_refl _, hN⟩, hfr, fun i hi => by rw [Nat.zero_add]; exact hrow.cell hi, h4, fun i hi k hk => by have := h5 i hi k hk; unfold Rng; omega, h6⟩⟩

/-- How many elements all lists have, and the marks. -/
def tot {α : Type} : List (List α) → Nat
  | [] => 0
  | x :: r => x.length + tot r
def marksL {α β : Type} (c : Int → Nat → List β) (k : Int) : List (List α) → List (List β)
  | [] => []
  | x :: r => c k x.length :: marksL c (k + x.length) r
theorem marksL_len {α β : Type} (c : Int → Nat → List β) (k : Int) (xss : List (List α)) : (marksL c k xss).length = xss.length := by
  induction xss generalizing k with
  | nil => rfl
  | cons x r ih => simp [marksL, ih]
theorem marksL_get {α β : Type} (c : Int → Nat → List β) (k : Int) (xss : List (List α)) (i : Nat) (h : i < xss.length) : (marksL c k xss)[i]?.getD [] = c (k + tot (xss.take i)) (xss[i]?.getD []).length := by
  induction xss generalizing k i with
  | nil => simp at h
  | cons x r ih =>
    cases i with
    | zero => simp [marksL, tot]
    | succ i => simp only [marksL, List.getElem?_cons_succ, List.take_succ_cons, tot]; rw [ih _ i (by simpa using h)]; congr 1; omega
theorem tot_step {α : Type} (xss : List (List α)) (i : Nat) (h : i < xss.length) : tot (xss.take (i + 1)) = tot (xss.take i) + (xss[i]?.getD []).length := by
  induction xss generalizing i with
  | nil => simp at h
  | cons x r ih =>
    cases i with
    | zero => simp [tot]
    | succ i => simp only [List.take_succ_cons, tot, List.getElem?_cons_succ]; rw [ih i (by simpa using h)]; omega
theorem tot_take {α : Type} (xss : List (List α)) (i : Nat) : tot (xss.take i) ≤ tot xss := by
  induction xss generalizing i with
  | nil => simp [tot]
  | cons x r ih => cases i with
    | zero => simp [tot]
    | succ i => have := ih i; simp only [List.take_succ_cons, tot]; omega
theorem tot_get {α : Type} (xss : List (List α)) (i : Nat) : (xss[i]?.getD []).length ≤ tot xss := by
  by_cases h : i < xss.length
  · have h1 := tot_step xss i h
    have h2 := tot_take xss (i + 1)
    omega
  · rw [List.getElem?_eq_none (by omega)]; simp

/-- While the lists are marked: the first m are. -/
def mixL {α : Type} (ys xss : List (List α)) (m i : Nat) : List α := if i < m then ys[i]?.getD [] else xss[i]?.getD []
def MkS {α : Type} (mk : α → Value) (d : α) (S : Nat → Prop) (w0 w : World) (ys xss : List (List α)) (b off : Nat) (sv : Nat → Value) (T : Nat → Nat → Prop) (m : Nat) : Prop :=
  Free w b ∧ (∀ i : Nat, i < xss.length → w.cell? ⟨b, off + i, none⟩ = some (sv i)) ∧ (∀ i : Nat, i < xss.length → SlF mk d (T i) w (sv i) (mixL ys xss m i) ∧ CapOk (sv i)) ∧ ChgF S w0 w
theorem mkS_step {α : Type} {mk : α → Value} {d : α} {S : Nat → Prop} {w0 wr w1 : World} {ys xss : List (List α)} {b off : Nat} {sv : Nat → Value} {T : Nat → Nat → Prop} {m : Nat} (h : MkS mk d S w0 wr ys xss b off sv T m) (hm : m < xss.length)
    (h5 : ∀ i : Nat, i < xss.length → ∀ k, T i k → S k ∧ k ≠ b) (h6 : ∀ i j : Nat, i < xss.length → j < xss.length → i ≠ j → ∀ k, T i k → ¬ T j k)
    (hc : ChgF (T m) wr w1) (hs : SlF mk d (T m) w1 (sv m) (ys[m]?.getD [])) : MkS mk d S w0 w1 ys xss b off sv T (m + 1) := by
  obtain ⟨hu, h3, h4, hch⟩ := h
  have eb : w1.heap[b]? = wr.heap[b]? := hc.block b (fun q => (h5 m hm b q).2 rfl)
  refine ⟨hu.same eb, fun i hi => by rw [World.cell?_of_block (w := wr) (a := ⟨b, off + i, none⟩) eb]; exact h3 i hi, fun i hi => ?_, hch.trans (hc.mono (fun k hk => (h5 m hm k hk).1))⟩
  by_cases e : i = m
  · subst e
    unfold mixL
    rw [if_pos (by omega)]
    exact ⟨hs, (h4 i hi).2⟩
  · have e2 : mixL ys xss (m + 1) i = mixL ys xss m i := by
      unfold mixL
      by_cases e3 : i < m
      · rw [if_pos e3, if_pos (by omega)]
      · rw [if_neg e3, if_neg (by omega)]
    rw [e2]
    exact ⟨(h4 i hi).1.same (fun k hk => hc.block k (h6 i m hi hm e k hk)), (h4 i hi).2⟩

theorem SsAt.take {α : Type} {mk : α → Value} {d : α} {N k cap b off : Nat} {w : World} {xss : List (List α)} (hk : k ≤ xss.length) (hl : xss.length ≤ cap ∧ cap ≤ maxLen) (hb : b < N)
    (hc : ∀ i : Nat, i < xss.length → ∃ s, w.cell? ⟨b, off + i, none⟩ = some s ∧ SlAt mk d 0 N w s (xss[i]?.getD []) ∧ CapOk s) : SsAt mk d N w (.slice (some ⟨b, off, none⟩) k cap) (xss.take k) := by
  have e : (xss.take k).length = k := by simp; omega
  refine ⟨_, cap, by rw [e], ⟨by omega, hl.2⟩, fun _ => ⟨b, off, rfl, hb, fun i hi => ?_⟩⟩
  rw [e] at hi
  obtain ⟨s, h1, h2⟩ := hc i (by omega)
  exact ⟨s, h1, by rw [List.getElem?_take, if_pos hi]; exact h2⟩
theorem SsAt.drop {α : Type} {mk : α → Value} {d : α} {N k m cap b off : Nat} {w : World} {xss : List (List α)} (hk : k + m = xss.length) (hl : m ≤ cap ∧ cap ≤ maxLen) (hb : b < N)
    (hc : ∀ i : Nat, i < xss.length → ∃ s, w.cell? ⟨b, off + i, none⟩ = some s ∧ SlAt mk d 0 N w s (xss[i]?.getD []) ∧ CapOk s) : SsAt mk d N w (.slice (some ⟨b, off + k, none⟩) m cap) (xss.drop k) := by
  have e : (xss.drop k).length = m := by simp; omega
  refine ⟨_, cap, by rw [e], ⟨by omega, hl.2⟩, fun _ => ⟨b, off + k, rfl, hb, fun i hi => ?_⟩⟩
  rw [e] at hi
  obtain ⟨s, h1, h2⟩ := hc (k + i) (by omega)
  exact ⟨s, by rw [Nat.add_assoc]; exact h1, by rw [List.getElem?_drop]; exact h2⟩

theorem tot_drop {α : Type} (xss : List (List α)) (i : Nat) : tot (xss.drop i) ≤ tot xss := by
  induction xss generalizing i with
  | nil => simp [tot]
  | cons x r ih => cases i with
    | zero => simp
    | succ i => have := ih i; simp only [List.drop_succ_cons, tot]; omega


end Go.Proofs.Ytjmajdfcfcgegaa

namespace Go.Proofs.Ytjmajdfcfcgegaa
open Go.RowKit

set_option maxHeartbeats 1000000 in
theorem toDFA_c (cl nx ac : Value) (xs ys : List Int) (zs : List Bool) (nc : Int) (w : World) (h1 : SlAt mI 0 0 w.heap.size w cl xs) (h2 : SlAt mI 0 0 w.heap.size w nx ys) (h3 : SlAt mT false 0 w.heap.size w ac zs)
    (l1 : xs.length ≤ 1048576) (l2 : ys.length ≤ 1048576) (l3 : zs.length ≤ 1048576) :
    Calls Try.prog 6 #[.agg #[cl, .int .i64 nc, nx, ac]] w fun e w' => ∃ cl' nx' ac' s1 s2, e = .returned (.agg #[cl', .int .i64 nc, nx', ac']) ∧ w.heap.size ≤ s1 ∧ s1 ≤ s2 ∧ s2 ≤ w'.heap.size ∧
      SlW mI 0 w.heap.size s1 w' cl' xs ∧ SlW mI 0 s1 s2 w' nx' ys ∧ SlW mT false s2 w'.heap.size w' ac' zs ∧ CapOk nx' ∧ Below w.heap.size w w' := by
  obtain ⟨a1, c1, rfl, -, -⟩ := id h1
  obtain ⟨a2, c2, rfl, -, -⟩ := id h2
  obtain ⟨a3, c3, rfl, -, -⟩ := id h3
  have H1 := hide h1
  have H2 := hide h2
  have H3 := hide h3
  clear h1 h2 h3
  go_enter Try.func6, Try.ntmps6
  go_wp2_with fail
  refine (toIntS_w _ xs _ (by exact (unhide H1).below (below3 w _ _ _) (Nat.le_refl _)) l1).mono ?_
  rintro e w1 ⟨v1, rfl, hv1, hb1⟩
  have hz1 := hb1.size
  simp only [sz_alloc] at hz1
  obtain ⟨a1', c1', rfl, -, -⟩ := id hv1
  have Hv1 := hide hv1
  have hB1 : Below w.heap.size w w1 := (below3 w _ _ _).trans (hb1.mono (by simp only [sz_alloc]; omega))
  have rA := ((((Row4.new w 25 (.slice a1 xs.length c1) (.int .i64 nc) (.slice a2 ys.length c2) (.slice a3 zs.length c3)).alloc (.cells #[.slice none 0 0, .int .i64 0, .slice none 0 0, .slice none 0 0] 27)).alloc (.cells #[.slice none 0 0, .int .i64 0, .slice none 0 0, .slice none 0 0] 27)).below hb1 (by simp only [sz_alloc]; omega))
  have rB := (((Row4.new (w.alloc (.cells #[.slice a1 xs.length c1, .int .i64 nc, .slice a2 ys.length c2, .slice a3 zs.length c3] 25)) 27 (.slice none 0 0) (.int .i64 0) (.slice none 0 0) (.slice none 0 0)).alloc (.cells #[.slice none 0 0, .int .i64 0, .slice none 0 0, .slice none 0 0] 27)).below hb1 (by simp only [sz_alloc]; omega))
  have rC := ((Row4.new ((w.alloc (.cells #[.slice a1 xs.length c1, .int .i64 nc, .slice a2 ys.length c2, .slice a3 zs.length c3] 25)).alloc (.cells #[.slice none 0 0, .int .i64 0, .slice none 0 0, .slice none 0 0] 27)) 27 (.slice none 0 0) (.int .i64 0) (.slice none 0 0) (.slice none 0 0)).below hb1 (by simp only [sz_alloc]; omega))
  simp only [sz_alloc] at rB rC
  have RA := hide rA
  have RB := hide rB
  have RC := hide rC
  obtain ⟨k0, k1, k2, k3, -⟩ := rA.facts
  obtain ⟨m0, m1, m2, m3, n0, n1, n2, n3⟩ := rC.facts
  clear hv1 hb1 rA rB rC
  go_wp2_with fail
  refine (toIntS_wc _ ys _ (by exact ((unhide H2).below (bput (bput hB1 (by omega) _) (by omega) _) (Nat.le_refl _))) l2).mono ?_
  rintro e w2 ⟨v2, rfl, hv2, hcp2, hb2⟩
  have hz2 := hb2.size
  simp only [sz_put] at hz2
  obtain ⟨a2', c2', rfl, -, -⟩ := id hv2
  rw [sz_put, sz_put] at hv2
  have Hv2 := hide hv2
  have HCP := hide hcp2
  clear hcp2
  have hB2 : Below w.heap.size w w2 := (bput (bput hB1 (by omega) _) (by omega) _).trans (hb2.mono (by simp only [sz_put]; omega))
  have Hv1' := hide ((unhide Hv1).same ((((SameB.refl _ _ _).put (b := w.heap.size + 1 + 1) (Or.inl (by simp only [sz_alloc]; omega)) _).put (b := w.heap.size + 1 + 1) (Or.inl (by simp only [sz_alloc]; omega)) _).trans (SameB.of_below hb2 (by simp only [sz_put]; omega))))
  have rA := (((unhide RA).other (by omega)).other (by omega)).below hb2 (by simp only [sz_put]; omega)
  have rB := (((unhide RB).other (by omega)).other (by omega)).below hb2 (by simp only [sz_put]; omega)
  have rC := (((unhide RC).put0).put1).below hb2 (by simp only [sz_put]; omega)
  clear k0 k1 k2 k3 m0 m1 m2 m3 n0 n1 n2 n3 RA RB RC
  have RA := hide rA
  have RB := hide rB
  have RC := hide rC
  obtain ⟨k0, k1, k2, k3, -⟩ := rA.facts
  obtain ⟨m0, m1, m2, m3, n0, n1, n2, n3⟩ := rC.facts
  clear hv2 hb2 Hv1 rA rB rC
  go_wp2_with fail
  refine (toBoolS_w _ zs _ (by exact ((unhide H3).below (bput hB2 (by omega) _) (Nat.le_refl _))) l3).mono ?_
  rintro e w3 ⟨v3, rfl, hv3, hb3⟩
  have hz3 := hb3.size
  simp only [sz_put] at hz3
  obtain ⟨a3', c3', rfl, -, -⟩ := id hv3
  rw [sz_put] at hv3
  have Hv3 := hide hv3
  have hB3 : Below w.heap.size w w3 := (bput hB2 (by omega) _).trans (hb3.mono (by simp only [sz_put]; omega))
  have Hv1'' := hide ((unhide Hv1').same (((SameB.refl _ _ _).put (b := w.heap.size + 1 + 1) (Or.inl (by simp only [sz_alloc]; omega)) _).trans (SameB.of_below hb3 (by simp only [sz_put]; omega))))
  have Hv2' := hide ((unhide Hv2).same (((SameB.refl _ _ _).put (b := w.heap.size + 1 + 1) (Or.inl (by omega)) _).trans (SameB.of_below hb3 (by simp only [sz_put]; omega))))
  have rB := ((unhide RB).other (by omega)).below hb3 (by simp only [sz_put]; omega)
  have rC := ((unhide RC).put2).below hb3 (by simp only [sz_put]; omega)
  clear k0 k1 k2 k3 m0 m1 m2 m3 n0 n1 n2 n3 RA RB RC
  obtain ⟨k0, k1, k2, k3, q0, q1, q2, q3⟩ := rB.facts
  obtain ⟨m0, m1, m2, m3, n0, n1, n2, n3⟩ := rC.facts
  clear hv3 hb3 Hv1' Hv2 rB rC
  go_wp2
  refine bodyPost_ret (v := .agg #[.slice a1' xs.length c1', .int .i64 nc, .slice a2' ys.length c2', .slice a3' zs.length c3']) (by simp [results, Try.results6, go_sem, k0, k1, k2, k3]) rfl ⟨_, _, _, w1.heap.size, w2.heap.size, rfl, by omega, by omega, by simp only [sz_put]; omega, ?_, ?_, ?_, unhide HCP, ?_⟩
  · refine SlW.mono ((unhide Hv1'').same (SameB.put (SameB.put (SameB.put (SameB.put (SameB.put (SameB.refl _ _ _) (Or.inl ?_) _) (Or.inl ?_) _) (Or.inl ?_) _) (Or.inl ?_) _) (Or.inl ?_) _)) (by simp only [sz_alloc]; omega) (Nat.le_refl _) <;> simp only [sz_alloc] <;> omega
  · exact (unhide Hv2').same (SameB.put (SameB.put (SameB.put (SameB.put (SameB.put (SameB.refl _ _ _) (Or.inl (by omega)) _) (Or.inl (by omega)) _) (Or.inl (by omega)) _) (Or.inl (by omega)) _) (Or.inl (by omega)) _)
  · exact SlW.mono ((unhide Hv3).same (SameB.put (SameB.put (SameB.put (SameB.put (SameB.put (SameB.refl _ _ _) (Or.inl (by omega)) _) (Or.inl (by omega)) _) (Or.inl (by omega)) _) (Or.inl (by omega)) _) (Or.inl (by omega)) _)) (Nat.le_refl _) (by simp only [sz_put]; omega)
  · exact bput (bput (bput (bput (bput hB3 (by omega) _) (by omega) _) (by omega) _) (by omega) _) (by omega) _

/-- A table in three places. -/
structure DfaF (T1 T2 T3 : Nat → Prop) (w : World) (cv nv av : Value) (xs ys : List Int) (zs : List Bool) : Prop where
  x : SlF mI 0 T1 w cv xs
  y : SlF mI 0 T2 w nv ys
  z : SlF mT false T3 w av zs
theorem DfaF.same {T1 T2 T3 : Nat → Prop} {w w' : World} {cv nv av : Value} {xs ys : List Int} {zs : List Bool} (h : DfaF T1 T2 T3 w cv nv av xs ys zs) (e : ∀ k, T1 k ∨ T2 k ∨ T3 k → w'.heap[k]? = w.heap[k]?) : DfaF T1 T2 T3 w' cv nv av xs ys zs :=
  ⟨h.x.same (fun k hk => e k (.inl hk)), h.y.same (fun k hk => e k (.inr (.inl hk))), h.z.same (fun k hk => e k (.inr (.inr hk)))⟩
theorem markInt_f (v : Value) (xs : List Int) (k : Int) (S : Nat → Prop) (w : World) (hv : SlF mI 0 S w v xs) (k0 : 0 ≤ k) (k1 : k ≤ 4611686018427387904) (hlen : xs.length ≤ 4194304) :
    Calls Try.prog 21 #[v, .int .i64 k] w fun e w' => e = .returned (.int .i64 (k + xs.length)) ∧ SlF mI 0 S w' v (cnts k xs.length) ∧ ChgF S w w' := by
  obtain ⟨lo, n, h1, h2⟩ := hv
  refine (markIntS_any v xs k lo n w h1 k0 k1 hlen).mono ?_
  rintro e w' ⟨q1, q2, q3⟩
  exact ⟨q1, ⟨lo, n, q2, h2⟩, q3.foot h2⟩
theorem markBool_f (v : Value) (xs : List Bool) (k : Int) (S : Nat → Prop) (w : World) (hv : SlF mT false S w v xs) (k0 : 0 ≤ k) (k1 : k ≤ 4611686018427387904) (hlen : xs.length ≤ 4194304) :
    Calls Try.prog 22 #[v, .int .i64 k] w fun e w' => e = .returned (.int .i64 (k + xs.length)) ∧ SlF mT false S w' v (cntT k xs.length) ∧ ChgF S w w' := by
  obtain ⟨lo, n, h1, h2⟩ := hv
  refine (markBoolS_any v xs k lo n w h1 k0 k1 hlen).mono ?_
  rintro e w' ⟨q1, q2, q3⟩
  exact ⟨q1, ⟨lo, n, q2, h2⟩, q3.foot h2⟩

set_option maxHeartbeats 2000000 in
/-- The laws' marks in a table whose three rows lie apart. -/
theorem markDFA_w (T1 T2 T3 : Nat → Prop) (cv nv av : Value) (xs ys : List Int) (zs : List Bool) (nc k : Int) (w : World) (h : DfaF T1 T2 T3 w cv nv av xs ys zs) (hT : ∀ j, T1 j ∨ T2 j ∨ T3 j → j < w.heap.size)
    (d1 : ∀ j, T1 j → ¬ T2 j ∧ ¬ T3 j) (d2 : ∀ j, T2 j → ¬ T3 j) (k0 : 0 ≤ k) (k1 : k ≤ 100) (b1 : xs.length ≤ 1048576) (b2 : ys.length ≤ 1048576) (b3 : zs.length ≤ 1048576) :
    Calls Try.prog 9 #[.agg #[cv, .int .i64 nc, nv, av], .int .i64 k] w fun e w' => e = .returned (.int .i64 (k + xs.length + ys.length + zs.length)) ∧ DfaF T1 T2 T3 w' cv nv av (cnts k xs.length) (cnts (k + xs.length) ys.length) (cntT (k + xs.length + ys.length) zs.length) ∧
      w.heap.size ≤ w'.heap.size ∧ (∀ j, j < w.heap.size → ¬ T1 j → ¬ T2 j → ¬ T3 j → w'.heap[j]? = w.heap[j]?) ∧ w'.os = w.os ∧ w'.tape = w.tape ∧ w'.output = w.output := by
  obtain ⟨a1, c1, rfl⟩ := h.x.val
  obtain ⟨a2, c2, rfl⟩ := h.y.val
  obtain ⟨a3, c3, rfl⟩ := h.z.val
  obtain ⟨W0, hW0⟩ : ∃ W0, W0 = w.alloc (.cells #[.slice a1 xs.length c1, .int .i64 nc, .slice a2 ys.length c2, .slice a3 zs.length c3] 27) := ⟨_, rfl⟩
  have hb0 : Below w.heap.size w W0 := by rw [hW0]; exact below1 w _
  have h0 := h.same (w' := W0) (fun j hj => hb0.block j (hT j hj))
  have hr : Row4 W0 w.heap.size 27 (.slice a1 xs.length c1) (.int .i64 nc) (.slice a2 ys.length c2) (.slice a3 zs.length c3) := by rw [hW0]; exact Row4.new w _ _ _ _ _
  have hz0 := hb0.size
  have HN : Hid (¬ T1 w.heap.size ∧ ¬ T2 w.heap.size ∧ ¬ T3 w.heap.size) := ⟨fun q => by have := hT _ (.inl q); omega, fun q => by have := hT _ (.inr (.inl q)); omega, fun q => by have := hT _ (.inr (.inr q)); omega⟩
  obtain ⟨f0, f1, f2, f3, -⟩ := hr.facts
  obtain ⟨K1, hK1⟩ : ∃ K1 : Int, K1 = k + xs.length := ⟨_, rfl⟩
  obtain ⟨K2, hK2⟩ : ∃ K2 : Int, K2 = K1 + ys.length := ⟨_, rfl⟩
  obtain ⟨K3, hK3⟩ : ∃ K3 : Int, K3 = K2 + zs.length := ⟨_, rfl⟩
  rw [← hK1, ← hK2, ← hK3]
  have m1 : 0 ≤ K1 ∧ K1 ≤ 1048676 := by omega
  have m2 : 0 ≤ K2 ∧ K2 ≤ 2097252 := by omega
  have HK1 := hide hK1
  have HK2 := hide hK2
  have HK3 := hide hK3
  have HD1 := hide d1
  have HD2 := hide d2
  have HH := hide h0
  have HR := hide hr
  have HB0 := hide hb0
  have HW0 := hide hW0
  clear h h0 hr d1 d2 hT hK1 hK2 hK3 hb0 hW0
  go_enter Try.func9, Try.ntmps9
  go_wp2_with fail
  rw [← unhide HW0]
  refine (markInt_f _ xs k T1 _ (unhide HH).x k0 (by omega) (by omega)).mono ?_
  rintro e w1 ⟨rfl, s1, g1⟩
  rw [← unhide HK1]
  have y1 := (unhide HH).y.same (fun j hj => g1.block j (fun q => ((unhide HD1) j q).1 hj))
  have t1 := (unhide HH).z.same (fun j hj => g1.block j (fun q => ((unhide HD1) j q).2 hj))
  have r1 : Row4 w1 w.heap.size 27 (.slice a1 xs.length c1) (.int .i64 nc) (.slice a2 ys.length c2) (.slice a3 zs.length c3) := World.rowIs.of_block (unhide HR) (g1.block _ (unhide HN).1)
  clear f0 f1 f2 f3
  obtain ⟨f0, f1, f2, f3, -⟩ := r1.facts
  have HS1 := hide s1
  have HY1 := hide y1
  have HT1 := hide t1
  have HR1 := hide r1
  have HG1 := hide g1
  clear s1 y1 t1 r1 g1
  go_wp2_with fail
  refine (markInt_f _ ys K1 T2 _ (unhide HY1) m1.1 (by omega) (by omega)).mono ?_
  rintro e w2 ⟨rfl, s2, g2⟩
  rw [← unhide HK2]
  have x2 := (unhide HS1).same (fun j hj => g2.block j (fun q => ((unhide HD1) j hj).1 q))
  have t2 := (unhide HT1).same (fun j hj => g2.block j (fun q => (unhide HD2) j q hj))
  have r2 : Row4 w2 w.heap.size 27 (.slice a1 xs.length c1) (.int .i64 nc) (.slice a2 ys.length c2) (.slice a3 zs.length c3) := World.rowIs.of_block (unhide HR1) (g2.block _ (unhide HN).2.1)
  clear f0 f1 f2 f3
  obtain ⟨f0, f1, f2, f3, -⟩ := r2.facts
  have HX2 := hide x2
  have HS2 := hide s2
  have HT2 := hide t2
  have HG2 := hide g2
  clear s2 x2 t2 r2 g2
  go_wp2_with fail
  refine (markBool_f _ zs K2 T3 _ (unhide HT2) m2.1 (by omega) (by omega)).mono ?_
  rintro e w3 ⟨rfl, s3, g3⟩
  rw [← unhide HK3]
  have HS3 := hide s3
  have HG3 := hide g3
  clear s3 g3 f0 f1 f2 f3
  go_wp2
  go_ret
  have g1 := unhide HG1
  have g2 := unhide HG2
  have g3 := unhide HG3
  have b0 := unhide HB0
  refine ⟨rfl, ⟨(unhide HX2).same (fun j hj => g3.block j (fun q => ((unhide HD1) j hj).2 q)), (unhide HS2).same (fun j hj => g3.block j (fun q => (unhide HD2) j hj q)), unhide HS3⟩, by rw [g3.size, g2.size, g1.size]; exact hz0, fun j hj n1 n2 n3 => ?_, ?_, ?_, ?_⟩
  · rw [g3.block j n3, g2.block j n2, g1.block j n1, b0.block j hj]
  · rw [g3.os, g2.os, g1.os, b0.os]
  · rw [g3.tape, g2.tape, g1.tape, b0.tape]
  · rw [g3.output, g2.output, g1.output, b0.output]

set_option maxHeartbeats 2000000 in
/-- The marks are found again. -/
theorem heldDFA_w (cv nv av : Value) (n1 n2 n3 : Nat) (nc k : Int) (w : World) (h1 : SlAt mI 0 0 w.heap.size w cv (cnts k n1)) (h2 : SlAt mI 0 0 w.heap.size w nv (cnts (k + n1) n2)) (h3 : SlAt mT false 0 w.heap.size w av (cntT (k + n1 + n2) n3))
    (k0 : 0 ≤ k) (k1 : k ≤ 100) (b1 : n1 ≤ 1048576) (b2 : n2 ≤ 1048576) (b3 : n3 ≤ 1048576) :
    Calls Try.prog 10 #[.agg #[cv, .int .i64 nc, nv, av], .int .i64 k] w fun e w' => e = .returned (.int .i64 (k + n1 + n2 + n3)) ∧ Below w.heap.size w w' := by
  obtain ⟨K1, hK1⟩ : ∃ K1 : Int, K1 = k + n1 := ⟨_, rfl⟩
  obtain ⟨K2, hK2⟩ : ∃ K2 : Int, K2 = K1 + n2 := ⟨_, rfl⟩
  obtain ⟨K3, hK3⟩ : ∃ K3 : Int, K3 = K2 + n3 := ⟨_, rfl⟩
  rw [← hK1] at h2 h3 ⊢
  rw [← hK2] at h3 ⊢
  rw [← hK3]
  have m1 : 0 ≤ K1 ∧ K1 ≤ 1048676 := by omega
  have m2 : 0 ≤ K2 ∧ K2 ≤ 2097252 := by omega
  have q1 : ¬ K1 < 0 := by omega
  have q2 : ¬ K2 < 0 := by omega
  have q3 : ¬ K3 < 0 := by omega
  obtain ⟨W0, hW0⟩ : ∃ W0, W0 = w.alloc (.cells #[cv, .int .i64 nc, nv, av] 27) := ⟨_, rfl⟩
  have hb0 : Below w.heap.size w W0 := by rw [hW0]; exact below1 w _
  have hr : Row4 W0 w.heap.size 27 cv (.int .i64 nc) nv av := by rw [hW0]; exact Row4.new w _ _ _ _ _
  obtain ⟨f0, f1, f2, f3, -⟩ := hr.facts
  have c1 := heldIntS_any cv n1 k _ _ W0 (h1.below hb0 (Nat.le_refl _)) k0 (by omega) (by omega)
  have c2 := heldIntS_any nv n2 K1 _ _ W0 (h2.below hb0 (Nat.le_refl _)) m1.1 (by omega) (by omega)
  have c3 := heldBoolS_any av n3 K2 _ _ W0 (h3.below hb0 (Nat.le_refl _)) m2.1 (by omega) (by omega)
  rw [← hK1] at c1
  rw [← hK2] at c2
  rw [← hK3] at c3
  obtain ⟨a1, e1, rfl, -, -⟩ := h1
  obtain ⟨a2, e2, rfl, -, -⟩ := h2
  obtain ⟨a3, e3, rfl, -, -⟩ := h3
  have C1 := hide c1
  have C2 := hide c2
  have C3 := hide c3
  have HB0 := hide hb0
  have HW0 := hide hW0
  clear c1 c2 c3 hK1 hK2 hK3 hb0 hW0 hr
  go_enter Try.func10, Try.ntmps10
  go_wp2_with fail
  rw [← unhide HW0]
  refine (unhide C1).mono ?_
  rintro e w1 ⟨rfl, rfl⟩
  go_wp2_with fail
  refine (unhide C2).mono ?_
  rintro e w2 ⟨rfl, rfl⟩
  go_wp2_with fail
  refine (unhide C3).mono ?_
  rintro e w3 ⟨rfl, rfl⟩
  go_wp2
  go_ret
  exact ⟨rfl, unhide HB0⟩

/-- The block of a row that is owned. -/
def OwB (v : Value) : Nat → Prop := fun q => v.ownBlock = some q
theorem own_slf {base n : Nat} {w : World} {v : Value} {xs : List Int} (h : w.ownsRow base 3 1 v n (xs.map mI)) (hn : n ≤ maxLen) : SlF mI 0 (OwB v) w v xs := by
  have hlen := h.1
  rw [List.length_map, Nat.mul_one] at hlen
  rcases h.2 with ⟨rfl, hz⟩ | ⟨g, cap, cur, rfl, hbg, hg, hnc, hcm, hcs, htake⟩
  · exact ⟨0, 0, ⟨none, 0, by rw [hlen, hz], by omega, fun hp => by omega⟩, fun k _ h => by omega⟩
  · refine ⟨g, g + 1, ⟨_, cap, by rw [hlen], by omega, fun hp => ⟨g, 0, rfl, by omega, by omega, ⟨cur, _, hg⟩, fun i hi => ?_⟩⟩, fun k h1 h2 => by
      have : k = g := by omega
      rw [this]; rfl⟩
    rw [Nat.zero_add, h.cellAt i (by omega), List.getElem?_map, List.getElem?_eq_getElem hi]
    rfl
theorem own_slft {base n : Nat} {w : World} {v : Value} {xs : List Bool} (h : w.ownsRow base 4 1 v n (xs.map mT)) (hn : n ≤ maxLen) : SlF mT false (OwB v) w v xs := by
  have hlen := h.1
  rw [List.length_map, Nat.mul_one] at hlen
  rcases h.2 with ⟨rfl, hz⟩ | ⟨g, cap, cur, rfl, hbg, hg, hnc, hcm, hcs, htake⟩
  · exact ⟨0, 0, ⟨none, 0, by rw [hlen, hz], by omega, fun hp => by omega⟩, fun k _ h => by omega⟩
  · refine ⟨g, g + 1, ⟨_, cap, by rw [hlen], by omega, fun hp => ⟨g, 0, rfl, by omega, by omega, ⟨cur, _, hg⟩, fun i hi => ?_⟩⟩, fun k h1 h2 => by
      have : k = g := by omega
      rw [this]; rfl⟩
    rw [Nat.zero_add, h.cellAt i (by omega), List.getElem?_map, List.getElem?_eq_getElem hi]
    rfl

end Go.Proofs.Ytjmajdfcfcgegaa

namespace Go.Proofs.Ytjmajdfcfcgegaa
open Go.ChangeShapes Go.WideShapes Go.ChangeAt Go.RowKit

theorem Try.cells3 : Try.prog.cellsOf 3 = 1 := by kernel_rfl
theorem Try.cells22 : Try.prog.cellsOf 22 = 1 := by kernel_rfl

theorem in64_of_wf {n : Int} (h : (Lit.int .i64 n).wf = true) : In64 n := by
  simpa [Lit.wf, IntKind.min, IntKind.max, IntKind.signed, IntKind.bits, In64] using h

section
variable {H : Type} {enc : TypeId × Value → H} {W : World}

theorem ints_of {n : Nat} {v : Value} {y : DataW H × List MemPlace} (h : DataW.trod enc Try.prog W 0 (fun _ => true) true n 22 [v] = some y) : ∃ xs, IntsAt 0 W.heap.size W v xs := by
  rcases open_ints Try.underlying22 Try.underlying3 Try.cells3 h with ⟨hcs, -⟩ | ⟨a, len, cap, zs, hcs, -, hl, hm, hz, -, hcell, hwz⟩
  · simp only [List.cons.injEq, and_true] at hcs
    subst hcs
    exact ⟨[], none, 0, rfl, by simp, by intro i; simp [In64], by simp⟩
  · simp only [List.cons.injEq, and_true] at hcs
    subst hcs
    simp only [if_true] at hz
    have hlen : (zs.take len).length = len := by rw [List.length_take]; omega
    refine ⟨zs.take len, some a, cap, by rw [hlen], by omega, fun i => ?_, fun hp => ?_⟩
    · by_cases hi : i < (zs.take len).length
      · rw [List.getElem?_eq_getElem hi]
        exact in64_of_wf (hwz _ (List.mem_of_mem_take (List.getElem_mem hi)))
      · rw [List.getElem?_eq_none (by omega)]
        simp [In64]
    · obtain ⟨b, off, rfl, hc⟩ := ints_at hcell (by omega)
      refine ⟨b, off, rfl, Nat.zero_le _, World.block_lt_of_cell? _ _ (hc 0 (by omega)), fun i hi => ?_⟩
      rw [hlen] at hi
      rw [hc i (by omega), List.getElem?_take_of_lt hi]
      rfl

end
end Go.Proofs.Ytjmajdfcfcgegaa

namespace Go.Proofs.Ytjmajdfcfcgegaa
open Go.ChangeShapes Go.WideShapes Go.ChangeAt Go.RowKit

theorem Try.own : ownKnob Try.prog.godebug = none := by kernel_rfl
theorem Try.laidOut : laidOutB Try.prog = true := by kernel_rfl
theorem Try.cells5 : Try.prog.cellsOf 5 = 1 := by kernel_rfl
theorem IntsAt.sl {lo n : Nat} {w : World} {v : Value} {xs : List Int} (h : IntsAt lo n w v xs) : SlAt mI 0 lo n w v xs ∧ ∀ i : Nat, In64 (xs[i]?.getD 0) := by
  obtain ⟨a, cap, rfl, hl, hr, hc⟩ := h
  exact ⟨⟨a, cap, rfl, hl, hc⟩, hr⟩

section
variable {H : Type} {enc : TypeId × Value → H} {W : World}

end
end Go.Proofs.Ytjmajdfcfcgegaa

namespace Go.Proofs.Ytjmajdfcfcgegaa
open Go.ChangeShapes Go.WideShapes Go.ChangeAt Go.RowKit

theorem Try.cells25 : Try.prog.cellsOf 25 = 4 := by kernel_rfl
theorem Try.cells4 : Try.prog.cellsOf 4 = 1 := by kernel_rfl

section
variable {H : Type} {enc : TypeId × Value → H} {W : World}

theorem bools_of {n : Nat} {v : Value} {y : DataW H × List MemPlace} (h : DataW.trod enc Try.prog W 0 (fun _ => true) true n 23 [v] = some y) : ∃ zs, SlAt mT false 0 W.heap.size W v zs := by
  rcases Go.Deep.open_slice1 Try.underlying23 Try.cells4 h with ⟨hcs, -⟩ | ⟨a, len, cap, m, fu, V, D, Pl, hcs, -, hl, hm, hmm, -, hx⟩
  · simp only [List.cons.injEq, and_true] at hcs
    subst hcs
    exact ⟨[], none, 0, rfl, by simp, by simp⟩
  · simp only [List.cons.injEq, and_true] at hcs
    subst hcs
    simp only [if_true] at hmm
    subst hmm
    by_cases h0 : len = 0
    · subst h0
      exact ⟨[], some a, m, rfl, by simp, by simp⟩
    · obtain ⟨b, off, spot⟩ := a
      have hspot : spot = none := by simpa [Addr.add] using World.cell?_spot (hx 0 (by omega)).1
      subst hspot
      obtain ⟨f, hf⟩ := Go.Deep.choose_lt (α := Bool) (p := fun i x => W.cell? ⟨b, off + i, none⟩ = some (.bool x)) (n := len) (fun i hi => by
        obtain ⟨h1, h2⟩ := hx i (by omega)
        obtain ⟨z, e, -⟩ := DataW.trod_bool Try.underlying4 h2
        simp only [List.cons.injEq, and_true] at e
        rw [add_plain] at h1
        exact ⟨z, by rw [h1, e]⟩)
      have hb : b < W.heap.size := World.block_lt_of_cell? _ _ (hf 0 (by omega))
      refine ⟨(List.range len).map f, _, m, by simp, by simp only [List.length_map, List.length_range]; omega, fun _ => ⟨b, off, rfl, Nat.zero_le _, hb, fun i hi => ?_⟩⟩
      have hi' : i < len := by simpa using hi
      have := hf i hi'
      simpa [hi', mT] using this

end

end Go.Proofs.Ytjmajdfcfcgegaa
