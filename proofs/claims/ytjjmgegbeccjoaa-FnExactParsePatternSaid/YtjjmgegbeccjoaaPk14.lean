import Derived.Test.YtjjmgegbeccjoaaPk13
import Derived.Test.YtjjmgegbeccjoaaPk12
import Derived.Test.YtjjmgegbeccjoaaPk10
import Derived.Test.YtjjmgegbeccjoaaPk9
import Derived.RangeFuncBox
import Derived.Test.YtjjmgegbeccjoaaPk1
namespace Go.Proofs.Ytjjmgegbeccjoaa
open Go.RowKit

theorem StrB.size {a : ByteArray} {xs : List Int} (h : StrB a xs) : a.size = xs.length := by
  have := congrArg List.length h
  rw [Go.Lib.strCells_length, List.length_map] at this
  exact this
theorem StrB.app {a b : ByteArray} {xs ys : List Int} (h : StrB a xs) (k : StrB b ys) : StrB (a ++ b) (xs ++ ys) := by
  unfold StrB Go.Lib.strCells at *
  rw [List.map_append, ← h, ← k]
  simp

theorem decT_s {v : Int} (h : v < 10) : decT v = [48 + v] := by unfold decT; rw [if_pos h]
theorem decT_step {v : Int} (h0 : 10 ≤ v) (h1 : v < 1000) : decT v = decT (v / 10) ++ decT (v % 10) := by
  rw [decT_s (show v % 10 < 10 by omega)]
  unfold decT
  rw [if_neg (by omega)]
  by_cases h : v < 100
  · rw [if_pos h, if_pos (by omega)]; rfl
  · rw [if_neg h, if_neg (by omega), if_pos (by omega)]
    simp only [List.cons_append, List.nil_append, List.cons.injEq, and_true]
    omega

set_option maxHeartbeats 4000000 in
theorem l1special_any (b : Int) (w : World) (h0 : 0 ≤ b) (h1 : b ≤ 255) :
    Calls Try.prog 28 #[.int .i64 b] w fun e w' => RetB e (b ∈ spcL) ∧ w' = w := by
  have v0 : wrap64 ((({ data := #[92, 46, 91, 93, 40, 41, 124, 42, 43, 63, 123, 125, 94, 36] } : ByteArray)[0].toNat : Nat) : Int) = 92 := by decide +kernel
  have v1 : wrap64 ((({ data := #[92, 46, 91, 93, 40, 41, 124, 42, 43, 63, 123, 125, 94, 36] } : ByteArray)[1].toNat : Nat) : Int) = 46 := by decide +kernel
  have v2 : wrap64 ((({ data := #[92, 46, 91, 93, 40, 41, 124, 42, 43, 63, 123, 125, 94, 36] } : ByteArray)[2].toNat : Nat) : Int) = 91 := by decide +kernel
  have v3 : wrap64 ((({ data := #[92, 46, 91, 93, 40, 41, 124, 42, 43, 63, 123, 125, 94, 36] } : ByteArray)[3].toNat : Nat) : Int) = 93 := by decide +kernel
  have v4 : wrap64 ((({ data := #[92, 46, 91, 93, 40, 41, 124, 42, 43, 63, 123, 125, 94, 36] } : ByteArray)[4].toNat : Nat) : Int) = 40 := by decide +kernel
  have v5 : wrap64 ((({ data := #[92, 46, 91, 93, 40, 41, 124, 42, 43, 63, 123, 125, 94, 36] } : ByteArray)[5].toNat : Nat) : Int) = 41 := by decide +kernel
  have v6 : wrap64 ((({ data := #[92, 46, 91, 93, 40, 41, 124, 42, 43, 63, 123, 125, 94, 36] } : ByteArray)[6].toNat : Nat) : Int) = 124 := by decide +kernel
  have v7 : wrap64 ((({ data := #[92, 46, 91, 93, 40, 41, 124, 42, 43, 63, 123, 125, 94, 36] } : ByteArray)[7].toNat : Nat) : Int) = 42 := by decide +kernel
  have v8 : wrap64 ((({ data := #[92, 46, 91, 93, 40, 41, 124, 42, 43, 63, 123, 125, 94, 36] } : ByteArray)[8].toNat : Nat) : Int) = 43 := by decide +kernel
  have v9 : wrap64 ((({ data := #[92, 46, 91, 93, 40, 41, 124, 42, 43, 63, 123, 125, 94, 36] } : ByteArray)[9].toNat : Nat) : Int) = 63 := by decide +kernel
  have v10 : wrap64 ((({ data := #[92, 46, 91, 93, 40, 41, 124, 42, 43, 63, 123, 125, 94, 36] } : ByteArray)[10].toNat : Nat) : Int) = 123 := by decide +kernel
  have v11 : wrap64 ((({ data := #[92, 46, 91, 93, 40, 41, 124, 42, 43, 63, 123, 125, 94, 36] } : ByteArray)[11].toNat : Nat) : Int) = 125 := by decide +kernel
  have v12 : wrap64 ((({ data := #[92, 46, 91, 93, 40, 41, 124, 42, 43, 63, 123, 125, 94, 36] } : ByteArray)[12].toNat : Nat) : Int) = 94 := by decide +kernel
  have v13 : wrap64 ((({ data := #[92, 46, 91, 93, 40, 41, 124, 42, 43, 63, 123, 125, 94, 36] } : ByteArray)[13].toNat : Nat) : Int) = 36 := by decide +kernel
  go_enter Try.func28, Try.ntmps28
  go_wp2_with fail
  go_loop [4] (fun iv => ∃ i : Nat, i ≤ 14 ∧ iv = .int .i64 i ∧ ∀ k : Nat, k < i → spcL[k]?.getD 0 ≠ b) (fun iv => 14 - (intOf iv).toNat)
  case atStart => exact ⟨0, by omega, rfl, fun k hk => absurd hk (Nat.not_lt_zero _)⟩
  case round =>
    obtain ⟨i, hi, rfl, hno⟩ := hrel
    have Hno := hide hno
    clear hno
    by_cases hlt : i < 14
    · have Hnx : Hid (spcL[i]?.getD 0 ≠ b → ∀ k : Nat, k < i + 1 → spcL[k]?.getD 0 ≠ b) := fun h k hk => by
        by_cases e : k = i
        · subst e; exact h
        · exact unhide Hno k (by omega)
      have Hin : Hid (spcL[i]?.getD 0 = b → b ∈ spcL) := fun h => by
        rw [← h, List.getElem?_eq_getElem (show i < spcL.length from hlt)]
        exact List.getElem_mem _
      obtain ⟨c, hc⟩ : ∃ c, spcL[i]?.getD 0 = c := ⟨_, rfl⟩
      rw [hc] at Hnx Hin
      have e : i = 0 ∨ i = 1 ∨ i = 2 ∨ i = 3 ∨ i = 4 ∨ i = 5 ∨ i = 6 ∨ i = 7 ∨ i = 8 ∨ i = 9 ∨ i = 10 ∨ i = 11 ∨ i = 12 ∨ i = 13 := by omega
      clear hi hlt Hno
      by_cases hb : c = b
      · have hin := hide (unhide Hin hb)
        clear Hnx Hin
        rcases e with rfl | rfl | rfl | rfl | rfl | rfl | rfl | rfl | rfl | rfl | rfl | rfl | rfl | rfl
        all_goals
          simp only [spcL, List.getElem?_cons_zero, List.getElem?_cons_succ, Option.getD_some] at hc
          subst hc
          subst hb
          go_wp2
          go_ret
          exact ⟨RetB.yes (unhide hin), rfl⟩
      · have hno := hide (unhide Hnx hb)
        clear Hnx Hin
        rcases e with rfl | rfl | rfl | rfl | rfl | rfl | rfl | rfl | rfl | rfl | rfl | rfl | rfl | rfl
        all_goals
          simp only [spcL, List.getElem?_cons_zero, List.getElem?_cons_succ, Option.getD_some] at hc
          subst hc
          go_wp2
          go_round
          case rel => exact ⟨_, by omega, by go_num, unhide hno⟩
          case measure => simp [intOf]
    · obtain rfl : i = 14 := by omega
      have hn : Hid (b ∉ spcL) := fun h => by
        obtain ⟨k, hk, e⟩ := List.mem_iff_getElem.1 h
        exact unhide Hno k hk (by rw [List.getElem?_eq_getElem hk]; exact e)
      clear Hno
      go_wp2
      go_ret
      exact ⟨RetB.no (unhide hn), rfl⟩


theorem GrowE.set1 {w w1 : World} {v1 : Value} {xs : List Int} (hb : Below w.heap.size w w1) (hs : SlW mI 0 w.heap.size w1.heap.size w1 v1 xs) : GrowE w.heap.size (w1.alloc (.cells #[.int .i64 1, v1, .int .i64 0, .int .i64 0] 71)) (.slice (some ⟨w1.heap.size, 0, none⟩) 1 1) [⟨1, xs, 0, 0⟩] := by
  refine ⟨[⟨⟨1, xs, 0, 0⟩, v1, Rng w.heap.size w1.heap.size⟩], rfl, World.ownsRow_lit w1 _ 1 hb.size (by unfold maxLen; omega) rfl, fun p hp => ?_, fun p hp k hk => ?_, List.pairwise_singleton _ _⟩
  · obtain rfl := List.mem_singleton.1 hp
    exact hs.foot.same (fun k hk => (below1 w1 _).block k hk.2)
  · obtain rfl := List.mem_singleton.1 hp
    have h2 := hk.2
    exact ⟨hk.1, by rw [sz_alloc]; omega, fun e => by have e2 : w1.heap.size = k := Option.some.inj e; omega⟩

set_option maxHeartbeats 2000000 in
theorem l1set_w (v : Value) (xs : List Int) (w : World) (hv : SlAt mI 0 0 w.heap.size w v xs) (hlen : xs.length ≤ 1048576) : Calls Try.prog 31 #[v] w fun e w' => ∃ v', e = .returned v' ∧ GrowE w.heap.size w' v' [⟨1, xs, 0, 0⟩] ∧ Below w.heap.size w w' := by
  obtain ⟨a, cp, rfl, -, -⟩ := id hv
  have Hv := hide hv
  clear hv
  go_enter Try.func31, Try.ntmps31
  go_wp2_with (at_builtin; refine app_ints rfl _ _ rfl rfl _ rfl xs (unhide Hv) hlen ?_; intro sv w1 hb1 hsl h1c; obtain ⟨sa, sc, rfl⟩ : ∃ a c, sv = .slice a xs.length c := (by obtain ⟨a, c, e, -⟩ := hsl; exact ⟨a, c, e⟩); have HG := hide (GrowE.set1 hb1 hsl); have HB := hide (hb1.trans ((below1 w1 (.cells #[.int .i64 1, .slice sa xs.length sc, .int .i64 0, .int .i64 0] 71)).mono hb1.size)); clear hsl h1c hb1)
  go_ret
  exact ⟨_, rfl, unhide HG, unhide HB⟩

set_option maxHeartbeats 2000000 in
theorem l1cat_w (vx vy : Value) (xs ys : List El) (w : World) (hx : ElsAt 0 w.heap.size w vx xs) (hy : ElsAt 0 w.heap.size w vy ys) (hlx : xs.length ≤ 1048576) (hly : ys.length ≤ 1048576) (hsx : ∀ i : Nat, (xs[i]?.getD dE).set.length ≤ 1048576) (hsy : ∀ i : Nat, (ys[i]?.getD dE).set.length ≤ 1048576) :
    Calls Try.prog 33 #[vx, vy] w fun e w' => ∃ v', e = .returned v' ∧ GrowE w.heap.size w' v' (xs ++ ys ++ [⟨2, [], 0, 0⟩]) ∧ Below w.heap.size w w' := by
  have H := hide (l1bin_w 2 vx vy xs ys w hx hy hlx hly hsx hsy)
  obtain ⟨a1, c1, rfl, -, -⟩ := id hx
  obtain ⟨a2, c2, rfl, -, -⟩ := id hy
  clear hx hy hsx hsy
  go_enter Try.func33, Try.ntmps33
  go_wp2_with fail
  refine (unhide H).mono ?_
  rintro e w1 ⟨v1, rfl, hg1, hb1⟩
  obtain ⟨Z, hZ⟩ : ∃ Z, Z = xs ++ ys ++ [⟨2, [], 0, 0⟩] := ⟨_, rfl⟩
  rw [← hZ] at hg1
  have HZ := hide hZ
  have HG := hide hg1
  obtain ⟨o1, d1, rfl⟩ := hg1.form
  clear hg1 hZ
  go_wp2
  go_ret
  exact ⟨_, rfl, by rw [← unhide HZ]; exact unhide HG, hb1⟩



theorem Boxed.under {w w' : World} {B m : Nat} {t : TypeId} {v : Value} (h : Boxed w B t v) (hb : Below m w w') (hm : B < m) : Boxed w' B t v := (hb.block B hm).trans h

/-- A list that lies in one block, and where. -/
structure Cl (α : Type) where
  v : Value
  xs : List α
  b : Nat

/-- p's value reads as p's list, in p's block, whose cells are of type e. -/
def Cl.ok {α : Type} (mk : α → Value) (d : α) (e : TypeId) (w : World) (p : Cl α) : Prop :=
  ∃ a cap, p.v = .slice a p.xs.length cap ∧ (p.xs.length ≤ cap ∧ cap ≤ maxLen) ∧ (0 < p.xs.length → ∃ off, a = some ⟨p.b, off, none⟩ ∧ (∃ c, w.heap[p.b]? = some (.cells c e (0, 0))) ∧ ∀ i : Nat, i < p.xs.length → w.cell? ⟨p.b, off + i, none⟩ = some (mk (p.xs[i]?.getD d)))
theorem Cl.ok.same {α : Type} {mk : α → Value} {d : α} {e : TypeId} {w w' : World} {p : Cl α} (h : p.ok mk d e w) (hs : 0 < p.xs.length → w'.heap[p.b]? = w.heap[p.b]?) : p.ok mk d e w' := by
  obtain ⟨a, cap, e1, hl, hc⟩ := h
  refine ⟨a, cap, e1, hl, fun hp => ?_⟩
  obtain ⟨off, e2, ⟨c, h1⟩, h2⟩ := hc hp
  exact ⟨off, e2, ⟨c, (hs hp).trans h1⟩, fun i hi => by rw [World.cell?_of_block (w := w) (a := ⟨p.b, off + i, none⟩) (hs hp)]; exact h2 i hi⟩
theorem Cl.ok.lt {α : Type} {mk : α → Value} {d : α} {e : TypeId} {w : World} {p : Cl α} (h : p.ok mk d e w) (hp : 0 < p.xs.length) : p.b < w.heap.size := by
  obtain ⟨a, cap, e1, hl, hc⟩ := h
  obtain ⟨off, e2, ⟨c, h1⟩, h2⟩ := hc hp
  exact (Array.getElem?_eq_some_iff.1 h1).1
theorem Cl.ok.below {α : Type} {mk : α → Value} {d : α} {e : TypeId} {m : Nat} {w w' : World} {p : Cl α} (h : p.ok mk d e w) (hb : Below m w w') (hm : w.heap.size ≤ m) : p.ok mk d e w' := h.same (fun hp => hb.block _ (by have := h.lt hp; omega))
theorem Cl.ok.at {α : Type} {mk : α → Value} {d : α} {e : TypeId} {w : World} {p : Cl α} (h : p.ok mk d e w) : SlAt mk d 0 w.heap.size w p.v p.xs := by
  obtain ⟨a, cap, e1, hl, hc⟩ := id h
  refine ⟨a, cap, e1, by omega, fun hp => ?_⟩
  obtain ⟨off, e2, -, h2⟩ := hc hp
  exact ⟨p.b, off, e2, Nat.zero_le _, h.lt hp, h2⟩
theorem Cl.ok.cap {α : Type} {mk : α → Value} {d : α} {e : TypeId} {w : World} {p : Cl α} (h : p.ok mk d e w) : CapOk p.v := by
  obtain ⟨a, cap, e1, hl, hc⟩ := h
  rw [e1]
  exact CapOk.mk hl.1 hl.2
theorem Cl.ok.foot {α : Type} {mk : α → Value} {d : α} {e : TypeId} {w : World} {p : Cl α} (h : p.ok mk d e w) : SlF mk d (fun k => 0 < p.xs.length ∧ k = p.b) w p.v p.xs := by
  obtain ⟨a, cap, e1, hl, hc⟩ := h
  by_cases hp : 0 < p.xs.length
  · refine ⟨p.b, p.b + 1, ⟨a, cap, e1, by omega, fun _ => ?_⟩, fun k h1 h2 => ⟨hp, by omega⟩⟩
    obtain ⟨off, e2, ⟨c, h1⟩, h2⟩ := hc hp
    exact ⟨p.b, off, e2, Nat.le_refl _, Nat.lt_succ_self _, ⟨c, e, h1⟩, h2⟩
  · exact ⟨0, 0, ⟨a, cap, e1, by omega, fun h => absurd h hp⟩, fun k h1 h2 => by omega⟩
theorem Cl.ok.one {α : Type} {mk : α → Value} {d : α} {e : TypeId} {w : World} {p : Cl α} (h : p.ok mk d e w) : p.v.oneCell' = true := by
  obtain ⟨a, cap, e1, -⟩ := h
  rw [e1]
  rfl

/-- What owns its row is such a list. -/
theorem own_cl {mk : Int → Value} {base e n : Nat} {w : World} {v : Value} {xs : List Int} (h : w.ownsRow base e 1 v n (xs.map mk)) : ∃ b, Cl.ok mk 0 e w ⟨v, xs, b⟩ ∧ (0 < xs.length → base ≤ b) := by
  have hlen := h.1
  rw [List.length_map, Nat.mul_one] at hlen
  rcases h.2 with ⟨rfl, hz⟩ | ⟨g, cap, cur, rfl, hbg, hg, hnc, hcm, hcs, htake⟩
  · exact ⟨0, ⟨none, 0, by show Value.slice none 0 0 = _; rw [hlen, hz], by show xs.length ≤ 0 ∧ _; exact ⟨by omega, Nat.zero_le _⟩, fun hp => by have : 0 < xs.length := hp; omega⟩, fun hp => by omega⟩
  · refine ⟨g, ⟨some ⟨g, 0, none⟩, cap, by rw [hlen], ⟨by show xs.length ≤ cap; omega, hcm⟩, fun hp => ⟨0, rfl, ⟨cur, hg⟩, fun i hi => ?_⟩⟩, fun _ => hbg⟩
    have hi' : i < xs.length := hi
    show w.cell? ⟨g, 0 + i, none⟩ = some (mk (xs[i]?.getD 0))
    rw [Nat.zero_add, h.cellAt i (by omega), List.getElem?_map, List.getElem?_eq_getElem hi']
    rfl

def ApartC {α : Type} (ps : List (Cl α)) : Prop := ps.Pairwise (fun p q => 0 < p.xs.length → 0 < q.xs.length → p.b ≠ q.b)

/-- v is a row of its own of such lists, ps, which lie apart. -/
structure LL {α : Type} (mk : α → Value) (d : α) (e te : TypeId) (base : Nat) (w : World) (v : Value) (ps : List (Cl α)) : Prop where
  own : w.ownsRow base te 1 v ps.length (ps.map Cl.v)
  ok : ∀ p ∈ ps, p.ok mk d e w
  lo : ∀ p ∈ ps, 0 < p.xs.length → base ≤ p.b
  apart : ApartC ps
theorem LL.nil {α : Type} {mk : α → Value} {d : α} {e te : TypeId} {base : Nat} {w : World} : LL mk d e te base w (.slice none 0 0) [] := ⟨World.ownsRow_nil _ _ _ _, by simp, by simp, List.Pairwise.nil⟩
theorem LL.keep {α : Type} {mk : α → Value} {d : α} {e te : TypeId} {base m : Nat} {w w' : World} {v : Value} {ps : List (Cl α)} (h : LL mk d e te base w v ps) (hb : Below m w w') (hm : w.heap.size ≤ m) : LL mk d e te base w' v ps :=
  ⟨own_keep h.own hb hm, fun p hp => (h.ok p hp).below hb hm, h.lo, h.apart⟩

/-- The row's own block is none of the lists' blocks. -/
theorem LL.not_row {α : Type} {mk : α → Value} {d : α} {e te : TypeId} {base : Nat} {w : World} {v : Value} {ps : List (Cl α)} (hte : te ≠ e) (h : LL mk d e te base w v ps) {p : Cl α} {q : Cl α} (hq : q.ok mk d e w) (_ : p = q) (hp : 0 < q.xs.length) : some q.b ≠ v.ownBlock := by
  intro e1
  obtain ⟨a, cap, -, -, hc⟩ := hq
  obtain ⟨off, -, ⟨c, h1⟩, -⟩ := hc hp
  rcases h.own.2 with ⟨rfl, _⟩ | ⟨g, cap', cur, rfl, _, hgb, _⟩
  · simp [Value.ownBlock] at e1
  · obtain rfl : q.b = g := by simpa [Value.ownBlock] using e1
    rw [h1] at hgb
    simp at hgb
    exact hte hgb.2.symm

theorem pushd_alloc (w : World) (o : Obj) : Pushd w (w.alloc o) o := ⟨rfl, rfl, rfl, rfl⟩

/-- One list more. -/
theorem LL.app {α : Type} {mk : α → Value} {d : α} {e te : TypeId} {base : Nat} {w W w' : World} {v v' : Value} {ps : List (Cl α)} {p : Cl α} {o : Obj} (hte : te ≠ e) (h : LL mk d e te base w v ps) (hbase : base ≤ w.heap.size) (hp : p.ok mk d e w) (hplo : 0 < p.xs.length → base ≤ p.b)
    (hnew : ∀ q ∈ ps, 0 < q.xs.length → 0 < p.xs.length → q.b ≠ p.b) (hP : Pushd w W o) (h1 : w'.ownsRow base te 1 v' (ps.length + 1) (ps.map Cl.v ++ [p.v])) (hg : W.grownBy w' v.ownBlock) : LL mk d e te base w' v' (ps ++ [p]) ∧ Below base w w' := by
  have hk : ∀ q : Cl α, q.ok mk d e w → q.ok mk d e w' := fun q hq => by
    refine hq.same (fun hq0 => ?_)
    have hlt := hq.lt hq0
    rw [hg.block q.b (by rw [hP.size]; omega) (h.not_row hte hq rfl hq0), hP.old hlt]
  refine ⟨⟨by rw [List.length_append, List.map_append]; exact h1, fun q hq => ?_, fun q hq hq0 => ?_, ?_⟩, (hP.below.mono hbase).grown hg (by rw [hP.size]; omega) (fun k hk => (h.own.lt k hk).1)⟩
  · rcases List.mem_append.1 hq with hq | hq
    · exact hk q (h.ok q hq)
    · rw [List.mem_singleton] at hq
      subst hq
      exact hk q hp
  · rcases List.mem_append.1 hq with hq | hq
    · exact h.lo q hq hq0
    · rw [List.mem_singleton] at hq
      subst hq
      exact hplo hq0
  · refine List.pairwise_append.2 ⟨h.apart, List.pairwise_singleton _ _, fun q hq r hr => ?_⟩
    rw [List.mem_singleton] at hr
    subst hr
    exact hnew q hq

/-- As the laws' functions want it. -/
theorem LL.foot {α : Type} {mk : α → Value} {d : α} {e te : TypeId} {base : Nat} {w : World} {v : Value} {ps : List (Cl α)} (hte : te ≠ e) (h : LL mk d e te base w v ps) (hl : ps.length ≤ maxLen) : SsF mk d (Rng base w.heap.size) w v (ps.map Cl.xs) := by
  have hlen := h.own.1
  rcases h.own.2 with ⟨rfl, hz⟩ | ⟨g, cap, cur, rfl, hbg, hg, hnc, hcm, hcs, htake⟩
  · have : ps = [] := List.eq_nil_of_length_eq_zero hz
    subst this
    exact SsF.nil _ _ _ _ _ _ (Nat.zero_le _)
  · have hgl : g < w.heap.size := (h.own.lt g rfl).2
    have hget : ∀ i : Nat, i < ps.length → ∃ p, ps[i]? = some p ∧ p ∈ ps := fun i hi => ⟨ps[i], by simp [hi], List.getElem_mem hi⟩
    refine ⟨some ⟨g, 0, none⟩, cap, by rw [List.length_map], ⟨by rw [List.length_map]; exact hnc, hcm⟩, fun _ => ⟨g, 0, fun i => ((ps[i]?).map Cl.v).getD undef, fun i k => ∃ p, ps[i]? = some p ∧ 0 < p.xs.length ∧ k = p.b, rfl, ⟨hbg, hgl⟩, ⟨cur, te, hg⟩, fun i hi => ?_, fun i hi => ?_, fun i hi k hk => ?_, fun i j hi hj hne k hk hk' => ?_⟩⟩
    · rw [List.length_map] at hi
      obtain ⟨p, hp, -⟩ := hget i hi
      show w.cell? ⟨g, 0 + i, none⟩ = some (((ps[i]?).map Cl.v).getD undef)
      rw [Nat.zero_add, h.own.cellAt i (by omega), List.getElem?_map, hp]
      rfl
    · rw [List.length_map] at hi
      obtain ⟨p, hp, hm⟩ := hget i hi
      have e1 : ((ps[i]?).map Cl.v).getD undef = p.v := by rw [hp]; rfl
      have e2 : ((ps.map Cl.xs)[i]?).getD [] = p.xs := by rw [List.getElem?_map, hp]; rfl
      show SlF mk d _ w (((ps[i]?).map Cl.v).getD undef) (((ps.map Cl.xs)[i]?).getD []) ∧ CapOk (((ps[i]?).map Cl.v).getD undef)
      rw [e1, e2]
      exact ⟨(h.ok p hm).foot.mono (fun k hk => ⟨p, hp, hk.1, hk.2⟩), (h.ok p hm).cap⟩
    · obtain ⟨p, hp, hp0, rfl⟩ := hk
      have hm : p ∈ ps := List.mem_of_getElem? hp
      refine ⟨⟨h.lo p hm hp0, (h.ok p hm).lt hp0⟩, fun e1 => ?_⟩
      exact h.not_row hte (h.ok p hm) rfl hp0 (by rw [e1]; rfl)
    · obtain ⟨p, hp, hp0, rfl⟩ := hk
      obtain ⟨q, hq, hq0, e1⟩ := hk'
      rw [List.length_map] at hi hj
      have hpair := List.pairwise_iff_getElem.1 h.apart
      have ep : ps[i]'hi = p := by rw [List.getElem?_eq_getElem hi] at hp; exact Option.some.inj hp
      have eq : ps[j]'hj = q := by rw [List.getElem?_eq_getElem hj] at hq; exact Option.some.inj hq
      rcases Nat.lt_or_gt_of_ne hne with hlt | hlt
      · exact hpair i j hi hj hlt (by rw [ep]; exact hp0) (by rw [eq]; exact hq0) (by rw [ep, eq]; exact e1)
      · exact hpair j i hj hi hlt (by rw [eq]; exact hq0) (by rw [ep]; exact hp0) (by rw [ep, eq]; exact e1.symm)

/-- One store into a row of its own. -/
theorem own_set {base e g n cap k : Nat} {w : World} {xs : List Value} {u : Value} (h : w.ownsRow base e 1 (.slice (some ⟨g, 0, none⟩) n cap) n xs) (_ : k < n) : (w.setCell ⟨g, k, none⟩ u).ownsRow base e 1 (.slice (some ⟨g, 0, none⟩) n cap) n (xs.set k u) := by
  have hlen := h.1
  rcases h.2 with ⟨e0, _⟩ | ⟨g', cap', cur, e0, hb, hg, hn, hm, hs, ht⟩
  · cases e0
  · cases e0
    refine ⟨by rw [List.length_set]; exact hlen, .inr ⟨g, cap, cur.setIfInBounds k u, rfl, hb, ?_, hn, hm, by rw [Array.size_setIfInBounds]; exact hs, ?_⟩⟩
    · simp [World.setCell, Array.getElem?_modify, hg]
    · rw [Array.toList_setIfInBounds, ← ht]
      rw [List.take_set]


/-- Whether b lies in one of the pairs. -/
def inPs (set : List Int) (b : Int) : Prop := ∃ i : Nat, 2 * i + 1 < set.length ∧ set[2 * i]?.getD 0 ≤ b ∧ b ≤ set[2 * i + 1]?.getD 0

set_option maxHeartbeats 4000000 in
set_option maxRecDepth 100000 in
theorem l1has_any (v : Value) (set : List Int) (b : Int) (w : World) (hv : SlAt mI 0 0 w.heap.size w v set) (hl : set.length ≤ 1048576) :
    Calls Try.prog 43 #[v, .int .i64 b] w fun e w' => RetB e (inPs set b) ∧ w' = w := by
  obtain ⟨a, cap, rfl, -, hc⟩ := hv
  go_enter Try.func43, Try.ntmps43
  go_wp2_with fail
  go_loop [5] (fun iv => ∃ k : Nat, 2 * k ≤ set.length + 1 ∧ iv = .int .i64 ((2 * k : Nat) : Int) ∧ ∀ j : Nat, j < k → ¬ (set[2 * j]?.getD 0 ≤ b ∧ b ≤ set[2 * j + 1]?.getD 0)) (fun iv => set.length + 2 - (intOf iv).toNat)
  case atStart => exact ⟨0, Nat.zero_le _, rfl, fun j hj => absurd hj (Nat.not_lt_zero _)⟩
  case round =>
    obtain ⟨k, hk, rfl, hno⟩ := hrel
    have Hno := hide hno
    clear hno
    by_cases hlt : 2 * k + 1 < set.length
    · have h1' : ((2 * k : Nat) : Int) + 1 < (set.length : Int) := by omega
      have h2' : ((2 * k : Nat) : Int) < (set.length : Int) := by omega
      have h3' : (0 : Int) ≤ ((2 * k : Nat) : Int) + 1 := by omega
      obtain ⟨g, off, rfl, -, -, hcell⟩ := hc (by omega)
      have hx : w.cell? ⟨g, off + 2 * k, none⟩ = some (.int .i64 (set[2 * k]?.getD 0)) := hcell _ (by omega)
      have hy : w.cell? ⟨g, off + (2 * k + 1), none⟩ = some (.int .i64 (set[2 * k + 1]?.getD 0)) := hcell _ (by omega)
      have Hyes : Hid (set[2 * k]?.getD 0 ≤ b → b ≤ set[2 * k + 1]?.getD 0 → inPs set b) := fun q1 q2 => ⟨k, hlt, q1, q2⟩
      have Hnx : Hid (¬ (set[2 * k]?.getD 0 ≤ b ∧ b ≤ set[2 * k + 1]?.getD 0) → ∀ j : Nat, j < k + 1 → ¬ (set[2 * j]?.getD 0 ≤ b ∧ b ≤ set[2 * j + 1]?.getD 0)) := fun h j hj => by
        by_cases e : j = k
        · subst e; exact h
        · exact unhide Hno j (by omega)
      clear hcell hc Hno
      generalize set[2 * k]?.getD 0 = x at *
      generalize set[2 * k + 1]?.getD 0 = y at *
      have hk2 : 2 * (k + 1) ≤ set.length + 1 := by omega
      have hkm : set.length + 2 - 2 * (k + 1) < set.length + 2 - 2 * k := by omega
      have ek : ((2 * (k + 1) : Nat) : Int) = ((2 * k : Nat) : Int) + 2 := by omega
      have EK := hide ek
      have hkb : 2 * k ≤ 1048576 := by omega
      clear ek hlt hk
      generalize hm : 2 * k = m at *
      have HM := hide hm
      clear hm
      by_cases g1 : x ≤ b
      · by_cases g2 : b ≤ y
        · have HQ := hide (unhide Hyes g1 g2)
          clear Hyes Hnx
          go_wp2
          go_ret
          exact ⟨RetB.yes (unhide HQ), rfl⟩
        · have HQ := hide (unhide Hnx (fun h => g2 h.2))
          clear Hyes Hnx
          go_wp2
          go_round
          case rel => exact ⟨k + 1, hk2, by rw [unhide EK], unhide HQ⟩
          case measure => simp [intOf]; omega
      · have HQ := hide (unhide Hnx (fun h => g1 h.1))
        clear Hyes Hnx
        go_wp2
        go_round
        case rel => exact ⟨k + 1, hk2, by rw [unhide EK], unhide HQ⟩
        case measure => simp [intOf]; omega
    · have h1' : ¬ ((2 * k : Nat) : Int) + 1 < (set.length : Int) := by omega
      have hkb : 2 * k ≤ 1048577 := by omega
      have HQ : Hid (¬ inPs set b) := fun ⟨i, hi, h2⟩ => unhide Hno i (by omega) h2
      generalize hm : 2 * k = m at *
      clear hm
      go_wp2
      go_ret
      exact ⟨RetB.no (unhide HQ), rfl⟩

theorem ints_slAt {N : Nat} {w : World} {v : Value} {xs : List Int} (h : IntsAt 0 N w v xs) : SlAt mI 0 0 N w v xs := by
  obtain ⟨a, c, e, h1, -, h2⟩ := h
  exact ⟨a, c, e, h1, h2⟩

end Go.Proofs.Ytjjmgegbeccjoaa
