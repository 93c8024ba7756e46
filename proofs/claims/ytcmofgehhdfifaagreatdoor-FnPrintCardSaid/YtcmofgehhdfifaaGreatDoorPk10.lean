import Derived.Test.YtcmofgehhdfifaaGreatDoorPk5
import Derived.Test.YtcmofgehhdfifaaGreatDoorPk4
import Derived.Deep.RegionHeld3
import Derived.Test.YtcmofgehhdfifaaGreatDoorPk9
import Derived.Test.YtcmofgehhdfifaaGreatDoorPk3
import Derived.Test.YtcmofgehhdfifaaGreatDoorPk2
import Derived.Test.YtcmofgehhdfifaaGreatDoorW1
import Derived.Laws.OwnMore
import Derived.Shelf.Strconv.AppendIntPublic10
import Derived.Test.YtcmofgehhdfifaaGreatDoorRows
import Derived.Test.YtcmofgehhdfifaaGreatDoorD1
import Derived.RegionTactic
import Derived.BigRegion
namespace Go.Proofs.YtcmofgehhdfifaaGreatDoor
open Go.RowKit
theorem SlAt.under {α : Type} {mk : α → Value} {d : α} {lo n m : Nat} {w w' : World} {v : Value} {xs : List α} (h : SlAt mk d lo n w v xs) (hb : Below m w w') (hm : n ≤ m) : SlAt mk d lo n w' v xs := h.same (Same.of_below hb hm)
def Only (D : Nat) (w w' : World) : Prop := ChgF (fun k => k = D) w w'
theorem Only.refl (D : Nat) (w : World) : Only D w w := ChgF.refl _ _
theorem Only.trans {D : Nat} {a b c : World} (h : Only D a b) (k : Only D b c) : Only D a c := ChgF.trans h k
theorem Only.set {D : Nat} {w : World} {v : Value} : Only D w (w.setCell ⟨D, 0, none⟩ v) := ChgF.put (S := fun k => k = D) (ChgF.refl _ _) rfl v
theorem Only.below {D m : Nat} {w w' : World} (h : Only D w w') (hm : m ≤ D) : Below m w w' := ChgF.below h (fun k hk => by omega)
def Row2 (w : World) (b : Nat) (t : TypeId) (c0 c1 : Value) : Prop := w.rowIs b t 2 (fun j => [c0, c1].getD j undef)
theorem Row2.new (w : World) (t : TypeId) (c0 c1 : Value) : Row2 (w.alloc (.cells #[c0, c1] t)) w.heap.size t c0 c1 :=
  World.rowIs_alloc w #[c0, c1] t _ (fun i hi => by
    match i, hi with
    | 0, _ => rfl
    | 1, _ => rfl)
theorem Row2.alloc {w : World} {b : Nat} {t : TypeId} {c0 c1 : Value} (h : Row2 w b t c0 c1) (o : Obj) : Row2 (w.alloc o) b t c0 c1 := World.rowIs.alloc h o
theorem Row2.below {w w' : World} {b m : Nat} {t : TypeId} {c0 c1 : Value} (h : Row2 w b t c0 c1) (hb : Below m w w') (hm : b < m) : Row2 w' b t c0 c1 := World.rowIs.of_block h (hb.block b hm)
theorem Row2.put1 {w : World} {b : Nat} {t : TypeId} {c0 c1 u : Value} (h : Row2 w b t c0 c1) : Row2 (w.setCell ⟨b, 1, none⟩ u) b t c0 u := (World.rowIs.set h 1 u).congr (fun i hi => by
    match i, hi with
    | 0, _ => rfl
    | 1, _ => rfl)
theorem Row2.facts {w : World} {b : Nat} {t : TypeId} {c0 c1 : Value} (h : Row2 w b t c0 c1) : w.cell? ⟨b, 0, none⟩ = some c0 ∧ w.cell? ⟨b, 1, none⟩ = some c1 ∧ w.frozen? ⟨b, 1, none⟩ = false := by
  refine ⟨h.cell (by omega), h.cell (by omega), ?_⟩
  obtain ⟨c, hc, -⟩ := h
  simp [World.frozen?, hc]
structure Mv (lo D : Nat) (w w' : World) : Prop where
  os : w'.os = w.os
  tape : w'.tape = w.tape
  output : w'.output = w.output
  size : w.heap.size ≤ w'.heap.size
  block : ∀ k, k < lo → k ≠ D → w'.heap[k]? = w.heap[k]?
theorem Mv.refl (lo D : Nat) (w : World) : Mv lo D w w := ⟨rfl, rfl, rfl, Nat.le_refl _, fun _ _ _ => rfl⟩
theorem Mv.trans {lo D : Nat} {a b c : World} (h : Mv lo D a b) (k : Mv lo D b c) : Mv lo D a c := ⟨k.os.trans h.os, k.tape.trans h.tape, k.output.trans h.output, Nat.le_trans h.size k.size, fun i h1 h2 => (k.block i h1 h2).trans (h.block i h1 h2)⟩
theorem Only.mv {D : Nat} {w w' : World} (h : Only D w w') (lo : Nat) : Mv lo D w w' := ⟨h.os, h.tape, h.output, Nat.le_of_eq h.size.symm, fun k _ hk => h.block k hk⟩
theorem Below.mv {lo : Nat} {w w' : World} (h : Below lo w w') (D : Nat) : Mv lo D w w' := ⟨h.os, h.tape, h.output, h.size, fun k hk _ => h.block k hk⟩
theorem Mv.mono {lo lo' D : Nat} {w w' : World} (h : Mv lo D w w') (hl : lo' ≤ lo) : Mv lo' D w w' := ⟨h.os, h.tape, h.output, h.size, fun k hk hd => h.block k (by omega) hd⟩
theorem Mv.below {lo D : Nat} {w w' : World} (h : Mv lo D w w') (hD : D ≤ lo) : Below D w w' := ⟨h.os, h.tape, h.output, h.size, fun k hk => h.block k (by omega) (by omega)⟩
theorem own_mv {base n e size lo D : Nat} {w w' : World} {v : Value} {xs : List Value} (h : w.ownsRow base e size v n xs) (hb : Mv lo D w w') (hm : w.heap.size ≤ lo) (hD : D < base) : w'.ownsRow base e size v n xs := by
  refine ⟨h.1, ?_⟩
  rcases h.2 with h2 | ⟨g, cap, cur, h1, h2, h3, h4⟩
  · exact Or.inl h2
  · have hg : g < w.heap.size := by
      by_cases q : g < w.heap.size
      · exact q
      · rw [Array.getElem?_eq_none (by omega)] at h3; cases h3
    exact Or.inr ⟨g, cap, cur, h1, h2, (hb.block g (by omega) (by omega)).trans h3, h4⟩
theorem sl_to {N j c : Nat} {a : Option Addr} {w : World} {xs : List Int} (h : SlAt mB 0 0 N w (.slice a xs.length c) xs) (hj : j ≤ xs.length) (hc : xs.length ≤ c) (hm : c ≤ maxLen) : SlAt mB 0 0 N w (.slice a j c) (xs.take j) ∧ CapOk (.slice a j c) := by
  obtain ⟨a', c', e, hl, hcell⟩ := h
  cases e
  have e1 : (xs.take j).length = j := by rw [List.length_take]; omega
  refine ⟨⟨a, c, by rw [e1], by omega, fun hp => ?_⟩, CapOk.mk (by omega) hm⟩
  rw [e1] at hp
  obtain ⟨b, off, rfl, h1, h2, h3⟩ := hcell (by omega)
  refine ⟨b, off, rfl, h1, h2, fun i hi => ?_⟩
  rw [e1] at hi
  rw [h3 i (by omega), List.getElem?_take, if_pos hi]
def CdAt (N D : Nat) (w : World) (xs : List Int) : Prop := N ≤ D ∧ ∃ (v : Value) (cs : List Int) (i : Nat), Row2 w D 70 v (.int .i64 i) ∧ SlAt mB 0 0 N w v cs ∧ i ≤ cs.length ∧ cs.length ≤ 600 ∧ cs.drop i = xs
theorem CdAt.keep {N D m : Nat} {w w' : World} {xs : List Int} (h : CdAt N D w xs) (hb : Below m w w') (hm : D < m) : CdAt N D w' xs := by
  obtain ⟨hN, v, cs, i, h1, h2, h3⟩ := h
  exact ⟨hN, v, cs, i, h1.below hb hm, h2.under hb (by omega), h3⟩
theorem only_put1 {D : Nat} {w : World} {v : Value} : Only D w (w.setCell ⟨D, 1, none⟩ v) := ChgF.put (S := fun k => k = D) (ChgF.refl _ _) rfl v
theorem only_drewN {D : Nat} {w w' : World} (h : Only D w w') (q : Nat) : Only D w (w'.drewN q) := ⟨h.os, h.tape, h.output, h.size, h.block⟩
set_option maxHeartbeats 4000000 in
set_option maxRecDepth 100000 in
theorem next_any (N D : Nat) (xs : List Int) (w : World) (h : CdAt N D w xs) (hb : ∀ x ∈ xs, 0 ≤ x ∧ x ≤ 255) :
    Calls Tryz.prog 12 #[.pointer (some ⟨D, 0, none⟩)] w fun e w' => e = .returned (.int .i64 (xs.headD 0)) ∧ CdAt N D w' xs.tail ∧ Only D w w' := by
  obtain ⟨hN, v, cs, i, hr, hs, hi, hl, rfl⟩ := h
  have HR := hide hr
  have HS := hide hs
  obtain ⟨f0, f1, z1⟩ := hr.facts
  obtain ⟨a, c, rfl, -, hc⟩ := hs
  clear hr
  by_cases hlt : i < cs.length
  · have hlt' : ¬ (cs.length : Int) ≤ (i : Int) := by omega
    have hlt2 : (i : Int) < (cs.length : Int) := by omega
    obtain ⟨b, off, rfl, -, -, hcell⟩ := hc (by omega)
    have hx := hcell i hlt
    unfold mB at hx
    have hy := hb (cs[i]?.getD 0) (by rw [List.drop_eq_getElem_cons hlt, List.getElem?_eq_getElem hlt]; exact List.mem_cons_self ..)
    have He : Hid ((cs.drop i).headD 0 = cs[i]?.getD 0 ∧ (cs.drop i).tail = cs.drop (i + 1)) := by
      show (cs.drop i).headD 0 = cs[i]?.getD 0 ∧ (cs.drop i).tail = cs.drop (i + 1)
      rw [List.drop_eq_getElem_cons hlt, List.getElem?_eq_getElem hlt]
      exact ⟨rfl, rfl⟩
    rw [(unhide He).1, (unhide He).2]
    clear hcell hc hb He
    generalize cs[i]?.getD 0 = y at *
    go_enter Tryz.func12, Tryz.ntmps12
    go_wp2_with fail
    go_quiet (fail)
    go_wp2_with fail
    go_quiet (fail)
    go_wp2
    go_ret
    refine ⟨rfl, ⟨hN, .slice (some ⟨b, off, none⟩) cs.length c, cs, i + 1, ?_, ?_, by omega, hl, rfl⟩, ?_⟩
    · exact Row2.put1 (unhide HR)
    · have h1 : Only D w (w.setCell ⟨D, 1, none⟩ (.int .i64 ((i : Int) + 1))) := only_put1
      exact (unhide HS).under (Only.below (show Only D w _ from ⟨h1.os, h1.tape, h1.output, h1.size, h1.block⟩) hN) (Nat.le_refl _)
    · have h1 : Only D w (w.setCell ⟨D, 1, none⟩ (.int .i64 ((i : Int) + 1))) := only_put1
      exact ⟨h1.os, h1.tape, h1.output, h1.size, h1.block⟩
  · obtain rfl : i = cs.length := by omega
    have hlt' : (cs.length : Int) ≤ (cs.length : Int) := Int.le_refl _
    rw [List.drop_length]
    clear hc hb
    go_enter Tryz.func12, Tryz.ntmps12
    go_wp2_with fail
    go_quiet (fail)
    go_wp2
    go_ret
    exact ⟨rfl, ⟨hN, _, cs, cs.length, unhide HR, unhide HS, Nat.le_refl _, hl, by simp⟩, only_drewN (Only.refl _ _) _⟩
set_option maxHeartbeats 2000000 in
set_option maxRecDepth 100000 in
theorem l1open_any (v : Value) (cs : List Int) (w : World) (hv : SlAt mB 0 0 w.heap.size w v cs) (hcap : CapOk v) :
    Calls Tryz.prog 11 #[v] w fun e w' => e = .returned (.pointer (some ⟨w.heap.size, 0, none⟩)) ∧ CdAt w.heap.size w.heap.size w' (cs.take 600) ∧ w'.heap.size = w.heap.size + 1 ∧ Below w.heap.size w w' := by
  have HV := hide hv
  obtain ⟨a, c, rfl, -, -⟩ := hv
  have hcc := hcap.le
  have hcm := hcc.2
  unfold maxLen at hcm
  clear hcap
  obtain ⟨n, hn⟩ : ∃ n : Nat, n = min cs.length 600 := ⟨_, rfl⟩
  have ht := sl_to (j := n) (unhide HV) (by omega) hcc.1 hcc.2
  have e1 : cs.take n = cs.take 600 := by
    by_cases h : cs.length ≤ 600
    · rw [List.take_of_length_le (by omega), List.take_of_length_le h]
    · rw [show n = 600 by omega]
  have HT := hide ht.1
  have hR := Row2.new w 70 (.slice a n c) (.int .i64 ((0 : Nat) : Int))
  have hB := below1 w (.cells #[.slice a n c, .int .i64 ((0 : Nat) : Int)] 70)
  have HF : Hid (CdAt w.heap.size w.heap.size (w.alloc (.cells #[.slice a n c, .int .i64 ((0 : Nat) : Int)] 70)) (cs.take 600)) := ⟨Nat.le_refl _, _, cs.take n, 0, hR, (unhide HT).under hB (Nat.le_refl _), Nat.zero_le _, by rw [List.length_take]; omega, by rw [List.drop_zero, e1]⟩
  clear ht e1 hR
  by_cases h6 : 600 < cs.length
  · have h6' : (600 : Int) < (cs.length : Int) := by omega
    have hn6 : n = 600 := by omega
    clear hn
    subst hn6
    go_enter Tryz.func11, Tryz.ntmps11
    go_wp2
    go_ret
    exact ⟨rfl, unhide HF, sz_alloc _ _, hB⟩
  · have h6' : ¬ (600 : Int) < (cs.length : Int) := by omega
    have hn6 : n = cs.length := by omega
    clear hn
    subst hn6
    go_enter Tryz.func11, Tryz.ntmps11
    go_wp2
    go_ret
    exact ⟨rfl, unhide HF, sz_alloc _ _, hB⟩
def Cod (xs : List Int) : Prop := ∀ x ∈ xs, 0 ≤ x ∧ x ≤ 255
theorem Cod.tail {xs : List Int} (h : Cod xs) : Cod xs.tail := fun x hx => h x (List.mem_of_mem_tail hx)
theorem Cod.head {xs : List Int} (h : Cod xs) : 0 ≤ xs.headD 0 ∧ xs.headD 0 ≤ 255 := by
  cases xs with
  | nil => simp
  | cons x r => exact h x (List.mem_cons_self ..)
def oddB : List Int := [92, 46, 91, 93, 40, 41, 124, 42, 43, 63, 123, 125, 94, 36, 45, 10, 9, 13, 32, 126, 0, 127, 128, 255, 33]
theorem oddB_byte : ∀ k, k < 25 → 0 ≤ oddB.getD k 0 ∧ oddB.getD k 0 ≤ 255 := by decide
theorem oddB_eq (k : Nat) (h : k < 25) : wrap64 (((ByteArray.mk #[92, 46, 91, 93, 40, 41, 124, 42, 43, 63, 123, 125, 94, 36, 45, 10, 9, 13, 32, 126, 0, 127, 128, 255, 33])[k]'h).toNat : Int) = oddB.getD k 0 := by
  have e : (((ByteArray.mk #[92, 46, 91, 93, 40, 41, 124, 42, 43, 63, 123, 125, 94, 36, 45, 10, 9, 13, 32, 126, 0, 127, 128, 255, 33])[k]'h).toNat : Int) = oddB.getD k 0 := by
    have H : ∀ k : Fin 25, (((#[92, 46, 91, 93, 40, 41, 124, 42, 43, 63, 123, 125, 94, 36, 45, 10, 9, 13, 32, 126, 0, 127, 128, 255, 33] : Array UInt8)[k.1]'k.2).toNat : Int) = oddB.getD k.1 0 := by decide
    exact H ⟨k, h⟩
  have hb := oddB_byte k h
  rw [e]
  unfold wrap64; omega
def dB (y : Int) : Int := if y < 200 then 97 + y % 3 else if y < 215 then 48 + y % 3 else oddB.getD (y % 25).toNat 0
theorem dB_byte {y : Int} : 0 ≤ dB y ∧ dB y ≤ 255 := by
  unfold dB
  split
  · omega
  · split
    · omega
    · exact oddB_byte _ (by omega)
theorem l1drawByte_any (N D : Nat) (xs : List Int) (w : World) (h : CdAt N D w xs) (hx : Cod xs) :
    Calls Tryz.prog 96 #[.pointer (some ⟨D, 0, none⟩)] w fun e w' => e = .returned (.int .i64 (dB (xs.headD 0))) ∧ CdAt N D w' xs.tail ∧ Only D w w' := by
  have H := hide h
  have HX := hide hx
  have hh := hx.head
  obtain ⟨y, hy⟩ : ∃ y, xs.headD 0 = y := ⟨_, rfl⟩
  rw [hy] at hh ⊢
  have HY := hide hy
  clear hy hx h
  by_cases h1 : y < 200
  · rw [show dB y = 97 + y % 3 from if_pos h1]
    go_enter Tryz.func96, Tryz.ntmps96
    go_wp2_with fail
    refine (next_any N D xs w (unhide H) (unhide HX)).mono ?_
    rintro e w1 ⟨he, hc, ho⟩
    rw [unhide HY] at he
    subst he
    go_wp2
    go_ret
    exact ⟨rfl, hc, ho⟩
  · by_cases h2 : y < 215
    · rw [show dB y = 48 + y % 3 from (if_neg h1).trans (if_pos h2)]
      go_enter Tryz.func96, Tryz.ntmps96
      go_wp2_with fail
      refine (next_any N D xs w (unhide H) (unhide HX)).mono ?_
      rintro e w1 ⟨he, hc, ho⟩
      rw [unhide HY] at he
      subst he
      go_wp2
      go_ret
      exact ⟨rfl, hc, ho⟩
    · have hk : (y % 25).toNat < 25 := by omega
      rw [show dB y = oddB.getD (y % 25).toNat 0 from (if_neg h1).trans (if_neg h2)]
      go_enter Tryz.func96, Tryz.ntmps96
      go_wp2_with fail
      refine (next_any N D xs w (unhide H) (unhide HX)).mono ?_
      rintro e w1 ⟨he, hc, ho⟩
      rw [unhide HY] at he
      subst he
      go_wp2
      rw [oddB_eq _ hk]
      go_ret
      exact ⟨rfl, hc, ho⟩
theorem grown_bl2 {base e n : Nat} {w w' : World} {v : Value} {xs : List Value} (h : w.ownsRow base e 1 v n xs) (hb : base ≤ w.heap.size) (hg : w.grownBy w' v.ownBlock) : Below base w w' := (Below.refl base w).grown hg hb (fun k hk => (h.lt k hk).1)
theorem app_i2 {w : World} {ops : Array Oper} {rest : List Oper} {o : Oper} {a : Act} {Q : Exit → Act → World → Prop} (hgd : o.guard = none) (s x : Operand)
    (ho : o.op = .call { callee := .builtin .append, args := #[s, x], argTypes := #[39, 39] }) (base : Nat) (v : Value) (hs : a.eval s = v) (y : Int) (hx : a.eval x = .slice (some ⟨w.heap.size, 0, none⟩) 1 1) (n : Nat) (xs : List Int) (hn : n = xs.length)
    (h1 : w.ownsRow base 3 1 v n (xs.map mI)) (hb : base ≤ w.heap.size) (hl : n ≤ 1000000)
    (h : ∀ v' w', w'.ownsRow base 3 1 v' (n + 1) ((xs ++ [y]).map mI) → Below base w w' → wpList Tryz.prog ops Q rest (a.put o.dst v') w') : wpList Tryz.prog ops Q (o :: rest) a (w.alloc (.cells #[.int .i64 y] 3)) := by
  subst hn
  obtain ⟨i0, hi, hz0, hz1, hz2⟩ := info_parts Tryz.zinInt
  refine wpList_append_own_at _ hgd s x 39 ho base 3 i0 (.int .i64 0) 1 8 Tryz.underlying39 hi hz0 hz1 hz2 rfl (by decide) v xs.length (xs.map mI) hs (h1.alloc _) ⟨w.heap.size, 0, none⟩ 1 1 [.int .i64 y] hx rfl (fun j y hj => by
    match j, hj with
    | 0, hj => exact (pushd_alloc w _).news 0 _ hj) (fun u hu => by rw [List.mem_singleton] at hu; subst hu; rfl) (by unfold maxLen; omega) (by omega) (by rw [sz_alloc]; omega) ?_
  intro v' w' r1 r2 _ r3
  refine h v' w' ?_ ((below1 w _).mono hb |>.trans (grown_bl2 (h1.alloc _) (by rw [sz_alloc]; omega) r2))
  rw [List.map_append]
  exact r1
def MkAt (w : World) (mb : Nat) (p : Nat → Bool) : Prop := w.rowIs mb 4 256 (fun j => .bool (p j))
def cnP (p : Nat → Bool) (k : Nat) : List Int := (List.range k).flatMap (emR p)
theorem cnP_s (p : Nat → Bool) (k : Nat) : cnP p (k + 1) = cnP p k ++ emR p k := by unfold cnP; rw [List.range_succ, List.flatMap_append]; simp
theorem emR_no {p : Nat → Bool} {k : Nat} (h : p k = false) : emR p k = [] := by simp [emR, h]
theorem emR_yes {p : Nat → Bool} {k : Nat} (h : p k = true) (s c : Bool) (hs : (k == 0 || !p (k - 1)) = s) (hc : (k == 255 || !p (k + 1)) = c) : emR p k = (if s then [(k : Int)] else []) ++ (if c then [(k : Int)] else []) := by
  simp only [emR, h, hs, hc, Bool.true_and]
theorem st_A {p : Nat → Bool} {k : Nat} (h : k = 0) : (k == 0 || !p (k - 1)) = true := by rw [h]; rfl
theorem st_B {p : Nat → Bool} {k : Nat} (h : p (k - 1) = false) : (k == 0 || !p (k - 1)) = true := by rw [h]; simp
theorem st_C {p : Nat → Bool} {k : Nat} (h0 : ¬ k = 0) (h : p (k - 1) = true) : (k == 0 || !p (k - 1)) = false := by rw [h]; simp [h0]
theorem cl_A {p : Nat → Bool} {k : Nat} (h : k = 255) : (k == 255 || !p (k + 1)) = true := by rw [h]; rfl
theorem cl_B {p : Nat → Bool} {k : Nat} (h : p (k + 1) = false) : (k == 255 || !p (k + 1)) = true := by rw [h]; simp
theorem cl_C {p : Nat → Bool} {k : Nat} (h0 : ¬ k = 255) (h : p (k + 1) = true) : (k == 255 || !p (k + 1)) = false := by rw [h]; simp [h0]
theorem len3 (A B C : List Int) : (A ++ B ++ C).length = A.length + B.length + C.length := by rw [List.length_append, List.length_append]
theorem emR_len (p : Nat → Bool) (k : Nat) : (emR p k).length ≤ 2 := by
  unfold emR
  rw [List.length_append]
  split <;> split <;> simp
theorem cnP_len (p : Nat → Bool) : ∀ k, (cnP p k).length ≤ 2 * k
  | 0 => by simp [cnP]
  | k + 1 => by
    rw [cnP_s, List.length_append]
    have := cnP_len p k
    have := emR_len p k
    omega
set_option maxHeartbeats 8000000 in
set_option maxRecDepth 100000 in
theorem l1ranges_any (mb : Nat) (p : Nat → Bool) (w : World) (hm : MkAt w mb p) :
    Calls Tryz.prog 17 #[.slice (some ⟨mb, 0, none⟩) 256 256] w fun e w' => ∃ v, e = .returned v ∧ w'.ownsRow w.heap.size 3 1 v (cnn p).length ((cnn p).map mI) ∧ Below w.heap.size w w' := by
  have hmb := row_lt hm
  have HM := hide hm
  clear hm
  go_enter Tryz.func17, Tryz.ntmps17
  go_wp2_with fail
  go_loopw [3, 4] (fun ov bv wr => ∃ (k n : Nat), k ≤ 256 ∧ bv = .int .i64 (k : Nat) ∧ n = (cnP p k).length ∧ wr.ownsRow w.heap.size 3 1 ov n ((cnP p k).map mI) ∧ Below w.heap.size w wr) (fun _ bv _ => 256 - (intOf bv).toNat)
  case atStart => exact ⟨0, 0, by omega, rfl, rfl, World.ownsRow_nil _ _ _ _, Below.refl _ _⟩
  case round =>
    obtain ⟨k, n, hk, rfl, hn, hown, hB⟩ := hrel
    obtain ⟨w3, rfl⟩ : ∃ w3, w3 = wr := ⟨_, rfl⟩
    obtain ⟨oa, oc, rfl⟩ := own_is hown
    have hz3 := hB.size
    have hn2 : n ≤ 600 := by rw [hn]; have := cnP_len p k; omega
    have HO := hide hown
    have HB := hide hB
    have HN := hide hn
    have rM := (unhide HM).of_block (hB.block mb hmb)
    clear hown hB hn
    by_cases hlt : k < 256
    · have hlt' : (k : Int) < 256 := by omega
      have x0 := rM.cell (i := k) hlt
      have HN1 : Hid (n + 1 = (cnP p k ++ [(k : Int)]).length) := by show _ = _; rw [List.length_append, List.length_singleton, ← unhide HN]
      cases hp : p k with
      | false =>
        rw [hp] at x0
        have HE : Hid (cnP p (k + 1) = cnP p k) := by show _ = _; rw [cnP_s, emR_no hp, List.append_nil]
        clear rM hp
        go_wp2
        go_roundw
        case rel => exact ⟨k + 1, n, by omega, by go_num, by rw [unhide HE]; exact unhide HN, by rw [unhide HE]; exact unhide HO, unhide HB⟩
        case measure => simp [intOf]; omega
      | true =>
        rw [hp] at x0
        by_cases k0 : k = 0
        · by_cases k5 : k = 255
          · omega
          · cases p2 : p (k + 1) with
            | false =>
              have HE : Hid (cnP p (k + 1) = cnP p k ++ [(k : Int)] ++ [(k : Int)]) := by
                show _ = _
                rw [cnP_s, emR_yes hp true true (st_A k0) (cl_B p2), List.append_assoc]
                rfl
              have kk0 : ((k : Int) == 0) = true := by simp; omega
              have kk5 : ((k : Int) == 255) = false := by simp; omega
              have kk6 : (k : Int) + 1 < 256 := by omega
              have HM2 : Hid (∀ W : World, Below w.heap.size w W → W.cell? ⟨mb, 0 + (k + 1), none⟩ = some (.bool false)) := fun W hW => by
                have h9 := ((unhide HM).of_block (hW.block mb hmb)).cell (i := k + 1) (by omega)
                rw [p2] at h9
                rw [Nat.zero_add]
                exact h9
              clear rM hp p2 k0 k5
              go_wp2_with (at_builtin; refine app_i2 rfl _ _ rfl w.heap.size (.slice oa n oc) rfl (k : Int) rfl n (cnP p k) (unhide HN) (unhide HO) hz3 (by omega) ?_)
              intro v4 w4 ho4 hb4
              obtain ⟨o4, d4, rfl⟩ := own_is ho4
              obtain ⟨L4, hL4⟩ : ∃ L4, L4 = cnP p k ++ [(k : Int)] := ⟨_, rfl⟩
              replace ho4 : w4.ownsRow w.heap.size 3 1 (.slice o4 (n + 1) d4) (n + 1) (L4.map mI) := by rw [hL4, List.map_append]; exact ho4
              have HL4 := hide hL4
              have HN4 : Hid (n + 1 = L4.length) := by rw [hL4]; exact unhide HN1
              clear hL4
              have HO4 := hide ho4
              have HB4 := hide ((unhide HB).trans hb4)
              have hz4 := hb4.size
              have x2 := unhide HM2 w4 (unhide HB4)
              rw [Nat.zero_add] at x2
              clear ho4 hb4
              go_wp2_with (at_builtin; refine app_i2 rfl _ _ rfl w.heap.size (.slice o4 (n + 1) d4) rfl (k : Int) rfl (n + 1) L4 (unhide HN4) (unhide HO4) (by omega) (by omega) ?_)
              intro v5 w5 ho5 hb5
              obtain ⟨o5, d5, rfl⟩ := own_is ho5
              have HO5 := hide ho5
              have HB5 := hide ((unhide HB4).trans hb5)
              clear ho5 hb5
              go_wp2
              go_roundw
              case rel => exact ⟨k + 1, n + 1 + 1, by omega, by go_num, by rw [unhide HE, len3, ← unhide HN]; rfl, by rw [unhide HE, ← unhide HL4]; simpa using unhide HO5, unhide HB5⟩
              case measure => simp [intOf]; omega
            | true =>
              have HE : Hid (cnP p (k + 1) = cnP p k ++ [(k : Int)] ++ []) := by
                show _ = _
                rw [cnP_s, emR_yes hp true false (st_A k0) (cl_C k5 p2), List.append_assoc]
                rfl
              have kk0 : ((k : Int) == 0) = true := by simp; omega
              have kk5 : ((k : Int) == 255) = false := by simp; omega
              have kk6 : (k : Int) + 1 < 256 := by omega
              have HM2 : Hid (∀ W : World, Below w.heap.size w W → W.cell? ⟨mb, 0 + (k + 1), none⟩ = some (.bool true)) := fun W hW => by
                have h9 := ((unhide HM).of_block (hW.block mb hmb)).cell (i := k + 1) (by omega)
                rw [p2] at h9
                rw [Nat.zero_add]
                exact h9
              clear rM hp p2 k0 k5
              go_wp2_with (at_builtin; refine app_i2 rfl _ _ rfl w.heap.size (.slice oa n oc) rfl (k : Int) rfl n (cnP p k) (unhide HN) (unhide HO) hz3 (by omega) ?_)
              intro v4 w4 ho4 hb4
              obtain ⟨o4, d4, rfl⟩ := own_is ho4
              obtain ⟨L4, hL4⟩ : ∃ L4, L4 = cnP p k ++ [(k : Int)] := ⟨_, rfl⟩
              replace ho4 : w4.ownsRow w.heap.size 3 1 (.slice o4 (n + 1) d4) (n + 1) (L4.map mI) := by rw [hL4, List.map_append]; exact ho4
              have HL4 := hide hL4
              have HN4 : Hid (n + 1 = L4.length) := by rw [hL4]; exact unhide HN1
              clear hL4
              have HO4 := hide ho4
              have HB4 := hide ((unhide HB).trans hb4)
              have hz4 := hb4.size
              have x2 := unhide HM2 w4 (unhide HB4)
              rw [Nat.zero_add] at x2
              clear ho4 hb4
              go_wp2
              go_roundw
              case rel => exact ⟨k + 1, n + 1, by omega, by go_num, by rw [unhide HE, len3, ← unhide HN]; rfl, by rw [unhide HE, ← unhide HL4]; simpa using unhide HO4, unhide HB4⟩
              case measure => simp [intOf]; omega
        · cases p1 : p (k - 1) with
          | false =>
            by_cases k5 : k = 255
            · have HE : Hid (cnP p (k + 1) = cnP p k ++ [(k : Int)] ++ [(k : Int)]) := by
                show _ = _
                rw [cnP_s, emR_yes hp true true (st_B p1) (cl_A k5), List.append_assoc]
                rfl
              have kk0 : ((k : Int) == 0) = false := by simp; omega
              have kk1 : (0 : Int) ≤ (k : Int) - 1 := by omega
              have kk2 : (k : Int) - 1 < 256 := by omega
              have x1 := rM.cell (i := k - 1) (by omega)
              rw [p1] at x1
              have kk3 : ((k : Int) - 1).toNat = k - 1 := by omega
              have kk5 : ((k : Int) == 255) = true := by simp; omega
              clear rM hp p1 k0 k5
              go_wp2_with (at_builtin; refine app_i2 rfl _ _ rfl w.heap.size (.slice oa n oc) rfl (k : Int) rfl n (cnP p k) (unhide HN) (unhide HO) hz3 (by omega) ?_)
              intro v4 w4 ho4 hb4
              obtain ⟨o4, d4, rfl⟩ := own_is ho4
              obtain ⟨L4, hL4⟩ : ∃ L4, L4 = cnP p k ++ [(k : Int)] := ⟨_, rfl⟩
              replace ho4 : w4.ownsRow w.heap.size 3 1 (.slice o4 (n + 1) d4) (n + 1) (L4.map mI) := by rw [hL4, List.map_append]; exact ho4
              have HL4 := hide hL4
              have HN4 : Hid (n + 1 = L4.length) := by rw [hL4]; exact unhide HN1
              clear hL4
              have HO4 := hide ho4
              have HB4 := hide ((unhide HB).trans hb4)
              have hz4 := hb4.size
              clear ho4 hb4
              go_wp2_with (at_builtin; refine app_i2 rfl _ _ rfl w.heap.size (.slice o4 (n + 1) d4) rfl (k : Int) rfl (n + 1) L4 (unhide HN4) (unhide HO4) (by omega) (by omega) ?_)
              intro v5 w5 ho5 hb5
              obtain ⟨o5, d5, rfl⟩ := own_is ho5
              have HO5 := hide ho5
              have HB5 := hide ((unhide HB4).trans hb5)
              clear ho5 hb5
              go_wp2
              go_roundw
              case rel => exact ⟨k + 1, n + 1 + 1, by omega, by go_num, by rw [unhide HE, len3, ← unhide HN]; rfl, by rw [unhide HE, ← unhide HL4]; simpa using unhide HO5, unhide HB5⟩
              case measure => simp [intOf]; omega
            · cases p2 : p (k + 1) with
              | false =>
                have HE : Hid (cnP p (k + 1) = cnP p k ++ [(k : Int)] ++ [(k : Int)]) := by
                  show _ = _
                  rw [cnP_s, emR_yes hp true true (st_B p1) (cl_B p2), List.append_assoc]
                  rfl
                have kk0 : ((k : Int) == 0) = false := by simp; omega
                have kk1 : (0 : Int) ≤ (k : Int) - 1 := by omega
                have kk2 : (k : Int) - 1 < 256 := by omega
                have x1 := rM.cell (i := k - 1) (by omega)
                rw [p1] at x1
                have kk3 : ((k : Int) - 1).toNat = k - 1 := by omega
                have kk5 : ((k : Int) == 255) = false := by simp; omega
                have kk6 : (k : Int) + 1 < 256 := by omega
                have HM2 : Hid (∀ W : World, Below w.heap.size w W → W.cell? ⟨mb, 0 + (k + 1), none⟩ = some (.bool false)) := fun W hW => by
                  have h9 := ((unhide HM).of_block (hW.block mb hmb)).cell (i := k + 1) (by omega)
                  rw [p2] at h9
                  rw [Nat.zero_add]
                  exact h9
                clear rM hp p1 p2 k0 k5
                go_wp2_with (at_builtin; refine app_i2 rfl _ _ rfl w.heap.size (.slice oa n oc) rfl (k : Int) rfl n (cnP p k) (unhide HN) (unhide HO) hz3 (by omega) ?_)
                intro v4 w4 ho4 hb4
                obtain ⟨o4, d4, rfl⟩ := own_is ho4
                obtain ⟨L4, hL4⟩ : ∃ L4, L4 = cnP p k ++ [(k : Int)] := ⟨_, rfl⟩
                replace ho4 : w4.ownsRow w.heap.size 3 1 (.slice o4 (n + 1) d4) (n + 1) (L4.map mI) := by rw [hL4, List.map_append]; exact ho4
                have HL4 := hide hL4
                have HN4 : Hid (n + 1 = L4.length) := by rw [hL4]; exact unhide HN1
                clear hL4
                have HO4 := hide ho4
                have HB4 := hide ((unhide HB).trans hb4)
                have hz4 := hb4.size
                have x2 := unhide HM2 w4 (unhide HB4)
                rw [Nat.zero_add] at x2
                clear ho4 hb4
                go_wp2_with (at_builtin; refine app_i2 rfl _ _ rfl w.heap.size (.slice o4 (n + 1) d4) rfl (k : Int) rfl (n + 1) L4 (unhide HN4) (unhide HO4) (by omega) (by omega) ?_)
                intro v5 w5 ho5 hb5
                obtain ⟨o5, d5, rfl⟩ := own_is ho5
                have HO5 := hide ho5
                have HB5 := hide ((unhide HB4).trans hb5)
                clear ho5 hb5
                go_wp2
                go_roundw
                case rel => exact ⟨k + 1, n + 1 + 1, by omega, by go_num, by rw [unhide HE, len3, ← unhide HN]; rfl, by rw [unhide HE, ← unhide HL4]; simpa using unhide HO5, unhide HB5⟩
                case measure => simp [intOf]; omega
              | true =>
                have HE : Hid (cnP p (k + 1) = cnP p k ++ [(k : Int)] ++ []) := by
                  show _ = _
                  rw [cnP_s, emR_yes hp true false (st_B p1) (cl_C k5 p2), List.append_assoc]
                  rfl
                have kk0 : ((k : Int) == 0) = false := by simp; omega
                have kk1 : (0 : Int) ≤ (k : Int) - 1 := by omega
                have kk2 : (k : Int) - 1 < 256 := by omega
                have x1 := rM.cell (i := k - 1) (by omega)
                rw [p1] at x1
                have kk3 : ((k : Int) - 1).toNat = k - 1 := by omega
                have kk5 : ((k : Int) == 255) = false := by simp; omega
                have kk6 : (k : Int) + 1 < 256 := by omega
                have HM2 : Hid (∀ W : World, Below w.heap.size w W → W.cell? ⟨mb, 0 + (k + 1), none⟩ = some (.bool true)) := fun W hW => by
                  have h9 := ((unhide HM).of_block (hW.block mb hmb)).cell (i := k + 1) (by omega)
                  rw [p2] at h9
                  rw [Nat.zero_add]
                  exact h9
                clear rM hp p1 p2 k0 k5
                go_wp2_with (at_builtin; refine app_i2 rfl _ _ rfl w.heap.size (.slice oa n oc) rfl (k : Int) rfl n (cnP p k) (unhide HN) (unhide HO) hz3 (by omega) ?_)
                intro v4 w4 ho4 hb4
                obtain ⟨o4, d4, rfl⟩ := own_is ho4
                obtain ⟨L4, hL4⟩ : ∃ L4, L4 = cnP p k ++ [(k : Int)] := ⟨_, rfl⟩
                replace ho4 : w4.ownsRow w.heap.size 3 1 (.slice o4 (n + 1) d4) (n + 1) (L4.map mI) := by rw [hL4, List.map_append]; exact ho4
                have HL4 := hide hL4
                have HN4 : Hid (n + 1 = L4.length) := by rw [hL4]; exact unhide HN1
                clear hL4
                have HO4 := hide ho4
                have HB4 := hide ((unhide HB).trans hb4)
                have hz4 := hb4.size
                have x2 := unhide HM2 w4 (unhide HB4)
                rw [Nat.zero_add] at x2
                clear ho4 hb4
                go_wp2
                go_roundw
                case rel => exact ⟨k + 1, n + 1, by omega, by go_num, by rw [unhide HE, len3, ← unhide HN]; rfl, by rw [unhide HE, ← unhide HL4]; simpa using unhide HO4, unhide HB4⟩
                case measure => simp [intOf]; omega
          | true =>
            by_cases k5 : k = 255
            · have HE : Hid (cnP p (k + 1) = cnP p k ++ [] ++ [(k : Int)]) := by
                show _ = _
                rw [cnP_s, emR_yes hp false true (st_C k0 p1) (cl_A k5), List.append_assoc]
                rfl
              have kk0 : ((k : Int) == 0) = false := by simp; omega
              have kk1 : (0 : Int) ≤ (k : Int) - 1 := by omega
              have kk2 : (k : Int) - 1 < 256 := by omega
              have x1 := rM.cell (i := k - 1) (by omega)
              rw [p1] at x1
              have kk3 : ((k : Int) - 1).toNat = k - 1 := by omega
              have kk5 : ((k : Int) == 255) = true := by simp; omega
              clear rM hp p1 k0 k5
              go_wp2_with (at_builtin; refine app_i2 rfl _ _ rfl w.heap.size (.slice oa n oc) rfl (k : Int) rfl (n) (cnP p k) (unhide HN) (unhide HO) (by omega) (by omega) ?_)
              intro v5 w5 ho5 hb5
              obtain ⟨o5, d5, rfl⟩ := own_is ho5
              have HO5 := hide ho5
              have HB5 := hide ((unhide HB).trans hb5)
              clear ho5 hb5
              go_wp2
              go_roundw
              case rel => exact ⟨k + 1, n + 1, by omega, by go_num, by rw [unhide HE, len3, ← unhide HN]; rfl, by rw [unhide HE]; simpa using unhide HO5, unhide HB5⟩
              case measure => simp [intOf]; omega
            · cases p2 : p (k + 1) with
              | false =>
                have HE : Hid (cnP p (k + 1) = cnP p k ++ [] ++ [(k : Int)]) := by
                  show _ = _
                  rw [cnP_s, emR_yes hp false true (st_C k0 p1) (cl_B p2), List.append_assoc]
                  rfl
                have kk0 : ((k : Int) == 0) = false := by simp; omega
                have kk1 : (0 : Int) ≤ (k : Int) - 1 := by omega
                have kk2 : (k : Int) - 1 < 256 := by omega
                have x1 := rM.cell (i := k - 1) (by omega)
                rw [p1] at x1
                have kk3 : ((k : Int) - 1).toNat = k - 1 := by omega
                have kk5 : ((k : Int) == 255) = false := by simp; omega
                have kk6 : (k : Int) + 1 < 256 := by omega
                have HM2 : Hid (∀ W : World, Below w.heap.size w W → W.cell? ⟨mb, 0 + (k + 1), none⟩ = some (.bool false)) := fun W hW => by
                  have h9 := ((unhide HM).of_block (hW.block mb hmb)).cell (i := k + 1) (by omega)
                  rw [p2] at h9
                  rw [Nat.zero_add]
                  exact h9
                have x2 := unhide HM2 w3 (unhide HB)
                rw [Nat.zero_add] at x2
                clear rM hp p1 p2 k0 k5
                go_wp2_with (at_builtin; refine app_i2 rfl _ _ rfl w.heap.size (.slice oa n oc) rfl (k : Int) rfl (n) (cnP p k) (unhide HN) (unhide HO) (by omega) (by omega) ?_)
                intro v5 w5 ho5 hb5
                obtain ⟨o5, d5, rfl⟩ := own_is ho5
                have HO5 := hide ho5
                have HB5 := hide ((unhide HB).trans hb5)
                clear ho5 hb5
                go_wp2
                go_roundw
                case rel => exact ⟨k + 1, n + 1, by omega, by go_num, by rw [unhide HE, len3, ← unhide HN]; rfl, by rw [unhide HE]; simpa using unhide HO5, unhide HB5⟩
                case measure => simp [intOf]; omega
              | true =>
                have HE : Hid (cnP p (k + 1) = cnP p k ++ [] ++ []) := by
                  show _ = _
                  rw [cnP_s, emR_yes hp false false (st_C k0 p1) (cl_C k5 p2), List.append_assoc]
                  rfl
                have kk0 : ((k : Int) == 0) = false := by simp; omega
                have kk1 : (0 : Int) ≤ (k : Int) - 1 := by omega
                have kk2 : (k : Int) - 1 < 256 := by omega
                have x1 := rM.cell (i := k - 1) (by omega)
                rw [p1] at x1
                have kk3 : ((k : Int) - 1).toNat = k - 1 := by omega
                have kk5 : ((k : Int) == 255) = false := by simp; omega
                have kk6 : (k : Int) + 1 < 256 := by omega
                have HM2 : Hid (∀ W : World, Below w.heap.size w W → W.cell? ⟨mb, 0 + (k + 1), none⟩ = some (.bool true)) := fun W hW => by
                  have h9 := ((unhide HM).of_block (hW.block mb hmb)).cell (i := k + 1) (by omega)
                  rw [p2] at h9
                  rw [Nat.zero_add]
                  exact h9
                have x2 := unhide HM2 w3 (unhide HB)
                rw [Nat.zero_add] at x2
                clear rM hp p1 p2 k0 k5
                go_wp2
                go_roundw
                case rel => exact ⟨k + 1, n, by omega, by go_num, by rw [unhide HE, len3, ← unhide HN]; rfl, by rw [unhide HE]; simpa using unhide HO, unhide HB⟩
                case measure => simp [intOf]; omega
    · obtain rfl : k = 256 := by omega
      go_wp2
      go_ret
      refine ⟨_, rfl, ?_, unhide HB⟩
      show w3.ownsRow _ _ _ (.slice oa n oc) (cnP p 256).length _
      rw [← unhide HN]
      exact unhide HO
theorem MkAt.eq {w : World} {mb : Nat} {p p' : Nat → Bool} (h : MkAt w mb p) (e : ∀ j, j < 256 → p' j = p j) : MkAt w mb p' := World.rowIs.congr h (fun j hj => by rw [e j hj])
theorem MkAt.put {w : World} {mb : Nat} {p : Nat → Bool} (h : MkAt w mb p) (k : Nat) (v : Bool) : MkAt (w.setCell ⟨mb, k, none⟩ (.bool v)) mb (fun j => if j = k then v else p j) := (World.rowIs.set h k (.bool v)).congr (fun j hj => by by_cases e : j = k <;> simp [e])
theorem mark_made (w : World) : MkAt (w.alloc (.cells (madeCells #[.bool false] 256) 4)) w.heap.size (fun _ => false) := World.rowIs_made w (.bool false) 256 4
def Bx3 (w : World) (b : Nat) (t : TypeId) (c0 c1 c2 : Value) : Prop := w.rowIs b t 3 (fun j => [c0, c1, c2].getD j undef)
theorem Bx3.new (w : World) (t : TypeId) (c0 c1 c2 : Value) : Bx3 (w.alloc (.cells #[c0, c1, c2] t)) w.heap.size t c0 c1 c2 :=
  World.rowIs_alloc w #[c0, c1, c2] t _ (fun i hi => by
    match i, hi with
    | 0, _ => rfl
    | 1, _ => rfl
    | 2, _ => rfl)
theorem Bx3.below {w w' : World} {b m : Nat} {t : TypeId} {c0 c1 c2 : Value} (h : Bx3 w b t c0 c1 c2) (hb : Below m w w') (hm : b < m) : Bx3 w' b t c0 c1 c2 := World.rowIs.of_block h (hb.block b hm)
theorem Bx3.blk {w w' : World} {b : Nat} {t : TypeId} {c0 c1 c2 : Value} (h : Bx3 w b t c0 c1 c2) (e : w'.heap[b]? = w.heap[b]?) : Bx3 w' b t c0 c1 c2 := World.rowIs.of_block h e
theorem Bx3.facts {w : World} {b : Nat} {t : TypeId} {c0 c1 c2 : Value} (h : Bx3 w b t c0 c1 c2) : w.cell? ⟨b, 0, none⟩ = some c0 ∧ w.cell? ⟨b, 1, none⟩ = some c1 ∧ w.cell? ⟨b, 2, none⟩ = some c2 :=
  ⟨World.rowIs.cell h (i := 0) (by omega), World.rowIs.cell h (i := 1) (by omega), World.rowIs.cell h (i := 2) (by omega)⟩
theorem el_is {S : Nat → Prop} {w : World} {v : Value} {xs : List El} (h : ElsF S w v xs) : ∃ a c, v = .slice a xs.length c := by obtain ⟨a, c, e, -⟩ := h; exact ⟨a, c, e⟩
/-! The values of the nodes. -/
def eV : Value := .iface 99 (.agg #[])
def sV (g : Nat → Nat) : Value := .iface 104 (ws4 g)
def cV (u v : Value) : Value := .iface 107 (.agg #[u, v])
def aV (u v : Value) : Value := .iface 109 (.agg #[u, v])
def rV (u : Value) (mn mx : Int) : Value := .iface 111 (.agg #[u, .int .i64 mn, .int .i64 mx])
theorem own_rdB {base n : Nat} {w : World} {v : Value} {xs : List Int} (h : w.ownsRow base 5 1 v n (xs.map mB)) (hn : n ≤ maxLen) : SlAt mB 0 0 w.heap.size w v xs := by
  have hlen := h.1
  rw [List.length_map, Nat.mul_one] at hlen
  rcases h.2 with ⟨rfl, hz⟩ | ⟨g, cap, cur, rfl, hbg, hg, hnc, hcm, hcs, htake⟩
  · exact ⟨none, 0, by rw [hlen, hz], by omega, fun hp => by omega⟩
  · refine ⟨_, cap, by rw [hlen], by omega, fun hp => ⟨g, 0, rfl, Nat.zero_le _, (h.lt g rfl).2, fun i hi => ?_⟩⟩
    rw [Nat.zero_add, h.cellAt i (by omega), List.getElem?_map, getD_of_lt hi]
    rfl
open Go.Shelf
def Tryz.laysAppendInt_ren : Go.Shelf.Ren := ⟨fun | 176 => 82 | 249 => 95 | 288 => 100 | 283 => 108 | 284 => 109 | 285 => 110 | 286 => 111 | 129 => 118 | 317 => 117 | 318 => 119 | 319 => 120 | 320 => 121 | 337 => 124 | 338 => 125 | n => n, fun | 37 => 22 | 2 => 2 | 3 => 3 | 53 => 100 | 4 => 4 | 9 => 9 | 171 => 137 | 0 => 0 | 173 => 140 | 212 => 144 | 51 => 145 | 5 => 5 | 20 => 20 | 213 => 146 | 46 => 147 | 232 => 150 | 233 => 151 | n => n, fun | 17 => 0 | 18 => 2 | 19 => 3 | n => n⟩
theorem Tryz.laysAppendInt : Go.Proofs.LaysM.n176 Tryz.prog Tryz.laysAppendInt_ren := {
  mixed := by kernel_rfl
  f129 := Tryz.func118.trans (congrArg some (by kernel_rfl))
  f176 := Tryz.func82.trans (congrArg some (by kernel_rfl))
  f249 := Tryz.func95.trans (congrArg some (by kernel_rfl))
  f283 := Tryz.func108.trans (congrArg some (by kernel_rfl))
  f284 := Tryz.func109.trans (congrArg some (by kernel_rfl))
  f285 := Tryz.func110.trans (congrArg some (by kernel_rfl))
  f286 := Tryz.func111.trans (congrArg some (by kernel_rfl))
  f288 := Tryz.func100.trans (congrArg some (by kernel_rfl))
  f317 := Tryz.func117.trans (congrArg some (by kernel_rfl))
  f318 := Tryz.func119.trans (congrArg some (by kernel_rfl))
  f319 := Tryz.func120.trans (congrArg some (by kernel_rfl))
  f320 := Tryz.func121.trans (congrArg some (by kernel_rfl))
  f337 := Tryz.func124.trans (congrArg some (by kernel_rfl))
  f338 := Tryz.func125.trans (congrArg some (by kernel_rfl))
  t0 := Tryz.underlying0
  a0 := Tryz.isAgg0
  z0 := Tryz.sizeOf0
  v0 := Tryz.zeroValue0
  t2 := Tryz.underlying2
  a2 := Tryz.isAgg2
  z2 := Tryz.sizeOf2
  v2 := Tryz.zeroValue2
  t3 := Tryz.underlying3
  a3 := Tryz.isAgg3
  z3 := Tryz.sizeOf3
  v3 := Tryz.zeroValue3
  t4 := Tryz.underlying4
  a4 := Tryz.isAgg4
  z4 := Tryz.sizeOf4
  v4 := Tryz.zeroValue4
  t5 := Tryz.underlying5
  a5 := Tryz.isAgg5
  z5 := Tryz.sizeOf5
  v5 := Tryz.zeroValue5
  t9 := Tryz.underlying9
  a9 := Tryz.isAgg9
  z9 := Tryz.sizeOf9
  v9 := Tryz.zeroValue9
  t20 := Tryz.underlying20
  a20 := Tryz.isAgg20
  z20 := Tryz.sizeOf20
  v20 := Tryz.zeroValue20
  t37 := Tryz.underlying22
  a37 := Tryz.isAgg22
  z37 := Tryz.sizeOf22
  v37 := Tryz.zeroValue22
  t46 := Tryz.underlying147
  a46 := Tryz.isAgg147
  z46 := Tryz.sizeOf147
  v46 := Tryz.zeroValue147
  t51 := Tryz.underlying145
  a51 := Tryz.isAgg145
  z51 := Tryz.sizeOf145
  v51 := Tryz.zeroValue145
  t53 := Tryz.underlying100
  a53 := Tryz.isAgg100
  z53 := Tryz.sizeOf100
  v53 := Tryz.zeroValue100
  t171 := Tryz.underlying137
  a171 := Tryz.isAgg137
  z171 := Tryz.sizeOf137
  v171 := Tryz.zeroValue137
  t173 := Tryz.underlying140
  a173 := Tryz.isAgg140
  z173 := Tryz.sizeOf140
  v173 := Tryz.zeroValue140
  t212 := Tryz.underlying144
  a212 := Tryz.isAgg144
  z212 := Tryz.sizeOf144
  v212 := Tryz.zeroValue144
  t213 := Tryz.underlying146
  a213 := Tryz.isAgg146
  z213 := Tryz.sizeOf146
  t232 := Tryz.underlying150
  a232 := Tryz.isAgg150
  z232 := Tryz.sizeOf150
  v232 := Tryz.zeroValue150
  t233 := Tryz.underlying151
  a233 := Tryz.isAgg151
  z233 := Tryz.sizeOf151
  v233 := Tryz.zeroValue151
  g17 := by kernel_rfl
  g18 := by kernel_rfl
  g19 := by kernel_rfl
  i0 := by kernel_rfl
  i2 := by kernel_rfl
  i3 := by kernel_rfl
  i4 := by kernel_rfl
  i5 := by kernel_rfl
  i9 := by kernel_rfl
  i20 := by kernel_rfl
  i37 := by kernel_rfl
  i46 := by kernel_rfl
  i51 := by kernel_rfl
  i53 := by kernel_rfl
  i171 := by kernel_rfl
  i173 := by kernel_rfl
  i212 := by kernel_rfl
  i232 := by kernel_rfl
  i233 := by kernel_rfl
  m17 := by kernel_rfl
  m18 := by kernel_rfl
  m19 := by kernel_rfl }
set_option maxHeartbeats 1000000 in
theorem validElement_any (v : Value) (x : El) (w : World) (hv : IntsAt 0 w.heap.size w v x.set) :
    Calls Tryz.prog 54 #[.agg #[.int .i64 x.kind, v, .int .i64 x.mn, .int .i64 x.mx]] w fun e w' => RetB e (ElOk x) ∧ Below w.heap.size w w' := by
  obtain ⟨a, cap, rfl, hl, -, -⟩ := id hv
  unfold maxLen at hl
  obtain ⟨k, xs, mn, mx⟩ := x
  simp only at *
  have Hv := hide hv
  clear hv
  by_cases h1 : k = 1
  · subst h1
    go_enter Tryz.func54, Tryz.ntmps54
    go_wp2_with fail
    refine (canonical_any _ xs _ (by exact (unhide Hv).below (below1 w _) (Nat.le_refl _))).mono ?_
    rintro e w1 ⟨hret, hb1⟩
    obtain ⟨hc1, hf1⟩ := bcell hb1
    simp only [sz_alloc] at hc1 hf1
    have hB : Below w.heap.size w w1 := (below1 w _).trans (hb1.mono (by rw [sz_alloc]; omega))
    clear hb1
    rcases hret.cases with ⟨rfl, hcn⟩ | ⟨rfl, hcn⟩
    · have Hcn := hide hcn
      clear hcn
      by_cases h2 : mn = 0
      · by_cases h3 : mx = 0
        · go_wp2
          go_ret
          exact ⟨RetB.yes (Or.inl ⟨rfl, unhide Hcn, h2, h3⟩), hB⟩
        · have h3' : (mx == 0) = false := by simp [h3]
          go_wp2
          go_ret
          exact ⟨RetB.no (by rintro (⟨q1, q2, q3, q4⟩ | ⟨q1, q2, q3, q4⟩ | ⟨q1, q2, q3, q4, q5⟩) <;> simp only at * <;> omega), hB⟩
      · have h2' : (mn == 0) = false := by simp [h2]
        go_wp2
        go_ret
        exact ⟨RetB.no (by rintro (⟨q1, q2, q3, q4⟩ | ⟨q1, q2, q3, q4⟩ | ⟨q1, q2, q3, q4, q5⟩) <;> simp only at * <;> omega), hB⟩
    · have Hcn := hide hcn
      clear hcn
      go_wp2
      go_ret
      exact ⟨RetB.no (by rintro (⟨q1, q2, q3, q4⟩ | ⟨q1, q2, q3, q4⟩ | ⟨q1, q2, q3, q4, q5⟩) <;> simp only at * <;> first | exact unhide Hcn q2 | omega), hB⟩
  · have b1 : (k == 1) = false := by simp [h1]
    by_cases h4 : k = 4
    · subst h4
      by_cases hlen : xs.length = 0
      · have hlen' : ((xs.length : Int) == 0) = true := by simp; exact List.eq_nil_of_length_eq_zero hlen
        have Hlen := hide hlen
        clear hlen
        go_enter Tryz.func54, Tryz.ntmps54
        go_wp2_with fail
        refine (validBounds_any mn mx _).mono ?_
        rintro e w1 ⟨hret, rfl⟩
        rcases hret.cases with ⟨rfl, hcn⟩ | ⟨rfl, hcn⟩
        · have Hcn := hide hcn
          clear hcn
          go_wp2
          go_ret
          exact ⟨RetB.yes (Or.inr (Or.inr ⟨rfl, unhide Hlen, unhide Hcn⟩)), below1 w _⟩
        · have Hcn := hide hcn
          clear hcn
          go_wp2
          go_ret
          exact ⟨RetB.no (by rintro (⟨q1, q2, q3, q4⟩ | ⟨q1, q2, q3, q4⟩ | ⟨q1, q2, q3⟩) <;> simp only at * <;> first | exact unhide Hcn q3 | omega), below1 w _⟩
      · have hlen' : ((xs.length : Int) == 0) = false := by simp; intro e; exact hlen (by rw [e]; rfl)
        go_enter Tryz.func54, Tryz.ntmps54
        go_wp2
        go_ret
        exact ⟨RetB.no (by rintro (⟨q1, q2, q3, q4⟩ | ⟨q1, q2, q3, q4⟩ | ⟨q1, q2, q3⟩) <;> simp only at * <;> omega), below1 w _⟩
    · have b4 : (k == 4) = false := by simp [h4]
      by_cases hk : k = 0 ∨ k = 2 ∨ k = 3
      · by_cases hlen : xs.length = 0
        · have hlen' : ((xs.length : Int) == 0) = true := by simp; exact List.eq_nil_of_length_eq_zero hlen
          have Hlen := hide hlen
          clear hlen h1 h4
          by_cases h2 : mn = 0
          · by_cases h3 : mx = 0
            · rcases hk with rfl | rfl | rfl
              all_goals
                go_enter Tryz.func54, Tryz.ntmps54
                go_wp2
                go_ret
                exact ⟨RetB.yes (Or.inr (Or.inl ⟨by simp, unhide Hlen, h2, h3⟩)), below1 w _⟩
            · have h3' : (mx == 0) = false := by simp [h3]
              rcases hk with rfl | rfl | rfl
              all_goals
                go_enter Tryz.func54, Tryz.ntmps54
                go_wp2
                go_ret
                exact ⟨RetB.no (by rintro (⟨q1, q2, q3, q4⟩ | ⟨q1, q2, q3, q4⟩ | ⟨q1, q2, q3, q4, q5⟩) <;> simp only at * <;> omega), below1 w _⟩
          · have h2' : (mn == 0) = false := by simp [h2]
            rcases hk with rfl | rfl | rfl
            all_goals
              go_enter Tryz.func54, Tryz.ntmps54
              go_wp2
              go_ret
              exact ⟨RetB.no (by rintro (⟨q1, q2, q3, q4⟩ | ⟨q1, q2, q3, q4⟩ | ⟨q1, q2, q3, q4, q5⟩) <;> simp only at * <;> omega), below1 w _⟩
        · have hlen' : ((xs.length : Int) == 0) = false := by simp; intro e; exact hlen (by rw [e]; rfl)
          clear h1 h4
          rcases hk with rfl | rfl | rfl
          all_goals
            go_enter Tryz.func54, Tryz.ntmps54
            go_wp2
            go_ret
            exact ⟨RetB.no (by rintro (⟨q1, q2, q3, q4⟩ | ⟨q1, q2, q3, q4⟩ | ⟨q1, q2, q3, q4, q5⟩) <;> simp only at * <;> omega), below1 w _⟩
      · have b0 : (k == 0) = false := by simp; omega
        have b2 : (k == 2) = false := by simp; omega
        have b3 : (k == 3) = false := by simp; omega
        go_enter Tryz.func54, Tryz.ntmps54
        go_wp2
        go_ret
        exact ⟨RetB.no (by rintro (⟨q1, q2, q3, q4⟩ | ⟨q1, q2, q3, q4⟩ | ⟨q1, q2, q3, q4, q5⟩) <;> simp only at * <;> omega), below1 w _⟩
end Go.Proofs.YtcmofgehhdfifaaGreatDoor
