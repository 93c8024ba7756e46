import Derived.Test.YtmafkoppadminaaPk3
import Derived.Test.YtmafkoppadminaaPk1
import Derived.Deep.RegionHeld3
import Derived.Laws.OwnMore
import Derived.Test.YtmafkoppadminaaPk5
import Derived.Test.YtmafkoppadminaaB0
import Derived.StillTail
import Derived.BigQuiet
namespace Go.Proofs.Ytmafkoppadminaa
open Go.RowKit
theorem SlAt.under {α : Type} {mk : α → Value} {d : α} {lo n m : Nat} {w w' : World} {v : Value} {xs : List α} (h : SlAt mk d lo n w v xs) (hb : Below m w w') (hm : n ≤ m) : SlAt mk d lo n w' v xs := h.same (Same.of_below hb hm)
def Only (D : Nat) (w w' : World) : Prop := ChgF (fun k => k = D) w w'
theorem Only.refl (D : Nat) (w : World) : Only D w w := ChgF.refl _ _
theorem Only.trans {D : Nat} {a b c : World} (h : Only D a b) (k : Only D b c) : Only D a c := ChgF.trans h k
theorem Only.set {D : Nat} {w : World} {v : Value} : Only D w (w.setCell ⟨D, 0, none⟩ v) := ChgF.put (S := fun k => k = D) (ChgF.refl _ _) rfl v
theorem Only.below {D m : Nat} {w w' : World} (h : Only D w w') (hm : m ≤ D) : Below m w w' := ChgF.below h (fun k hk => by omega)
def Row2 (w : World) (b : Nat) (t : TypeId) (c0 c1 : Value) : Prop := w.rowIs b t 2 (fun j => [c0, c1].getD j undef)
theorem Row2.new (w : World) (t : TypeId) (c0 c1 : Value) : Row2 (w.alloc (.cells #[c0, c1] t)) w.heap.size t c0 c1 :=
  World.rowIs_alloc w #[c0, c1] t _ (fun i hi => by
    match i, hi with
    | 0, _ => rfl
    | 1, _ => rfl)
theorem Row2.alloc {w : World} {b : Nat} {t : TypeId} {c0 c1 : Value} (h : Row2 w b t c0 c1) (o : Obj) : Row2 (w.alloc o) b t c0 c1 := World.rowIs.alloc h o
theorem Row2.below {w w' : World} {b m : Nat} {t : TypeId} {c0 c1 : Value} (h : Row2 w b t c0 c1) (hb : Below m w w') (hm : b < m) : Row2 w' b t c0 c1 := World.rowIs.of_block h (hb.block b hm)
theorem Row2.put1 {w : World} {b : Nat} {t : TypeId} {c0 c1 u : Value} (h : Row2 w b t c0 c1) : Row2 (w.setCell ⟨b, 1, none⟩ u) b t c0 u := (World.rowIs.set h 1 u).congr (fun i hi => by
    match i, hi with
    | 0, _ => rfl
    | 1, _ => rfl)
theorem Row2.facts {w : World} {b : Nat} {t : TypeId} {c0 c1 : Value} (h : Row2 w b t c0 c1) : w.cell? ⟨b, 0, none⟩ = some c0 ∧ w.cell? ⟨b, 1, none⟩ = some c1 ∧ w.frozen? ⟨b, 1, none⟩ = false := by
  refine ⟨h.cell (by omega), h.cell (by omega), ?_⟩
  obtain ⟨c, hc, -⟩ := h
  simp [World.frozen?, hc]
structure Mv (lo D : Nat) (w w' : World) : Prop where
  os : w'.os = w.os
  tape : w'.tape = w.tape
  output : w'.output = w.output
  size : w.heap.size ≤ w'.heap.size
  block : ∀ k, k < lo → k ≠ D → w'.heap[k]? = w.heap[k]?
theorem Mv.refl (lo D : Nat) (w : World) : Mv lo D w w := ⟨rfl, rfl, rfl, Nat.le_refl _, fun _ _ _ => rfl⟩
theorem Mv.trans {lo D : Nat} {a b c : World} (h : Mv lo D a b) (k : Mv lo D b c) : Mv lo D a c := ⟨k.os.trans h.os, k.tape.trans h.tape, k.output.trans h.output, Nat.le_trans h.size k.size, fun i h1 h2 => (k.block i h1 h2).trans (h.block i h1 h2)⟩
theorem Only.mv {D : Nat} {w w' : World} (h : Only D w w') (lo : Nat) : Mv lo D w w' := ⟨h.os, h.tape, h.output, Nat.le_of_eq h.size.symm, fun k _ hk => h.block k hk⟩
theorem Below.mv {lo : Nat} {w w' : World} (h : Below lo w w') (D : Nat) : Mv lo D w w' := ⟨h.os, h.tape, h.output, h.size, fun k hk _ => h.block k hk⟩
theorem Mv.mono {lo lo' D : Nat} {w w' : World} (h : Mv lo D w w') (hl : lo' ≤ lo) : Mv lo' D w w' := ⟨h.os, h.tape, h.output, h.size, fun k hk hd => h.block k (by omega) hd⟩
theorem Mv.below {lo D : Nat} {w w' : World} (h : Mv lo D w w') (hD : D ≤ lo) : Below D w w' := ⟨h.os, h.tape, h.output, h.size, fun k hk => h.block k (by omega) (by omega)⟩
theorem own_mv {base n e size lo D : Nat} {w w' : World} {v : Value} {xs : List Value} (h : w.ownsRow base e size v n xs) (hb : Mv lo D w w') (hm : w.heap.size ≤ lo) (hD : D < base) : w'.ownsRow base e size v n xs := by
  refine ⟨h.1, ?_⟩
  rcases h.2 with h2 | ⟨g, cap, cur, h1, h2, h3, h4⟩
  · exact Or.inl h2
  · have hg : g < w.heap.size := by
      by_cases q : g < w.heap.size
      · exact q
      · rw [Array.getElem?_eq_none (by omega)] at h3; cases h3
    exact Or.inr ⟨g, cap, cur, h1, h2, (hb.block g (by omega) (by omega)).trans h3, h4⟩
theorem sl_to {N j c : Nat} {a : Option Addr} {w : World} {xs : List Int} (h : SlAt mB 0 0 N w (.slice a xs.length c) xs) (hj : j ≤ xs.length) (hc : xs.length ≤ c) (hm : c ≤ maxLen) : SlAt mB 0 0 N w (.slice a j c) (xs.take j) ∧ CapOk (.slice a j c) := by
  obtain ⟨a', c', e, hl, hcell⟩ := h
  cases e
  have e1 : (xs.take j).length = j := by rw [List.length_take]; omega
  refine ⟨⟨a, c, by rw [e1], by omega, fun hp => ?_⟩, CapOk.mk (by omega) hm⟩
  rw [e1] at hp
  obtain ⟨b, off, rfl, h1, h2, h3⟩ := hcell (by omega)
  refine ⟨b, off, rfl, h1, h2, fun i hi => ?_⟩
  rw [e1] at hi
  rw [h3 i (by omega), List.getElem?_take, if_pos hi]
def CdAt (N D : Nat) (w : World) (xs : List Int) : Prop := N ≤ D ∧ ∃ (v : Value) (cs : List Int) (i : Nat), Row2 w D 48 v (.int .i64 i) ∧ SlAt mB 0 0 N w v cs ∧ i ≤ cs.length ∧ cs.length ≤ 600 ∧ cs.drop i = xs
theorem CdAt.keep {N D m : Nat} {w w' : World} {xs : List Int} (h : CdAt N D w xs) (hb : Below m w w') (hm : D < m) : CdAt N D w' xs := by
  obtain ⟨hN, v, cs, i, h1, h2, h3⟩ := h
  exact ⟨hN, v, cs, i, h1.below hb hm, h2.under hb (by omega), h3⟩
theorem only_put1 {D : Nat} {w : World} {v : Value} : Only D w (w.setCell ⟨D, 1, none⟩ v) := ChgF.put (S := fun k => k = D) (ChgF.refl _ _) rfl v
theorem only_drewN {D : Nat} {w w' : World} (h : Only D w w') (q : Nat) : Only D w (w'.drewN q) := ⟨h.os, h.tape, h.output, h.size, h.block⟩
set_option maxHeartbeats 4000000 in
set_option maxRecDepth 100000 in
theorem next_any (N D : Nat) (xs : List Int) (w : World) (h : CdAt N D w xs) (hb : ∀ x ∈ xs, 0 ≤ x ∧ x ≤ 255) :
    Calls Try.prog 17 #[.pointer (some ⟨D, 0, none⟩)] w fun e w' => e = .returned (.int .i64 (xs.headD 0)) ∧ CdAt N D w' xs.tail ∧ Only D w w' := by
  obtain ⟨hN, v, cs, i, hr, hs, hi, hl, rfl⟩ := h
  have HR := hide hr
  have HS := hide hs
  obtain ⟨f0, f1, z1⟩ := hr.facts
  obtain ⟨a, c, rfl, -, hc⟩ := hs
  clear hr
  by_cases hlt : i < cs.length
  · have hlt' : ¬ (cs.length : Int) ≤ (i : Int) := by omega
    have hlt2 : (i : Int) < (cs.length : Int) := by omega
    obtain ⟨b, off, rfl, -, -, hcell⟩ := hc (by omega)
    have hx := hcell i hlt
    unfold mB at hx
    have hy := hb (cs[i]?.getD 0) (by rw [List.drop_eq_getElem_cons hlt, List.getElem?_eq_getElem hlt]; exact List.mem_cons_self ..)
    have He : Hid ((cs.drop i).headD 0 = cs[i]?.getD 0 ∧ (cs.drop i).tail = cs.drop (i + 1)) := by
      show (cs.drop i).headD 0 = cs[i]?.getD 0 ∧ (cs.drop i).tail = cs.drop (i + 1)
      rw [List.drop_eq_getElem_cons hlt, List.getElem?_eq_getElem hlt]
      exact ⟨rfl, rfl⟩
    rw [(unhide He).1, (unhide He).2]
    clear hcell hc hb He
    generalize cs[i]?.getD 0 = y at *
    go_enter Try.func17, Try.ntmps17
    go_wp2_with fail
    go_quiet (fail)
    go_wp2_with fail
    go_quiet (fail)
    go_wp2
    go_ret
    refine ⟨rfl, ⟨hN, .slice (some ⟨b, off, none⟩) cs.length c, cs, i + 1, ?_, ?_, by omega, hl, rfl⟩, ?_⟩
    · exact Row2.put1 (unhide HR)
    · have h1 : Only D w (w.setCell ⟨D, 1, none⟩ (.int .i64 ((i : Int) + 1))) := only_put1
      exact (unhide HS).under (Only.below (show Only D w _ from ⟨h1.os, h1.tape, h1.output, h1.size, h1.block⟩) hN) (Nat.le_refl _)
    · have h1 : Only D w (w.setCell ⟨D, 1, none⟩ (.int .i64 ((i : Int) + 1))) := only_put1
      exact ⟨h1.os, h1.tape, h1.output, h1.size, h1.block⟩
  · obtain rfl : i = cs.length := by omega
    have hlt' : (cs.length : Int) ≤ (cs.length : Int) := Int.le_refl _
    rw [List.drop_length]
    clear hc hb
    go_enter Try.func17, Try.ntmps17
    go_wp2_with fail
    go_quiet (fail)
    go_wp2
    go_ret
    exact ⟨rfl, ⟨hN, _, cs, cs.length, unhide HR, unhide HS, Nat.le_refl _, hl, by simp⟩, only_drewN (Only.refl _ _) _⟩
set_option maxHeartbeats 2000000 in
set_option maxRecDepth 100000 in
theorem l1open_any (v : Value) (cs : List Int) (w : World) (hv : SlAt mB 0 0 w.heap.size w v cs) (hcap : CapOk v) :
    Calls Try.prog 9 #[v] w fun e w' => e = .returned (.pointer (some ⟨w.heap.size, 0, none⟩)) ∧ CdAt w.heap.size w.heap.size w' (cs.take 600) ∧ w'.heap.size = w.heap.size + 1 ∧ Below w.heap.size w w' := by
  have HV := hide hv
  obtain ⟨a, c, rfl, -, -⟩ := hv
  have hcc := hcap.le
  have hcm := hcc.2
  unfold maxLen at hcm
  clear hcap
  obtain ⟨n, hn⟩ : ∃ n : Nat, n = min cs.length 600 := ⟨_, rfl⟩
  have ht := sl_to (j := n) (unhide HV) (by omega) hcc.1 hcc.2
  have e1 : cs.take n = cs.take 600 := by
    by_cases h : cs.length ≤ 600
    · rw [List.take_of_length_le (by omega), List.take_of_length_le h]
    · rw [show n = 600 by omega]
  have HT := hide ht.1
  have hR := Row2.new w 48 (.slice a n c) (.int .i64 ((0 : Nat) : Int))
  have hB := below1 w (.cells #[.slice a n c, .int .i64 ((0 : Nat) : Int)] 48)
  have HF : Hid (CdAt w.heap.size w.heap.size (w.alloc (.cells #[.slice a n c, .int .i64 ((0 : Nat) : Int)] 48)) (cs.take 600)) := ⟨Nat.le_refl _, _, cs.take n, 0, hR, (unhide HT).under hB (Nat.le_refl _), Nat.zero_le _, by rw [List.length_take]; omega, by rw [List.drop_zero, e1]⟩
  clear ht e1 hR
  by_cases h6 : 600 < cs.length
  · have h6' : (600 : Int) < (cs.length : Int) := by omega
    have hn6 : n = 600 := by omega
    clear hn
    subst hn6
    go_enter Try.func9, Try.ntmps9
    go_wp2
    go_ret
    exact ⟨rfl, unhide HF, sz_alloc _ _, hB⟩
  · have h6' : ¬ (600 : Int) < (cs.length : Int) := by omega
    have hn6 : n = cs.length := by omega
    clear hn
    subst hn6
    go_enter Try.func9, Try.ntmps9
    go_wp2
    go_ret
    exact ⟨rfl, unhide HF, sz_alloc _ _, hB⟩
def Cod (xs : List Int) : Prop := ∀ x ∈ xs, 0 ≤ x ∧ x ≤ 255
theorem Cod.tail {xs : List Int} (h : Cod xs) : Cod xs.tail := fun x hx => h x (List.mem_of_mem_tail hx)
theorem Cod.head {xs : List Int} (h : Cod xs) : 0 ≤ xs.headD 0 ∧ xs.headD 0 ≤ 255 := by
  cases xs with
  | nil => simp
  | cons x r => exact h x (List.mem_cons_self ..)
def oddB : List Int := [92, 46, 91, 93, 40, 41, 124, 42, 43, 63, 123, 125, 94, 36, 45, 10, 9, 13, 32, 126, 0, 127, 128, 255, 33]
theorem oddB_byte : ∀ k, k < 25 → 0 ≤ oddB.getD k 0 ∧ oddB.getD k 0 ≤ 255 := by decide
theorem oddB_eq (k : Nat) (h : k < 25) : wrap64 (((ByteArray.mk #[92, 46, 91, 93, 40, 41, 124, 42, 43, 63, 123, 125, 94, 36, 45, 10, 9, 13, 32, 126, 0, 127, 128, 255, 33])[k]'h).toNat : Int) = oddB.getD k 0 := by
  have e : (((ByteArray.mk #[92, 46, 91, 93, 40, 41, 124, 42, 43, 63, 123, 125, 94, 36, 45, 10, 9, 13, 32, 126, 0, 127, 128, 255, 33])[k]'h).toNat : Int) = oddB.getD k 0 := by
    have H : ∀ k : Fin 25, (((#[92, 46, 91, 93, 40, 41, 124, 42, 43, 63, 123, 125, 94, 36, 45, 10, 9, 13, 32, 126, 0, 127, 128, 255, 33] : Array UInt8)[k.1]'k.2).toNat : Int) = oddB.getD k.1 0 := by decide
    exact H ⟨k, h⟩
  have hb := oddB_byte k h
  rw [e]
  unfold wrap64; omega
def dB (y : Int) : Int := if y < 200 then 97 + y % 3 else if y < 215 then 48 + y % 3 else oddB.getD (y % 25).toNat 0
theorem dB_byte {y : Int} : 0 ≤ dB y ∧ dB y ≤ 255 := by
  unfold dB
  split
  · omega
  · split
    · omega
    · exact oddB_byte _ (by omega)
theorem l1drawByte_any (N D : Nat) (xs : List Int) (w : World) (h : CdAt N D w xs) (hx : Cod xs) :
    Calls Try.prog 23 #[.pointer (some ⟨D, 0, none⟩)] w fun e w' => e = .returned (.int .i64 (dB (xs.headD 0))) ∧ CdAt N D w' xs.tail ∧ Only D w w' := by
  have H := hide h
  have HX := hide hx
  have hh := hx.head
  obtain ⟨y, hy⟩ : ∃ y, xs.headD 0 = y := ⟨_, rfl⟩
  rw [hy] at hh ⊢
  have HY := hide hy
  clear hy hx h
  by_cases h1 : y < 200
  · rw [show dB y = 97 + y % 3 from if_pos h1]
    go_enter Try.func23, Try.ntmps23
    go_wp2_with fail
    refine (next_any N D xs w (unhide H) (unhide HX)).mono ?_
    rintro e w1 ⟨he, hc, ho⟩
    rw [unhide HY] at he
    subst he
    go_wp2
    go_ret
    exact ⟨rfl, hc, ho⟩
  · by_cases h2 : y < 215
    · rw [show dB y = 48 + y % 3 from (if_neg h1).trans (if_pos h2)]
      go_enter Try.func23, Try.ntmps23
      go_wp2_with fail
      refine (next_any N D xs w (unhide H) (unhide HX)).mono ?_
      rintro e w1 ⟨he, hc, ho⟩
      rw [unhide HY] at he
      subst he
      go_wp2
      go_ret
      exact ⟨rfl, hc, ho⟩
    · have hk : (y % 25).toNat < 25 := by omega
      rw [show dB y = oddB.getD (y % 25).toNat 0 from (if_neg h1).trans (if_neg h2)]
      go_enter Try.func23, Try.ntmps23
      go_wp2_with fail
      refine (next_any N D xs w (unhide H) (unhide HX)).mono ?_
      rintro e w1 ⟨he, hc, ho⟩
      rw [unhide HY] at he
      subst he
      go_wp2
      rw [oddB_eq _ hk]
      go_ret
      exact ⟨rfl, hc, ho⟩
theorem app_moreB {w : World} {ops : Array Oper} {rest : List Oper} {o : Oper} {a : Act} {Q : Exit → Act → World → Prop} (hgd : o.guard = none) (s x : Operand)
    (ho : o.op = .call { callee := .builtin .append, args := #[s, x], argTypes := #[22, 22] }) (base : Nat) (ov : Value) (hs : a.eval s = ov) (os : List Int) (hown : w.ownsRow base 5 1 ov os.length (os.map mB)) (hbase : base ≤ w.heap.size)
    (sv : Value) (hx : a.eval x = sv) (xs : List Int) (hv : SlAt mB 0 0 w.heap.size w sv xs) (hlen : os.length + xs.length ≤ 1073741824)
    (h : ∀ v' w', Below base w w' → w'.ownsRow base 5 1 v' (os ++ xs).length ((os ++ xs).map mB) → v'.oneCell' = true → wpList Try.prog ops Q rest (a.put o.dst v') w') : wpList Try.prog ops Q (o :: rest) a w := by
  obtain ⟨i0, hi, hz0, hz1, hz2⟩ := info_parts Try.zinByte
  obtain ⟨sa, sc, rfl, hl, hc⟩ := hv
  cases sa with
  | none =>
    have h0 : xs.length = 0 := by
      by_cases q : 0 < xs.length
      · obtain ⟨b, off, e, -⟩ := hc q; simp at e
      · omega
    rw [h0] at hx
    refine wpList_append_none_c hgd s x 22 ho base 5 i0 1 Try.underlying22 hi _ os.length (os.map mB) hs hown sc hx (h _ w (Below.refl _ _) (by rw [List.eq_nil_of_length_eq_zero h0, List.append_nil]; exact hown) ?_)
    obtain ⟨oa, oc, rfl⟩ := own_is hown
    rfl
  | some ad =>
    refine wpList_append_own_at w hgd s x 22 ho base 5 i0 (.int .u8 0) 1 1 Try.underlying22 hi hz0 hz1 hz2 rfl (by decide) _ os.length (os.map mB) hs hown ad xs.length sc (xs.map mB) hx (by simp) ?_ ?_ (by unfold maxLen; omega) (by omega) hbase ?_
    · intro j u hu
      have hj : j < xs.length := by
        have := (List.getElem?_eq_some_iff.1 hu).1
        simpa using this
      obtain ⟨b, off, e, -, -, hcell⟩ := hc (by omega)
      simp only [Option.some.injEq] at e
      subst e
      rw [List.getElem?_map, getD_of_lt hj] at hu
      simp only [Option.map_some, Option.some.injEq] at hu
      subst hu
      have e3 : (⟨b, off, none⟩ : Addr).add j = ⟨b, off + j, none⟩ := by cases j <;> rfl
      rw [e3]
      exact hcell j hj
    · intro u hu
      obtain ⟨y, -, rfl⟩ := List.mem_map.1 hu
      rfl
    · intro v' w' h1 hg _ _
      have h2 : w'.ownsRow base 5 1 v' (os ++ xs).length ((os ++ xs).map mB) := by rw [List.length_append, List.map_append]; exact h1
      obtain ⟨oa, oc, rfl⟩ := own_is h2
      exact h _ w' ((Below.refl _ _).grown hg hbase (fun k hk => (hown.lt k hk).1)) h2 rfl
theorem own_rdB {base n : Nat} {w : World} {v : Value} {xs : List Int} (h : w.ownsRow base 5 1 v n (xs.map mB)) (hn : n ≤ maxLen) : SlAt mB 0 0 w.heap.size w v xs := by
  have hlen := h.1
  rw [List.length_map, Nat.mul_one] at hlen
  rcases h.2 with ⟨rfl, hz⟩ | ⟨g, cap, cur, rfl, hbg, hg, hnc, hcm, hcs, htake⟩
  · exact ⟨none, 0, by rw [hlen, hz], by omega, fun hp => by omega⟩
  · refine ⟨_, cap, by rw [hlen], by omega, fun hp => ⟨g, 0, rfl, Nat.zero_le _, (h.lt g rfl).2, fun i hi => ?_⟩⟩
    rw [Nat.zero_add, h.cellAt i (by omega), List.getElem?_map, getD_of_lt hi]
    rfl
theorem lit_one {w : World} {x : Int} : SlAt mB 0 0 (w.alloc (.cells #[.int .u8 x] 5)).heap.size (w.alloc (.cells #[.int .u8 x] 5)) (.slice (some ⟨w.heap.size, 0, none⟩) 1 1) [x] :=
  own_rdB (base := w.heap.size) (n := 1) (World.ownsRow_lit w #[.int .u8 x] 1 (Nat.le_refl _) (by unfold maxLen; omega) rfl) (by unfold maxLen; omega)
theorem Cod.app {xs ys : List Int} (h : Cod xs) (k : Cod ys) : Cod (xs ++ ys) := fun x hx => by
  rcases List.mem_append.1 hx with q | q
  · exact h x q
  · exact k x q
theorem own_some {base n e : Nat} {w : World} {v : Value} {xs : List Value} (h : w.ownsRow base e 1 v n xs) (hp : 0 < n) : ∃ g cap, v = .slice (some ⟨g, 0, none⟩) n cap ∧ base ≤ g := by
  rcases h.2 with ⟨rfl, hz⟩ | ⟨g, cap, cur, rfl, hbg, hg, hnc, hcm, hcs, htake⟩
  · omega
  · exact ⟨g, cap, rfl, hbg⟩
def Smp (N D M : Nat) (w : World) (e : Ending) (w' : World) : Prop := ∃ v bs zs, e = .returned v ∧ w'.ownsRow w.heap.size 5 1 v bs.length (bs.map mB) ∧ Cod bs ∧ bs.length ≤ M ∧ CdAt N D w' zs ∧ Cod zs ∧ Mv w.heap.size D w w'
theorem cod_nil : Cod [] := fun _ hx => absurd hx (List.not_mem_nil)
theorem cod_one {b : Int} (h0 : 0 ≤ b) (h1 : b ≤ 255) : Cod [b] := fun x hx => by rw [List.mem_singleton.1 hx]; exact ⟨h0, h1⟩
theorem Cod.take {xs : List Int} (h : Cod xs) (n : Nat) : Cod (xs.take n) := fun x hx => h x (List.mem_of_mem_take hx)
theorem own_take {base e n m : Nat} {w : World} {a : Option Addr} {c : Nat} {xs : List Value} (h : w.ownsRow base e 1 (.slice a n c) n xs) (hm : m ≤ n) (hp : 0 < n) : w.ownsRow base e 1 (.slice a m c) m (xs.take m) := by
  have hl := h.1
  rcases h.2 with ⟨e1, hz⟩ | ⟨g, cap, cur, e1, hbg, hg, hnc, hcm, hcs, htake⟩
  · omega
  · cases e1
    refine ⟨by rw [List.length_take]; omega, .inr ⟨g, c, cur, rfl, hbg, hg, by omega, hcm, hcs, ?_⟩⟩
    rw [← htake, List.take_take, Nat.mul_one, Nat.mul_one, Nat.min_eq_left hm]
set_option maxHeartbeats 8000000 in
set_option maxRecDepth 100000 in
theorem l2junk_any (N D : Nat) (xs : List Int) (w : World) (h : CdAt N D w xs) (hx : Cod xs) (hD : D < w.heap.size) :
    Calls Try.prog 21 #[.pointer (some ⟨D, 0, none⟩)] w (Smp N D 5 w) := by
  have H := hide h
  have HX := hide hx
  have hh := hx.head
  obtain ⟨y, hy⟩ : ∃ y, xs.headD 0 = y := ⟨_, rfl⟩
  rw [hy] at hh
  have HY := hide hy
  clear hy hx h
  obtain ⟨n, hn⟩ : ∃ n : Nat, y % 6 = (n : Int) := ⟨(y % 6).toNat, by omega⟩
  have hn5 : n ≤ 5 := by omega
  have HN := hide hn
  clear hn
  go_enter Try.func21, Try.ntmps21
  go_wp2_with fail
  refine (next_any N D xs w (unhide H) (unhide HX)).mono ?_
  rintro e w1 ⟨he, hc1, ho1⟩
  rw [unhide HY] at he
  subst he
  have HC1 := hide hc1
  have HM1 := hide (ho1.mv w.heap.size)
  clear hc1 ho1
  go_wp2
  go_loopw [4, 5] (fun ov i wr => ∃ (m : Nat) (zs os : List Int), m ≤ n ∧ i = .int .i64 (m : Nat) ∧ Cod zs ∧ Cod os ∧ os.length = m ∧ wr.ownsRow w.heap.size 5 1 ov m (os.map mB) ∧ CdAt N D wr zs ∧ Mv w.heap.size D w wr) (fun _ i _ => n - (intOf i).toNat)
  case atStart => exact ⟨0, xs.tail, [], Nat.zero_le _, rfl, (unhide HX).tail, cod_nil, rfl, World.ownsRow_nil _ _ _ _, unhide HC1, unhide HM1⟩
  case round =>
    obtain ⟨m, zs, os, hm, rfl, hzs, hoc, hos, hown, hcd, hmv⟩ := hrel
    have HO := hide hown
    have HCD := hide hcd
    have HMV := hide hmv
    have HZ := hide hzs
    have HOC := hide hoc
    have HOS := hide hos
    have hszr := hmv.size
    obtain ⟨oa, oc, rfl⟩ := own_is hown
    by_cases hlt : m < n
    · have hlt' : (m : Int) < y % 6 := by have := unhide HN; omega
      have hdb := dB_byte (y := zs.headD 0)
      obtain ⟨b, hb⟩ : ∃ y, dB (zs.headD 0) = y := ⟨_, rfl⟩
      rw [hb] at hdb
      have HY3 := hide hb
      clear hown hcd hmv hzs hos hb hoc
      go_wp2_with fail
      refine (l1drawByte_any N D zs wr (unhide HCD) (unhide HZ)).mono ?_
      rintro e w4 ⟨he, hc4, ho4⟩
      rw [unhide HY3] at he
      subst he
      have hz4 : wr.heap.size ≤ w4.heap.size := Nat.le_of_eq ho4.size.symm
      have HC4 := hide hc4
      have HM4 := hide ((unhide HMV).trans (ho4.mv w.heap.size))
      have HO4 := hide (own_mv (unhide HO) (ho4.mv wr.heap.size) (Nat.le_refl _) hD)
      clear hc4 ho4
      go_wp2_with (at_builtin; refine app_moreB rfl _ _ rfl w.heap.size _ rfl os (by rw [unhide HOS]; exact (unhide HO4).alloc _) (by rw [sz_alloc]; omega) _ rfl [b] (by exact lit_one) (by rw [unhide HOS]; simp; omega) ?_; intro v5 w5 hb5 ho5 hoc5)
      have hB5 : Below w.heap.size w4 w5 := (below1 w4 _).mono (by omega) |>.trans hb5
      have HC5 := hide ((unhide HC4).keep hB5 hD)
      have HM5 := hide ((unhide HM4).trans (Below.mv hB5 D))
      have HO5 := hide ho5
      have hl5 : (os ++ [b]).length = m + 1 := by simp [unhide HOS]
      rw [hl5] at HO5
      have HL5 := hide hl5
      clear ho5 hl5 hb5 hB5
      go_wp2
      exact ⟨⟨m + 1, zs.tail, os ++ [b], by omega, by go_num, (unhide HZ).tail, (unhide HOC).app (cod_one hdb.1 hdb.2), unhide HL5, unhide HO5, unhide HC5, unhide HM5⟩, by simp [intOf]; omega⟩
    · obtain rfl : m = n := by omega
      have hlt' : ¬ (m : Int) < y % 6 := by have := unhide HN; omega
      clear hown hcd hmv hzs hos hoc
      go_wp2
      go_ret
      exact ⟨_, os, zs, rfl, by rw [unhide HOS]; exact unhide HO, unhide HOC, by rw [unhide HOS]; exact hn5, unhide HCD, unhide HZ, unhide HMV⟩
theorem mem2_loc {p : Nat → Bool} {lo : Int} {s : List Int} {q : Nat → Bool} {r : List Int} (h : mem2 p lo s = some (q, r)) : ∃ pre, s = pre ++ r ∧ ∀ r', r'.head? = r.head? → mem2 p lo (pre ++ r') = some (q, r') := by
  match s, h with
  | [], h =>
    simp only [mem2] at h
    obtain ⟨rfl, rfl⟩ := Prod.mk.inj (Option.some.inj h)
    refine ⟨[], rfl, fun r' hr => ?_⟩
    cases r' with
    | nil => rfl
    | cons c t => simp at hr
  | c :: t, h =>
    simp only [mem2] at h
    split at h
    · rename_i h1
      cases hc : chr1 t with
      | none => rw [hc] at h; cases h
      | some x =>
        rw [hc] at h
        simp only [Option.bind_some] at h
        split at h
        · cases h
        · rename_i h2
          obtain ⟨rfl, rfl⟩ := Prod.mk.inj (Option.some.inj h)
          obtain ⟨pre, h3, h4, h5⟩ := chr1_loc t x.1 x.2 (by rw [hc])
          refine ⟨c :: pre, by rw [h3]; rfl, fun r' _ => ?_⟩
          simp only [List.cons_append, mem2]
          rw [if_pos h1, h5 r']
          simp only [Option.bind_some]
          rw [if_neg h2]
    · rename_i h1
      obtain ⟨rfl, rfl⟩ := Prod.mk.inj (Option.some.inj h)
      refine ⟨[], rfl, fun r' hr => ?_⟩
      cases r' with
      | nil => simp at hr
      | cons d t' =>
        simp at hr
        subst hr
        simp only [List.nil_append, mem2]
        rw [if_neg h1]
theorem sesB_none {s r r' pre : List Int} {x : Int} (h : chr1 s = some (x, r)) (hs : s = pre ++ r) (hn : sesB s = none) (h0 : ∀ r'', chr1 (pre ++ r'') = some (x, r'')) (hp : 0 < pre.length) : sesB (pre ++ r') = none := by
  match pre, hp with
  | [c], _ =>
    by_cases e : c = 92
    · subst e
      have := h0 []
      simp [chr1, besc] at this
    · simp only [List.cons_append, sesB]
      rw [if_neg e]
  | c :: d :: t, _ =>
    subst hs
    simp only [List.cons_append, sesB] at hn ⊢
    split at hn
    · rename_i h1
      rw [if_pos h1]
      simp only [sesc] at hn ⊢
      split at hn
      · cases hn
      · split at hn
        · cases hn
        · split at hn
          · cases hn
          · rename_i a b c
            rw [if_neg a, if_neg b, if_neg c]
    · rename_i h1
      rw [if_neg h1]
theorem mem1_loc (p : Nat → Bool) : LocH (mem1 p) := fun s q r h => by
  unfold mem1 at h
  cases hs : sesB s with
  | some x =>
    rw [hs] at h
    obtain ⟨cs, t⟩ := x
    simp only at h
    obtain ⟨rfl, rfl⟩ := Prod.mk.inj (Option.some.inj h)
    obtain ⟨pre, h1, h2, h3⟩ := sesB_loc s cs t hs
    exact ⟨pre, h1, h2, fun r' _ => by unfold mem1; rw [h3 r']⟩
  | none =>
    rw [hs] at h
    simp only at h
    cases hc : chr1 s with
    | none => rw [hc] at h; cases h
    | some x =>
      rw [hc] at h
      simp only [Option.bind_some] at h
      obtain ⟨pre, h1, h2, h3⟩ := chr1_loc s x.1 x.2 (by rw [hc])
      obtain ⟨pre2, h4, h5⟩ := mem2_loc h
      refine ⟨pre ++ pre2, by rw [h1, h4]; simp, by simp; omega, fun r' hr => ?_⟩
      unfold mem1
      rw [List.append_assoc, sesB_none (x := x.1) (by rw [hc]) h1 hs h3 h2]
      simp only
      rw [h3]
      simp only [Option.bind_some]
      exact h5 r' hr
theorem clsG_loc : ∀ (n : Nat) (p : Nat → Bool), ∀ s q r, clsG n p s = some (q, r) → ∃ pre, s = pre ++ r ∧ 0 < pre.length ∧ ∀ r' m, n ≤ m → clsG m p (pre ++ r') = some (q, r')
  | 0, p, s, q, r, h => by simp [clsG] at h
  | n + 1, p, [], q, r, h => by simp [clsG] at h
  | n + 1, p, c :: t, q, r, h => by
    simp only [clsG] at h
    split at h
    · rename_i h1
      obtain ⟨rfl, rfl⟩ := Prod.mk.inj (Option.some.inj h)
      refine ⟨[c], rfl, by simp, fun r' m hm => ?_⟩
      cases m with
      | zero => omega
      | succ m => simp only [List.cons_append, List.nil_append, clsG]; rw [if_pos h1]
    · rename_i h1
      cases hm : mem1 p (c :: t) with
      | none => rw [hm] at h; cases h
      | some x =>
        rw [hm] at h
        simp only [Option.bind_some] at h
        obtain ⟨p1, e1, l1, k1⟩ := mem1_loc p (c :: t) x.1 x.2 (by rw [hm])
        obtain ⟨p2, e2, l2, k2⟩ := clsG_loc n x.1 x.2 q r h
        refine ⟨p1 ++ p2, by rw [e1, e2]; simp, by simp; omega, fun r' m hmn => ?_⟩
        cases m with
        | zero => omega
        | succ m =>
          match p1, l1, e1, k1 with
          | d :: p1', _, e1, k1 =>
            simp only [List.cons_append] at e1 ⊢
            have e3 := (List.cons.inj e1).1
            subst e3
            simp only [clsG]
            rw [if_neg h1]
            have := k1 (p2 ++ r') (by rw [e2]; match p2, l2 with | y :: p2', _ => rfl)
            simp only [List.cons_append] at this
            rw [List.append_assoc, this]
            simp only [Option.bind_some]
            exact k2 r' m (by omega)
theorem clsG_fuel : ∀ (n : Nat) (p : Nat → Bool) (s : List Int), s.length < n → ∀ m, n ≤ m → clsG m p s = clsG n p s
  | 0, _, _, h, _, _ => by omega
  | n + 1, p, [], _, m, hm => by
    cases m with
    | zero => omega
    | succ m => simp [clsG]
  | n + 1, p, c :: t, h, m, hm => by
    cases m with
    | zero => omega
    | succ m =>
      simp only [clsG]
      split
      · rfl
      · cases hx : mem1 p (c :: t) with
        | none => rfl
        | some x =>
          simp only [Option.bind_some]
          obtain ⟨p1, e1, l1, -⟩ := mem1_loc p (c :: t) x.1 x.2 (by rw [hx])
          have := congrArg List.length e1
          simp at this h
          exact clsG_fuel n x.1 x.2 (by omega) m (by omega)
theorem cls_loc : Loc cls := fun s x r h => by
  match s, h with
  | c :: t, h =>
    simp only [cls] at h
    split at h
    · rename_i h1
      cases hc : clsG (t.length + 1) (fun _ => false) t with
      | none => rw [hc] at h; cases h
      | some y =>
        rw [hc] at h
        simp only [Option.map_some] at h
        obtain ⟨rfl, rfl⟩ := Prod.mk.inj (Option.some.inj h)
        obtain ⟨pre, e1, l1, k1⟩ := clsG_loc _ _ t y.1 y.2 (by rw [hc])
        refine ⟨c :: pre, by rw [e1]; rfl, by simp, fun r' => ?_⟩
        simp only [List.cons_append, cls]
        rw [if_pos h1]
        have h5 := k1 r' (max (t.length + 1) ((pre ++ r').length + 1)) (by omega)
        rw [clsG_fuel ((pre ++ r').length + 1) _ _ (by omega) _ (by omega)] at h5
        rw [h5]
        rfl
    · rename_i h1
      cases hc : clsG (t.length + 2) (fun _ => false) (c :: t) with
      | none => rw [hc] at h; cases h
      | some y =>
        rw [hc] at h
        simp only [Option.map_some] at h
        obtain ⟨rfl, rfl⟩ := Prod.mk.inj (Option.some.inj h)
        obtain ⟨pre, e1, l1, k1⟩ := clsG_loc _ _ (c :: t) y.1 y.2 (by rw [hc])
        match pre, l1, e1, k1 with
        | d :: pre, _, e1, k1 =>
          have e3 := (List.cons.inj e1).1
          subst e3
          refine ⟨c :: pre, e1, by simp, fun r' => ?_⟩
          simp only [List.cons_append, cls]
          rw [if_neg h1]
          have h5 := k1 r' (max (t.length + 2) ((pre ++ r').length + 2)) (by omega)
          simp only [List.cons_append] at h5
          rw [clsG_fuel ((pre ++ r').length + 2) _ _ (by simp) _ (by omega)] at h5
          rw [h5]
          rfl
theorem take_hd {s r' : List Int} (h : r'.head? = (s.dropWhile isD).head?) : (s.takeWhile isD ++ r').takeWhile isD = s.takeWhile isD ∧ (s.takeWhile isD ++ r').dropWhile isD = r' := by
  have key : r'.takeWhile isD = [] ∧ r'.dropWhile isD = r' := by
    cases r' with
    | nil => exact ⟨rfl, rfl⟩
    | cons c t =>
      simp only [List.head?_cons] at h
      have hc : isD c = false := by
        clear t
        induction s with
        | nil => simp at h
        | cons d u ih =>
          rw [List.dropWhile_cons] at h
          split at h
          · exact ih h
          · rename_i hd
            simp at h
            subst h
            simpa using hd
      exact ⟨by rw [List.takeWhile_cons, hc]; rfl, by rw [List.dropWhile_cons, hc]; rfl⟩
  clear h
  induction s with
  | nil => exact key
  | cons d u ih =>
    rw [List.takeWhile_cons]
    split
    · rename_i hd
      rw [List.cons_append, List.takeWhile_cons, if_pos hd, List.dropWhile_cons, if_pos hd, ih.1, ih.2]
      exact ⟨rfl, rfl⟩
    · exact key
theorem num1_loc : LocH num1 := fun s x r h => by
  unfold num1 at h
  split at h
  · cases h
  · rename_i h1
    obtain ⟨rfl, rfl⟩ := Prod.mk.inj (Option.some.inj h)
    refine ⟨s.takeWhile isD, (List.takeWhile_append_dropWhile).symm, by omega, fun r' hr => ?_⟩
    obtain ⟨e1, e2⟩ := take_hd hr
    unfold num1
    rw [e1, e2, if_neg h1]
theorem brc3_loc (lo : Int) : Loc (brc3 lo) := fun s x r h => by
  match s, h with
  | c :: t, h =>
    simp only [brc3] at h
    split at h
    · rename_i h1
      obtain ⟨rfl, rfl⟩ := Prod.mk.inj (Option.some.inj h)
      exact ⟨[c], rfl, by simp, fun r' => by simp only [List.cons_append, List.nil_append, brc3]; rw [if_pos h1]⟩
    · rename_i h1
      cases hn : num1 (c :: t) with
      | none => rw [hn] at h; cases h
      | some y =>
        rw [hn] at h
        simp only [Option.bind_some] at h
        split at h
        · cases h
        · rename_i h2
          obtain ⟨v, u⟩ := y
          simp only at h h2
          obtain ⟨p1, e1, l1, k1⟩ := num1_loc _ _ _ hn
          match u, h with
          | d :: r2, h =>
            simp only at h
            split at h
            · rename_i h3
              obtain ⟨rfl, rfl⟩ := Prod.mk.inj (Option.some.inj h)
              match p1, l1, e1, k1 with
              | c' :: p1, _, e1, k1 =>
                have e3 := (List.cons.inj e1).1
                subst e3
                refine ⟨c :: (p1 ++ [d]), by rw [e1]; simp, by simp, fun r' => ?_⟩
                simp only [List.cons_append, brc3]
                have h5 := k1 (d :: r') rfl
                simp only [List.cons_append] at h5
                rw [if_neg h1, show p1 ++ [d] ++ r' = p1 ++ d :: r' by simp, h5]
                simp only [Option.bind_some]
                rw [if_neg h2]
                exact if_pos h3
            · cases h
theorem brc2_loc (lo : Int) : Loc (brc2 lo) := fun s x r h => by
  match s, h with
  | c :: t, h =>
    simp only [brc2] at h
    split at h
    · rename_i h1
      obtain ⟨rfl, rfl⟩ := Prod.mk.inj (Option.some.inj h)
      exact ⟨[c], rfl, by simp, fun r' => by simp only [List.cons_append, List.nil_append, brc2]; rw [if_pos h1]⟩
    · rename_i h1
      split at h
      · rename_i h2
        obtain ⟨p1, e1, l1, k1⟩ := brc3_loc lo _ _ _ h
        exact ⟨c :: p1, by rw [e1]; rfl, by simp, fun r' => by simp only [List.cons_append, brc2]; rw [if_neg h1, if_pos h2]; exact k1 r'⟩
      · cases h
theorem brc_loc : Loc brc := fun s x r h => by
  unfold brc at h
  cases hn : num1 s with
  | none => rw [hn] at h; cases h
  | some y =>
    rw [hn] at h
    simp only [Option.bind_some] at h
    obtain ⟨p1, e1, l1, k1⟩ := num1_loc s y.1 y.2 (by rw [hn])
    obtain ⟨p2, e2, l2, k2⟩ := brc2_loc y.1 _ _ _ h
    refine ⟨p1 ++ p2, by rw [e1, e2]; simp, by simp; omega, fun r' => ?_⟩
    unfold brc
    rw [List.append_assoc, k1 (p2 ++ r') (by rw [e2]; match p2, l2 with | y :: p2', _ => rfl)]
    simp only [Option.bind_some]
    exact k2 r'
theorem sesc_none {s r r' p : List Int} {x : Int} (h : besc s = some (x, r)) (hn : sesc s = none) (hs : s = p ++ r) (hp : 0 < p.length) : sesc (p ++ r') = none := by
  match p, hp with
  | c :: t, _ =>
    subst hs
    simp only [List.cons_append, sesc] at hn ⊢
    split at hn
    · cases hn
    · split at hn
      · cases hn
      · split at hn
        · cases hn
        · rename_i a b c
          rw [if_neg a, if_neg b, if_neg c]
theorem lx_loc : Loc lx := fun s x r h => by
  match s, h with
  | c :: t, h =>
    have one : ∀ {u : Tk}, some (u, t) = some (x, r) → (∀ r', lx (c :: r') = some (u, r')) → ∃ p, c :: t = p ++ r ∧ 0 < p.length ∧ ∀ r', lx (p ++ r') = some (x, r') := fun e k => by
      obtain ⟨rfl, rfl⟩ := Prod.mk.inj (Option.some.inj e)
      exact ⟨[c], rfl, by simp, fun r' => k r'⟩
    rw [lx] at h
    by_cases h1 : c = 40
    · rw [if_pos h1] at h
      exact one h (fun r' => by rw [lx, if_pos h1])
    rw [if_neg h1] at h
    by_cases h2 : c = 41
    · rw [if_pos h2] at h
      exact one h (fun r' => by rw [lx, if_neg h1, if_pos h2])
    rw [if_neg h2] at h
    by_cases h3 : c = 124
    · rw [if_pos h3] at h
      exact one h (fun r' => by rw [lx, if_neg h1, if_neg h2, if_pos h3])
    rw [if_neg h3] at h
    by_cases h4 : c = 42
    · rw [if_pos h4] at h
      exact one h (fun r' => by rw [lx, if_neg h1, if_neg h2, if_neg h3, if_pos h4])
    rw [if_neg h4] at h
    by_cases h5 : c = 43
    · rw [if_pos h5] at h
      exact one h (fun r' => by rw [lx, if_neg h1, if_neg h2, if_neg h3, if_neg h4, if_pos h5])
    rw [if_neg h5] at h
    by_cases h6 : c = 63
    · rw [if_pos h6] at h
      exact one h (fun r' => by rw [lx, if_neg h1, if_neg h2, if_neg h3, if_neg h4, if_neg h5, if_pos h6])
    rw [if_neg h6] at h
    by_cases h7 : c = 123
    · rw [if_pos h7] at h
      cases hb : brc t with
      | none => rw [hb] at h; cases h
      | some y =>
        rw [hb] at h
        simp only [Option.map_some] at h
        obtain ⟨rfl, rfl⟩ := Prod.mk.inj (Option.some.inj h)
        obtain ⟨p1, e1, l1, k1⟩ := brc_loc t y.1 y.2 (by rw [hb])
        refine ⟨c :: p1, by rw [e1]; rfl, by simp, fun r' => ?_⟩
        rw [List.cons_append, lx, if_neg h1, if_neg h2, if_neg h3, if_neg h4, if_neg h5, if_neg h6, if_pos h7, k1 r']
        rfl
    rw [if_neg h7] at h
    by_cases h8 : c = 46
    · rw [if_pos h8] at h
      exact one h (fun r' => by rw [lx, if_neg h1, if_neg h2, if_neg h3, if_neg h4, if_neg h5, if_neg h6, if_neg h7, if_pos h8])
    rw [if_neg h8] at h
    by_cases h9 : c = 91
    · rw [if_pos h9] at h
      cases hb : cls t with
      | none => rw [hb] at h; cases h
      | some y =>
        rw [hb] at h
        simp only [Option.map_some] at h
        obtain ⟨rfl, rfl⟩ := Prod.mk.inj (Option.some.inj h)
        obtain ⟨p1, e1, l1, k1⟩ := cls_loc t y.1 y.2 (by rw [hb])
        refine ⟨c :: p1, by rw [e1]; rfl, by simp, fun r' => ?_⟩
        rw [List.cons_append, lx, if_neg h1, if_neg h2, if_neg h3, if_neg h4, if_neg h5, if_neg h6, if_neg h7, if_neg h8, if_pos h9, k1 r']
        rfl
    rw [if_neg h9] at h
    by_cases h10 : c = 92
    · rw [if_pos h10] at h
      cases hb : sesc t with
      | some y =>
        rw [hb] at h
        simp only at h
        obtain ⟨rfl, rfl⟩ := Prod.mk.inj (Option.some.inj h)
        obtain ⟨p1, e1, l1, k1⟩ := sesc_loc t y.1 y.2 (by rw [hb])
        refine ⟨c :: p1, by rw [e1]; rfl, by simp, fun r' => ?_⟩
        rw [List.cons_append, lx, if_neg h1, if_neg h2, if_neg h3, if_neg h4, if_neg h5, if_neg h6, if_neg h7, if_neg h8, if_neg h9, if_pos h10, k1 r']
      | none =>
        rw [hb] at h
        simp only at h
        cases hc : besc t with
        | none => rw [hc] at h; cases h
        | some y =>
          rw [hc] at h
          simp only [Option.map_some] at h
          obtain ⟨rfl, rfl⟩ := Prod.mk.inj (Option.some.inj h)
          obtain ⟨p1, e1, l1, k1⟩ := besc_loc t y.1 y.2 (by rw [hc])
          refine ⟨c :: p1, by rw [e1]; rfl, by simp, fun r' => ?_⟩
          rw [List.cons_append, lx, if_neg h1, if_neg h2, if_neg h3, if_neg h4, if_neg h5, if_neg h6, if_neg h7, if_neg h8, if_neg h9, if_pos h10, sesc_none (x := y.1) (by rw [hc]) hb e1 l1]
          simp only
          rw [k1 r']
          rfl
    rw [if_neg h10] at h
    by_cases h11 : c ∈ spcZ
    · rw [if_pos h11] at h; cases h
    · rw [if_neg h11] at h
      exact one h (fun r' => by rw [lx, if_neg h1, if_neg h2, if_neg h3, if_neg h4, if_neg h5, if_neg h6, if_neg h7, if_neg h8, if_neg h9, if_neg h10, if_neg h11])
def Lxs : List Int → List Tk → List Int → Prop
  | s, [], u => s = u
  | s, t :: ts, u => ∃ r, lx s = some (t, r) ∧ Lxs r ts u
theorem Lxs.nil (s : List Int) : Lxs s [] s := rfl
theorem Lxs.cons {s r u : List Int} {t : Tk} {ts : List Tk} (h : lx s = some (t, r)) (k : Lxs r ts u) : Lxs s (t :: ts) u := ⟨r, h, k⟩
theorem Lxs.part {ts : List Tk} : ∀ {s u : List Int}, Lxs s ts u → ∃ p, s = p ++ u ∧ ∀ u', Lxs (p ++ u') ts u' := by
  induction ts with
  | nil => intro s u h; obtain rfl : s = u := h; exact ⟨[], rfl, fun u' => .nil _⟩
  | cons t ts ih =>
    rintro s u ⟨r, h1, h2⟩
    obtain ⟨p, e, k⟩ := ih h2
    obtain ⟨p1, e1, -, k1⟩ := lx_loc _ _ _ h1
    refine ⟨p1 ++ p, by rw [e1, e]; simp, fun u' => ?_⟩
    rw [List.append_assoc]
    exact .cons (k1 _) (k u')
theorem Lxs.app {ts us : List Tk} : ∀ {s r u : List Int}, Lxs s ts r → Lxs r us u → Lxs s (ts ++ us) u := by
  induction ts with
  | nil => intro s r u h k; obtain rfl : s = r := h; exact k
  | cons t ts ih =>
    rintro s r u ⟨r', h1, h2⟩ k
    exact ⟨r', h1, ih h2 k⟩
theorem Lxs.one {ts : List Tk} : ∀ {s u u' : List Int} {ts' : List Tk}, Lxs s ts u → Lxs s ts' u' → lx u = none → lx u' = none → ts = ts' ∧ u = u' := by
  induction ts with
  | nil =>
    intro s u u' ts' h k hu hu'
    obtain rfl : s = u := h
    cases ts' with
    | nil => exact ⟨rfl, k⟩
    | cons t ts' => obtain ⟨r, h1, -⟩ := k; rw [hu] at h1; cases h1
  | cons t ts ih =>
    rintro s u u' ts' ⟨r, h1, h2⟩ k hu hu'
    cases ts' with
    | nil => obtain rfl : s = u' := k; rw [hu'] at h1; cases h1
    | cons t' ts' =>
      obtain ⟨r', k1, k2⟩ := k
      rw [h1] at k1
      obtain ⟨rfl, rfl⟩ := Prod.mk.inj (Option.some.inj k1)
      obtain ⟨rfl, rfl⟩ := ih h2 k2 hu hu'
      exact ⟨rfl, rfl⟩
theorem Lxs.dollar {s : List Int} {ts : List Tk} : Lxs (s ++ [36]) ts [36] ↔ Lxs s ts [] := by
  constructor
  · intro h
    obtain ⟨p, e, k⟩ := h.part
    have := (List.append_inj' e rfl).1
    subst this
    have := k []
    rwa [List.append_nil] at this
  · intro h
    obtain ⟨p, e, k⟩ := h.part
    rw [List.append_nil] at e
    subst e
    exact k [36]
/-! Reading a text from left to right. -/
abbrev Rd := Option (Tr × List Tk × List Int)
def catEnd : List Int → Bool
  | [] => true
  | c :: _ => c == 124 || c == 41 || c == 36
def altEnd : List Int → Bool
  | [] => true
  | c :: _ => c == 41 || c == 36
def repHd : List Int → Bool
  | [] => false
  | c :: _ => c == 42 || c == 43 || c == 63 || c == 123
def rdRep (T : Tr) (ts : List Tk) (s : List Int) : Rd :=
  if repHd s then (match lx s with
    | some (.inr (.inl (lo, hi)), r) => some (.rep T lo hi, ts ++ [.inr (.inl (lo, hi))], r)
    | _ => none) else some (T, ts, s)
def rdG : Nat → Nat → Tr → List Tk → List Int → Rd
  | 0, _, _, _, _ => none
  | n + 1, 0, _, _, s => (rdG n 2 .e [] s).bind fun x => rdG n 1 x.1 x.2.1 x.2.2
  | n + 1, 1, T, ts, s => match s with
    | [] => some (T, ts, [])
    | c :: r => if c = 124 then (rdG n 2 .e [] r).bind fun x => rdG n 1 (.alt T x.1) (ts ++ .inr (.inr (.inr ())) :: x.2.1) x.2.2 else some (T, ts, c :: r)
  | n + 1, 2, _, _, s => if catEnd s then some (.e, [], s) else (rdG n 4 .e [] s).bind fun x => rdG n 3 x.1 x.2.1 x.2.2
  | n + 1, 3, T, ts, s => if catEnd s then some (T, ts, s) else (rdG n 4 .e [] s).bind fun x => rdG n 3 (.cat T x.1) (ts ++ x.2.1) x.2.2
  | n + 1, 4, _, _, s => (rdG n 5 .e [] s).bind fun x => rdRep x.1 x.2.1 x.2.2
  | n + 1, _ + 5, _, _, s => match s with
    | [] => none
    | c :: r => if c = 40 then (rdG n 0 .e [] r).bind fun x => (match x.2.2 with
      | d :: r2 => if d = 41 then some (x.1, .inr (.inr (.inl true)) :: (x.2.1 ++ [.inr (.inr (.inl false))]), r2) else none
      | [] => none) else (match lx (c :: r) with
      | some (.inl cs, r2) => some (.s cs, [.inl cs], r2)
      | _ => none)
def rdAlt (n : Nat) (s : List Int) : Rd := rdG n 0 .e [] s
def rdAltL (n : Nat) (T : Tr) (ts : List Tk) (s : List Int) : Rd := rdG n 1 T ts s
def rdCat (n : Nat) (s : List Int) : Rd := rdG n 2 .e [] s
def rdCatL (n : Nat) (T : Tr) (ts : List Tk) (s : List Int) : Rd := rdG n 3 T ts s
def rdItem (n : Nat) (s : List Int) : Rd := rdG n 4 .e [] s
def rdAtom (n : Nat) (s : List Int) : Rd := rdG n 5 .e [] s
theorem rdAlt_s (n : Nat) (s : List Int) : rdAlt (n + 1) s = (rdCat n s).bind fun x => rdAltL n x.1 x.2.1 x.2.2 := rfl
theorem rdAltL_n (n : Nat) (T : Tr) (ts : List Tk) : rdAltL (n + 1) T ts [] = some (T, ts, []) := rfl
theorem rdAltL_c (n : Nat) (T : Tr) (ts : List Tk) (c : Int) (r : List Int) : rdAltL (n + 1) T ts (c :: r) = if c = 124 then (rdCat n r).bind fun x => rdAltL n (.alt T x.1) (ts ++ .inr (.inr (.inr ())) :: x.2.1) x.2.2 else some (T, ts, c :: r) := rfl
theorem rdCat_s (n : Nat) (s : List Int) : rdCat (n + 1) s = if catEnd s then some (.e, [], s) else (rdItem n s).bind fun x => rdCatL n x.1 x.2.1 x.2.2 := rfl
theorem rdCatL_s (n : Nat) (T : Tr) (ts : List Tk) (s : List Int) : rdCatL (n + 1) T ts s = if catEnd s then some (T, ts, s) else (rdItem n s).bind fun x => rdCatL n (.cat T x.1) (ts ++ x.2.1) x.2.2 := rfl
theorem rdItem_s (n : Nat) (s : List Int) : rdItem (n + 1) s = (rdAtom n s).bind fun x => rdRep x.1 x.2.1 x.2.2 := rfl
def rdCl (x : Tr × List Tk × List Int) : Rd := match x.2.2 with
  | d :: r2 => if d = 41 then some (x.1, .inr (.inr (.inl true)) :: (x.2.1 ++ [.inr (.inr (.inl false))]), r2) else none
  | [] => none
def rdSet (s : List Int) : Rd := match lx s with
  | some (.inl cs, r2) => some (.s cs, [.inl cs], r2)
  | _ => none
theorem rdAtom_c (n : Nat) (c : Int) (r : List Int) : rdAtom (n + 1) (c :: r) = if c = 40 then (rdAlt n r).bind rdCl else rdSet (c :: r) := rfl
theorem Lxs.split {us vs : List Tk} : ∀ {s r : List Int}, Lxs s (us ++ vs) r → ∃ m, Lxs s us m ∧ Lxs m vs r := by
  induction us with
  | nil => exact fun h => ⟨_, .nil _, h⟩
  | cons u us ih =>
    intro s r h
    obtain ⟨r', h1, h2⟩ := h
    obtain ⟨m, h3, h4⟩ := ih h2
    exact ⟨m, .cons h1 h3, h4⟩
def HdOf (s r : List Int) : Tk → Prop
  | .inr (.inr (.inl true)) => s = 40 :: r
  | .inr (.inr (.inl false)) => s = 41 :: r
  | .inr (.inr (.inr ())) => s = 124 :: r
  | .inr (.inl _) => repHd s = true
  | .inl _ => repHd s = false ∧ catEnd s = false ∧ ∀ u, s ≠ 40 :: u
theorem lx_inv {s r : List Int} {t : Tk} (h : lx s = some (t, r)) : HdOf s r t := by
  match s, h with
  | c :: q, h =>
    rw [lx] at h
    by_cases h1 : c = 40
    · rw [if_pos h1] at h; cases h; simp [HdOf, h1]
    rw [if_neg h1] at h
    by_cases h2 : c = 41
    · rw [if_pos h2] at h; cases h; simp [HdOf, h2]
    rw [if_neg h2] at h
    by_cases h3 : c = 124
    · rw [if_pos h3] at h; cases h; simp [HdOf, h3]
    rw [if_neg h3] at h
    by_cases h4 : c = 42
    · rw [if_pos h4] at h; cases h; simp [HdOf, repHd, h4]
    rw [if_neg h4] at h
    by_cases h5 : c = 43
    · rw [if_pos h5] at h; cases h; simp [HdOf, repHd, h5]
    rw [if_neg h5] at h
    by_cases h6 : c = 63
    · rw [if_pos h6] at h; cases h; simp [HdOf, repHd, h6]
    rw [if_neg h6] at h
    by_cases h7 : c = 123
    · rw [if_pos h7] at h
      cases hb : brc q with
      | none => rw [hb] at h; cases h
      | some y => rw [hb] at h; cases h; simp [HdOf, repHd, h7]
    rw [if_neg h7] at h
    have h36 : c = 36 → t = t ∧ False := fun e => by
      subst e
      rw [if_neg (by decide), if_neg (by decide), if_neg (by decide), if_pos (by decide)] at h
      cases h
    have hset : ∀ cs, t = .inl cs → HdOf (c :: q) r t := fun cs e => by
      subst e
      refine ⟨by simp [repHd, h4, h5, h6, h7], ?_, fun u e => h1 (List.cons.inj e).1⟩
      simp [catEnd, h2, h3]
      intro e
      exact (h36 e).2
    by_cases h8 : c = 46
    · rw [if_pos h8] at h; exact hset _ (Prod.mk.inj (Option.some.inj h)).1.symm
    rw [if_neg h8] at h
    by_cases h9 : c = 91
    · rw [if_pos h9] at h
      cases hb : cls q with
      | none => rw [hb] at h; cases h
      | some y => rw [hb] at h; exact hset _ (Prod.mk.inj (Option.some.inj h)).1.symm
    rw [if_neg h9] at h
    by_cases h10 : c = 92
    · rw [if_pos h10] at h
      cases hb : sesc q with
      | some y => rw [hb] at h; exact hset _ (Prod.mk.inj (Option.some.inj h)).1.symm
      | none =>
        rw [hb] at h
        simp only at h
        cases hc : besc q with
        | none => rw [hc] at h; cases h
        | some y => rw [hc] at h; exact hset _ (Prod.mk.inj (Option.some.inj h)).1.symm
    rw [if_neg h10] at h
    by_cases h11 : c ∈ spcZ
    · rw [if_pos h11] at h; cases h
    · rw [if_neg h11] at h; exact hset _ (Prod.mk.inj (Option.some.inj h)).1.symm
theorem Gr.first {n : Nat} {ts : List Tk} {T : Tr} (h : Gr n ts T) : n < 3 → ∃ t us, ts = t :: us ∧ ((∃ cs, t = .inl cs) ∨ t = .inr (.inr (.inl true))) := by
  refine h.ind (Q := fun n ts _ => n < 3 → ∃ t us, ts = t :: us ∧ ((∃ cs, t = .inl cs) ∨ t = .inr (.inr (.inl true)))) ?_ ?_ ?_ ?_ ?_ ?_ ?_ ?_ ?_ ?_
  · intro cs _; exact ⟨_, _, rfl, .inl ⟨cs, rfl⟩⟩
  · intro ts T _ _ _; exact ⟨_, _, rfl, .inr rfl⟩
  · intro ts T _ ih _; exact ih (by omega)
  · intro ts T lo hi _ ih _; obtain ⟨t, us, rfl, h⟩ := ih (by omega); exact ⟨t, _, rfl, h⟩
  · intro ts T _ ih _; exact ih (by omega)
  · intro us vs A B _ _ i1 _ _; obtain ⟨t, us, rfl, h⟩ := i1 (by omega); exact ⟨t, _, rfl, h⟩
  · intro h; omega
  · intro ts T _ _ h; omega
  · intro us A _ _ h; omega
  · intro us vs A B _ _ _ _ h; omega
theorem Gr.start {n : Nat} {ts : List Tk} {T : Tr} {s r : List Int} (h : Gr n ts T) (hn : n < 3) (hl : Lxs s ts r) : catEnd s = false ∧ repHd s = false := by
  obtain ⟨t, us, rfl, h1⟩ := h.first hn
  obtain ⟨r', h2, -⟩ := hl
  rcases h1 with ⟨cs, rfl⟩ | rfl
  · have : repHd s = false ∧ catEnd s = false ∧ ∀ u, s ≠ 40 :: u := lx_inv h2
    exact ⟨this.2.1, this.1⟩
  · have : s = 40 :: _ := lx_inv h2
    rw [this]
    exact ⟨rfl, rfl⟩
theorem end_rep {r : List Int} (h : catEnd r = true) : repHd r = false := by
  cases r with
  | nil => rfl
  | cons c t =>
    simp [catEnd] at h
    rcases h with (rfl | rfl) | rfl <;> rfl
def Cmp : Nat → List Tk → Tr → Prop
  | 0, ts, T => ∀ s r, Lxs s ts r → ∃ N, ∀ n, N ≤ n → rdAtom n s = some (T, ts, r)
  | 1, ts, T => ∀ s r, Lxs s ts r → repHd r = false → ∃ N, ∀ n, N ≤ n → rdItem n s = some (T, ts, r)
  | 2, ts, T => ∀ s r, Lxs s ts r → repHd r = false → ∃ k N, ∀ n, N ≤ n → rdCat (n + k) s = rdCatL n T ts r
  | _, ts, T => ∀ s r, Lxs s ts r → catEnd r = true → ∃ k N, ∀ n, N ≤ n → rdAlt (n + k) s = rdAltL n T ts r
theorem rdAltL_end {n : Nat} {T : Tr} {ts : List Tk} {r : List Int} (h : altEnd r = true) : rdAltL (n + 1) T ts r = some (T, ts, r) := by
  cases r with
  | nil => rw [rdAltL_n]
  | cons c t =>
    simp [altEnd] at h
    rw [rdAltL_c, if_neg (by rcases h with rfl | rfl <;> decide)]
theorem cat_done {s r : List Int} {ts : List Tk} {T : Tr} (h : ∃ k N, ∀ n, N ≤ n → rdCat (n + k) s = rdCatL n T ts r) (hr : catEnd r = true) : ∃ N, ∀ n, N ≤ n → rdCat n s = some (T, ts, r) := by
  obtain ⟨k, N, h⟩ := h
  refine ⟨N + 1 + k, fun n hn => ?_⟩
  obtain ⟨m, rfl⟩ : ∃ m, n = m + 1 + k := ⟨n - 1 - k, by omega⟩
  rw [h (m + 1) (by omega), rdCatL_s, if_pos hr]
theorem rd_complete {n : Nat} {ts : List Tk} {T : Tr} (h : Gr n ts T) : Cmp n ts T := by
  refine h.ind (Q := Cmp) ?_ ?_ ?_ ?_ ?_ ?_ ?_ ?_ ?_ ?_
  · rintro cs s r ⟨r', h1, h2⟩
    obtain rfl : r' = r := h2
    refine ⟨1, fun n hn => ?_⟩
    obtain ⟨m, rfl⟩ : ∃ m, n = m + 1 := ⟨n - 1, by omega⟩
    have h9 : repHd s = false ∧ catEnd s = false ∧ ∀ u, s ≠ 40 :: u := lx_inv h1
    have h3 := h9.2.2
    match s, h1, h3 with
    | c :: t, h1, h3 =>
      rw [rdAtom_c, if_neg (fun e => h3 t (by rw [e])), rdSet, h1]
  · rintro ts T h ih s r ⟨r', h1, h2⟩
    obtain ⟨m, h3, r2, h5, h6⟩ := Lxs.split h2
    obtain rfl : r2 = r := h6
    have e1 : s = 40 :: _ := lx_inv h1
    have e2 : m = 41 :: _ := lx_inv h5
    subst e1 e2
    obtain ⟨k, N, h7⟩ := ih _ _ h3 rfl
    refine ⟨N + 1 + k + 1, fun n hn => ?_⟩
    obtain ⟨m, rfl⟩ : ∃ m, n = m + 1 + k + 1 := ⟨n - 1 - k - 1, by omega⟩
    rw [rdAtom_c, if_pos rfl, h7 (m + 1) (by omega), rdAltL_end rfl]
    rfl
  · intro ts T h ih s r hl hr
    obtain ⟨N, h1⟩ := ih s r hl
    refine ⟨N + 1, fun n hn => ?_⟩
    obtain ⟨m, rfl⟩ : ∃ m, n = m + 1 := ⟨n - 1, by omega⟩
    rw [rdItem_s, h1 m (by omega), Option.bind_some]
    simp [rdRep, hr]
  · intro ts T lo hi h ih s r hl hr
    obtain ⟨u, h3, r2, h5, h6⟩ := Lxs.split hl
    obtain rfl : r2 = r := h6
    obtain ⟨N, h1⟩ := ih s u h3
    refine ⟨N + 1, fun n hn => ?_⟩
    obtain ⟨m, rfl⟩ : ∃ m, n = m + 1 := ⟨n - 1, by omega⟩
    rw [rdItem_s, h1 m (by omega), Option.bind_some]
    have : repHd u = true := lx_inv h5
    simp [rdRep, this, h5]
  · intro ts T h ih s r hl hr
    obtain ⟨N, h1⟩ := ih s r hl hr
    refine ⟨1, N, fun n hn => ?_⟩
    rw [rdCat_s, if_neg (by rw [(h.start (by omega) hl).1]; simp), h1 n hn, Option.bind_some]
  · intro us vs A B h1 h2 i1 i2 s r hl hr
    obtain ⟨u, h3, h4⟩ := Lxs.split hl
    have hs := h2.start (by omega) h4
    obtain ⟨k, N, e1⟩ := i1 s u h3 hs.2
    obtain ⟨N2, e2⟩ := i2 u r h4 hr
    refine ⟨1 + k, max N N2, fun n hn => ?_⟩
    rw [← Nat.add_assoc, e1 (n + 1) (by omega), rdCatL_s, if_neg (by rw [hs.1]; simp), e2 n (by omega), Option.bind_some]
  · intro s r hl hr
    obtain rfl : s = r := hl
    refine ⟨1, 1, fun n hn => ?_⟩
    obtain ⟨m, rfl⟩ : ∃ m, n = m + 1 := ⟨n - 1, by omega⟩
    rw [rdAlt_s, rdCat_s, if_pos hr, Option.bind_some]
  · intro ts T h ih s r hl hr
    obtain ⟨N, h1⟩ := cat_done (ih s r hl (end_rep hr)) hr
    refine ⟨1, N, fun n hn => ?_⟩
    rw [rdAlt_s, h1 n hn, Option.bind_some]
  · intro us A h ih s r hl hr
    obtain ⟨u, h3, r2, h5, h6⟩ := Lxs.split hl
    obtain rfl : r2 = r := h6
    have e1 : u = 124 :: _ := lx_inv h5
    subst e1
    obtain ⟨k, N, e2⟩ := ih s _ h3 rfl
    refine ⟨1 + k, N + 1, fun n hn => ?_⟩
    obtain ⟨m, rfl⟩ : ∃ m, n = m + 1 := ⟨n - 1, by omega⟩
    rw [← Nat.add_assoc, e2 (m + 1 + 1) (by omega), rdAltL_c, if_pos rfl, rdCat_s, if_pos hr, Option.bind_some]
  · intro us vs A B h1 h2 i1 i2 s r hl hr
    obtain ⟨u, h3, r2, h5, h6⟩ := Lxs.split hl
    have e1 : u = 124 :: _ := lx_inv h5
    subst e1
    obtain ⟨k, N, e2⟩ := i1 s _ h3 rfl
    obtain ⟨N2, e3⟩ := cat_done (i2 _ r h6 (end_rep hr)) hr
    refine ⟨1 + k, max N N2, fun n hn => ?_⟩
    rw [← Nat.add_assoc, e2 (n + 1) (by omega), rdAltL_c, if_pos rfl, e3 n (by omega), Option.bind_some]
theorem rd_all {s r : List Int} {ts : List Tk} {T : Tr} (hl : Lxs s ts r) (h : Gr 3 ts T) (hr : altEnd r = true) : ∃ N, ∀ n, N ≤ n → rdAlt n s = some (T, ts, r) := by
  have hc : catEnd r = true := by
    cases r with
    | nil => rfl
    | cons c t => simp [altEnd] at hr; simp [catEnd]; rcases hr with h | h <;> simp [h]
  obtain ⟨k, N, e⟩ := rd_complete h s r hl hc
  refine ⟨N + 1 + k, fun n hn => ?_⟩
  obtain ⟨m, rfl⟩ : ∃ m, n = m + 1 + k := ⟨n - 1 - k, by omega⟩
  rw [e (m + 1) (by omega), rdAltL_end hr]
/-! The limits of a text, by its tokens; what both readers answer. -/
def Ev {α : Type} (f : Nat → α) (x : α) : Prop := ∃ N, ∀ n, N ≤ n → f n = x
theorem Ev.one {α : Type} {f : Nat → α} {x y : α} (h : Ev f x) (k : Ev f y) : x = y := by
  obtain ⟨N, h⟩ := h
  obtain ⟨M, k⟩ := k
  rw [← h (max N M) (by omega), ← k (max N M) (by omega)]
def Prs (s : List Int) (T : Tr) (ts : List Tk) (b : Bool) : Prop := Gr 3 ts T ∧ ((b = false ∧ Lxs s ts []) ∨ (b = true ∧ ∃ s', s = s' ++ [36] ∧ Lxs s' ts []))
theorem rd_of_prs {s : List Int} {T : Tr} {ts : List Tk} {b : Bool} (h : Prs s T ts b) : Ev (fun n => rdAlt n s) (some (T, ts, if b then [36] else [])) := by
  rcases h with ⟨h1, ⟨rfl, h2⟩ | ⟨rfl, s', rfl, h2⟩⟩
  · exact rd_all h2 h1 rfl
  · exact rd_all (Lxs.dollar.2 h2) h1 rfl
theorem Prs.one {s : List Int} {T T' : Tr} {ts ts' : List Tk} {b b' : Bool} (h : Prs s T ts b) (k : Prs s T' ts' b') : T = T' ∧ ts = ts' ∧ b = b' := by
  have := (rd_of_prs h).one (rd_of_prs k)
  simp only [Option.some.injEq, Prod.mk.injEq] at this
  refine ⟨this.1, this.2.1, ?_⟩
  have h3 := this.2.2
  cases b <;> cases b' <;> simp_all
theorem still_of_quiet {P : Program} {ops : Array Oper} {W : World} {Q : Act → Prop} : ∀ (l : List Oper) (a : Act), wpQuiet P ops (fun w' => w' = W) Q l a → wpStill P ops W Q l a
  | [], _, h => h
  | o :: rest, a, h => by
    unfold wpQuiet at h
    unfold wpStill
    split
    · rename_i hw
      rw [if_pos hw] at h
      obtain ⟨v, h1, h2⟩ := h
      have h3 := h1 W rfl
      have h4 := still_of_quiet rest _ h2
      unfold Oper.quietAt at h3
      unfold Oper.still
      generalize (execOp a.eval o).run P W = r at h3 ⊢
      cases r with
      | ok n w' =>
        cases n <;> simp only [Oper.quietUpon] at h3 <;> simp only [Oper.stillUpon]
        case value u => obtain ⟨rfl, rfl⟩ := h3; exact ⟨rfl, h4⟩
        case skip => obtain ⟨rfl, rfl⟩ := h3; exact ⟨rfl, h4⟩
        case enter f args => exact ⟨h3.1, v, h3.2, h4⟩
      | halt x w' => simp only [Oper.quietUpon] at h3
    · rename_i hw
      rw [if_neg hw] at h
      exact still_of_quiet rest _ h
theorem wp_region_quiet_tail {P : Program} {id : Nat} {Q : Exit → Act → World → Prop} {a : Act} {w : World} {l : List Oper} (n : Nat) (hm : P.follows .mixedOrders = true) (hB : Region.lexTailB .any l.toArray n = true)
    (h : wpQuiet P l.toArray (fun w' => w' = w.drew) (fun a' => wpList P l.toArray Q (l.drop n) a' w.drew) (l.take n) a) : (Code.region id l.toArray true).wp P Q a w :=
  wp_region_still_tail n hm hB (still_of_quiet _ _ h)
end Go.Proofs.Ytmafkoppadminaa
