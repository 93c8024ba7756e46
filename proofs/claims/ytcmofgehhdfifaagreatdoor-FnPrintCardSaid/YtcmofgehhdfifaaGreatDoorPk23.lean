import Derived.Test.YtcmofgehhdfifaaGreatDoorPk11
import Derived.Test.YtcmofgehhdfifaaGreatDoorPk10
import Derived.Test.YtcmofgehhdfifaaGreatDoorPk9
import Derived.Lib.Bytealg
import Derived.Lib.OthersKept
import Derived.Deep.RegionLaw
import Derived.Lib.AppendIntMem
import Derived.Test.YtcmofgehhdfifaaGreatDoorPk6
import Derived.Test.YtcmofgehhdfifaaGreatDoorPk15
import Derived.Deep.RegionWith
namespace Go.Proofs.YtcmofgehhdfifaaGreatDoor
open Go.RowKit
structure BK (base : Nat) (w w' : World) : Prop where
  b : Below base w w'
  o : Lib.OthersKept 5 none w w'
theorem BK.refl (base : Nat) (w : World) : BK base w w := ⟨Below.refl _ _, Lib.OthersKept.refl _ _ _⟩
theorem BK.trans {base : Nat} {a b c : World} (h : BK base a b) (k : BK base b c) : BK base a c := ⟨h.b.trans k.b, h.o.trans k.o⟩
theorem BK.size {base : Nat} {a b : World} (h : BK base a b) : a.heap.size ≤ b.heap.size := h.b.size
theorem BK.own {base n : Nat} {w w' : World} {v : Value} {xs : List Value} (hown : w.ownsRow base 5 1 v n xs) (hbase : base ≤ w.heap.size) (hg : w.grownBy w' v.ownBlock) : BK base w w' := by
  refine ⟨(Below.refl _ _).grown hg hbase (fun k hk => (hown.lt k hk).1), fun k o hk _ ho => ?_⟩
  have hlt : k < w.heap.size := (Array.getElem?_eq_some_iff.1 hk).1
  by_cases e : some k = v.ownBlock
  · exfalso
    rcases hown.2 with ⟨rfl, _⟩ | ⟨g, cap, cur, rfl, _, hgb, _⟩
    · cases e
    · obtain rfl : k = g := by simpa [Value.ownBlock] using e
      rw [hk] at hgb
      exact ho _ _ (Option.some.inj hgb)
  · rw [hg.block k hlt e]; exact hk
theorem BK.alloc {base : Nat} {w w' : World} {o : Obj} (hbase : base ≤ w.heap.size) (h : BK base (w.alloc o) w') : BK base w w' := BK.trans ⟨(below1 w o).mono hbase, (Lib.OthersKept.refl _ _ _).alloc o⟩ h
theorem app_moreP {w : World} {ops : Array Oper} {rest : List Oper} {o : Oper} {a : Act} {Q : Exit → Act → World → Prop} (hgd : o.guard = none) (s x : Operand)
    (ho : o.op = .call { callee := .builtin .append, args := #[s, x], argTypes := #[22, 22] }) (base : Nat) (ov : Value) (hs : a.eval s = ov) (os : List Int) (hown : w.ownsRow base 5 1 ov os.length (os.map mB)) (hbase : base ≤ w.heap.size)
    (sv : Value) (hx : a.eval x = sv) (xs : List Int) (hv : SlAt mB 0 0 w.heap.size w sv xs) (hlen : os.length + xs.length ≤ 1073741824)
    (h : ∀ v' w', BK base w w' → w'.ownsRow base 5 1 v' (os ++ xs).length ((os ++ xs).map mB) → v'.oneCell' = true → wpList Tryz.prog ops Q rest (a.put o.dst v') w') : wpList Tryz.prog ops Q (o :: rest) a w := by
  obtain ⟨i0, hi, hz0, hz1, hz2⟩ := info_parts Tryz.zinByte
  obtain ⟨sa, sc, rfl, hl, hc⟩ := hv
  cases sa with
  | none =>
    have h0 : xs.length = 0 := by
      by_cases q : 0 < xs.length
      · obtain ⟨b, off, e, -⟩ := hc q; simp at e
      · omega
    rw [h0] at hx
    refine wpList_append_none_c hgd s x 22 ho base 5 i0 1 Tryz.underlying22 hi _ os.length (os.map mB) hs hown sc hx (h _ w (BK.refl _ _) (by rw [List.eq_nil_of_length_eq_zero h0, List.append_nil]; exact hown) ?_)
    obtain ⟨oa, oc, rfl⟩ := own_is hown
    rfl
  | some ad =>
    refine wpList_append_own_at w hgd s x 22 ho base 5 i0 (.int .u8 0) 1 1 Tryz.underlying22 hi hz0 hz1 hz2 rfl (by decide) _ os.length (os.map mB) hs hown ad xs.length sc (xs.map mB) hx (by simp) ?_ ?_ (by unfold maxLen; omega) (by omega) hbase ?_
    · intro j u hu
      have hj : j < xs.length := by
        have := (List.getElem?_eq_some_iff.1 hu).1
        simpa using this
      obtain ⟨b, off, e, -, -, hcell⟩ := hc (by omega)
      simp only [Option.some.injEq] at e
      subst e
      rw [List.getElem?_map, getD_of_lt hj] at hu
      simp only [Option.map_some, Option.some.injEq] at hu
      subst hu
      have e3 : (⟨b, off, none⟩ : Addr).add j = ⟨b, off + j, none⟩ := by cases j <;> rfl
      rw [e3]
      exact hcell j hj
    · intro u hu
      obtain ⟨y, -, rfl⟩ := List.mem_map.1 hu
      rfl
    · intro v' w' h1 hg _ _
      have h2 : w'.ownsRow base 5 1 v' (os ++ xs).length ((os ++ xs).map mB) := by rw [List.length_append, List.map_append]; exact h1
      obtain ⟨oa, oc, rfl⟩ := own_is h2
      exact h _ w' (BK.own hown hbase hg) h2 rfl
theorem app_strP {w : World} {ops : Array Oper} {rest : List Oper} {o : Oper} {a : Act} {Q : Exit → Act → World → Prop} (hgd : o.guard = none) (s x : Operand)
    (ho : o.op = .call { callee := .builtin .append, args := #[s, x], argTypes := #[22, 9] }) (base : Nat) (ov : Value) (hs : a.eval s = ov) (os : List Int) (hown : w.ownsRow base 5 1 ov os.length (os.map mB)) (hbase : base ≤ w.heap.size)
    (sv : ByteArray) (hx : a.eval x = .string sv) (xs : List Int) (hv : StrB sv xs) (hlen : os.length + xs.length ≤ 1073741824)
    (h : ∀ v' w', BK base w w' → w'.ownsRow base 5 1 v' (os ++ xs).length ((os ++ xs).map mB) → v'.oneCell' = true → wpList Tryz.prog ops Q rest (a.put o.dst v') w') : wpList Tryz.prog ops Q (o :: rest) a w := by
  obtain ⟨i0, hi, hz0, hz1, hz2⟩ := info_parts Tryz.zinByte
  have hl : sv.size = xs.length := by
    have := congrArg List.length hv
    rw [Go.Lib.strCells_length, List.length_map] at this
    exact this
  refine Go.Lib.wpList_append_own_string w hgd s x 22 9 ho base 5 i0 Tryz.underlying22 Tryz.underlying9 hi hz0 hz1 hz2 _ os.length (os.map mB) hs hown sv hx (by rw [hl]; unfold maxLen; omega) (by omega) hbase ?_
  intro v' w' h1 hg _
  have h2 : w'.ownsRow base 5 1 v' (os ++ xs).length ((os ++ xs).map mB) := by rw [List.length_append, List.map_append, ← hl, ← hv]; exact h1
  obtain ⟨oa, oc, rfl⟩ := own_is h2
  exact h _ w' (BK.own hown hbase hg) h2 rfl
theorem lit_bytes (w : World) (xs : List Int) (hn : xs.length ≤ 1000) : SlAt mB 0 0 (w.alloc (.cells (xs.map mB).toArray 5)).heap.size (w.alloc (.cells (xs.map mB).toArray 5)) (.slice (some ⟨w.heap.size, 0, none⟩) xs.length xs.length) xs := by
  refine ⟨_, _, rfl, by unfold maxLen; omega, fun _ => ⟨w.heap.size, 0, rfl, Nat.zero_le _, by rw [sz_alloc]; exact Nat.lt_succ_self _, fun i hi => ?_⟩⟩
  have h := (pushd_alloc w (.cells (xs.map mB).toArray 5)).news i (mB (xs[i]?.getD 0)) (by simp [List.getElem?_eq_getElem hi])
  have e3 : (⟨w.heap.size, 0, none⟩ : Addr).add i = ⟨w.heap.size, 0 + i, none⟩ := by cases i <;> simp [Addr.add]
  rw [e3] at h
  exact h
theorem app_litB {w : World} {ops : Array Oper} {rest : List Oper} {o : Oper} {a : Act} {Q : Exit → Act → World → Prop} (cs : Array Value) (hgd : o.guard = none) (s x : Operand)
    (ho : o.op = .call { callee := .builtin .append, args := #[s, x], argTypes := #[22, 22] }) (base : Nat) (ov : Value) (hs : a.eval s = ov) (os : List Int) (hown : w.ownsRow base 5 1 ov os.length (os.map mB)) (hbase : base ≤ w.heap.size)
    (xs : List Int) (hcs : cs = (xs.map mB).toArray) (hx : a.eval x = .slice (some ⟨w.heap.size, 0, none⟩) xs.length xs.length) (hn : xs.length ≤ 1000) (hlen : os.length + xs.length ≤ 1073741824)
    (h : ∀ v' w', BK base w w' → w'.ownsRow base 5 1 v' (os ++ xs).length ((os ++ xs).map mB) → v'.oneCell' = true → wpList Tryz.prog ops Q rest (a.put o.dst v') w') : wpList Tryz.prog ops Q (o :: rest) a (w.alloc (.cells cs 5)) := by
  subst hcs
  refine app_moreP hgd s x ho base ov hs os (World.ownsRow.alloc (w := w) hown _) (by rw [sz_alloc]; omega) _ hx xs (lit_bytes w xs hn) hlen ?_
  intro v' w' h1 h2 h3
  exact h v' w' (BK.alloc hbase h1) h2 h3
def AppT (F : FuncId) (args : Value → Array Value) (T : List Int) : Prop := ∀ (base : Nat) (ov : Value) (os : List Int) (w : World), w.ownsRow base 5 1 ov os.length (os.map mB) → base ≤ w.heap.size → os.length + T.length ≤ 100000000 →
  Calls Tryz.prog F (args ov) w fun e w' => ∃ v', e = .returned v' ∧ w'.ownsRow base 5 1 v' (os ++ T).length ((os ++ T).map mB) ∧ BK base w w'
theorem grownP {base n : Nat} {w W w' : World} {v : Value} {xs : List Value} {o : Obj} (hown : w.ownsRow base 5 1 v n xs) (hbase : base ≤ w.heap.size) (hP : Pushd w W o) (hg : W.grownBy w' v.ownBlock) : BK base w w' := by
  have hown' := hP.own hown
  have hW : BK base w W := ⟨hP.below.mono hbase, fun k o hk _ _ => by rw [hP.old (Array.getElem?_eq_some_iff.1 hk).1]; exact hk⟩
  exact hW.trans (BK.own hown' (by rw [hP.size]; omega) hg)
theorem hex_at : ∀ k : Nat, (h : k < 16) → ((({ data := #[48, 49, 50, 51, 52, 53, 54, 55, 56, 57, 97, 98, 99, 100, 101, 102] } : ByteArray)[k]'h).toNat : Int) = hexd k := by decide +kernel
set_option maxHeartbeats 4000000 in
set_option maxRecDepth 100000 in
theorem appendByte_any (b : Int) (h0 : 0 ≤ b) (h1 : b ≤ 255) : AppT 79 (fun v => #[v, .int .i64 b]) (byT b) := by
  intro base ov os w hown hbase hlen
  have Hown := hide hown
  obtain ⟨oa, oc, rfl⟩ := own_is hown
  clear hown
  by_cases b1 : b = 10
  · subst b1
    go_enter Tryz.func79, Tryz.ntmps79
    go_wp2_with (at_builtin; refine app_strP rfl _ _ rfl base _ rfl os (unhide Hown) hbase _ rfl [92, 110] rfl (by simp at hlen ⊢; omega) ?_; intro v1 w1 hb1 ho1 hv1)
    go_ret
    exact ⟨_, rfl, ho1, hb1⟩
  by_cases b2 : b = 9
  · subst b2
    go_enter Tryz.func79, Tryz.ntmps79
    go_wp2_with (at_builtin; refine app_strP rfl _ _ rfl base _ rfl os (unhide Hown) hbase _ rfl [92, 116] rfl (by simp at hlen ⊢; omega) ?_; intro v1 w1 hb1 ho1 hv1)
    go_ret
    exact ⟨_, rfl, ho1, hb1⟩
  by_cases b3 : b = 13
  · subst b3
    go_enter Tryz.func79, Tryz.ntmps79
    go_wp2_with (at_builtin; refine app_strP rfl _ _ rfl base _ rfl os (unhide Hown) hbase _ rfl [92, 114] rfl (by simp at hlen ⊢; omega) ?_; intro v1 w1 hb1 ho1 hv1)
    go_ret
    exact ⟨_, rfl, ho1, hb1⟩
  have hE : Hid (byT b = if b ∈ spcL ∨ b = 45 then [92, b] else if 32 ≤ b ∧ b ≤ 126 then [b] else [92, 120, hexd (b / 16), hexd (b % 16)]) := by
    show byT b = _
    unfold byT
    rw [if_neg b1, if_neg b2, if_neg b3]
  have hbl := byT_len b
  obtain ⟨B, hB⟩ : ∃ B, B = byT b := ⟨_, rfl⟩
  rw [← hB] at hE hlen hbl ⊢
  have hl4 : os.length ≤ 100000000 := by omega
  have hw8 : IntKind.u8.wrap b = b := by simp [IntKind.wrap, IntKind.bits, IntKind.signed]; omega
  clear hB hlen hbl
  by_cases b4 : b = 45
  · have HE := hide ((unhide hE).trans (if_pos (Or.inr b4)))
    clear hE b1 b2 b3 hw8
    subst b4
    go_enter Tryz.func79, Tryz.ntmps79
    go_wp2_with (at_builtin; refine app_litB (w := w) _ rfl _ _ rfl base _ rfl os (unhide Hown) hbase [92, 45] rfl rfl (by simp) (by simp; omega) ?_; intro v1 w1 hb1 ho1 hv1)
    go_ret
    exact ⟨_, rfl, by rw [unhide HE]; exact ho1, hb1⟩
  go_enter Tryz.func79, Tryz.ntmps79
  go_wp2_with fail
  refine (isSpecial_any b _ h0 h1).mono ?_
  rintro e w1 ⟨hret, rfl⟩
  rcases hret.cases with ⟨rfl, hsp⟩ | ⟨rfl, hsp⟩
  · have HE := hide ((unhide hE).trans (if_pos (Or.inl hsp)))
    clear hE hsp hret
    go_wp2_with (at_builtin; refine app_litB (w := w1) _ rfl _ _ rfl base _ rfl os (unhide Hown) hbase [92, b] rfl rfl (by simp) (by simp; omega) ?_; intro v1 w1 hb1 ho1 hv1)
    go_ret
    exact ⟨_, rfl, by rw [unhide HE]; exact ho1, hb1⟩
  have hE2 := hide ((unhide hE).trans (if_neg (fun h => h.elim hsp b4)))
  clear hE hsp hret
  by_cases b5 : 32 ≤ b ∧ b ≤ 126
  · have HE := hide ((unhide hE2).trans (if_pos b5))
    obtain ⟨b5, b6⟩ := b5
    clear hE2
    go_wp2_with (at_builtin; refine app_litB (w := w1) _ rfl _ _ rfl base _ rfl os (unhide Hown) hbase [b] rfl rfl (by simp) (by simp; omega) ?_; intro v1 w1 hb1 ho1 hv1)
    go_ret
    exact ⟨_, rfl, by rw [unhide HE]; exact ho1, hb1⟩
  · have HE := hide ((unhide hE2).trans (if_neg b5))
    clear hE2
    have d : ¬ b ≤ 126 ∨ ¬ 32 ≤ b := by omega
    obtain ⟨n, rfl⟩ := Int.eq_ofNat_of_zero_le h0
    obtain ⟨p, hp⟩ : ∃ p, p = n / 16 := ⟨_, rfl⟩
    obtain ⟨q, hq⟩ : ∃ q, q = n % 16 := ⟨_, rfl⟩
    have f3 : p < 16 := by omega
    have f4 : q < 16 := by omega
    have v1 := hex_at p f3
    have v2 := hex_at q f4
    have e1 : ((n : Int)).tdiv 16 = (p : Int) := by rw [hp]; rfl
    have e2 : ((n : Int)).tmod 16 = (q : Int) := by rw [hq]; rfl
    have f1 : (p : Int) < 16 := by omega
    have f2 : (q : Int) < 16 := by omega
    have g1 : IntKind.i64.wrap (p : Int) = (p : Int) := k64i (by omega) (by omega)
    have g2 : IntKind.i64.wrap (q : Int) = (q : Int) := k64i (by omega) (by omega)
    obtain ⟨i0, hi, hz0, hz1, hz2⟩ := info_parts Tryz.zinByte
    have HE2 : Hid (B = [92, 120, hexd p, hexd q]) := by show B = _; rw [unhide HE, hp, hq]; rfl
    clear hp hq HE
    clear b5
    rcases d with d | d
    all_goals
      go_wp2_with fail
      go_region_law (refine step_append_lies _ rfl (.tmp 44) (.tmp 51) 22 rfl base 5 i0 (.int .u8 0) 1 1 Tryz.underlying22 hi hz0 hz1 hz2 rfl (by decide) (.slice oa os.length oc) os.length (os.map mB) (by simp [Act.eval]) (by refine Pushd.own (w := w1) (o := .cells #[.int .u8 92, .int .u8 120, .int .u8 (hexd p), .int .u8 (hexd q)] 5) ?_ (unhide Hown); exact ⟨rfl, rfl, rfl, rfl⟩) ⟨w1.heap.size, 0, none⟩ 4 4 [.int .u8 92, .int .u8 120, .int .u8 (hexd p), .int .u8 (hexd q)] (by simp [Act.eval]) rfl (by refine Pushd.news (w := w1) (cs := #[.int .u8 92, .int .u8 120, .int .u8 (hexd p), .int .u8 (hexd q)]) (t := 5) ?_; exact ⟨rfl, rfl, rfl, rfl⟩) (by intro u hu; simp only [List.mem_cons, List.not_mem_nil, or_false] at hu; rcases hu with rfl | rfl | rfl | rfl <;> rfl) (by decide) (by unfold maxLen; omega) (by omega) (by show base ≤ (w1.alloc _).heap.size; rw [sz_alloc]; omega) (w1.heap.size + 1) (sz_alloc w1 _) (fun g cap' w2 q1 q2 q3 q4 => ?_); have hs : Hid (w2.ownsRow base 5 1 (.slice (some ⟨g, 0, none⟩) (os.length + 4) cap') (os ++ B).length ((os ++ B).map mB) ∧ BK base w1 w2) := (by rw [unhide HE2, List.map_append, List.length_append]; exact ⟨q1, grownP (o := .cells #[.int .u8 92, .int .u8 120, .int .u8 (hexd p), .int .u8 (hexd q)] 5) (unhide Hown) hbase (by exact ⟨rfl, rfl, rfl, rfl⟩) q2⟩); clear q1 q2 q3 q4)
      all_goals go_wp2
      all_goals go_ret
      all_goals exact ⟨_, rfl, (unhide hs).1, (unhide hs).2⟩
set_option maxHeartbeats 2000000 in
set_option maxRecDepth 100000 in
theorem appendRange_any (lo hi : Int) (h0 : 0 ≤ lo) (h1 : lo ≤ hi) (h2 : hi ≤ 255) : AppT 80 (fun v => #[v, .int .i64 lo, .int .i64 hi]) (rngT lo hi) := by
  intro base ov os w hown hbase hlen
  have Hown := hide hown
  obtain ⟨oa, oc, rfl⟩ := own_is hown
  have f6 : wrap64 (lo + 1) = lo + 1 := w64i (by omega) (by omega)
  have f7 : IntKind.i64.wrap (lo + 1) = lo + 1 := k64i (by omega) (by omega)
  have hb1 := byT_len lo
  have hb2 := byT_len hi
  have hl : os.length ≤ 100000000 := by omega
  have HL := hide hlen
  clear hown hlen
  have hp : (byT lo).length ≤ (rngT lo hi).length := by unfold rngT; simp only [List.length_append]; omega
  go_enter Tryz.func80, Tryz.ntmps80
  go_wp2_with fail
  refine (appendByte_any lo h0 (by omega) base _ os w (unhide Hown) hbase (by have := unhide HL; omega)).mono ?_
  rintro e w1 ⟨v1, rfl, ho1, hB1⟩
  obtain ⟨X, hX⟩ : ∃ X, X = os ++ byT lo := ⟨_, rfl⟩
  rw [← hX] at ho1
  have hxl : X.length ≤ 200000000 := by rw [hX, List.length_append]; omega
  have HX := hide hX
  have Ho1 := hide ho1
  obtain ⟨a1, c1, rfl⟩ := own_is ho1
  have hz1 := hB1.size
  clear ho1 Hown hX
  by_cases g0 : hi = lo
  · have HE : Hid (os ++ rngT lo hi = X) := by show os ++ rngT lo hi = X; rw [unhide HX]; unfold rngT; rw [if_neg (by omega), if_neg (by omega)]; simp
    have g0' : (hi == lo) = true := by simpa using g0
    clear h1 g0
    go_wp2
    go_ret
    exact ⟨_, rfl, by rw [unhide HE]; exact unhide Ho1, hB1⟩
  have g0' : (hi == lo) = false := by simpa using g0
  by_cases g1 : lo + 1 < hi
  · have HE : Hid (os ++ rngT lo hi = X ++ [45] ++ byT hi) := by show os ++ rngT lo hi = _; rw [unhide HX]; unfold rngT; rw [if_pos g1, if_pos (by omega)]; simp
    have HL2 : Hid ((X ++ [45]).length + (byT hi).length ≤ 100000000) := by
      have h1 := congrArg List.length (unhide HE)
      have h2 := unhide HL
      rw [List.length_append, List.length_append] at h1
      show (X ++ [45]).length + (byT hi).length ≤ 100000000
      omega
    go_wp2_with (at_builtin; refine app_litB (w := w1) _ rfl _ _ rfl base _ rfl X (unhide Ho1) (by omega) [45] rfl rfl (by simp) (by rw [List.length_singleton]; omega) ?_; intro v2 w2 hb2' ho2 hv2; obtain ⟨Y, hY⟩ : ∃ Y, Y = X ++ [45] := ⟨_, rfl⟩; rw [← hY] at ho2; have HY := hide hY; have Ho2 := hide ho2; obtain ⟨a2, c2, rfl⟩ := own_is ho2; clear ho2 hY)
    have hz2 := hb2'.size
    clear Ho1
    refine (appendByte_any hi (by omega) h2 base _ Y _ (unhide Ho2) (by omega) (by rw [unhide HY]; exact unhide HL2)).mono ?_
    rintro e w3 ⟨v3, rfl, ho3, hB3⟩
    rw [unhide HY, ← unhide HE] at ho3
    obtain ⟨Z, hZ⟩ : ∃ Z, Z = os ++ rngT lo hi := ⟨_, rfl⟩
    rw [← hZ] at ho3
    have HZ := hide hZ
    have Ho3 := hide ho3
    obtain ⟨a3, c3, rfl⟩ := own_is ho3
    clear ho3 hZ
    go_wp2
    go_ret
    exact ⟨_, rfl, by rw [← unhide HZ]; exact unhide Ho3, hB1.trans (hb2'.trans hB3)⟩
  · have HE : Hid (os ++ rngT lo hi = X ++ byT hi) := by show os ++ rngT lo hi = _; rw [unhide HX]; unfold rngT; rw [if_neg g1, if_pos (by omega)]; simp
    have HL2 : Hid (X.length + (byT hi).length ≤ 100000000) := by
      have h1 := congrArg List.length (unhide HE)
      have h2 := unhide HL
      rw [List.length_append, List.length_append] at h1
      show X.length + (byT hi).length ≤ 100000000
      omega
    go_wp2_with fail
    refine (appendByte_any hi (by omega) h2 base _ X _ (unhide Ho1) (by omega) (unhide HL2)).mono ?_
    rintro e w3 ⟨v3, rfl, ho3, hB3⟩
    rw [← unhide HE] at ho3
    obtain ⟨Z, hZ⟩ : ∃ Z, Z = os ++ rngT lo hi := ⟨_, rfl⟩
    rw [← hZ] at ho3
    have HZ := hide hZ
    have Ho3 := hide ho3
    obtain ⟨a3, c3, rfl⟩ := own_is ho3
    clear ho3 hZ
    go_wp2
    go_ret
    exact ⟨_, rfl, by rw [← unhide HZ]; exact unhide Ho3, hB1.trans hB3⟩
theorem dd_small {u : Nat} (h : u < 10) : Lib.byteCells (Lib.decDigits u) = [.int .u8 ((48 + u : Nat) : Int)] := by
  rw [Lib.decDigits, dif_pos h]
  simp [Lib.byteCells]
  omega
theorem dd_big {u : Nat} (h : ¬ u < 10) : Lib.byteCells (Lib.decDigits u) = Lib.byteCells (Lib.decDigits (u / 10)) ++ [.int .u8 ((48 + u % 10 : Nat) : Int)] := by
  rw [Lib.decDigits, dif_neg h]
  simp [Lib.byteCells]
  omega
theorem dec_itoa (v : Int) (h0 : 0 ≤ v) (h1 : v < 1000) : Lib.byteCells (Lib.itoa v) = (decT v).map mB := by
  obtain ⟨n, rfl⟩ := Int.eq_ofNat_of_zero_le h0
  unfold Lib.itoa
  rw [if_neg (by omega), Int.toNat_natCast]
  unfold decT
  by_cases q1 : n < 10
  · rw [dd_small q1, if_pos (by omega)]; simp [mB]
  · rw [if_neg (by omega)]
    by_cases q2 : n < 100
    · rw [dd_big q1, dd_small (by omega), if_pos (by omega)]
      simp only [mB, List.map_cons, List.map_nil, List.cons_append, List.nil_append]
      simp only [List.cons.injEq, Value.int.injEq, and_true, true_and]
      omega
    · rw [dd_big q1, dd_big (by omega), dd_small (by omega), if_neg (by omega)]
      simp only [mB, List.map_cons, List.map_nil, List.cons_append, List.nil_append]
      simp only [List.cons.injEq, Value.int.injEq, and_true, true_and]
      omega
abbrev TB (base : Nat) (w : World) : Prop := Lib.TabBelow Tryz.prog base w "internal/strconv.uint64pow10" .u64 Lib.pow10Tab
def AppK (F : FuncId) (args : Value → Array Value) (T : List Int) : Prop := ∀ (base : Nat) (ov : Value) (os : List Int) (w : World), w.ownsRow base 5 1 ov os.length (os.map mB) → base ≤ w.heap.size → TB base w → os.length + T.length ≤ 100000000 →
  Calls Tryz.prog F (args ov) w fun e w' => ∃ v', e = .returned v' ∧ w'.ownsRow base 5 1 v' (os ++ T).length ((os ++ T).map mB) ∧ BK base w w'
theorem appendInt_any (v : Int) (h0 : 0 ≤ v) (h1 : v < 1000) (base : Nat) (ov : Value) (os : List Int) (w : World) (hown : w.ownsRow base 5 1 ov os.length (os.map mB)) (hbase : base ≤ w.heap.size) (htb : TB base w) (hlen : os.length ≤ 1000000000) :
    Calls Tryz.prog 82 #[ov, .int .i64 v, .int .i64 10] w fun e w' => ∃ v', e = .returned v' ∧ w'.ownsRow base 5 1 v' (os ++ decT v).length ((os ++ decT v).map mB) ∧ BK base w w' := by
  refine (Any.strconv_AppendInt_10 Tryz.laysAppendInt base os.length v (by omega) (by omega) ov (os.map mB) w hown hbase (by omega) htb).mono ?_
  rintro e w' ⟨v', rfl, ho, hb, hk⟩
  refine ⟨v', rfl, ?_, hb, hk⟩
  rw [dec_itoa v h0 h1] at ho
  have hl : (Lib.itoa v).length = (decT v).length := by
    have := congrArg List.length (dec_itoa v h0 h1)
    simpa [Lib.byteCells_length] using this
  rw [hl, ← List.map_append] at ho
  rw [List.length_append]
  exact ho
set_option maxHeartbeats 4000000 in
set_option maxRecDepth 100000 in
theorem appendBounds_any (lo hi : Int) (h0 : 0 ≤ lo) (h1 : lo ≤ 250) (h2 : hi = -1 ∨ (lo ≤ hi ∧ hi ≤ 250)) : AppK 59 (fun v => #[v, .int .i64 lo, .int .i64 hi]) (repT lo hi) := by
  intro base ov os w hown hbase htb hlen
  have Hown := hide hown
  have Htb := hide htb
  obtain ⟨oa, oc, rfl⟩ := own_is hown
  have hrl := repT_len lo hi
  have hl : os.length ≤ 100000000 := by omega
  have hl1 := decT_len lo
  have hl2 := decT_len hi
  have HLen := hide hlen
  clear hown htb hlen hrl
  by_cases a1 : lo = 0 ∧ hi = -1
  · obtain ⟨rfl, rfl⟩ := a1
    go_enter Tryz.func59, Tryz.ntmps59
    go_wp2_with (at_builtin; refine app_litB (w := w) _ rfl _ _ rfl base _ rfl os (unhide Hown) hbase [42] rfl rfl (by simp) (by simp; omega) ?_; intro v1 w1 hb1 ho1 hv1)
    go_ret
    exact ⟨_, rfl, by rw [List.length_append, List.map_append] at ho1; exact ho1, hb1⟩
  by_cases a2 : lo = 1 ∧ hi = -1
  · obtain ⟨rfl, rfl⟩ := a2
    go_enter Tryz.func59, Tryz.ntmps59
    go_wp2_with (at_builtin; refine app_litB (w := w) _ rfl _ _ rfl base _ rfl os (unhide Hown) hbase [43] rfl rfl (by simp) (by simp; omega) ?_; intro v1 w1 hb1 ho1 hv1)
    go_ret
    exact ⟨_, rfl, by rw [List.length_append, List.map_append] at ho1; exact ho1, hb1⟩
  by_cases a3 : lo = 0 ∧ hi = 1
  · obtain ⟨rfl, rfl⟩ := a3
    go_enter Tryz.func59, Tryz.ntmps59
    go_wp2_with (at_builtin; refine app_litB (w := w) _ rfl _ _ rfl base _ rfl os (unhide Hown) hbase [63] rfl rfl (by simp) (by simp; omega) ?_; intro v1 w1 hb1 ho1 hv1)
    go_ret
    exact ⟨_, rfl, by rw [List.length_append, List.map_append] at ho1; exact ho1, hb1⟩
  have hE : Hid (repT lo hi = if hi = -1 then 123 :: decT lo ++ [44, 125] else if lo = hi then 123 :: decT lo ++ [125] else 123 :: decT lo ++ 44 :: decT hi ++ [125]) := by
    show repT lo hi = _
    unfold repT
    rw [if_neg a1, if_neg a2, if_neg a3]
  have d : (lo = 0 ∧ ¬ hi = 1 ∧ ¬ hi = -1) ∨ (lo = 1 ∧ ¬ hi = -1) ∨ (¬ lo = 0 ∧ ¬ lo = 1) := by omega
  by_cases a4 : hi = -1
  · have HE := hide ((unhide hE).trans (if_pos a4))
    have c1 : ¬ lo = 0 := by omega
    have c2 : ¬ lo = 1 := by omega
    have c3 : ((-1 : Int) != lo) = true := by simp; omega
    subst a4
    clear hE a1 a2 a3 d h2
    obtain ⟨Z, hZ⟩ : ∃ Z, Z = os ++ repT lo (-1) := ⟨_, rfl⟩
    rw [← hZ]
    have HZ : Hid (Z = os ++ [123] ++ decT lo ++ [44] ++ [125]) := by show Z = _; rw [hZ, unhide HE]; simp
    clear hZ HE
    have Ho0 := hide (unhide Hown)
    go_enter Tryz.func59, Tryz.ntmps59
    go_wp2_with (at_builtin; refine app_litB (w := w) _ rfl _ _ rfl base _ rfl os (unhide Ho0) (by omega) [123] rfl rfl (by simp) (by rw [List.length_singleton]; omega) ?_; intro v1 w1 hb1 ho1 hv1; obtain ⟨Y1, hY1⟩ : ∃ Y, Y = os ++ [123] := ⟨_, rfl⟩; rw [← hY1] at ho1; have hyl1 : Y1.length ≤ 100000100 + 10 * 1 := (by rw [hY1, List.length_append, List.length_singleton]; omega); have HY1 := hide hY1; have Ho1 := hide ho1; obtain ⟨a1, c1, rfl⟩ := own_is ho1; have hz1 := hb1.size; clear ho1 hY1 Ho0 hv1)
    refine (appendInt_any lo (by omega) (by omega) base _ Y1 _ (unhide Ho1) (by omega) (Lib.TabBelow.on (unhide Htb) (BK.b (hb1))) (by omega)).mono ?_
    rintro e w2 ⟨v2, rfl, ho2, hb2⟩
    obtain ⟨Y2, hY2⟩ : ∃ Y, Y = Y1 ++ decT lo := ⟨_, rfl⟩
    rw [← hY2] at ho2
    have hyl2 : Y2.length ≤ 100000100 + 10 * 2 := by rw [hY2, List.length_append]; omega
    have HY2 := hide hY2
    have Ho2 := hide ho2
    obtain ⟨a2, c2, rfl⟩ := own_is ho2
    have hz2 := hb2.size
    clear ho2 hY2 Ho1
    go_wp2_with (first | (at_builtin; refine app_litB (w := w2) _ rfl _ _ rfl base _ rfl Y2 (unhide Ho2) (by omega) [44] rfl rfl (by simp) (by rw [List.length_singleton]; omega) ?_; intro v3 w3 hb3 ho3 hv3; obtain ⟨Y3, hY3⟩ : ∃ Y, Y = Y2 ++ [44] := ⟨_, rfl⟩; rw [← hY3] at ho3; have hyl3 : Y3.length ≤ 100000100 + 10 * 3 := (by rw [hY3, List.length_append, List.length_singleton]; omega); have HY3 := hide hY3; have Ho3 := hide ho3; obtain ⟨a3, c3, rfl⟩ := own_is ho3; have hz3 := hb3.size; clear ho3 hY3 Ho2 hv3) | (at_builtin; refine app_litB (w := w3) _ rfl _ _ rfl base _ rfl Y3 (unhide Ho3) (by omega) [125] rfl rfl (by simp) (by rw [List.length_singleton]; omega) ?_; intro v4 w4 hb4 ho4 hv4; obtain ⟨Y4, hY4⟩ : ∃ Y, Y = Y3 ++ [125] := ⟨_, rfl⟩; rw [← hY4] at ho4; have hyl4 : Y4.length ≤ 100000100 + 10 * 4 := (by rw [hY4, List.length_append, List.length_singleton]; omega); have HY4 := hide hY4; have Ho4 := hide ho4; obtain ⟨a4, c4, rfl⟩ := own_is ho4; have hz4 := hb4.size; clear ho4 hY4 Ho3 hv4))
    go_ret
    refine ⟨_, rfl, ?_, hb1.trans (hb2.trans (hb3.trans hb4))⟩
    rw [unhide HZ, ← unhide HY1, ← unhide HY2, ← unhide HY3, ← unhide HY4]
    exact unhide Ho4
  by_cases a5 : lo = hi
  · have HE := hide (((unhide hE).trans (if_neg a4)).trans (if_pos a5))
    subst a5
    have c3 : (lo != lo) = false := by simp
    clear hE a1 a2 a3 h2
    obtain ⟨Z, hZ⟩ : ∃ Z, Z = os ++ repT lo lo := ⟨_, rfl⟩
    rw [← hZ]
    have HZ : Hid (Z = os ++ [123] ++ decT lo ++ [125]) := by show Z = _; rw [hZ, unhide HE]; simp
    clear hZ HE
    have Ho0 := hide (unhide Hown)
    have dd : ((lo == 0) = true ∧ (lo == 1) = false ∧ (lo == -1) = false ∧ (lo == 1) = false) ∨ ((lo == 0) = false ∧ (lo == 1) = true ∧ (lo == -1) = false) ∨ ((lo == 0) = false ∧ (lo == 1) = false) := by
      rcases d with ⟨d0, d1, d2⟩ | ⟨d0, d1⟩ | ⟨d0, d1⟩
      · exact Or.inl (by simp; omega)
      · exact Or.inr (Or.inl (by simp; omega))
      · exact Or.inr (Or.inr (by simp; omega))
    clear d
    rcases dd with ⟨d0, d1, d2, d3⟩ | ⟨d0, d1, d2⟩ | ⟨d0, d1⟩
    all_goals
      go_enter Tryz.func59, Tryz.ntmps59
      go_wp2_with (at_builtin; refine app_litB (w := w) _ rfl _ _ rfl base _ rfl os (unhide Ho0) (by omega) [123] rfl rfl (by simp) (by rw [List.length_singleton]; omega) ?_; intro v1 w1 hb1 ho1 hv1; obtain ⟨Y1, hY1⟩ : ∃ Y, Y = os ++ [123] := ⟨_, rfl⟩; rw [← hY1] at ho1; have hyl1 : Y1.length ≤ 100000100 + 10 * 1 := (by rw [hY1, List.length_append, List.length_singleton]; omega); have HY1 := hide hY1; have Ho1 := hide ho1; obtain ⟨a1, c1, rfl⟩ := own_is ho1; have hz1 := hb1.size; clear ho1 hY1 Ho0 hv1)
      refine (appendInt_any lo (by omega) (by omega) base _ Y1 _ (unhide Ho1) (by omega) (Lib.TabBelow.on (unhide Htb) (BK.b (hb1))) (by omega)).mono ?_
      rintro e w2 ⟨v2, rfl, ho2, hb2⟩
      obtain ⟨Y2, hY2⟩ : ∃ Y, Y = Y1 ++ decT lo := ⟨_, rfl⟩
      rw [← hY2] at ho2
      have hyl2 : Y2.length ≤ 100000100 + 10 * 2 := by rw [hY2, List.length_append]; omega
      have HY2 := hide hY2
      have Ho2 := hide ho2
      obtain ⟨a2, c2, rfl⟩ := own_is ho2
      have hz2 := hb2.size
      clear ho2 hY2 Ho1
      go_wp2_with (at_builtin; refine app_litB (w := w2) _ rfl _ _ rfl base _ rfl Y2 (unhide Ho2) (by omega) [125] rfl rfl (by simp) (by rw [List.length_singleton]; omega) ?_; intro v3 w3 hb3 ho3 hv3; obtain ⟨Y3, hY3⟩ : ∃ Y, Y = Y2 ++ [125] := ⟨_, rfl⟩; rw [← hY3] at ho3; have hyl3 : Y3.length ≤ 100000100 + 10 * 3 := (by rw [hY3, List.length_append, List.length_singleton]; omega); have HY3 := hide hY3; have Ho3 := hide ho3; obtain ⟨a3, c3, rfl⟩ := own_is ho3; have hz3 := hb3.size; clear ho3 hY3 Ho2 hv3)
      go_ret
      refine ⟨_, rfl, ?_, hb1.trans (hb2.trans hb3)⟩
      rw [unhide HZ, ← unhide HY1, ← unhide HY2, ← unhide HY3]
      exact unhide Ho3
  · have HE := hide (((unhide hE).trans (if_neg a4)).trans (if_neg a5))
    have c3 : (hi != lo) = true := by simp; omega
    have c4 : (hi != -1) = true := by simp; omega
    have h3 : 0 ≤ hi ∧ hi ≤ 250 := by omega
    clear hE a1 a2 a3 h2
    obtain ⟨Z, hZ⟩ : ∃ Z, Z = os ++ repT lo hi := ⟨_, rfl⟩
    rw [← hZ]
    have HZ : Hid (Z = os ++ [123] ++ decT lo ++ [44] ++ decT hi ++ [125]) := by show Z = _; rw [hZ, unhide HE]; simp
    clear hZ HE
    have Ho0 := hide (unhide Hown)
    have dd : ((lo == 0) = true ∧ (lo == 1) = false ∧ (hi == -1) = false ∧ (hi == 1) = false) ∨ ((lo == 0) = false ∧ (lo == 1) = true ∧ (hi == -1) = false) ∨ ((lo == 0) = false ∧ (lo == 1) = false) := by
      rcases d with ⟨d0, d1, d2⟩ | ⟨d0, d1⟩ | ⟨d0, d1⟩
      · exact Or.inl (by simp; omega)
      · exact Or.inr (Or.inl (by simp; omega))
      · exact Or.inr (Or.inr (by simp; omega))
    clear d
    rcases dd with ⟨d0, d1, d2, d3⟩ | ⟨d0, d1, d2⟩ | ⟨d0, d1⟩
    all_goals
      go_enter Tryz.func59, Tryz.ntmps59
      go_wp2_with (at_builtin; refine app_litB (w := w) _ rfl _ _ rfl base _ rfl os (unhide Ho0) (by omega) [123] rfl rfl (by simp) (by rw [List.length_singleton]; omega) ?_; intro v1 w1 hb1 ho1 hv1; obtain ⟨Y1, hY1⟩ : ∃ Y, Y = os ++ [123] := ⟨_, rfl⟩; rw [← hY1] at ho1; have hyl1 : Y1.length ≤ 100000100 + 10 * 1 := (by rw [hY1, List.length_append, List.length_singleton]; omega); have HY1 := hide hY1; have Ho1 := hide ho1; obtain ⟨a1, c1, rfl⟩ := own_is ho1; have hz1 := hb1.size; clear ho1 hY1 Ho0 hv1)
      refine (appendInt_any lo (by omega) (by omega) base _ Y1 _ (unhide Ho1) (by omega) (Lib.TabBelow.on (unhide Htb) (BK.b (hb1))) (by omega)).mono ?_
      rintro e w2 ⟨v2, rfl, ho2, hb2⟩
      obtain ⟨Y2, hY2⟩ : ∃ Y, Y = Y1 ++ decT lo := ⟨_, rfl⟩
      rw [← hY2] at ho2
      have hyl2 : Y2.length ≤ 100000100 + 10 * 2 := by rw [hY2, List.length_append]; omega
      have HY2 := hide hY2
      have Ho2 := hide ho2
      obtain ⟨a2, c2, rfl⟩ := own_is ho2
      have hz2 := hb2.size
      clear ho2 hY2 Ho1
      go_wp2_with (at_builtin; refine app_litB (w := w2) _ rfl _ _ rfl base _ rfl Y2 (unhide Ho2) (by omega) [44] rfl rfl (by simp) (by rw [List.length_singleton]; omega) ?_; intro v3 w3 hb3 ho3 hv3; obtain ⟨Y3, hY3⟩ : ∃ Y, Y = Y2 ++ [44] := ⟨_, rfl⟩; rw [← hY3] at ho3; have hyl3 : Y3.length ≤ 100000100 + 10 * 3 := (by rw [hY3, List.length_append, List.length_singleton]; omega); have HY3 := hide hY3; have Ho3 := hide ho3; obtain ⟨a3, c3, rfl⟩ := own_is ho3; have hz3 := hb3.size; clear ho3 hY3 Ho2 hv3)
      refine (appendInt_any hi (by omega) (by omega) base _ Y3 _ (unhide Ho3) (by omega) (Lib.TabBelow.on (unhide Htb) (BK.b (BK.trans (BK.trans (hb1) hb2) hb3))) (by omega)).mono ?_
      rintro e w4 ⟨v4, rfl, ho4, hb4⟩
      obtain ⟨Y4, hY4⟩ : ∃ Y, Y = Y3 ++ decT hi := ⟨_, rfl⟩
      rw [← hY4] at ho4
      have hyl4 : Y4.length ≤ 100000100 + 10 * 4 := by rw [hY4, List.length_append]; omega
      have HY4 := hide hY4
      have Ho4 := hide ho4
      obtain ⟨a4, c4, rfl⟩ := own_is ho4
      have hz4 := hb4.size
      clear ho4 hY4 Ho3
      go_wp2_with (at_builtin; refine app_litB (w := w4) _ rfl _ _ rfl base _ rfl Y4 (unhide Ho4) (by omega) [125] rfl rfl (by simp) (by rw [List.length_singleton]; omega) ?_; intro v5 w5 hb5 ho5 hv5; obtain ⟨Y5, hY5⟩ : ∃ Y, Y = Y4 ++ [125] := ⟨_, rfl⟩; rw [← hY5] at ho5; have hyl5 : Y5.length ≤ 100000100 + 10 * 5 := (by rw [hY5, List.length_append, List.length_singleton]; omega); have HY5 := hide hY5; have Ho5 := hide ho5; obtain ⟨a5, c5, rfl⟩ := own_is ho5; have hz5 := hb5.size; clear ho5 hY5 Ho4 hv5)
      go_ret
      refine ⟨_, rfl, ?_, hb1.trans (hb2.trans (hb3.trans (hb4.trans hb5)))⟩
      rw [unhide HZ, ← unhide HY1, ← unhide HY2, ← unhide HY3, ← unhide HY4, ← unhide HY5]
      exact unhide Ho5
theorem canon_uniq {xs ys : List Int} (hx : Canon xs) (hy : Canon ys) (h : ∀ b : Nat, InP xs (xs.length / 2) b = InP ys (ys.length / 2) b) : xs = ys := by
  have key : ∀ b : Nat, b ≤ 256 → ∃ m, Cut xs m b ∧ Cut ys m b ∧ cut xs m b = cut ys m b := by
    intro b
    induction b with
    | zero =>
      intro _
      refine ⟨0, ⟨Nat.zero_le _, fun h => absurd h (by omega), fun h => (hx.2.1 0 (by omega)).1⟩, ⟨Nat.zero_le _, fun h => absurd h (by omega), fun h => (hy.2.1 0 (by omega)).1⟩, by simp [cut]⟩
    | succ b ih =>
      intro hb
      obtain ⟨m, h1, h2, h3⟩ := ih (by omega)
      have hh := h b
      rcases cut_step hx h1 with ⟨q1, q2, q3⟩ | ⟨q1, q2, q3, q4, q5⟩ | ⟨q1, q2, q3, q4⟩ <;> rcases cut_step hy h2 with ⟨r1, r2, r3⟩ | ⟨r1, r2, r3, r4, r5⟩ | ⟨r1, r2, r3, r4⟩ <;> rw [q1, r1] at hh
      · exact ⟨m, q2, r2, by rw [q3, r3, h3]⟩
      · cases hh
      · cases hh
      · cases hh
      · exact ⟨m, q4, r4, by rw [q5, r5, h3]⟩
      · exact absurd (by rw [← h3]; exact q3) (r2 q2)
      · cases hh
      · exact absurd (by rw [h3]; exact r3) (q2 r2)
      · exact ⟨m + 1, q3, r3, by rw [q4, r4, h3]⟩
  obtain ⟨m, h1, h2, h3⟩ := key 256 (Nat.le_refl _)
  rw [← cut_all hx h1, ← cut_all hy h2, h3]
theorem words_same {g g' : Nat → Nat} (hg : Fit g) (hg' : Fit g') (h : ∀ b : Nat, Bt g b = Bt g' b) (j : Nat) : g j = g' j := by
  apply Nat.eq_of_testBit_eq
  intro i
  by_cases hi : i < 64
  · have := h (64 * j + i)
    unfold Bt at this
    rwa [show (64 * j + i) / 64 = j by omega, show (64 * j + i) % 64 = i by omega] at this
  · have hp : ∀ {x : Nat}, x < 18446744073709551616 → x.testBit i = false := fun {x} hx => Nat.testBit_lt_two_pow (Nat.lt_of_lt_of_le hx (by
      have : (2 : Nat) ^ 64 ≤ 2 ^ i := Nat.pow_le_pow_right (by decide) (by omega)
      exact this))
    rw [hp (hg j), hp (hg' j)]
set_option maxHeartbeats 2000000 in
set_option maxRecDepth 100000 in
theorem singleByte_w (w : World) : Calls Tryz.prog 92 #[.int .i64 10] w fun e w' => (∃ g, e = .returned (ws4 g) ∧ Fit g ∧ ∀ b : Nat, Bt g b = (false || decide ((10 : Int) ≤ (b : Int) ∧ (b : Int) ≤ 10))) ∧ Below w.heap.size w w' := by
  have hB0 := below1 w (.cells #[.int .u64 0, .int .u64 0, .int .u64 0, .int .u64 0] 102)
  go_enter Tryz.func92, Tryz.ntmps92
  go_wp2_with fail
  refine (with_w (fun _ => 0) 10 10 _ zero_fit (by omega) (by omega) (by omega)).mono ?_
  rintro e w1 ⟨q, rfl, hq, hbt, hb1⟩
  have hrow := box4 (hb1.mono (by rw [sz_alloc]; omega))
  have hB1 : Below w.heap.size w w1 := hB0.trans (hb1.mono (by rw [sz_alloc]; omega))
  have d0 := hrow.cell (i := 0) (by omega)
  have d1 := hrow.cell (i := 1) (by omega)
  have d2 := hrow.cell (i := 2) (by omega)
  have d3 := hrow.cell (i := 3) (by omega)
  have f0 := hrow.frozen 0
  have f1 := hrow.frozen 1
  have f2 := hrow.frozen 2
  have f3 := hrow.frozen 3
  have HQ := hide hq
  have HB : Hid (∀ b : Nat, Bt q b = (false || decide ((10 : Int) ≤ (b : Int) ∧ (b : Int) ≤ 10))) := fun b => by rw [hbt b, zero_bt]
  clear hrow hb1 hq hbt
  unfold ws4
  go_wp2
  refine bodyPost_ret (v := .agg #[.int .u64 (q 0 : Nat), .int .u64 (q 1 : Nat), .int .u64 (q 2 : Nat), .int .u64 (q 3 : Nat)]) (by simp [results, Tryz.results92, go_sem, d0, d1, d2, d3]) rfl ⟨⟨q, rfl, unhide HQ, unhide HB⟩, ?_⟩
  exact bput (bput (bput (bput hB1 (by omega) _) (by omega) _) (by omega) _) (by omega) _
set_option maxHeartbeats 2000000 in
set_option maxRecDepth 100000 in
theorem allBut_w (w : World) : Calls Tryz.prog 77 #[] w fun e w' => (∃ g, e = .returned (ws4 g) ∧ WordsOf [0, 9, 11, 255] g) ∧ Below w.heap.size w w' := by
  have hB0 := below1 w (.cells #[.int .u64 0, .int .u64 0, .int .u64 0, .int .u64 0] 102)
  go_enter Tryz.func77, Tryz.ntmps77
  go_wp2_with fail
  refine (singleByte_w _).mono ?_
  rintro e w0 ⟨⟨g0, rfl, hf0, hbt0⟩, hb0⟩
  have HF := hide hf0
  have HW := hide (words_dot hf0 hbt0)
  have hz0 := hb0.size
  rw [sz_alloc] at hz0
  have Hb0 := hide hb0
  clear hf0 hbt0 hb0
  unfold ws4
  go_wp2_with fail
  refine (complement_w g0 _ (unhide HF)).mono ?_
  rintro e w1 ⟨rfl, hb1⟩
  have hrow := box4 (Below.trans ((unhide Hb0).mono (by rw [sz_alloc]; omega)) (hb1.mono (by omega)))
  have hB1 : Below w.heap.size w w1 := hB0.trans ((Below.trans ((unhide Hb0).mono (by rw [sz_alloc]; omega)) (hb1.mono (by omega))))
  have d0 := hrow.cell (i := 0) (by omega)
  have d1 := hrow.cell (i := 1) (by omega)
  have d2 := hrow.cell (i := 2) (by omega)
  have d3 := hrow.cell (i := 3) (by omega)
  have f0 := hrow.frozen 0
  have f1 := hrow.frozen 1
  have f2 := hrow.frozen 2
  have f3 := hrow.frozen 3
  clear hrow hb1 Hb0
  generalize cmp4 g0 = q at *
  unfold ws4
  go_wp2
  refine bodyPost_ret (v := .agg #[.int .u64 (q 0 : Nat), .int .u64 (q 1 : Nat), .int .u64 (q 2 : Nat), .int .u64 (q 3 : Nat)]) (by simp [results, Tryz.results77, go_sem, d0, d1, d2, d3]) rfl ⟨⟨q, rfl, unhide HW⟩, ?_⟩
  exact bput (bput (bput (bput hB1 (by omega) _) (by omega) _) (by omega) _) (by omega) _
theorem words_ne {xs ys : List Int} {g q : Nat → Nat} (hx : WordsOf xs g) (hy : WordsOf ys q) (cx : Canon xs) (cy : Canon ys) : xs = ys ↔ ∀ j, g j = q j := by
  constructor
  · rintro rfl j
    exact words_same hx.1 hy.1 (fun b => by rw [hx.2, hy.2]) j
  · intro h
    exact canon_uniq cx cy (fun b => by rw [← hx.2, ← hy.2]; unfold Bt; rw [h])
theorem words_top {xs : List Int} {g : Nat → Nat} (hx : WordsOf xs g) (cx : Canon xs) (j : Nat) (hj : 4 ≤ j) : g j = 0 := by
  apply Nat.eq_of_testBit_eq
  intro i
  rw [Nat.zero_testBit]
  by_cases hi : i < 64
  · have h1 := hx.2 (64 * j + i)
    unfold Bt at h1
    rw [show (64 * j + i) / 64 = j by omega, show (64 * j + i) % 64 = i by omega] at h1
    rw [h1]
    cases hq : InP xs (xs.length / 2) (64 * j + i) with
    | false => rfl
    | true =>
      obtain ⟨k, hk, h2, h3⟩ := (inP_iff _ _ _).1 hq
      have := (cx.2.1 (2 * k + 1) (by omega)).2
      omega
  · exact Nat.testBit_lt_two_pow (Nat.lt_of_lt_of_le (hx.1 j) (by
      have : (2 : Nat) ^ 64 ≤ 2 ^ i := Nat.pow_le_pow_right (by decide) (by omega)
      exact this))
theorem words_four {xs ys : List Int} {g q : Nat → Nat} (hx : WordsOf xs g) (hy : WordsOf ys q) (cx : Canon xs) (cy : Canon ys) : xs = ys ↔ (g 0 = q 0 ∧ g 1 = q 1 ∧ g 2 = q 2 ∧ g 3 = q 3) := by
  rw [words_ne hx hy cx cy]
  refine ⟨fun h => ⟨h 0, h 1, h 2, h 3⟩, fun ⟨h0, h1, h2, h3⟩ j => ?_⟩
  by_cases hj : 4 ≤ j
  · rw [words_top hx cx j hj, words_top hy cy j hj]
  · have : j = 0 ∨ j = 1 ∨ j = 2 ∨ j = 3 := by omega
    rcases this with rfl | rfl | rfl | rfl
    · exact h0
    · exact h1
    · exact h2
    · exact h3
set_option maxRecDepth 100000 in
set_option maxHeartbeats 2000000 in
theorem eqSet (a0 a1 a2 a3 c0 c1 c2 c3 : Int) (w : World) : (Op.equalIn 10000 102 (.agg #[.int .u64 a0, .int .u64 a1, .int .u64 a2, .int .u64 a3]) (.agg #[.int .u64 c0, .int .u64 c1, .int .u64 c2, .int .u64 c3])).run Tryz.prog w = .ok (a0 == c0 && a1 == c1 && a2 == c2 && a3 == c3) w := by
  have u3 := Tryz.underlying100
  have a3' := Tryz.isAgg100
  have z3 := Tryz.sizeOf100
  rw [show (10000 : Nat) = 9999 + 1 from rfl, Op.equalIn]
  simp only [Sem.run_bind, run_underlying Tryz.underlying102, Result.andThen_ok]
  simp only [Std.Legacy.Range.forIn_eq_forIn_range', Std.Legacy.Range.size, Nat.sub_zero, Nat.add_sub_cancel, Nat.div_one, List.range'_succ, List.range'_zero, List.forIn_cons, List.forIn_nil]
  go_simp
  by_cases h0 : a0 = c0 <;> by_cases h1 : a1 = c1 <;> by_cases h2 : a2 = c2 <;> by_cases h3 : a3 = c3 <;> simp [h0, h1, h2, h3]
theorem BK.below {base : Nat} {w w' : World} (h : Below w.heap.size w w') (hb : base ≤ w.heap.size) : BK base w w' := ⟨h.mono hb, fun k o hk _ _ => by rw [h.block k (Array.getElem?_eq_some_iff.1 hk).1]; exact hk⟩
theorem own_bk {base b n : Nat} {w w' : World} {v : Value} {xs : List Value} (h : w.ownsRow b 3 1 v n xs) (hb : BK base w w') : w'.ownsRow b 3 1 v n xs := by
  refine ⟨h.1, ?_⟩
  rcases h.2 with h2 | ⟨g, cap, cur, h1, h2, h3, h4⟩
  · exact Or.inl h2
  · exact Or.inr ⟨g, cap, cur, h1, h2, hb.o g _ h3 (by simp) (fun c fz e => by simp at e), h4⟩
theorem rngsT_mono (xs : List Int) {n m : Nat} (h : n ≤ m) : (rngsT xs n).length ≤ (rngsT xs m).length := by
  induction h with
  | refl => exact Nat.le_refl _
  | step _ ih => simp only [rngsT, List.length_append]; omega
theorem bool4 {g q : Nat → Nat} (p : Prop) (h : p ↔ (g 0 = q 0 ∧ g 1 = q 1 ∧ g 2 = q 2 ∧ g 3 = q 3)) : ((((g 0 : Int) == (q 0 : Int)) && ((g 1 : Int) == (q 1 : Int)) && ((g 2 : Int) == (q 2 : Int)) && ((g 3 : Int) == (q 3 : Int))) = true) ↔ p := by
  rw [h]
  simp only [Bool.and_eq_true, beq_iff_eq]
  omega
set_option maxHeartbeats 4000000 in
set_option maxRecDepth 100000 in
theorem appendSet_any (xs : List Int) (g : Nat → Nat) (hw : WordsOf xs g) (hc : Canon xs) (hx : xs.length ≤ 300) : AppT 57 (fun v => #[v, ws4 g]) (setT xs) := by
  intro base ov os w hown hbase hlen
  have Hown := hide hown
  obtain ⟨oa, oc, rfl⟩ := own_is hown
  have hl : os.length ≤ 100000000 := by omega
  have HLen := hide hlen
  obtain ⟨Z, hZ⟩ : ∃ Z, Z = os ++ setT xs := ⟨_, rfl⟩
  rw [← hZ]
  have HZ := hide hZ
  have HW := hide hw
  have HC := hide hc
  have hrow := hide (four_row w 102 g)
  have hB0 := below1 w (.cells #[.int .u64 (g 0 : Nat), .int .u64 (g 1 : Nat), .int .u64 (g 2 : Nat), .int .u64 (g 3 : Nat)] 102)
  clear hown hlen hZ hw hc
  unfold ws4
  go_enter Tryz.func57, Tryz.ntmps57
  go_wp2_with fail
  have hz0 : (w.alloc (.cells #[.int .u64 (g 0 : Nat), .int .u64 (g 1 : Nat), .int .u64 (g 2 : Nat), .int .u64 (g 3 : Nat)] 102)).heap.size = w.heap.size + 1 := sz_alloc _ _
  generalize w.alloc (.cells #[.int .u64 (g 0 : Nat), .int .u64 (g 1 : Nat), .int .u64 (g 2 : Nat), .int .u64 (g 3 : Nat)] 102) = W0 at *
  have hz0' : w.heap.size + 1 ≤ W0.heap.size := by omega
  clear hz0
  have Hcell : Hid (∀ W, Below W0.heap.size W0 W → W.cell? ⟨w.heap.size, 0, none⟩ = some (.int .u64 (g 0 : Nat)) ∧ W.cell? ⟨w.heap.size, 1, none⟩ = some (.int .u64 (g 1 : Nat)) ∧ W.cell? ⟨w.heap.size, 2, none⟩ = some (.int .u64 (g 2 : Nat)) ∧ W.cell? ⟨w.heap.size, 3, none⟩ = some (.int .u64 (g 3 : Nat))) := fun W hW => by
    have h := World.rowIs.of_block (unhide hrow) (hW.block w.heap.size (by omega))
    exact ⟨h.cell (i := 0) (by omega), h.cell (i := 1) (by omega), h.cell (i := 2) (by omega), h.cell (i := 3) (by omega)⟩
  obtain ⟨c0, c1, c2, c3⟩ := unhide Hcell W0 (Below.refl _ _)
  have es := eqSet
  go_region_with (
    (go_at_call 76; refine (allBytes_w _).mono ?_; rintro e w1 ⟨⟨q, rfl, hq⟩, hb1⟩; have hB1 : Below W0.heap.size W0 w1 := ⟨hb1.os, hb1.tape, hb1.output, hb1.size, hb1.block⟩; have hq4 := hide (bool4 _ (words_four (unhide HW) hq (unhide HC) canon_all)); obtain ⟨d0, d1, d2, d3⟩ := unhide Hcell w1 hB1; clear hq hb1; unfold ws4))
  all_goals
    clear c0 c1 c2 c3 d0 d1 d2 d3
    obtain ⟨B, hB⟩ : ∃ B, B = (((g 0 : Int) == (q 0 : Int)) && ((g 1 : Int) == (q 1 : Int)) && ((g 2 : Int) == (q 2 : Int)) && ((g 3 : Int) == (q 3 : Int))) := ⟨_, rfl⟩
    rw [← hB] at hq4 ⊢
    clear hB
    have hBw : Below w.heap.size w w1 := hB0.trans (hB1.mono (by omega))
    have Ho1 := hide (own_keep (unhide Hown) hBw (Nat.le_refl _))
    have hz1 := hB1.size
    cases B with
    | true =>
      have HE : Hid (Z = os ++ [91, 94, 93]) := by show Z = _; rw [unhide HZ]; unfold setT; rw [if_pos ((unhide hq4).1 rfl)]
      clear hq4
      go_wp2_with (at_builtin; refine app_strP rfl _ _ rfl base _ rfl os (unhide Ho1) (by omega) _ rfl [91, 94, 93] rfl (by simp; omega) ?_; intro v2 w2 hb2 ho2 hv2)
      go_ret
      exact ⟨_, rfl, by rw [unhide HE]; exact ho2, (BK.below hBw hbase).trans hb2⟩
    | false =>
      have HN1 : Hid (¬ xs = [0, 255]) := fun h => by have := (unhide hq4).2 h; cases this
      clear hq4
      obtain ⟨c0, c1, c2, c3⟩ := unhide Hcell w1 hB1
      go_wp2_with fail
      go_region_with (
        (go_at_call 77; refine (allBut_w _).mono ?_; rintro e w2 ⟨⟨q2, rfl, hq2⟩, hb2⟩; have hB2 : Below W0.heap.size W0 w2 := hB1.trans (Below.mono ⟨hb2.os, hb2.tape, hb2.output, hb2.size, hb2.block⟩ hz1); have hp4 := hide (bool4 _ (words_four (unhide HW) hq2 (unhide HC) canon_dot)); obtain ⟨d0, d1, d2, d3⟩ := unhide Hcell w2 hB2; clear hq2 hb2; unfold ws4))
      all_goals
        clear c0 c1 c2 c3
        obtain ⟨B2, hB2e⟩ : ∃ B, B = (((g 0 : Int) == (q2 0 : Int)) && ((g 1 : Int) == (q2 1 : Int)) && ((g 2 : Int) == (q2 2 : Int)) && ((g 3 : Int) == (q2 3 : Int))) := ⟨_, rfl⟩
        rw [← hB2e] at hp4 ⊢
        clear hB2e
        have hBw2 : Below w.heap.size w w2 := hB0.trans (hB2.mono (by omega))
        have Ho2 := hide (own_keep (unhide Hown) hBw2 (Nat.le_refl _))
        have hz2 := hB2.size
        cases B2 with
        | true =>
          have HE : Hid (Z = os ++ [46]) := by show Z = _; rw [unhide HZ]; unfold setT; rw [if_neg (unhide HN1), if_pos ((unhide hp4).1 rfl)]
          clear hp4
          go_wp2_with (at_builtin; refine app_litB (w := w2) _ rfl _ _ rfl base _ rfl os (unhide Ho2) (by omega) [46] rfl rfl (by simp) (by simp; omega) ?_; intro v3 w3 hb3 ho3 hv3)
          go_ret
          exact ⟨_, rfl, by rw [unhide HE]; exact ho3, (BK.below hBw2 hbase).trans hb3⟩
        | false =>
          have HT : Hid (Z = os ++ if xs.length = 2 ∧ xs[0]?.getD 0 = xs[1]?.getD 0 then byT (xs[0]?.getD 0) else 91 :: rngsT xs (xs.length / 2) ++ [93]) := by show Z = _; rw [unhide HZ]; unfold setT; rw [if_neg (unhide HN1), if_neg (fun h => by have := (unhide hp4).2 h; cases this)]
          clear hp4
          go_wp2_with fail
          refine (pairs_own g xs _ (unhide HW) (unhide HC)).mono ?_
          rintro e w3 ⟨v3, rfl, ho3, hb3⟩
          have hBw3 : Below w.heap.size w w3 := hBw2.trans (hb3.mono hBw2.size)
          have Hp3 := hide ho3
          obtain ⟨pa, pc, rfl⟩ := own_is ho3
          have Ho3 := hide (own_keep (unhide Hown) hBw3 (Nat.le_refl _))
          have hz3 := hBw3.size
          have HPC : Hid (∀ W : World, BK base w3 W → ∀ i : Nat, i < xs.length → ∃ b, pa = some ⟨b, 0, none⟩ ∧ W.cell? ⟨b, i, none⟩ = some (.int .i64 (xs[i]?.getD 0))) := fun W hW i hi => by
            obtain ⟨b, cap, ev, hcell⟩ := own_at (own_bk (unhide Hp3) hW) (by omega)
            simp only [Value.slice.injEq, true_and] at ev
            obtain ⟨rfl, rfl⟩ := ev
            refine ⟨b, rfl, ?_⟩
            rw [hcell i hi, List.getElem?_map, getD_of_lt hi]
            rfl
          have Hby := hide (unhide HC).2.1
          have hev := (unhide HC).1
          have Hpo : Hid (∀ m : Nat, 2 * m < xs.length → xs[2 * m]?.getD 0 ≤ xs[2 * m + 1]?.getD 0) := fun m hm => ((unhide HC).2.2 m hm).1
          clear ho3 hb3 d0 d1 d2 d3
          by_cases g9 : xs.length = 2 ∧ xs[0]?.getD 0 = xs[1]?.getD 0
          · have HE := hide ((unhide HT).trans (congrArg (os ++ ·) (if_pos g9)))
            obtain ⟨g1, g2⟩ := g9
            obtain ⟨b, rfl, k0⟩ := unhide HPC w3 (BK.refl _ _) 0 (by omega)
            obtain ⟨b', e', k1⟩ := unhide HPC w3 (BK.refl _ _) 1 (by omega)
            cases e'
            have q0 := unhide Hby 0 (by omega)
            rw [← g2] at k1
            have hbl := byT_len (xs[0]?.getD 0)
            generalize xs[0]?.getD 0 = x0 at *
            have e2 : ((xs.length : Int) == 2) = true := by simp; omega
            have l0 : (0 : Int) < (xs.length : Int) := by omega
            have l1 : (1 : Int) < (xs.length : Int) := by omega
            clear HT g2 g1 hx
            go_wp2_with fail
            go_quiet (fail)
            go_wp2_with fail
            refine (appendByte_any x0 (by omega) (by omega) base _ os _ (by exact own_keep (unhide Ho3) (below_drewN (Below.refl _ _) nq) (Nat.le_refl _)) (by show base ≤ w3.heap.size; omega) (by have h1 := unhide HLen; rw [show (setT xs).length = (byT x0).length by have := congrArg List.length ((unhide HZ).symm.trans (unhide HE)); rw [List.length_append, List.length_append] at this; omega] at h1; exact h1)).mono ?_
            rintro e w4 ⟨v4, rfl, ho4, hb4⟩
            rw [← unhide HE] at ho4
            have Ho4 := hide ho4
            obtain ⟨a4, c4, rfl⟩ := own_is ho4
            clear ho4
            have hBK4 : BK base w w4 := ((BK.below hBw3 hbase).trans (BK.below (below_drewN (Below.refl _ _) nq) (by omega))).trans hb4
            go_wp2
            go_ret
            exact ⟨_, rfl, unhide Ho4, hBK4⟩
          · have HE := hide ((unhide HT).trans (congrArg (os ++ ·) (if_neg g9)))
            have dd : (((xs.length : Int) == 2) = false) ∨ (xs.length = 2 ∧ (xs[0]?.getD 0 == xs[1]?.getD 0) = false) := by
              by_cases q : xs.length = 2
              · exact Or.inr ⟨q, by simp only [beq_eq_false_iff_ne]; exact fun h => g9 ⟨q, h⟩⟩
              · exact Or.inl (by simp; omega)
            clear HT g9
            rcases dd with d | ⟨d1, d2⟩
            · go_wp2_with fail
              go_quiet (fail)
              have hBd : BK base w3 (w3.drewN nq) := BK.below (below_drewN (Below.refl _ _) nq) (by omega)
              have Hod := hide (own_keep (unhide Ho3) (below_drewN (Below.refl _ _) nq) (Nat.le_refl _))
              have hzd := hBd.size
              generalize w3.drewN nq = wd at *
              go_wp2_with (at_builtin; refine app_litB (w := wd) _ rfl _ _ rfl base _ rfl os (unhide Hod) (by omega) [91] rfl rfl (by simp) (by simp; omega) ?_; intro v4 w4 hb4 ho4 hv4; obtain ⟨Y0, hY0⟩ : ∃ Y, Y = os ++ [91] := ⟨_, rfl⟩; rw [← hY0] at ho4; have HY0 := hide hY0; have Ho4 := hide ho4; obtain ⟨a4, c4, rfl⟩ := own_is ho4; have hz4 := hb4.size; clear ho4 hY0 hv4)
              go_loopw [0, 6] (fun ov iv wr => ∃ (n : Nat) (Y : List Int), 2 * n ≤ xs.length ∧ iv = .int .i64 ((2 * n : Nat) : Int) ∧ Y = os ++ [91] ++ rngsT xs n ∧ wr.ownsRow base 5 1 ov Y.length (Y.map mB) ∧ BK base w3 wr) (fun _ iv _ => xs.length - (intOf iv).toNat)
              case atStart => exact ⟨0, Y0, Nat.zero_le _, rfl, by rw [unhide HY0]; simp [rngsT], unhide Ho4, hBd.trans hb4⟩
              case round =>
                obtain ⟨n, Y, hn, rfl, hY, hoY, hbk⟩ := hrel
                have hYl : Y.length ≤ 100003000 := by have := rngsT_len xs n; rw [hY, List.length_append, List.length_append, List.length_singleton]; omega
                have HoY := hide hoY
                obtain ⟨ya, yc, rfl⟩ := own_is hoY
                have hzr := hbk.size
                have HYe := hide hY
                clear hoY hY
                by_cases hlt : 2 * n < xs.length
                · obtain ⟨m, hm⟩ : ∃ m, m = 2 * n := ⟨_, rfl⟩
                  obtain ⟨b, rfl, k0⟩ := unhide HPC wr hbk m (by omega)
                  obtain ⟨b', e', k1⟩ := unhide HPC wr hbk (m + 1) (by omega)
                  cases e'
                  have q0 := unhide Hby m (by omega)
                  have q1 := unhide Hby (m + 1) (by omega)
                  have q2 : xs[m]?.getD 0 ≤ xs[m + 1]?.getD 0 := by rw [hm]; exact unhide Hpo n hlt
                  have HR : Hid (rngsT xs (n + 1) = rngsT xs n ++ rngT (xs[m]?.getD 0) (xs[m + 1]?.getD 0)) := by show rngsT xs (n + 1) = _; rw [hm]; rfl
                  have hmi : ((2 * n : Nat) : Int) = (m : Int) := by omega
                  have f0 : (m : Int) < (xs.length : Int) := by omega
                  have f1 : (m : Int) + 1 < (xs.length : Int) := by omega
                  have f3 : IntKind.i64.wrap ((m : Int) + 1) = (m : Int) + 1 := k64i (by omega) (by omega)
                  have f4 : IntKind.i64.wrap ((m : Int) + 2) = (m : Int) + 2 := k64i (by omega) (by omega)
                  have f5 : (0 : Int) ≤ (m : Int) + 1 := by omega
                  rw [hmi]
                  generalize xs[m]?.getD 0 = lo at *
                  generalize xs[m + 1]?.getD 0 = hi at *
                  have hm1 : m ≤ 2 * n := by omega
                  have hm2 : 2 * n ≤ m := by omega
                  have hrg := rngT_len lo hi
                  have hAL : Y.length + (rngT lo hi).length ≤ 100000000 := by
                    have e1 := congrArg List.length (unhide HR)
                    have e2 := congrArg List.length (unhide HYe)
                    have e3 := congrArg List.length ((unhide HZ).symm.trans (unhide HE))
                    have e4 := rngsT_mono xs (show n + 1 ≤ xs.length / 2 by omega)
                    have e5 := unhide HLen
                    simp only [List.length_append, List.length_cons, List.length_nil] at e1 e2 e3
                    omega
                  clear hm hmi
                  have HA := hide (appendRange_any lo hi (by omega) q2 (by omega) base (.slice ya Y.length yc) Y)
                  go_wp2_with fail
                  go_region_with (
                    (go_at_call 80; refine (unhide HA _ (by exact own_keep (unhide HoY) (below_drewN (Below.refl _ _) 1) (Nat.le_refl _)) (by show base ≤ wr.heap.size; omega) hAL).mono ?_; rintro e w5 ⟨v5, rfl, ho5, hb5⟩; have hb5' : BK base wr w5 := ⟨⟨hb5.b.os, hb5.b.tape, hb5.b.output, hb5.b.size, hb5.b.block⟩, hb5.o⟩; obtain ⟨Y5, hY5⟩ : ∃ Y5, Y5 = Y ++ rngT lo hi := ⟨_, rfl⟩; rw [← hY5] at ho5; have HY5 := hide hY5; have Ho5 := hide ho5; obtain ⟨a5, c5, rfl⟩ := own_is ho5; clear ho5 hY5 hb5))
                  all_goals go_wp2
                  all_goals exact ⟨⟨n + 1, Y5, by omega, by rw [show ((2 * (n + 1) : Nat) : Int) = (m : Int) + 2 by omega], by rw [unhide HY5, unhide HYe, unhide HR]; simp, unhide Ho5, hbk.trans hb5'⟩, by simp [intOf]; omega⟩
                · obtain ⟨m, hm⟩ : ∃ m, m = 2 * n := ⟨_, rfl⟩
                  have hmi : ((2 * n : Nat) : Int) = (m : Int) := by omega
                  have hlt' : ¬ (m : Int) < (xs.length : Int) := by omega
                  rw [hmi]
                  have hnn : Hid (n = xs.length / 2) := by show n = xs.length / 2; omega
                  have HF : Hid (Z = Y ++ [93]) := by show Z = _; rw [unhide HE, unhide HYe, unhide hnn]; simp
                  have hBr : BK base w wr := (BK.below hBw3 hbase).trans hbk
                  clear hm hmi
                  go_wp2_with (at_builtin; refine app_litB (w := wr) _ rfl _ _ rfl base _ rfl Y (unhide HoY) (by omega) [93] rfl rfl (by simp) (by rw [List.length_singleton]; omega) ?_; intro v6 w6 hb6 ho6 hv6)
                  go_ret
                  exact ⟨_, rfl, by rw [unhide HF]; exact ho6, hBr.trans hb6⟩
            · have e2 : ((xs.length : Int) == 2) = true := by simp; omega
              have l0 : (0 : Int) < (xs.length : Int) := by omega
              have l1 : (1 : Int) < (xs.length : Int) := by omega
              obtain ⟨b0, rfl, k0⟩ := unhide HPC w3 (BK.refl _ _) 0 (by omega)
              obtain ⟨b', e', k1⟩ := unhide HPC w3 (BK.refl _ _) 1 (by omega)
              cases e'
              clear d1
              generalize xs[0]?.getD 0 = x0 at k0 d2
              generalize xs[1]?.getD 0 = x1 at k1 d2
              go_wp2_with fail
              go_quiet (fail)
              clear k0 k1 e2 l0 l1 d2
              have hBd : BK base w3 (w3.drewN nq) := BK.below (below_drewN (Below.refl _ _) nq) (by omega)
              have Hod := hide (own_keep (unhide Ho3) (below_drewN (Below.refl _ _) nq) (Nat.le_refl _))
              have hzd := hBd.size
              generalize w3.drewN nq = wd at *
              go_wp2_with (at_builtin; refine app_litB (w := wd) _ rfl _ _ rfl base _ rfl os (unhide Hod) (by omega) [91] rfl rfl (by simp) (by simp; omega) ?_; intro v4 w4 hb4 ho4 hv4; obtain ⟨Y0, hY0⟩ : ∃ Y, Y = os ++ [91] := ⟨_, rfl⟩; rw [← hY0] at ho4; have HY0 := hide hY0; have Ho4 := hide ho4; obtain ⟨a4, c4, rfl⟩ := own_is ho4; have hz4 := hb4.size; clear ho4 hY0 hv4)
              go_loopw [0, 6] (fun ov iv wr => ∃ (n : Nat) (Y : List Int), 2 * n ≤ xs.length ∧ iv = .int .i64 ((2 * n : Nat) : Int) ∧ Y = os ++ [91] ++ rngsT xs n ∧ wr.ownsRow base 5 1 ov Y.length (Y.map mB) ∧ BK base w3 wr) (fun _ iv _ => xs.length - (intOf iv).toNat)
              case atStart => exact ⟨0, Y0, Nat.zero_le _, rfl, by rw [unhide HY0]; simp [rngsT], unhide Ho4, hBd.trans hb4⟩
              case round =>
                obtain ⟨n, Y, hn, rfl, hY, hoY, hbk⟩ := hrel
                have hYl : Y.length ≤ 100003000 := by have := rngsT_len xs n; rw [hY, List.length_append, List.length_append, List.length_singleton]; omega
                have HoY := hide hoY
                obtain ⟨ya, yc, rfl⟩ := own_is hoY
                have hzr := hbk.size
                have HYe := hide hY
                clear hoY hY
                by_cases hlt : 2 * n < xs.length
                · obtain ⟨m, hm⟩ : ∃ m, m = 2 * n := ⟨_, rfl⟩
                  obtain ⟨b9, e9, k0⟩ := unhide HPC wr hbk m (by omega)
                  cases e9
                  obtain ⟨b', e', k1⟩ := unhide HPC wr hbk (m + 1) (by omega)
                  cases e'
                  have q0 := unhide Hby m (by omega)
                  have q1 := unhide Hby (m + 1) (by omega)
                  have q2 : xs[m]?.getD 0 ≤ xs[m + 1]?.getD 0 := by rw [hm]; exact unhide Hpo n hlt
                  have HR : Hid (rngsT xs (n + 1) = rngsT xs n ++ rngT (xs[m]?.getD 0) (xs[m + 1]?.getD 0)) := by show rngsT xs (n + 1) = _; rw [hm]; rfl
                  have hmi : ((2 * n : Nat) : Int) = (m : Int) := by omega
                  have f0 : (m : Int) < (xs.length : Int) := by omega
                  have f1 : (m : Int) + 1 < (xs.length : Int) := by omega
                  have f3 : IntKind.i64.wrap ((m : Int) + 1) = (m : Int) + 1 := k64i (by omega) (by omega)
                  have f4 : IntKind.i64.wrap ((m : Int) + 2) = (m : Int) + 2 := k64i (by omega) (by omega)
                  have f5 : (0 : Int) ≤ (m : Int) + 1 := by omega
                  rw [hmi]
                  generalize xs[m]?.getD 0 = lo at *
                  generalize xs[m + 1]?.getD 0 = hi at *
                  have hm1 : m ≤ 2 * n := by omega
                  have hm2 : 2 * n ≤ m := by omega
                  have hrg := rngT_len lo hi
                  have hAL : Y.length + (rngT lo hi).length ≤ 100000000 := by
                    have e1 := congrArg List.length (unhide HR)
                    have e2 := congrArg List.length (unhide HYe)
                    have e3 := congrArg List.length ((unhide HZ).symm.trans (unhide HE))
                    have e4 := rngsT_mono xs (show n + 1 ≤ xs.length / 2 by omega)
                    have e5 := unhide HLen
                    simp only [List.length_append, List.length_cons, List.length_nil] at e1 e2 e3
                    omega
                  clear hm hmi
                  have HA := hide (appendRange_any lo hi (by omega) q2 (by omega) base (.slice ya Y.length yc) Y)
                  go_wp2_with fail
                  go_region_with (
                    (go_at_call 80; refine (unhide HA _ (by exact own_keep (unhide HoY) (below_drewN (Below.refl _ _) 1) (Nat.le_refl _)) (by show base ≤ wr.heap.size; omega) hAL).mono ?_; rintro e w5 ⟨v5, rfl, ho5, hb5⟩; have hb5' : BK base wr w5 := ⟨⟨hb5.b.os, hb5.b.tape, hb5.b.output, hb5.b.size, hb5.b.block⟩, hb5.o⟩; obtain ⟨Y5, hY5⟩ : ∃ Y5, Y5 = Y ++ rngT lo hi := ⟨_, rfl⟩; rw [← hY5] at ho5; have HY5 := hide hY5; have Ho5 := hide ho5; obtain ⟨a5, c5, rfl⟩ := own_is ho5; clear ho5 hY5 hb5))
                  all_goals go_wp2
                  all_goals exact ⟨⟨n + 1, Y5, by omega, by rw [show ((2 * (n + 1) : Nat) : Int) = (m : Int) + 2 by omega], by rw [unhide HY5, unhide HYe, unhide HR]; simp, unhide Ho5, hbk.trans hb5'⟩, by simp [intOf]; omega⟩
                · obtain ⟨m, hm⟩ : ∃ m, m = 2 * n := ⟨_, rfl⟩
                  have hmi : ((2 * n : Nat) : Int) = (m : Int) := by omega
                  have hlt' : ¬ (m : Int) < (xs.length : Int) := by omega
                  rw [hmi]
                  have hnn : Hid (n = xs.length / 2) := by show n = xs.length / 2; omega
                  have HF : Hid (Z = Y ++ [93]) := by show Z = _; rw [unhide HE, unhide HYe, unhide hnn]; simp
                  have hBr : BK base w wr := (BK.below hBw3 hbase).trans hbk
                  clear hm hmi
                  go_wp2_with (at_builtin; refine app_litB (w := wr) _ rfl _ _ rfl base _ rfl Y (unhide HoY) (by omega) [93] rfl rfl (by simp) (by rw [List.length_singleton]; omega) ?_; intro v6 w6 hb6 ho6 hv6)
                  go_ret
                  exact ⟨_, rfl, by rw [unhide HF]; exact ho6, hBr.trans hb6⟩
end Go.Proofs.YtcmofgehhdfifaaGreatDoor
