import Derived.Test.YtinhliecfjlocaaGreatPk10
import Derived.Laws.EntriesVeiled
import Derived.Test.YtinhliecfjlocaaGreatPk7
import Derived.Test.YtinhliecfjlocaaGreatPk8
import Derived.Lib.BytesEntry
import Derived.Lib.SliceRun
import Derived.Test.YtinhliecfjlocaaGreatPk2
import Derived.Deep.RegionWith
import Derived.Test.YtinhliecfjlocaaGreatPk4
import Derived.Test.YtinhliecfjlocaaGreatPk3
namespace Go.Proofs.YtinhliecfjlocaaGreat
open Go.RowKit
def SkA (bs : List Int) : List Int → Nat → Nat → Prop
  | [], i, j => i = j
  | c :: s, i, j => if c = 256 then ∃ m, i ≤ m ∧ SkA bs s m j else (i < bs.length ∧ bs[i]?.getD 0 = c) ∧ SkA bs s (i + 1) j
theorem SkA.le {bs : List Int} : ∀ {s : List Int} {i j : Nat}, SkA bs s i j → i ≤ j
  | [], _, _, h => Nat.le_of_eq h
  | c :: s, i, j, h => by
    unfold SkA at h
    split at h
    · obtain ⟨m, h1, h2⟩ := h
      exact Nat.le_trans h1 h2.le
    · have := h.2.le
      omega
theorem SkA.app {bs : List Int} {b : List Int} {m j : Nat} (k : SkA bs b m j) : ∀ {a : List Int} {i : Nat}, SkA bs a i m → SkA bs (a ++ b) i j
  | [], _, h => by
    have e : _ = m := h
    subst e
    exact k
  | c :: s, i, h => by
    show SkA bs (c :: (s ++ b)) i j
    unfold SkA at h ⊢
    split
    · rename_i hc
      rw [if_pos hc] at h
      obtain ⟨q, h1, h2⟩ := h
      exact ⟨q, h1, SkA.app k h2⟩
    · rename_i hc
      rw [if_neg hc] at h
      exact ⟨h.1, SkA.app k h.2⟩
theorem SkA.split {bs : List Int} {b : List Int} {j : Nat} : ∀ {a : List Int} {i : Nat}, SkA bs (a ++ b) i j → ∃ m, SkA bs a i m ∧ SkA bs b m j
  | [], i, h => ⟨i, rfl, h⟩
  | c :: s, i, h => by
    have h' : SkA bs (c :: (s ++ b)) i j := h
    unfold SkA at h'
    by_cases hc : c = 256
    · rw [if_pos hc] at h'
      obtain ⟨q, h1, h2⟩ := h'
      obtain ⟨m, h3, h4⟩ := SkA.split h2
      exact ⟨m, by unfold SkA; rw [if_pos hc]; exact ⟨q, h1, h3⟩, h4⟩
    · rw [if_neg hc] at h'
      obtain ⟨m, h3, h4⟩ := SkA.split h'.2
      exact ⟨m, by unfold SkA; rw [if_neg hc]; exact ⟨h'.1, h3⟩, h4⟩
theorem SkA.gap {bs : List Int} {i j : Nat} (h : i ≤ j) : SkA bs [256] i j := by
  unfold SkA
  rw [if_pos rfl]
  exact ⟨j, h, rfl⟩
theorem SkA.one {bs : List Int} {i : Nat} (h : i < bs.length) (h2 : bs[i]?.getD 0 ≠ 256) : SkA bs [bs[i]?.getD 0] i (i + 1) := by
  unfold SkA
  rw [if_neg h2]
  exact ⟨⟨h, rfl⟩, rfl⟩
theorem SkA.join {bs a b : List Int} {i m j : Nat} (h : SkA bs a i m) (k : SkA bs b m j) : SkA bs (jn2 a b) i j := by
  by_cases hj : a.getLast? = some 256 ∧ b.head? = some 256
  · rw [jn2_yes hj]
    obtain ⟨h1, h2⟩ := hj
    obtain ⟨a', rfl⟩ : ∃ a', a = a' ++ [256] := by
      rw [List.getLast?_eq_some_iff] at h1
      exact h1
    cases b with
    | nil => cases h2
    | cons c b' =>
      simp only [List.head?_cons, Option.some.injEq] at h2
      subst h2
      obtain ⟨p, h3, h4⟩ := h.split
      have h5 := h4.le
      unfold SkA at k
      rw [if_pos rfl] at k
      obtain ⟨q, k1, k2⟩ := k
      exact k2.app (SkA.app (SkA.gap (by omega)) h3)
  · rw [jn2_no hj]
    exact k.app h
theorem SkA.window {bs : List Int} {j : Nat} : ∀ {s : List Int} {i k : Nat}, SkA bs s i j → k + 2 < s.length → s[k]?.getD 0 ≠ 256 → s[k + 1]?.getD 0 ≠ 256 → s[k + 2]?.getD 0 ≠ 256 → ∃ p, p + 2 < bs.length ∧ bs[p]?.getD 0 = s[k]?.getD 0 ∧ bs[p + 1]?.getD 0 = s[k + 1]?.getD 0 ∧ bs[p + 2]?.getD 0 = s[k + 2]?.getD 0
  | [], _, _, _, h, _, _, _ => by simp at h
  | c :: s, i, 0, h, hl, g0, g1, g2 => by
    match s, hl with
    | d :: e :: t, _ =>
      simp only [List.getElem?_cons_zero, Option.getD_some, Nat.zero_add, List.getElem?_cons_succ] at g0 g1 g2 ⊢
      unfold SkA at h
      rw [if_neg g0] at h
      obtain ⟨⟨-, a0⟩, h⟩ := h
      unfold SkA at h
      rw [if_neg g1] at h
      obtain ⟨⟨-, a1⟩, h⟩ := h
      unfold SkA at h
      rw [if_neg g2] at h
      obtain ⟨⟨l2, a2⟩, -⟩ := h
      exact ⟨i, l2, a0, a1, a2⟩
  | c :: s, i, k + 1, h, hl, g0, g1, g2 => by
    simp only [List.getElem?_cons_succ] at g0 g1 g2 ⊢
    have hl' : k + 2 < s.length := by simp only [List.length_cons] at hl; omega
    unfold SkA at h
    split at h
    · obtain ⟨m, -, h2⟩ := h
      exact SkA.window h2 hl' g0 g1 g2
    · exact SkA.window h.2 hl' g0 g1 g2
theorem ok_box {w : World} {B : Nat} {t : TypeId} {u v : Value} {q : Cl Int} (hq : q.ok mI 0 3 w) (ht : t ≠ 3) (hb : Boxed w B t v) : q.ok mI 0 3 (w.setCell ⟨B, 0, none⟩ u) := by
  refine hq.same (fun hp => Below.heap_setCell _ _ _ _ ?_)
  intro e
  have e' : q.b = B := e
  obtain ⟨a, cap, -, -, hc⟩ := hq
  obtain ⟨off, -, ⟨c, h1⟩, -⟩ := hc hp
  rw [e', show w.heap[B]? = _ from hb] at h1
  simp at h1
  exact ht h1.2
theorem ok_box_row {w : World} {B base : Nat} {t : TypeId} {v r : Value} {ks : List (Cl Int)} (h : LR base w r ks) (ht : t ≠ 3 ∧ t ≠ 34) (hb : Boxed w B t v) (u : Value) : LR base (w.setCell ⟨B, 0, none⟩ u) r ks :=
  ⟨ownsRow_setCell_other h.own (fun e => hb.not_row ht.2 h.own e.symm) u, fun p hp => ok_box (h.ok p hp) ht.1 hb⟩
def SubP (d c : List Int) : Prop := ∀ z, z ∈ d → z ∈ c
theorem Boxed.below' {w w' : World} {B m : Nat} {t : TypeId} {v : Value} (h : Boxed w B t v) (hb : Below m w w') (hm : B < m) : Boxed w' B t v := (hb.block B hm).trans h
structure Lim (xss : List (List Int)) : Prop where
  len : xss.length ≤ 1000
  each : ∀ k : Nat, k < xss.length → (xss[k]?.getD []).length ≤ 1000 ∧ ∀ j : Nat, j < (xss[k]?.getD []).length → 0 ≤ (xss[k]?.getD [])[j]?.getD 0 ∧ (xss[k]?.getD [])[j]?.getD 0 ≤ 16777215
def NormR (xss rs : List (List Int)) : Prop := (Lim xss ∧ NormV xss rs) ∨ (¬ Lim xss ∧ rs = [])
theorem NormR.uniq {xss rs rs' : List (List Int)} (h : NormR xss rs) (k : NormR xss rs') : rs = rs' := by
  rcases h with ⟨h1, h2⟩ | ⟨h1, h2⟩ <;> rcases k with ⟨k1, k2⟩ | ⟨k1, k2⟩
  · exact h2.uniq k2
  · exact absurd h1 k1
  · exact absurd k1 h1
  · rw [h2, k2]
def hd (xs : List Int) : List Int := xs.takeWhile (fun x => x != 10)
theorem hd_take (ys : List Int) (m : Nat) (h1 : m ≤ ys.length) (h2 : ∀ j : Nat, j < m → ys[j]?.getD 0 ≠ 10) (h3 : m = ys.length ∨ ys[m]?.getD 0 = 10) : hd ys = ys.take m := by
  unfold hd
  induction ys generalizing m with
  | nil => simp
  | cons y r ih =>
    cases m with
    | zero =>
      have h4 : y = 10 := by
        rcases h3 with h3 | h3
        · simp at h3
        · simpa using h3
      subst h4
      simp
    | succ m =>
      have h4 : y ≠ 10 := by simpa using h2 0 (by omega)
      rw [List.takeWhile_cons, if_pos (by simpa using h4), List.take_succ_cons]
      congr 1
      refine ih m (by simpa using h1) (fun j hj => by simpa using h2 (j + 1) (by omega)) ?_
      rcases h3 with h3 | h3
      · exact Or.inl (by simpa using h3)
      · exact Or.inr (by simpa using h3)
theorem drop_get (xs : List Int) (k j : Nat) : (xs.drop k)[j]?.getD 0 = xs[k + j]?.getD 0 := by rw [List.getElem?_drop]
abbrev LB (base : Nat) (w : World) (v : Value) (ps : List (Cl Int)) : Prop := LL mB 0 5 22 base w v ps
def LineAt (bs : List Int) (k n : Nat) (ls : List Int) : Prop := ls = (bs.drop k).take (n - k) ∧ ls.length = n - k ∧ n ≤ bs.length ∧ ∀ j : Nat, j < n - k → bs[k + j]?.getD 0 ≠ 10
theorem LineAt.start (bs : List Int) (k : Nat) (h : k ≤ bs.length) : LineAt bs k k [] := ⟨by simp, by simp, h, fun j hj => by omega⟩
theorem LineAt.len {bs ls : List Int} {k n : Nat} (h : LineAt bs k n ls) : ls.length = n - k := h.2.1
theorem LineAt.hd {bs ls : List Int} {k n : Nat} (h : LineAt bs k n ls) (he : n = bs.length ∨ bs[n]?.getD 0 = 10) (hk : k ≤ n) : hd (bs.drop k) = ls := by
  rw [h.1]
  have := h.2.2.1
  refine hd_take _ _ (by simp; omega) (fun j hj => by rw [drop_get]; exact h.2.2.2 j hj) ?_
  rcases he with he | he
  · exact Or.inl (by simp; omega)
  · exact Or.inr (by rw [drop_get, show k + (n - k) = n by omega]; exact he)
theorem LineAt.step {bs ls : List Int} {k n : Nat} (h : LineAt bs k n ls) (hk : k ≤ n) (hn : n < bs.length) (hx : bs[n]?.getD 0 ≠ 10) : LineAt bs k (n + 1) (ls ++ [bs[n]?.getD 0]) := by
  refine ⟨?_, by rw [List.length_append, h.2.1]; simp; omega, by omega, fun j hj => ?_⟩
  · rw [show n + 1 - k = n - k + 1 by omega, List.take_add_one, ← h.1, List.getElem?_drop, show k + (n - k) = n by omega, List.getElem?_eq_getElem hn]
    rfl
  · by_cases e : j < n - k
    · exact h.2.2.2 j e
    · rw [show k + j = n by omega]; exact hx
def ix (bs : List Int) : Int := if (hd bs).length < bs.length then ((hd bs).length : Int) else -1
theorem ix_cons (x : Int) (r : List Int) : ix (x :: r) = if x = 10 then 0 else if ix r = -1 then -1 else ix r + 1 := by
  unfold ix hd
  rw [List.takeWhile_cons]
  by_cases e : x = 10
  · subst e; simp
  · simp only [bne_iff_ne, ne_eq, e, not_false_eq_true, if_true, List.length_cons, if_false]
    by_cases h : (List.takeWhile (fun x => x != 10) r).length < r.length
    · rw [if_pos (by omega), if_pos h, if_neg (by omega)]
      omega
    · rw [if_neg (by omega), if_neg h, if_pos rfl]
theorem ix_lib (bs : List Int) (hb : ∀ x ∈ bs, 0 ≤ x ∧ x ≤ 255) : Lib.indexByte (Lib.bytesOf bs) (10 : Int).toNat.toUInt8 = ix bs := by
  induction bs with
  | nil => rfl
  | cons x r ih =>
    have hx := hb x (by simp)
    rw [ix_cons, ← ih (fun y hy => hb y (by simp [hy]))]
    have e : (UInt8.ofNat x.toNat == (10 : Int).toNat.toUInt8) = decide (x = 10) := by
      have e1 : (10 : Int).toNat.toUInt8 = UInt8.ofNat 10 := rfl
      rw [e1, Bool.eq_iff_iff, beq_iff_eq, decide_eq_true_iff]
      constructor
      · intro h
        have h2 := congrArg UInt8.toNat h
        rw [UInt8.toNat_ofNat', UInt8.toNat_ofNat'] at h2
        omega
      · intro h
        rw [h]
        rfl
    show Lib.indexByte (UInt8.ofNat x.toNat :: Lib.bytesOf r) _ = _
    simp only [Lib.indexByte, e, decide_eq_true_eq, beq_iff_eq]
theorem ix_lo (bs : List Int) : -1 ≤ ix bs := by unfold ix; split <;> omega
theorem bytes_mem {bs : List Int} (h : Bytes bs) : ∀ x ∈ bs, 0 ≤ x ∧ x ≤ 255 := by
  intro x hx
  obtain ⟨i, hi, rfl⟩ := List.mem_iff_getElem.1 hx
  have := h i
  rw [List.getElem?_eq_getElem hi] at this
  exact this
theorem run_ixb {P : Program} (w : World) (a : Option Addr) (N c : Nat) (bs : List Int) (hv : SlAt mB 0 0 N w (.slice a bs.length c) bs) (hb : Bytes bs) :
    (Extern.BytealgIndexByte.indexByte #[.slice a bs.length c, .int .u8 10]).run P w = .ok (.int .i64 (ix bs)) w := by
  rw [← ix_lib bs (bytes_mem hb)]
  obtain ⟨a', c', e, -, hc⟩ := hv
  cases e
  by_cases hp : 0 < bs.length
  · obtain ⟨b, off, rfl, -, -, hcell⟩ := hc hp
    exact Lib.run_indexByteSlice w b off bs.length c bs rfl (fun i hi => by rw [hcell i hi, List.getD_eq_getElem?_getD]; rfl) 10
  · have e0 : bs = [] := List.eq_nil_of_length_eq_zero (by omega)
    subst e0
    cases a with
    | none => exact Lib.run_indexByteNil w _ c 10
    | some ad => rfl
set_option maxHeartbeats 1000000 in
set_option maxRecDepth 100000 in
theorem indexByte_any (v : Value) (bs : List Int) (N : Nat) (w : World) (hv : SlAt mB 0 0 N w v bs) (hb : Bytes bs) :
    Calls Tryz.prog 91 #[v, .int .u8 10] w fun e w' => e = .returned (.int .i64 (ix bs)) ∧ w' = w := by
  have Hv := hide hv
  obtain ⟨a, cap, rfl, -, -⟩ := hv
  go_enter Tryz.func91, Tryz.ntmps91
  go_wp2
  rw [run_callFunc_extern Tryz.func128 (by kernel_rfl) (by kernel_rfl) (by kernel_rfl) (e := Extern.BytealgIndexByte.indexByte) (by kernel_rfl), run_ixb w a N cap bs (unhide Hv) hb]
  simp only [Result.andThen]
  rw [Oper.upon_value]
  go_wp2
  go_ret
  exact ⟨rfl, rfl⟩
theorem app_bytes {w : World} {ops : Array Oper} {rest : List Oper} {o : Oper} {a : Act} {Q : Exit → Act → World → Prop} (hgd : o.guard = none) (s x : Operand)
    (ho : o.op = .call { callee := .builtin .append, args := #[s, x], argTypes := #[22, 22] }) (base : Nat) (v : Value) (os : List Int) (hs : a.eval s = v) (hown : w.ownsRow base 5 1 v os.length (os.map mB)) (hbase : base ≤ w.heap.size)
    (sv : Value) (hx : a.eval x = sv) (xs : List Int) (hv : SlAt mB 0 0 w.heap.size w sv xs) (hlen : os.length + xs.length ≤ 1073741824)
    (h : ∀ v' w', Below base w w' → w.grownBy w' v.ownBlock → w'.ownsRow base 5 1 v' (os ++ xs).length ((os ++ xs).map mB) → v'.oneCell' = true → wpList Tryz.prog ops Q rest (a.put o.dst v') w') : wpList Tryz.prog ops Q (o :: rest) a w := by
  obtain ⟨i0, hi, hz0, hz1, hz2⟩ := info_parts Tryz.zinByte
  obtain ⟨sa, sc, rfl, hl, hc⟩ := hv
  cases sa with
  | none =>
    have h0 : xs = [] := by
      refine List.eq_nil_of_length_eq_zero ?_
      by_cases q : 0 < xs.length
      · obtain ⟨b, off, e, -⟩ := hc q; simp at e
      · omega
    subst h0
    obtain ⟨oa, oc, e⟩ := own_is hown
    exact wpList_append_none_c hgd s x 22 ho base 5 i0 1 Tryz.underlying22 hi _ os.length _ hs hown sc hx (h _ w (Below.refl _ _) ⟨rfl, rfl, rfl, Nat.le_refl _, fun _ _ _ => rfl⟩ (by rw [List.append_nil]; exact hown) (by rw [e]; rfl))
  | some ad =>
    refine wpList_append_own_at w hgd s x 22 ho base 5 i0 (.int .u8 0) 1 1 Tryz.underlying22 hi hz0 hz1 hz2 rfl (by decide) _ os.length (os.map mB) hs hown ad xs.length sc (xs.map mB) hx (by simp) ?_ ?_ (by unfold maxLen; omega) (by omega) hbase ?_
    · intro j u hu
      have hj : j < xs.length := by
        have := (List.getElem?_eq_some_iff.1 hu).1
        simpa using this
      obtain ⟨b, off, e, -, -, hcell⟩ := hc (by omega)
      simp only [Option.some.injEq] at e
      subst e
      rw [List.getElem?_map, getD_of_lt hj] at hu
      simp only [Option.map_some, Option.some.injEq] at hu
      subst hu
      have e3 : (⟨b, off, none⟩ : Addr).add j = ⟨b, off + j, none⟩ := by cases j <;> rfl
      rw [e3]
      exact hcell j hj
    · intro u hu
      obtain ⟨y, -, rfl⟩ := List.mem_map.1 hu
      rfl
    · intro v' w' h1 hg _ _
      have e1 : (os ++ xs).length = os.length + xs.length := List.length_append
      obtain ⟨oa, oc, rfl⟩ := own_is h1
      exact h _ w' ((Below.refl _ _).grown hg hbase (fun k hk => (hown.lt k hk).1)) hg (by rw [e1, List.map_append]; exact h1) rfl
set_option maxHeartbeats 2000000 in
set_option maxRecDepth 100000 in
theorem bclone_any (v : Value) (bs : List Int) (w : World) (hv : SlAt mB 0 0 w.heap.size w v bs) (hl : bs.length ≤ 1048576) :
    Calls Tryz.prog 25 #[v] w fun e w' => (∃ v', e = .returned v' ∧ w'.ownsRow w.heap.size 5 1 v' bs.length (bs.map mB)) ∧ Below w.heap.size w w' := by
  have Hv := hide hv
  obtain ⟨a, cap, rfl, hml, hc⟩ := hv
  cases a with
  | none =>
    have h0 : bs = [] := by
      refine List.eq_nil_of_length_eq_zero ?_
      by_cases q : 0 < bs.length
      · obtain ⟨b, off, e, -⟩ := hc q; simp at e
      · omega
    subst h0
    clear hc
    have hn := Lib.run_eql_slice_nil (P := Tryz.prog) w 22 _ none 0 cap 0 0 Tryz.underlying22
    go_enter Tryz.func25, Tryz.ntmps25
    go_wp2
    go_ret
    exact ⟨⟨_, rfl, World.ownsRow_nil _ _ _ _⟩, Below.refl _ _⟩
  | some ad =>
    clear hc
    have hn := Lib.run_eql_slice_nil (P := Tryz.prog) w 22 _ (some ad) bs.length cap 0 0 Tryz.underlying22
    go_enter Tryz.func25, Tryz.ntmps25
    have hb1 := below1 w (.cells #[] 5)
    have HV := hide ((unhide Hv).below hb1 (Nat.le_refl _))
    have hO : Hid ((w.alloc (.cells #[] 5)).ownsRow w.heap.size 5 1 (.slice (some ⟨w.heap.size, 0, none⟩) 0 0) ([] : List Int).length (([] : List Int).map mB)) := ⟨rfl, Or.inr ⟨w.heap.size, 0, #[], rfl, Nat.le_refl _, (pushd_alloc w _).new, Nat.le_refl _, Nat.zero_le _, rfl, rfl⟩⟩
    go_wp2_with (at_builtin; refine app_bytes rfl _ _ rfl w.heap.size _ [] rfl (unhide hO) (by rw [sz_alloc]; omega) _ rfl bs (unhide HV) (by simp; omega) ?_; intro v' w' hb2 hg2 ho2 hone)
    go_ret
    exact ⟨⟨_, rfl, by simpa using ho2⟩, hb1.trans hb2⟩
theorem Bytes.drop {bs : List Int} (h : Bytes bs) (k : Nat) : Bytes (bs.drop k) := fun i => by
  rw [drop_get]
  exact h (k + i)
theorem LB.footR {base : Nat} {w : World} {v : Value} {ps : List (Cl Int)} (h : LB base w v ps) : SsF mB 0 (Rng base w.heap.size) w v (ps.map Cl.xs) := by
  refine h.foot (by decide) ?_
  have h1 := own_cap h.own
  obtain ⟨a, c, rfl⟩ := own_is h.own
  have := h1.le
  omega
def Bx3 (w : World) (b : Nat) (t : TypeId) (c0 c1 c2 : Value) : Prop := w.rowIs b t 3 (fun j => [c0, c1, c2].getD j undef)
theorem Bx3.new (w : World) (t : TypeId) (c0 c1 c2 : Value) : Bx3 (w.alloc (.cells #[c0, c1, c2] t)) w.heap.size t c0 c1 c2 :=
  World.rowIs_alloc w #[c0, c1, c2] t _ (fun i hi => by
    match i, hi with
    | 0, _ => rfl
    | 1, _ => rfl
    | 2, _ => rfl)
theorem Bx3.below {w w' : World} {b m : Nat} {t : TypeId} {c0 c1 c2 : Value} (h : Bx3 w b t c0 c1 c2) (hb : Below m w w') (hm : b < m) : Bx3 w' b t c0 c1 c2 := World.rowIs.of_block h (hb.block b hm)
theorem Bx3.blk {w w' : World} {b : Nat} {t : TypeId} {c0 c1 c2 : Value} (h : Bx3 w b t c0 c1 c2) (e : w'.heap[b]? = w.heap[b]?) : Bx3 w' b t c0 c1 c2 := World.rowIs.of_block h e
theorem Bx3.facts {w : World} {b : Nat} {t : TypeId} {c0 c1 c2 : Value} (h : Bx3 w b t c0 c1 c2) : w.cell? ⟨b, 0, none⟩ = some c0 ∧ w.cell? ⟨b, 1, none⟩ = some c1 ∧ w.cell? ⟨b, 2, none⟩ = some c2 :=
  ⟨World.rowIs.cell h (i := 0) (by omega), World.rowIs.cell h (i := 1) (by omega), World.rowIs.cell h (i := 2) (by omega)⟩
end Go.Proofs.YtinhliecfjlocaaGreat
