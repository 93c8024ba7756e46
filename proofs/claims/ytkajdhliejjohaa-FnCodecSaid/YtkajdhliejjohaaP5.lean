import Derived.Test.YtkajdhliejjohaaP4
import Derived.Lib.BytesEntry
import Derived.Lib.SliceRun
import Derived.Deep.RegionHeld3
namespace Go.Proofs.Ytkajdhliejjohaa
open Go.RowKit

/-- Where the first newline of a list stands, or -1. -/
def ix (bs : List Int) : Int := if (hd bs).length < bs.length then ((hd bs).length : Int) else -1
theorem ix_cons (x : Int) (r : List Int) : ix (x :: r) = if x = 10 then 0 else if ix r = -1 then -1 else ix r + 1 := by
  unfold ix hd
  rw [List.takeWhile_cons]
  by_cases e : x = 10
  · subst e; simp
  · simp only [bne_iff_ne, ne_eq, e, not_false_eq_true, if_true, List.length_cons, if_false]
    by_cases h : (List.takeWhile (fun x => x != 10) r).length < r.length
    · rw [if_pos (by omega), if_pos h, if_neg (by omega)]
      omega
    · rw [if_neg (by omega), if_neg h, if_pos rfl]
theorem ix_lib (bs : List Int) (hb : ∀ x ∈ bs, 0 ≤ x ∧ x ≤ 255) : Lib.indexByte (Lib.bytesOf bs) (10 : Int).toNat.toUInt8 = ix bs := by
  induction bs with
  | nil => rfl
  | cons x r ih =>
    have hx := hb x (by simp)
    rw [ix_cons, ← ih (fun y hy => hb y (by simp [hy]))]
    have e : (UInt8.ofNat x.toNat == (10 : Int).toNat.toUInt8) = decide (x = 10) := by
      have e1 : (10 : Int).toNat.toUInt8 = UInt8.ofNat 10 := rfl
      rw [e1, Bool.eq_iff_iff, beq_iff_eq, decide_eq_true_iff]
      constructor
      · intro h
        have h2 := congrArg UInt8.toNat h
        rw [UInt8.toNat_ofNat', UInt8.toNat_ofNat'] at h2
        omega
      · intro h
        rw [h]
        rfl
    show Lib.indexByte (UInt8.ofNat x.toNat :: Lib.bytesOf r) _ = _
    simp only [Lib.indexByte, e, decide_eq_true_eq, beq_iff_eq]
theorem ix_lo (bs : List Int) : -1 ≤ ix bs := by unfold ix; split <;> omega
theorem ix_hi (bs : List Int) : ix bs ≤ bs.length := by unfold ix; split <;> omega
theorem ix_neg {bs : List Int} (h : ix bs < 0) : hd bs = bs := by
  unfold ix at h
  split at h
  · omega
  · rename_i h1
    have h2 : hd bs = bs.takeWhile (fun x => x != 10) := rfl
    have h3 := List.takeWhile_prefix (fun x : Int => x != 10) (l := bs)
    have h4 := hd_len bs
    rw [h2] at h1 h4 ⊢
    exact h3.eq_of_length (by omega)
theorem ix_pos {bs : List Int} (h : 0 ≤ ix bs) : ix bs = ((hd bs).length : Int) ∧ (hd bs).length < bs.length := by
  unfold ix at h ⊢
  split at h
  · rename_i h1; rw [if_pos h1]; exact ⟨rfl, h1⟩
  · omega

theorem bytes_mem {bs : List Int} (h : Bytes bs) : ∀ x ∈ bs, 0 ≤ x ∧ x ≤ 255 := by
  intro x hx
  obtain ⟨i, hi, rfl⟩ := List.mem_iff_getElem.1 hx
  have := h i
  rw [List.getElem?_eq_getElem hi] at this
  exact this

theorem run_ixb {P : Program} (w : World) (a : Option Addr) (N c : Nat) (bs : List Int) (hv : SlAt mB 0 0 N w (.slice a bs.length c) bs) (hb : Bytes bs) :
    (Extern.BytealgIndexByte.indexByte #[.slice a bs.length c, .int .u8 10]).run P w = .ok (.int .i64 (ix bs)) w := by
  rw [← ix_lib bs (bytes_mem hb)]
  obtain ⟨a', c', e, -, hc⟩ := hv
  cases e
  by_cases hp : 0 < bs.length
  · obtain ⟨b, off, rfl, -, -, hcell⟩ := hc hp
    exact Lib.run_indexByteSlice w b off bs.length c bs rfl (fun i hi => by rw [hcell i hi, List.getD_eq_getElem?_getD]; rfl) 10
  · have e0 : bs = [] := List.eq_nil_of_length_eq_zero (by omega)
    subst e0
    cases a with
    | none => exact Lib.run_indexByteNil w _ c 10
    | some ad => rfl

set_option maxHeartbeats 1000000 in
set_option maxRecDepth 100000 in
theorem indexByte_any (v : Value) (bs : List Int) (N : Nat) (w : World) (hv : SlAt mB 0 0 N w v bs) (hb : Bytes bs) :
    Calls Try.prog 57 #[v, .int .u8 10] w fun e w' => e = .returned (.int .i64 (ix bs)) ∧ w' = w := by
  have Hv := hide hv
  obtain ⟨a, cap, rfl, -, -⟩ := hv
  go_enter Try.func57, Try.ntmps57
  go_wp2
  rw [run_callFunc_extern Try.func62 (by kernel_rfl) (by kernel_rfl) (by kernel_rfl) (e := Extern.BytealgIndexByte.indexByte) (by kernel_rfl), run_ixb w a N cap bs (unhide Hv) hb]
  simp only [Result.andThen]
  rw [Oper.upon_value]
  go_wp2
  go_ret
  exact ⟨rfl, rfl⟩

theorem hd_is_take (bs : List Int) : bs.take (hd bs).length = hd bs := by
  have h3 := List.takeWhile_prefix (fun x : Int => x != 10) (l := bs)
  exact (List.prefix_iff_eq_take.1 h3).symm

/-- What cutting at a newline answers. -/
def CutAt (e : Ending) (N : Nat) (w : World) (bs : List Int) : Prop :=
  ∃ va vb r, e = .returned (.tuple #[va, vb, .bool r]) ∧ (SlAt mB 0 0 N w va (hd bs) ∧ CapOk va) ∧ SlAt mB 0 0 N w vb (bs.drop ((hd bs).length + 1)) ∧ CapOk vb

/-- Bytes put behind a list of bytes that is owned. -/
theorem app_bytes {w : World} {ops : Array Oper} {rest : List Oper} {o : Oper} {a : Act} {Q : Exit → Act → World → Prop} (hgd : o.guard = none) (s x : Operand)
    (ho : o.op = .call { callee := .builtin .append, args := #[s, x], argTypes := #[22, 22] }) (base : Nat) (v : Value) (os : List Int) (hs : a.eval s = v) (hown : w.ownsRow base 5 1 v os.length (os.map mB)) (hbase : base ≤ w.heap.size)
    (sv : Value) (hx : a.eval x = sv) (xs : List Int) (hv : SlAt mB 0 0 w.heap.size w sv xs) (hlen : os.length + xs.length ≤ 1073741824)
    (h : ∀ v' w', Below base w w' → w.grownBy w' v.ownBlock → w'.ownsRow base 5 1 v' (os ++ xs).length ((os ++ xs).map mB) → v'.oneCell' = true → wpList Try.prog ops Q rest (a.put o.dst v') w') : wpList Try.prog ops Q (o :: rest) a w := by
  obtain ⟨i0, hi, hz0, hz1, hz2⟩ := info_parts Try.zinByte
  obtain ⟨sa, sc, rfl, hl, hc⟩ := hv
  cases sa with
  | none =>
    have h0 : xs = [] := by
      refine List.eq_nil_of_length_eq_zero ?_
      by_cases q : 0 < xs.length
      · obtain ⟨b, off, e, -⟩ := hc q; simp at e
      · omega
    subst h0
    obtain ⟨oa, oc, e⟩ := own_is hown
    exact wpList_append_none_c hgd s x 22 ho base 5 i0 1 Try.underlying22 hi _ os.length _ hs hown sc hx (h _ w (Below.refl _ _) ⟨rfl, rfl, rfl, Nat.le_refl _, fun _ _ _ => rfl⟩ (by rw [List.append_nil]; exact hown) (by rw [e]; rfl))
  | some ad =>
    refine wpList_append_own_at w hgd s x 22 ho base 5 i0 (.int .u8 0) 1 1 Try.underlying22 hi hz0 hz1 hz2 rfl (by decide) _ os.length (os.map mB) hs hown ad xs.length sc (xs.map mB) hx (by simp) ?_ ?_ (by unfold maxLen; omega) (by omega) hbase ?_
    · intro j u hu
      have hj : j < xs.length := by
        have := (List.getElem?_eq_some_iff.1 hu).1
        simpa using this
      obtain ⟨b, off, e, -, -, hcell⟩ := hc (by omega)
      simp only [Option.some.injEq] at e
      subst e
      rw [List.getElem?_map, getD_of_lt hj] at hu
      simp only [Option.map_some, Option.some.injEq] at hu
      subst hu
      have e3 : (⟨b, off, none⟩ : Addr).add j = ⟨b, off + j, none⟩ := by cases j <;> rfl
      rw [e3]
      exact hcell j hj
    · intro u hu
      obtain ⟨y, -, rfl⟩ := List.mem_map.1 hu
      rfl
    · intro v' w' h1 hg _ _
      have e1 : (os ++ xs).length = os.length + xs.length := List.length_append
      obtain ⟨oa, oc, rfl⟩ := own_is h1
      exact h _ w' ((Below.refl _ _).grown hg hbase (fun k hk => (hown.lt k hk).1)) hg (by rw [e1, List.map_append]; exact h1) rfl

set_option maxHeartbeats 2000000 in
set_option maxRecDepth 100000 in
theorem bclone_any (v : Value) (bs : List Int) (w : World) (hv : SlAt mB 0 0 w.heap.size w v bs) (hl : bs.length ≤ 1048576) :
    Calls Try.prog 27 #[v] w fun e w' => (∃ v', e = .returned v' ∧ w'.ownsRow w.heap.size 5 1 v' bs.length (bs.map mB)) ∧ Below w.heap.size w w' := by
  have Hv := hide hv
  obtain ⟨a, cap, rfl, hml, hc⟩ := hv
  cases a with
  | none =>
    have h0 : bs = [] := by
      refine List.eq_nil_of_length_eq_zero ?_
      by_cases q : 0 < bs.length
      · obtain ⟨b, off, e, -⟩ := hc q; simp at e
      · omega
    subst h0
    clear hc
    have hn := Lib.run_eql_slice_nil (P := Try.prog) w 22 _ none 0 cap 0 0 Try.underlying22
    go_enter Try.func27, Try.ntmps27
    go_wp2
    go_ret
    exact ⟨⟨_, rfl, World.ownsRow_nil _ _ _ _⟩, Below.refl _ _⟩
  | some ad =>
    clear hc
    have hn := Lib.run_eql_slice_nil (P := Try.prog) w 22 _ (some ad) bs.length cap 0 0 Try.underlying22
    go_enter Try.func27, Try.ntmps27
    have hb1 := below1 w (.cells #[] 5)
    have HV := hide ((unhide Hv).below hb1 (Nat.le_refl _))
    have hO : Hid ((w.alloc (.cells #[] 5)).ownsRow w.heap.size 5 1 (.slice (some ⟨w.heap.size, 0, none⟩) 0 0) ([] : List Int).length (([] : List Int).map mB)) := ⟨rfl, Or.inr ⟨w.heap.size, 0, #[], rfl, Nat.le_refl _, (pushd_alloc w _).new, Nat.le_refl _, Nat.zero_le _, rfl, rfl⟩⟩
    go_wp2_with (at_builtin; refine app_bytes rfl _ _ rfl w.heap.size _ [] rfl (unhide hO) (by rw [sz_alloc]; omega) _ rfl bs (unhide HV) (by simp; omega) ?_; intro v' w' hb2 hg2 ho2 hone)
    go_ret
    exact ⟨⟨_, rfl, by simpa using ho2⟩, hb1.trans hb2⟩

end Go.Proofs.Ytkajdhliejjohaa

namespace Go.Proofs.Ytkajdhliejjohaa
open Go.RowKit

/-- No line holds a newline. -/
def Plain (xss : List (List Int)) : Prop := ∀ i : Nat, i < xss.length → ∀ j : Nat, j < (xss[i]?.getD []).length → (xss[i]?.getD [])[j]?.getD 0 ≠ 10
/-- What a segment can be built of. -/
def Fits (base : Int) (xss : List (List Int)) : Prop := 0 ≤ base ∧ 1 ≤ xss.length ∧ base + xss.length ≤ 1000 ∧ Plain xss ∧ tot xss ≤ 20000

theorem l4bytes_any (v : Value) (xss : List (List Int)) (w : World) (hv : SsAt mB 0 w.heap.size w v xss) (hT : tot xss ≤ 1048576) (hL : xss.length ≤ 1048576) :
    Calls Try.prog 36 #[v] w fun e w' => e = .returned (.int .i64 (tot xss)) ∧ w' = w := by
  obtain ⟨a, cap, rfl, hl, hc⟩ := hv
  unfold maxLen at hl
  go_enter Try.func36, Try.ntmps36
  go_wp2
  go_loop [3, 4] (fun n i => ∃ k : Nat, k ≤ xss.length ∧ i = .int .i64 k ∧ n = .int .i64 (tot (xss.take k))) (fun _ i => xss.length - (intOf i).toNat)
  case atStart => exact ⟨0, Nat.zero_le _, rfl, by simp [tot]⟩
  case round =>
    obtain ⟨k, hk, rfl, rfl⟩ := hrel
    by_cases hlt : k < xss.length
    · obtain ⟨b, off, rfl, hbn, hcell⟩ := hc (by omega)
      obtain ⟨s, hx, hs, -⟩ := hcell k hlt
      obtain ⟨sa, sc, rfl, hsl, -⟩ := hs
      have hlt' : (k : Int) < (xss.length : Int) := by omega
      have HB := hide (tot_step xss k hlt)
      have ht := tot_take xss k
      have ht2 := tot_get xss k
      have ht3 := tot_take xss (k + 1)
      clear hcell hc
      generalize xss[k]?.getD [] = x at *
      go_wp2
      go_round
      case rel => exact ⟨k + 1, by omega, by go_num, by rw [unhide HB]; simp⟩
      case measure => simp [intOf]; omega
    · obtain rfl : k = xss.length := by omega
      go_wp2
      go_ret
      exact ⟨rfl, rfl⟩

set_option maxHeartbeats 1000000 in
theorem l4plain_any (v : Value) (xss : List (List Int)) (w : World) (hv : SsAt mB 0 w.heap.size w v xss) (hT : tot xss ≤ 1048576) (hL : xss.length ≤ 1048576) :
    Calls Try.prog 35 #[v] w fun e w' => RetB e (Plain xss) ∧ ∃ q, w' = w.drewN q := by
  obtain ⟨a, cap, rfl, hl, hc⟩ := hv
  unfold maxLen at hl
  go_enter Try.func35, Try.ntmps35
  go_wp2
  go_loopw [3] (fun i wr => (∃ k : Nat, k ≤ xss.length ∧ i = .int .i64 k ∧ ∀ i : Nat, i < k → ∀ j : Nat, j < (xss[i]?.getD []).length → (xss[i]?.getD [])[j]?.getD 0 ≠ 10) ∧ ∃ q, wr = w.drewN q) (fun i _ => xss.length - (intOf i).toNat)
  case atStart => exact ⟨⟨0, Nat.zero_le _, rfl, fun i hi => absurd hi (Nat.not_lt_zero _)⟩, 0, rfl⟩
  case round =>
    obtain ⟨⟨k, hk, rfl, hp⟩, q, rfl⟩ := hrel
    have Hp := hide hp
    clear hp
    by_cases hlt : k < xss.length
    · obtain ⟨b, off, rfl, hbn, hcell⟩ := hc (by omega)
      obtain ⟨s, hx, hs, -⟩ := hcell k hlt
      obtain ⟨sa, sc, rfl, hsl, hsc⟩ := hs
      have hlt' : (k : Int) < (xss.length : Int) := by omega
      have ht2 := tot_get xss k
      have Hno : Hid ((∃ j, j < (xss[k]?.getD []).length ∧ (xss[k]?.getD [])[j]?.getD 0 = 10) → ¬ Plain xss) := fun ⟨j, hj, e⟩ hpl => hpl k hlt j hj e
      have Hyes : Hid ((∀ j, j < (xss[k]?.getD []).length → (xss[k]?.getD [])[j]?.getD 0 ≠ 10) → ∀ i : Nat, i < k + 1 → ∀ j : Nat, j < (xss[i]?.getD []).length → (xss[i]?.getD [])[j]?.getD 0 ≠ 10) := fun h i hi => by
        by_cases e : i = k
        · subst e; exact h
        · exact unhide Hp i (by omega)
      clear hcell hc Hp
      generalize xss[k]?.getD [] = x at *
      go_wp2
      obtain ⟨V, hV⟩ : ∃ V, V = w.drewN q := ⟨_, rfl⟩
      go_loopw [4] (fun i wr => (∃ m : Nat, m ≤ x.length ∧ i = .int .i64 m ∧ ∀ j : Nat, j < m → x[j]?.getD 0 ≠ 10) ∧ ∃ q, wr = w.drewN q) (fun i _ => x.length - (intOf i).toNat)
      case atStart => exact ⟨⟨0, Nat.zero_le _, rfl, fun i hi => absurd hi (Nat.not_lt_zero _)⟩, q, rfl⟩
      case round =>
        obtain ⟨⟨m, hm, rfl, hp⟩, q2, rfl⟩ := hrel
        have Hp := hide hp
        clear hp
        by_cases hlt2 : m < x.length
        · have hlt2' : (m : Int) < (x.length : Int) := by omega
          obtain ⟨b2, off2, rfl, -, -, hcell2⟩ := hsc (by omega)
          have hx2 := hcell2 m hlt2
          unfold mB at hx2
          clear hcell2 hsc
          by_cases h10 : x[m]?.getD 0 = 10
          · have HN := hide (unhide Hno ⟨m, hlt2, h10⟩)
            rw [h10] at hx2
            go_wp2
            go_ret
            exact ⟨RetB.no (unhide HN), _, rfl⟩
          · have HN : Hid (∀ j : Nat, j < m + 1 → x[j]?.getD 0 ≠ 10) := fun j hj => by
              by_cases e : j = m
              · subst e; exact h10
              · exact unhide Hp j (by omega)
            generalize x[m]?.getD 0 = u at *
            go_wp2
            go_roundw
            case rel => exact ⟨⟨m + 1, by omega, by go_num, unhide HN⟩, _, rfl⟩
            case measure => simp [intOf]; omega
        · obtain rfl : m = x.length := by omega
          have HN := hide (unhide Hyes (unhide Hp))
          go_wp2
          exact ⟨⟨⟨k + 1, by omega, by go_num, unhide HN⟩, _, rfl⟩, by simp [intOf]; omega⟩
    · obtain rfl : k = xss.length := by omega
      go_wp2
      go_ret
      exact ⟨RetB.yes (unhide Hp), _, rfl⟩

theorem l4fits_any (base : Int) (v : Value) (xss : List (List Int)) (w : World) (hv : SsAt mB 0 w.heap.size w v xss) (hT : tot xss ≤ 1048576) (hL : xss.length ≤ 1048576) (hb0 : -9223372036854775808 ≤ base) (hb1 : base ≤ 9223372036854775807) :
    Calls Try.prog 19 #[.int .i64 base, v] w fun e w' => RetB e (Fits base xss) ∧ ∃ q, w' = w.drewN q := by
  have Hv := hide hv
  obtain ⟨a, cap, rfl, -, -⟩ := hv
  by_cases h1 : base < 0 ∨ 1000 < base ∨ xss.length < 1
  · have HN : Hid (¬ Fits base xss) := fun h => by obtain ⟨q1, q2, q3, -⟩ := h; omega
    go_enter Try.func19, Try.ntmps19
    rcases h1 with h1 | h1 | h1
    · go_wp2
      go_ret
      exact ⟨RetB.no (unhide HN), 0, rfl⟩
    · have h0 : ¬ base < 0 := by omega
      go_wp2
      go_ret
      exact ⟨RetB.no (unhide HN), 0, rfl⟩
    · have h1' : (xss.length : Int) < 1 := by omega
      by_cases g0 : base < 0
      · go_wp2
        go_ret
        exact ⟨RetB.no (unhide HN), 0, rfl⟩
      · by_cases g1 : 1000 < base
        · go_wp2
          go_ret
          exact ⟨RetB.no (unhide HN), 0, rfl⟩
        · go_wp2
          go_ret
          exact ⟨RetB.no (unhide HN), 0, rfl⟩
  · have g0 : ¬ base < 0 := by omega
    have g1 : ¬ 1000 < base := by omega
    have g2 : ¬ (xss.length : Int) < 1 := by omega
    clear h1
    by_cases g3 : 1000 < base + (xss.length : Int)
    · have HN : Hid (¬ Fits base xss) := fun h => by obtain ⟨q1, q2, q3, -⟩ := h; omega
      go_enter Try.func19, Try.ntmps19
      go_wp2
      go_ret
      exact ⟨RetB.no (unhide HN), 0, rfl⟩
    · go_enter Try.func19, Try.ntmps19
      go_wp2_with fail
      refine (l4plain_any _ xss _ (unhide Hv) hT hL).mono ?_
      rintro e w1 ⟨hr, q1, rfl⟩
      rcases hr.cases with ⟨rfl, hm⟩ | ⟨rfl, hm⟩
      · have Hm := hide hm
        clear hm hr
        go_wp2_with fail
        refine (l4bytes_any _ xss _ (by exact unhide Hv) hT hL).mono ?_
        rintro e w2 ⟨rfl, rfl⟩
        go_wp2
        go_ret
        exact ⟨RetB.of (by simp only [decide_eq_true_eq]; exact ⟨fun h => ⟨by omega, by omega, by omega, unhide Hm, by omega⟩, fun h => by obtain ⟨_, _, _, _, h5⟩ := h; omega⟩), _, rfl⟩
      · have HN : Hid (¬ Fits base xss) := fun h => by obtain ⟨_, _, _, q4, -⟩ := h; exact hm q4
        clear hm hr
        go_wp2
        go_ret
        exact ⟨RetB.no (unhide HN), _, rfl⟩

end Go.Proofs.Ytkajdhliejjohaa

namespace Go.Proofs.Ytkajdhliejjohaa
open Go.RowKit

/-- The number of the three bytes from k on. -/
def tri3 (bs : List Int) (k : Nat) : Int := bs[k]?.getD 0 * 65536 + bs[k + 1]?.getD 0 * 256 + bs[k + 2]?.getD 0
def tris (bs : List Int) (n : Nat) : List Int := (List.range n).map (tri3 bs)
theorem tris_len (bs : List Int) (n : Nat) : (tris bs n).length = n := by simp [tris]
theorem tris_succ (bs : List Int) (n : Nat) : tris bs (n + 1) = tris bs n ++ [tri3 bs n] := by simp [tris, List.range_succ]

theorem run_l3num (x y z : Value) (w : World) : Sem.run Try.prog (callFunc 53 #[x, y, z]) w = .ok (.enter 53 #[x, y, z]) w := by kernel_rfl
theorem l3num_any (x y z : Int) (w : World) (hx : 0 ≤ x ∧ x ≤ 255) (hy : 0 ≤ y ∧ y ≤ 255) (hz : 0 ≤ z ∧ z ≤ 255) :
    Calls Try.prog 53 #[.int .i64 x, .int .i64 y, .int .i64 z] w fun e w' => e = .returned (.int .i64 (x * 65536 + y * 256 + z)) ∧ w' = w := by
  have y1 : wrap64 (x * 65536) = x * 65536 := by unfold wrap64; omega
  have y2 : wrap64 (y * 256) = y * 256 := by unfold wrap64; omega
  have y3 : wrap64 (x * 65536 + y * 256) = x * 65536 + y * 256 := by unfold wrap64; omega
  have y4 : wrap64 (x * 65536 + y * 256 + z) = x * 65536 + y * 256 + z := by unfold wrap64; omega
  go_enter Try.func53, Try.ntmps53
  go_wp2
  go_ret
  exact ⟨rfl, rfl⟩

set_option maxHeartbeats 2000000 in
set_option maxRecDepth 100000 in
theorem specTri_own (v : Value) (bs : List Int) (w : World) (hv : SlAt mB 0 0 w.heap.size w v bs) (hbb : ∀ i : Nat, 0 ≤ bs[i]?.getD 0 ∧ bs[i]?.getD 0 ≤ 255) (hl : bs.length ≤ 1048576) :
    Calls Try.prog 39 #[v] w fun e w' => OrdOwn e w w' (tris bs (bs.length - 2)) ∧ Below w.heap.size w w' := by
  obtain ⟨i0, hi, hz0, hz1, hz2⟩ := info_parts Try.zinInt
  obtain ⟨a, cap, rfl, hml, hc⟩ := hv
  have Hbb := hide hbb
  clear hbb
  go_enter Try.func39, Try.ntmps39
  go_wp2_with fail
  go_loopw [3, 4] (fun ov iv wr => ∃ n : Nat, n ≤ bs.length - 2 ∧ iv = .int .i64 n ∧ wr.ownsRow w.heap.size 3 1 ov n ((tris bs n).map mI) ∧ Below w.heap.size w wr) (fun _ iv _ => bs.length - (intOf iv).toNat)
  case atStart => exact ⟨0, Nat.zero_le _, rfl, World.ownsRow_nil _ _ _ _, Below.refl _ _⟩
  case round =>
    obtain ⟨n, hn, rfl, hown, hb⟩ := hrel
    have hszr := hb.size
    have Hown := hide hown
    obtain ⟨oa, oc, rfl⟩ := own_is hown
    clear hown
    by_cases hlt : n + 2 < bs.length
    · have hlt' : (n : Int) + 2 < (bs.length : Int) := by omega
      obtain ⟨b, off, rfl, -, hbn, hcell⟩ := hc (by omega)
      have hx0 : wr.cell? ⟨b, off + n, none⟩ = some (.int .u8 (bs[n]?.getD 0)) := by rw [hb.cell (p := ⟨b, off + n, none⟩) hbn]; exact hcell n (by omega)
      have hx1 : wr.cell? ⟨b, off + (n + 1), none⟩ = some (.int .u8 (bs[n + 1]?.getD 0)) := by rw [hb.cell (p := ⟨b, off + (n + 1), none⟩) hbn]; exact hcell (n + 1) (by omega)
      have hx2 : wr.cell? ⟨b, off + ((n : Int) + 2).toNat, none⟩ = some (.int .u8 (bs[n + 2]?.getD 0)) := by rw [hb.cell (p := ⟨b, off + ((n : Int) + 2).toNat, none⟩) hbn, show ((n : Int) + 2).toNat = n + 2 by omega]; exact hcell (n + 2) (by omega)
      have q0 := unhide Hbb n
      have q1 := unhide Hbb (n + 1)
      have q2 := unhide Hbb (n + 2)
      have HT : Hid (tri3 bs n = bs[n]?.getD 0 * 65536 + bs[n + 1]?.getD 0 * 256 + bs[n + 2]?.getD 0) := rfl
      have hS : Hid (∀ W' : World, Below w.heap.size w W' → W'.cell? ⟨b, off + n, none⟩ = some (.int .u8 (bs[n]?.getD 0)) ∧ W'.cell? ⟨b, off + (n + 1), none⟩ = some (.int .u8 (bs[n + 1]?.getD 0)) ∧ W'.cell? ⟨b, off + ((n : Int) + 2).toNat, none⟩ = some (.int .u8 (bs[n + 2]?.getD 0))) := fun W' hW => ⟨by rw [hW.cell (p := ⟨b, off + n, none⟩) hbn]; exact hcell n (by omega), by rw [hW.cell (p := ⟨b, off + (n + 1), none⟩) hbn]; exact hcell (n + 1) (by omega), by rw [hW.cell (p := ⟨b, off + ((n : Int) + 2).toNat, none⟩) hbn, show ((n : Int) + 2).toNat = n + 2 by omega]; exact hcell (n + 2) (by omega)⟩
      clear hcell hc
      generalize bs[n]?.getD 0 = x0 at *
      generalize bs[n + 1]?.getD 0 = x1 at *
      generalize bs[n + 2]?.getD 0 = x2 at *
      have y3 : wrap64 x0 = x0 := w64i (by omega) (by omega)
      have y4 : wrap64 x1 = x1 := w64i (by omega) (by omega)
      have y5 : wrap64 x2 = x2 := w64i (by omega) (by omega)
      have k1 : IntKind.i64.wrap ((n : Int) + 2) = (n : Int) + 2 := k64i (by omega) (by omega)
      have k2 : IntKind.i64.wrap ((n : Int) + 1) = (n : Int) + 1 := k64i (by omega) (by omega)
      have k3 : IntKind.i64.wrap x0 = x0 := k64i (by omega) (by omega)
      have k4 : IntKind.i64.wrap x1 = x1 := k64i (by omega) (by omega)
      have k5 : IntKind.i64.wrap x2 = x2 := k64i (by omega) (by omega)
      have Hq0 := hide q0
      have Hq1 := hide q1
      have Hq2 := hide q2
      have hlt1 : (n : Int) + 1 < (bs.length : Int) := by omega
      have hlt0 : (n : Int) < (bs.length : Int) := by omega
      have hp1 : (0 : Int) ≤ (n : Int) + 1 := by omega
      have hp2 : (0 : Int) ≤ (n : Int) + 2 := by omega
      have hst : Hid (∀ (W w' : World) (v' : Value) (o : Obj), Pushd wr W o → w'.ownsRow w.heap.size 3 1 v' (n + 1) ((tris bs n).map mI ++ [.int .i64 (x0 * 65536 + x1 * 256 + x2)]) → W.grownBy w' (Value.slice oa n oc).ownBlock → w'.ownsRow w.heap.size 3 1 v' (n + 1) ((tris bs (n + 1)).map mI) ∧ Below w.heap.size w w') := fun W w' v' o hP q1 q2 => by
        have e := tris_len bs n
        obtain ⟨r1, r2⟩ := grow_int (os := tris bs n) (u := tri3 bs n) (v' := v') (by rw [e]; exact unhide Hown) hszr hP (by rw [e, unhide HT]; exact q1) q2
        rw [← tris_succ, tris_len] at r1
        exact ⟨r1, hb.trans r2⟩
      go_wp2_with fail
      go_region_held3 (fun W' => W'.cell? ⟨b, off + n, none⟩ = some (.int .u8 x0) ∧ W'.cell? ⟨b, off + (n + 1), none⟩ = some (.int .u8 x1) ∧ W'.cell? ⟨b, off + ((n : Int) + 2).toNat, none⟩ = some (.int .u8 x2))
        (first | go_keep | exact unhide hS _ (unhide hs).2)
        (first
          | (refine step_call_o 53 #[.tmp 17, .tmp 23, .tmp 29] _ rfl #[.int .i64 x0, .int .i64 x1, .int .i64 x2] rfl (by simp [Act.eval]) (run_l3num _ _ _) (l3num_any x0 x1 x2 _ (unhide Hq0) (unhide Hq1) (unhide Hq2)) ?_; rintro e w2 ⟨rfl, rfl⟩; refine ⟨_, rfl, ?_⟩)
          | (refine step_append_lies _ rfl (.tmp 12) (.tmp 31) 25 rfl w.heap.size 3 i0 (.int .i64 0) 1 8 Try.underlying25 hi hz0 hz1 hz2 rfl (by decide) (.slice oa n oc) n ((tris bs n).map mI) (by simp [Act.eval]) (by refine Pushd.own (w := wr) (o := .cells #[.int .i64 (x0 * 65536 + x1 * 256 + x2)] 3) ?_ (unhide Hown); exact ⟨rfl, rfl, rfl, rfl⟩) ⟨wr.heap.size, 0, none⟩ 1 1 [.int .i64 (x0 * 65536 + x1 * 256 + x2)] (by simp [Act.eval]) rfl (by refine Pushd.news (w := wr) (cs := #[.int .i64 (x0 * 65536 + x1 * 256 + x2)]) (t := 3) ?_; exact ⟨rfl, rfl, rfl, rfl⟩) (by intro u hu; simp at hu; subst hu; rfl) (by decide) (by unfold maxLen; omega) (by omega) (by show w.heap.size ≤ (wr.alloc _).heap.size; rw [sz_alloc]; omega) (wr.heap.size + 1) (sz_alloc wr _) (fun g cap' w' q1 q2 q3 q4 => ?_); have hs := hide (unhide hst _ w' (.slice (some ⟨g, 0, none⟩) (n + 1) cap') (.cells #[.int .i64 (x0 * 65536 + x1 * 256 + x2)] 3) (by exact ⟨rfl, rfl, rfl, rfl⟩) q1 q2); clear q1 q2 q3 q4))
      all_goals
        go_wp2
        exact ⟨⟨n + 1, by omega, by go_num, (unhide hs).1, (unhide hs).2⟩, by simp [intOf]; omega⟩
    · have hlt' : ¬ (n : Int) + 2 < (bs.length : Int) := by omega
      have hz : Hid (n = bs.length - 2) := by show n = bs.length - 2; omega
      have hsl := hide ((own_slw (lo := w.heap.size) (unhide Hown) (Nat.le_refl _) (by unfold maxLen; omega)).at.mono (Nat.zero_le _) (Nat.le_refl _))
      have hcp := hide (own_cap (unhide Hown))
      clear hc
      go_wp2_with fail
      refine (l3order_own (tris bs n).length _ _ _ (Nat.le_refl _) (by rw [tris_len]; omega) (unhide hsl) (unhide hcp)).mono ?_
      rintro e w1 ⟨⟨v1, ys, rfl, h1, h2, h3⟩, hb1⟩
      have hone : v1.oneCell' = true := by obtain ⟨_, _, rfl⟩ := own_is h3; rfl
      go_wp2_with fail
      go_ret
      refine ⟨⟨_, ys, rfl, by rw [← unhide hz]; exact h1, by rw [← unhide hz]; exact h2, own_low h3 hszr⟩, hb.trans (hb1.mono hszr)⟩

theorem specTri_any (v : Value) (bs : List Int) (w : World) (hv : SlAt mB 0 0 w.heap.size w v bs) (hbb : ∀ i : Nat, 0 ≤ bs[i]?.getD 0 ∧ bs[i]?.getD 0 ≤ 255) (hl : bs.length ≤ 1048576) :
    Calls Try.prog 39 #[v] w fun e w' => OrdRet e w w' (tris bs (bs.length - 2)) ∧ Below w.heap.size w w' :=
  (specTri_own v bs w hv hbb hl).mono (fun _ _ ⟨⟨v1, ys, h1, h2, h3, h4⟩, hb⟩ => ⟨⟨v1, ys, h1, h2, h3, own_slw h4 (Nat.le_refl _) (by rw [tris_len] at h3; unfold maxLen; omega)⟩, hb⟩)

end Go.Proofs.Ytkajdhliejjohaa

namespace Go.Proofs.Ytkajdhliejjohaa
open Go.RowKit

/-- One list of bytes of its own more. -/
theorem LB.push {base : Nat} {w V wr : World} {ov lv : Value} {ps : List (Cl Int)} {ls : List Int} (Hll : LB base V ov ps) (hbV : base ≤ V.heap.size) (hbl : Below V.heap.size V wr) (hb : Below base w V) (Hown : wr.ownsRow V.heap.size 5 1 lv ls.length (ls.map mB))
    (w' : World) (v' : Value) (g1 : w'.ownsRow base 22 1 v' (ps.length + 1) (ps.map Cl.v ++ [lv])) (g2 : (wr.alloc (.cells #[lv] 22)).grownBy w' ov.ownBlock) : ∃ p : Cl Int, p.xs = ls ∧ LB base w' v' (ps ++ [p]) ∧ Below base w w' := by
  obtain ⟨pb, hp, hplo⟩ := own_cl Hown
  have hz := hbl.size
  obtain ⟨r1, r2⟩ := (Hll.keep hbl (Nat.le_refl _)).app (by decide) (by omega) hp (fun h => Nat.le_trans hbV (hplo h)) (fun q hq hq0 hp0 e => by
    have h1 := (Hll.ok q hq).lt hq0
    have h2 := hplo hp0
    rw [e] at h1
    exact absurd h1 (Nat.not_lt.2 h2)) (pushd_alloc wr _) g1 g2
  exact ⟨_, rfl, r1, (hb.trans (hbl.mono hbV)).trans r2⟩

theorem take_snoc {α : Type} (xss : List α) (d : α) (k : Nat) (h : k < xss.length) : xss.take (k + 1) = xss.take k ++ [xss[k]?.getD d] := by
  rw [List.take_add_one, List.getElem?_eq_getElem h]
  rfl

set_option maxHeartbeats 2000000 in
set_option maxRecDepth 100000 in
theorem l4copy_any (v : Value) (xss : List (List Int)) (w : World) (hv : SsAt mB 0 w.heap.size w v xss) (hT : tot xss ≤ 1048576) (hL : xss.length ≤ 1048576) :
    Calls Try.prog 37 #[v] w fun e w' => ∃ v', e = .returned v' ∧ (∃ ps, ps.map Cl.xs = xss ∧ LB w.heap.size w' v' ps) ∧ Below w.heap.size w w' := by
  obtain ⟨j0, hj, hy0, hy1, hy2⟩ := info_parts Try.zinByteS
  obtain ⟨a, cap, rfl, hl, hc⟩ := hv
  unfold maxLen at hl
  go_enter Try.func37, Try.ntmps37
  go_wp2_with fail
  go_loopw [3, 4] (fun ov iv wr => ∃ (k : Nat) (ps : List (Cl Int)), k ≤ xss.length ∧ ps.length ≤ k ∧ iv = .int .i64 k ∧ ps.map Cl.xs = xss.take k ∧ LB w.heap.size wr ov ps ∧ Below w.heap.size w wr) (fun _ iv _ => xss.length - (intOf iv).toNat)
  case atStart => exact ⟨0, [], Nat.zero_le _, Nat.le_refl _, rfl, by simp, LL.nil, Below.refl _ _⟩
  case round =>
    obtain ⟨k, ps, hk, hpk, rfl, hln, hll, hb⟩ := hrel
    have hszr := hb.size
    have Hll := hide hll
    have Hln := hide hln
    obtain ⟨oa, oc, rfl⟩ := own_is hll.own
    clear hll hln
    by_cases hlt : k < xss.length
    · have hlt' : (k : Int) < (xss.length : Int) := by omega
      obtain ⟨b, off, rfl, hbn, hcell⟩ := hc (by omega)
      obtain ⟨s, hx0, hs, -⟩ := hcell k hlt
      have hx : wr.cell? ⟨b, off + k, none⟩ = some s := by rw [hb.cell (p := ⟨b, off + k, none⟩) hbn]; exact hx0
      have Hs := hide (hs.below hb (Nat.le_refl _))
      have ht := tot_get xss k
      have Hsn := hide (take_snoc xss [] k hlt)
      obtain ⟨sa, sc, rfl, -, -⟩ := hs
      clear hcell hc hx0
      generalize xss[k]?.getD [] = x at *
      go_wp2_with (first
        | (at_builtin; refine app_bytes rfl _ _ rfl wr.heap.size _ [] rfl (World.ownsRow_nil _ _ _ _) (Nat.le_refl _) _ rfl x (unhide Hs) (by simp; omega) ?_; intro v1 w1 hb1 hg1 ho1 hone; rw [List.nil_append] at ho1; have Hst := hide (LB.push (unhide Hll) hszr hb1 hb ho1); have Hk := hide ((unhide Hll).keep hb1 (Nat.le_refl _)); have hz1 := hb1.size; obtain ⟨la, lc, rfl⟩ := own_is ho1; clear ho1 hg1 Hll hb1)
        | (at_builtin; refine wpList_append_own _ rfl _ _ 24 rfl w.heap.size 22 j0 (.slice none 0 0) 1 24 Try.underlying24 hj hy0 hy1 hy2 rfl (by decide) _ _ _ rfl (World.ownsRow.alloc (w := w1) (unhide Hk).own _) ⟨w1.heap.size, 0, none⟩ 1 1 [.slice la x.length lc] rfl rfl ?_ ?_ ?_ ?_ ?_ ?_))
      · exact cell_1 (by simp)
      · intro u hu; simp at hu; subst hu; rfl
      · unfold maxLen; omega
      · omega
      · rw [sz_alloc]; omega
      intro v3 w3 h5 hg5 _
      have h3 := hide (unhide Hst w3 v3 h5 hg5)
      obtain ⟨g3, cap3, rfl⟩ := ownsRow_succ h5
      clear h5 hg5
      go_wp2
      obtain ⟨p, r1, r2, r3⟩ := unhide h3
      exact ⟨⟨k + 1, ps ++ [p], by omega, by simp; omega, by go_num, by rw [unhide Hsn, ← unhide Hln, ← r1, List.map_append]; rfl, r2, r3⟩, by simp [intOf]; omega⟩
    · have hlt' : ¬ (k : Int) < (xss.length : Int) := by omega
      have hz : Hid (ps.map Cl.xs = xss) := by
        have := unhide Hln
        rwa [List.take_of_length_le (by omega)] at this
      clear hc
      go_wp2
      go_ret
      exact ⟨_, rfl, ⟨ps, unhide hz, unhide Hll⟩, hb⟩

end Go.Proofs.Ytkajdhliejjohaa

namespace Go.Proofs.Ytkajdhliejjohaa
open Go.RowKit

/-- While two ascending lists are united. -/
structure UInv (x y os : List Int) (i j : Nat) : Prop where
  asc : Asc os
  mem : ∀ z, z ∈ os ↔ z ∈ x.take i ∨ z ∈ y.take j
  lx : ∀ z, z ∈ os → ∀ k, i ≤ k → k < x.length → z < x[k]?.getD 0
  ly : ∀ z, z ∈ os → ∀ k, j ≤ k → k < y.length → z < y[k]?.getD 0
theorem UInv.swap {x y os : List Int} {i j : Nat} (h : UInv x y os i j) : UInv y x os j i := ⟨h.asc, fun z => (h.mem z).trans Or.comm, h.ly, h.lx⟩
theorem UInv.start (x y : List Int) : UInv x y [] 0 0 := ⟨List.Pairwise.nil, fun z => by simp, fun z h => by simp at h, fun z h => by simp at h⟩
theorem UInv.one {x y os : List Int} {i j : Nat} (h : UInv x y os i j) (hx : Asc x) (hy : Asc y) (hi : i < x.length) (hlt : j < y.length → x[i]?.getD 0 < y[j]?.getD 0) : UInv x y (os ++ [x[i]?.getD 0]) (i + 1) j := by
  refine ⟨?_, fun z => ?_, fun z hz k h1 h2 => ?_, fun z hz k h1 h2 => ?_⟩
  · refine List.pairwise_append.2 ⟨h.asc, List.pairwise_singleton _ _, fun a ha b hb => ?_⟩
    rw [List.mem_singleton] at hb
    rw [hb]
    exact h.lx a ha i (Nat.le_refl _) hi
  · rw [take_succ_mem hi, List.mem_append, h.mem z, List.mem_singleton]
    constructor
    · rintro ((a | a) | a)
      · exact Or.inl (Or.inl a)
      · exact Or.inr a
      · exact Or.inl (Or.inr a)
    · rintro ((a | a) | a)
      · exact Or.inl (Or.inl a)
      · exact Or.inr a
      · exact Or.inl (Or.inr a)
  · rcases List.mem_append.1 hz with a | a
    · exact h.lx z a k (by omega) h2
    · rw [List.mem_singleton] at a
      rw [a]
      exact asc_get hx (by omega) h2
  · rcases List.mem_append.1 hz with a | a
    · exact h.ly z a k h1 h2
    · rw [List.mem_singleton] at a
      rw [a]
      have h3 := hlt (by omega)
      by_cases e : j = k
      · subst e; exact h3
      · have := asc_get hy (show j < k by omega) h2
        omega
theorem UInv.both {x y os : List Int} {i j : Nat} (h : UInv x y os i j) (hx : Asc x) (hy : Asc y) (hi : i < x.length) (hj : j < y.length) (he : x[i]?.getD 0 = y[j]?.getD 0) : UInv x y (os ++ [x[i]?.getD 0]) (i + 1) (j + 1) := by
  refine ⟨?_, fun z => ?_, fun z hz k h1 h2 => ?_, fun z hz k h1 h2 => ?_⟩
  · refine List.pairwise_append.2 ⟨h.asc, List.pairwise_singleton _ _, fun a ha b hb => ?_⟩
    rw [List.mem_singleton] at hb
    rw [hb]
    exact h.lx a ha i (Nat.le_refl _) hi
  · rw [take_succ_mem hi, take_succ_mem hj, List.mem_append, h.mem z, List.mem_singleton, ← he]
    constructor
    · rintro ((a | a) | a)
      · exact Or.inl (Or.inl a)
      · exact Or.inr (Or.inl a)
      · exact Or.inl (Or.inr a)
    · rintro ((a | a) | (a | a))
      · exact Or.inl (Or.inl a)
      · exact Or.inr a
      · exact Or.inl (Or.inr a)
      · exact Or.inr a
  · rcases List.mem_append.1 hz with a | a
    · exact h.lx z a k (by omega) h2
    · rw [List.mem_singleton] at a
      rw [a]
      exact asc_get hx (by omega) h2
  · rcases List.mem_append.1 hz with a | a
    · exact h.ly z a k (by omega) h2
    · rw [List.mem_singleton] at a
      rw [a, he]
      exact asc_get hy (by omega) h2
theorem UInv.done {x y os xs : List Int} (h : UInv x y os x.length y.length) (hm : ∀ z, z ∈ xs ↔ z ∈ x ∨ z ∈ y) : Ord xs os := ⟨h.asc, fun z => by rw [h.mem z, hm z]; simp⟩

set_option maxHeartbeats 4000000 in
set_option maxRecDepth 100000 in
theorem l4union_any (u v : Value) (x y : List Int) (w : World) (hu : SlAt mI 0 0 w.heap.size w u x) (hv : SlAt mI 0 0 w.heap.size w v y) (hx : Asc x) (hy : Asc y) (hlx : x.length ≤ 1048576) (hly : y.length ≤ 1048576) :
    Calls Try.prog 52 #[u, v] w fun e w' => OrdOwn e w w' (x ++ y) ∧ Below w.heap.size w w' := by
  obtain ⟨i0, hi, hz0, hz1, hz2⟩ := info_parts Try.zinInt
  have Hax := hide hx
  have Hay := hide hy
  have Hu := hide hu
  have Hv := hide hv
  obtain ⟨a1, c1, rfl, -, -⟩ := hu
  obtain ⟨a2, c2, rfl, -, -⟩ := hv
  clear hx hy
  have Bx : Hid (∀ wr, Below w.heap.size w wr → SlAt mI 0 0 wr.heap.size wr (.slice a1 x.length c1) x) := fun wr hb => (unhide Hu).below hb (Nat.le_refl _)
  have By : Hid (∀ wr, Below w.heap.size w wr → SlAt mI 0 0 wr.heap.size wr (.slice a2 y.length c2) y) := fun wr hb => (unhide Hv).below hb (Nat.le_refl _)
  go_enter Try.func52, Try.ntmps52
  go_wp2_with fail
  go_loopw [5, 6, 7] (fun ov iv jv wr => ∃ (i j : Nat) (os : List Int), i ≤ x.length ∧ j ≤ y.length ∧ iv = .int .i64 i ∧ jv = .int .i64 j ∧ UInv x y os i j ∧ os.length ≤ i + j ∧ wr.ownsRow w.heap.size 3 1 ov os.length (os.map mI) ∧ Below w.heap.size w wr) (fun _ iv jv _ => x.length + y.length - ((intOf iv).toNat + (intOf jv).toNat))
  case atStart => exact ⟨0, 0, [], Nat.zero_le _, Nat.zero_le _, rfl, rfl, UInv.start x y, Nat.le_refl _, World.ownsRow_nil _ _ _ _, Below.refl _ _⟩
  case round =>
    obtain ⟨i, j, os, hix, hjy, rfl, rfl, hm, hol, hown, hb⟩ := hrel
    have hszr := hb.size
    have Hown := hide hown
    have Hm := hide hm
    obtain ⟨oa, oc, rfl⟩ := own_is hown
    clear hown hm
    have Hst : Hid (∀ (u : Int) (q : Nat) (w' : World) (v' : Value), w'.ownsRow w.heap.size 3 1 v' (os.length + 1) (os.map mI ++ [.int .i64 u]) → ((wr.drewN q).alloc (.cells #[.int .i64 u] 3)).grownBy w' (Value.slice oa os.length oc).ownBlock → w'.ownsRow w.heap.size 3 1 v' (os ++ [u]).length ((os ++ [u]).map mI) ∧ Below w.heap.size w w') := fun u q w' v' g1 g2 => ord_step (unhide Hown) hb g1 g2
    by_cases gi : i < x.length
    · have gi' : (i : Int) < (x.length : Int) := by omega
      obtain ⟨_, _, e1, -, hcx⟩ := unhide Bx wr hb
      cases e1
      obtain ⟨b1, o1, rfl, -, hbn1, hcellx⟩ := hcx (by omega)
      have hxc : wr.cell? ⟨b1, o1 + i, none⟩ = some (.int .i64 (x[i]?.getD 0)) := hcellx i gi
      clear hcellx hcx
      by_cases gj : j < y.length
      · have gj' : (j : Int) < (y.length : Int) := by omega
        have gjd : decide ((y.length : Int) ≤ (j : Int)) = false := decide_eq_false (by omega)
        have gje : decide (y.length ≤ j) = false := decide_eq_false (by omega)
        obtain ⟨_, _, e2, -, hcy⟩ := unhide By wr hb
        cases e2
        obtain ⟨b2, o2, rfl, -, hbn2, hcelly⟩ := hcy (by omega)
        have hyc : wr.cell? ⟨b2, o2 + j, none⟩ = some (.int .i64 (y[j]?.getD 0)) := hcelly j gj
        clear hcelly hcy
        rcases Int.lt_trichotomy (x[i]?.getD 0) (y[j]?.getD 0) with hc | hc | hc
        · have Hn := hide ((unhide Hm).one (unhide Hax) (unhide Hay) gi (fun _ => hc))
          generalize x[i]?.getD 0 = xv at *
          generalize y[j]?.getD 0 = yv at *
          have c1 : xv ≤ yv := by omega
          have c2 : (yv == xv) = false := by simp; omega
          clear Hm
          go_wp2_with fail
          go_quiet (fail)
          go_wp2_with (at_builtin; refine wpList_append_own _ rfl _ _ 25 rfl w.heap.size 3 i0 (.int .i64 0) 1 8 Try.underlying25 hi hz0 hz1 hz2 rfl (by decide) _ _ _ rfl (World.ownsRow.alloc (w := wr.drewN nq) (unhide Hown) _) ⟨wr.heap.size, 0, none⟩ 1 1 [.int .i64 xv] rfl rfl ?_ ?_ ?_ ?_ ?_ ?_)
          · refine cell_1 ?_
            rw [World.cell?_alloc_at _ _ wr.heap.size _ (show wr.heap.size = (wr.drewN nq).heap.size from rfl)]
            rfl
          · intro u' hu; simp at hu; subst hu; rfl
          · unfold maxLen; omega
          · omega
          · rw [sz_alloc]; show _ ≤ wr.heap.size + 1; omega
          intro v' w3 h5 hg5 _
          have hst := hide (unhide Hst _ nq w3 v' h5 hg5)
          clear h5 hg5
          go_wp2
          go_roundw
          case rel => exact ⟨i + 1, j, _, by omega, by omega, by go_num, by go_num, unhide Hn, by simp; omega, (unhide hst).1, (unhide hst).2⟩
          case measure => simp [intOf]; omega
        · have Hn := hide ((unhide Hm).both (unhide Hax) (unhide Hay) gi gj hc)
          rw [← hc] at hyc
          clear hc
          generalize x[i]?.getD 0 = xv at *
          clear Hm
          go_wp2_with fail
          go_quiet (fail)
          go_wp2_with (at_builtin; refine wpList_append_own _ rfl _ _ 25 rfl w.heap.size 3 i0 (.int .i64 0) 1 8 Try.underlying25 hi hz0 hz1 hz2 rfl (by decide) _ _ _ rfl (World.ownsRow.alloc (w := wr.drewN nq) (unhide Hown) _) ⟨wr.heap.size, 0, none⟩ 1 1 [.int .i64 xv] rfl rfl ?_ ?_ ?_ ?_ ?_ ?_)
          · refine cell_1 ?_
            rw [World.cell?_alloc_at _ _ wr.heap.size _ (show wr.heap.size = (wr.drewN nq).heap.size from rfl)]
            rfl
          · intro u' hu; simp at hu; subst hu; rfl
          · unfold maxLen; omega
          · omega
          · rw [sz_alloc]; show _ ≤ wr.heap.size + 1; omega
          intro v' w3 h5 hg5 _
          have hst := hide (unhide Hst _ nq w3 v' h5 hg5)
          clear h5 hg5
          go_wp2
          go_roundw
          case rel => exact ⟨i + 1, j + 1, _, by omega, by omega, by go_num, by go_num, unhide Hn, by simp; omega, (unhide hst).1, (unhide hst).2⟩
          case measure => simp [intOf]; omega
        · have Hn := hide ((unhide Hm).swap.one (unhide Hay) (unhide Hax) gj (fun _ => hc)).swap
          generalize x[i]?.getD 0 = xv at *
          generalize y[j]?.getD 0 = yv at *
          have c1 : decide (xv ≤ yv) = false := decide_eq_false (by omega)
          have c2 : (xv == yv) = false := by simp; omega
          clear Hm
          go_wp2_with fail
          go_quiet (fail)
          go_wp2_with (at_builtin; refine wpList_append_own _ rfl _ _ 25 rfl w.heap.size 3 i0 (.int .i64 0) 1 8 Try.underlying25 hi hz0 hz1 hz2 rfl (by decide) _ _ _ rfl (World.ownsRow.alloc (w := wr.drewN nq) (unhide Hown) _) ⟨wr.heap.size, 0, none⟩ 1 1 [.int .i64 yv] rfl rfl ?_ ?_ ?_ ?_ ?_ ?_)
          · refine cell_1 ?_
            rw [World.cell?_alloc_at _ _ wr.heap.size _ (show wr.heap.size = (wr.drewN nq).heap.size from rfl)]
            rfl
          · intro u' hu; simp at hu; subst hu; rfl
          · unfold maxLen; omega
          · omega
          · rw [sz_alloc]; show _ ≤ wr.heap.size + 1; omega
          intro v' w3 h5 hg5 _
          have hst := hide (unhide Hst _ nq w3 v' h5 hg5)
          clear h5 hg5
          go_wp2
          go_roundw
          case rel => exact ⟨i, j + 1, _, by omega, by omega, by go_num, by go_num, unhide Hn, by simp; omega, (unhide hst).1, (unhide hst).2⟩
          case measure => simp [intOf]; omega
      · have gj' : ¬ (j : Int) < (y.length : Int) := by omega
        have gjd : decide ((y.length : Int) ≤ (j : Int)) = true := decide_eq_true (by omega)
        have gje : decide (y.length ≤ j) = true := decide_eq_true (by omega)
        have Hn := hide ((unhide Hm).one (unhide Hax) (unhide Hay) gi (fun h => absurd h gj))
        generalize x[i]?.getD 0 = xv at *
        clear Hm
        go_wp2_with fail
        go_quiet (fail)
        go_wp2_with (at_builtin; refine wpList_append_own _ rfl _ _ 25 rfl w.heap.size 3 i0 (.int .i64 0) 1 8 Try.underlying25 hi hz0 hz1 hz2 rfl (by decide) _ _ _ rfl (World.ownsRow.alloc (w := wr.drewN nq) (unhide Hown) _) ⟨wr.heap.size, 0, none⟩ 1 1 [.int .i64 xv] rfl rfl ?_ ?_ ?_ ?_ ?_ ?_)
        · refine cell_1 ?_
          rw [World.cell?_alloc_at _ _ wr.heap.size _ (show wr.heap.size = (wr.drewN nq).heap.size from rfl)]
          rfl
        · intro u' hu; simp at hu; subst hu; rfl
        · unfold maxLen; omega
        · omega
        · rw [sz_alloc]; show _ ≤ wr.heap.size + 1; omega
        intro v' w3 h5 hg5 _
        have hst := hide (unhide Hst _ nq w3 v' h5 hg5)
        clear h5 hg5
        go_wp2
        go_roundw
        case rel => exact ⟨i + 1, j, _, by omega, by omega, by go_num, by go_num, unhide Hn, by simp; omega, (unhide hst).1, (unhide hst).2⟩
        case measure => simp [intOf]; omega
    · have gi' : ¬ (i : Int) < (x.length : Int) := by omega
      by_cases gj : j < y.length
      · have gj' : (j : Int) < (y.length : Int) := by omega
        have gjd : decide ((y.length : Int) ≤ (j : Int)) = false := decide_eq_false (by omega)
        have gje : decide (y.length ≤ j) = false := decide_eq_false (by omega)
        have gid : decide (i < x.length) = false := decide_eq_false (by omega)
        have gid' : decide ((i : Int) < (x.length : Int)) = false := decide_eq_false (by omega)
        obtain ⟨_, _, e2, -, hcy⟩ := unhide By wr hb
        cases e2
        obtain ⟨b2, o2, rfl, -, hbn2, hcelly⟩ := hcy (by omega)
        have hyc : wr.cell? ⟨b2, o2 + j, none⟩ = some (.int .i64 (y[j]?.getD 0)) := hcelly j gj
        clear hcelly hcy
        have Hn := hide ((unhide Hm).swap.one (unhide Hay) (unhide Hax) gj (fun h => absurd h gi)).swap
        generalize y[j]?.getD 0 = yv at *
        clear Hm
        go_wp2_with fail
        go_quiet (fail)
        go_wp2_with (at_builtin; refine wpList_append_own _ rfl _ _ 25 rfl w.heap.size 3 i0 (.int .i64 0) 1 8 Try.underlying25 hi hz0 hz1 hz2 rfl (by decide) _ _ _ rfl (World.ownsRow.alloc (w := wr.drewN nq) (unhide Hown) _) ⟨wr.heap.size, 0, none⟩ 1 1 [.int .i64 yv] rfl rfl ?_ ?_ ?_ ?_ ?_ ?_)
        · refine cell_1 ?_
          rw [World.cell?_alloc_at _ _ wr.heap.size _ (show wr.heap.size = (wr.drewN nq).heap.size from rfl)]
          rfl
        · intro u' hu; simp at hu; subst hu; rfl
        · unfold maxLen; omega
        · omega
        · rw [sz_alloc]; show _ ≤ wr.heap.size + 1; omega
        intro v' w3 h5 hg5 _
        have hst := hide (unhide Hst _ nq w3 v' h5 hg5)
        clear h5 hg5
        go_wp2
        go_roundw
        case rel => exact ⟨i, j + 1, _, by omega, by omega, by go_num, by go_num, unhide Hn, by simp; omega, (unhide hst).1, (unhide hst).2⟩
        case measure => simp [intOf]; omega
      · have gj' : ¬ (j : Int) < (y.length : Int) := by omega
        have Hd : Hid (Ord (x ++ y) os) := by
          have h1 := unhide Hm
          rw [show i = x.length by omega, show j = y.length by omega] at h1
          exact h1.done (fun z => List.mem_append)
        clear Hm Hst
        go_wp2
        go_ret
        exact ⟨⟨_, os, rfl, unhide Hd, by simp; omega, unhide Hown⟩, hb⟩

/-- All trigram numbers of the lines. -/
def tr (bs : List Int) : List Int := tris bs (bs.length - 2)
def allT (xss : List (List Int)) : List Int := xss.flatMap tr
theorem allT_append (a b : List (List Int)) : allT (a ++ b) = allT a ++ allT b := List.flatMap_append
theorem allT_len (xss : List (List Int)) : (allT xss).length ≤ tot xss := by
  induction xss with
  | nil => simp [allT, tot]
  | cons x r ih =>
    have h1 : allT (x :: r) = tr x ++ allT r := List.flatMap_cons
    rw [h1, List.length_append, tot, tr, tris_len]
    omega

set_option maxHeartbeats 4000000 in
set_option maxRecDepth 100000 in
theorem l4keys_any (N : Nat) : ∀ (v : Value) (xss : List (List Int)) (w : World), xss.length ≤ N → SsAt mB 0 w.heap.size w v xss → (∀ x ∈ xss, Bytes x) → tot xss ≤ 1048576 → xss.length ≤ 1048576 →
    Calls Try.prog 38 #[v] w fun e w' => OrdOwn e w w' (allT xss) ∧ Below w.heap.size w w' := by
  induction N with
  | zero =>
    intro v xss w hN hv hbb hT hL
    obtain rfl : xss = [] := List.eq_nil_of_length_eq_zero (by omega)
    obtain ⟨a, cap, rfl, -, -⟩ := hv
    go_enter Try.func38, Try.ntmps38
    go_wp2
    go_ret
    exact ⟨⟨_, [], rfl, Ord.nil, Nat.le_refl _, World.ownsRow_nil _ _ _ _⟩, Below.refl _ _⟩
  | succ N ih =>
    intro v xss w hN hv hbb hT hL
    have Hv := hide hv
    have HB := hide hbb
    obtain ⟨a, cap, rfl, hl, hc⟩ := hv
    obtain ⟨hcp, hcm⟩ := hl
    clear hbb
    by_cases h0 : xss.length = 0
    · obtain rfl : xss = [] := List.eq_nil_of_length_eq_zero (by omega)
      clear hc
      go_enter Try.func38, Try.ntmps38
      go_wp2
      go_ret
      exact ⟨⟨_, [], rfl, Ord.nil, Nat.le_refl _, World.ownsRow_nil _ _ _ _⟩, Below.refl _ _⟩
    · obtain ⟨b, off, rfl, hbn, hcell⟩ := hc (by omega)
      have g0 : ((xss.length : Int) == 0) = false := by rw [beq_eq_false_iff_ne]; omega
      by_cases h1 : xss.length = 1
      · obtain ⟨x, rfl⟩ : ∃ x, xss = [x] := List.length_eq_one_iff.1 h1
        obtain ⟨s, hx, hs, -⟩ := hcell 0 (by omega)
        have Hs := hide hs
        obtain ⟨sa, sc, rfl, -, -⟩ := hs
        have hxl := tot_get [x] 0
        have Hb := hide (unhide HB x (by simp))
        have e1 : Hid (allT [x] = tris x (x.length - 2)) := by show allT [x] = _; simp [allT, tr]
        simp only [Nat.add_zero, List.getElem?_cons_zero, Option.getD_some] at hx Hs hxl
        clear hcell hc h1 h0
        go_enter Try.func38, Try.ntmps38
        go_wp2_with fail
        refine (specTri_own _ x _ (unhide Hs) (unhide Hb) (by omega)).mono ?_
        rintro e w1 ⟨⟨v1, ys, rfl, ho, hle, hown⟩, hb1⟩
        have Hown := hide hown
        obtain ⟨oa, oc, rfl⟩ := own_is hown
        clear hown
        go_wp2
        go_ret
        exact ⟨⟨_, ys, rfl, by rw [unhide e1]; exact ho, by rw [unhide e1]; exact hle, unhide Hown⟩, hb1⟩
      · have g1 : ((xss.length : Int) == 1) = false := by rw [beq_eq_false_iff_ne]; omega
        have hA := hide (SsAt.take (k := xss.length / 2) (cap := cap) (by omega) ⟨hcp, hcm⟩ hbn hcell)
        have hB := hide (SsAt.drop (k := xss.length / 2) (m := xss.length - xss.length / 2) (cap := cap - xss.length / 2) (by omega) ⟨by omega, by omega⟩ hbn hcell)
        have t1 := tot_take xss (xss.length / 2)
        have t2 := tot_drop xss (xss.length / 2)
        have l1 : (xss.take (xss.length / 2)).length = xss.length / 2 := by simp; omega
        have l2 : (xss.drop (xss.length / 2)).length = xss.length - xss.length / 2 := by simp
        have q1 : (xss.take (xss.length / 2)).length ≤ N := by omega
        have q2 : (xss.drop (xss.length / 2)).length ≤ N := by omega
        have q3 : (xss.take (xss.length / 2)).length ≤ 1048576 := by omega
        have q4 : (xss.drop (xss.length / 2)).length ≤ 1048576 := by omega
        have B1 : Hid (∀ x ∈ xss.take (xss.length / 2), Bytes x) := fun x hx => unhide HB x (List.mem_of_mem_take hx)
        have B2 : Hid (∀ x ∈ xss.drop (xss.length / 2), Bytes x) := fun x hx => unhide HB x (List.mem_of_mem_drop hx)
        have e1 : Hid (allT (xss.take (xss.length / 2)) ++ allT (xss.drop (xss.length / 2)) = allT xss) := by
          show _ = _
          rw [← allT_append, List.take_append_drop]
        have s1 := allT_len (xss.take (xss.length / 2))
        have s2 := allT_len (xss.drop (xss.length / 2))
        have Hq := hide q1
        have Hq2 := hide q2
        clear hc hcell l1 l2 q1 q2
        go_enter Try.func38, Try.ntmps38
        go_wp2_with fail
        refine (ih _ _ _ (unhide Hq) (unhide hA) (unhide B1) (by omega) q3).mono ?_
        rintro e w1 ⟨⟨v1, x, rfl, ox, lx, own1⟩, hb1⟩
        have hz1 := hb1.size
        have Own1 := hide own1
        have Ox := hide ox
        obtain ⟨a1, c1, rfl⟩ := own_is own1
        have HB1 := hide ((unhide hB).below hb1 (Nat.le_refl _))
        clear own1 ox
        go_wp2_with fail
        refine (ih _ _ _ (unhide Hq2) (unhide HB1) (unhide B2) (by omega) q4).mono ?_
        rintro e w2 ⟨⟨v2, y, rfl, oy, ly, own2⟩, hb2⟩
        have hz2 := hb2.size
        have Own2 := hide own2
        have Oy := hide oy
        obtain ⟨a2, c2, rfl⟩ := own_is own2
        have Sx := hide ((own_slw (lo := 0) (own_keep (unhide Own1) hb2 (Nat.le_refl _)) (Nat.zero_le _) (by unfold maxLen; omega)).at)
        have Sy := hide ((own_slw (lo := 0) (unhide Own2) (Nat.zero_le _) (by unfold maxLen; omega)).at)
        clear own2 oy
        go_wp2_with fail
        refine (l4union_any _ _ x y _ (unhide Sx) (unhide Sy) (unhide Ox).asc (unhide Oy).asc (by omega) (by omega)).mono ?_
        rintro e w3 ⟨⟨v3, os, rfl, oo, lo, own3⟩, hb3⟩
        have Own3 := hide own3
        obtain ⟨a3, c3, rfl⟩ := own_is own3
        clear own3
        go_wp2
        go_ret
        refine ⟨⟨_, os, rfl, ?_, ?_, own_low (unhide Own3) (by omega)⟩, (hb1.trans (hb2.mono hz1)).trans (hb3.mono (by omega))⟩
        · rw [← unhide e1]
          exact oo.congr (fun z => by rw [List.mem_append, List.mem_append, (unhide Ox).mem, (unhide Oy).mem])
        · rw [← unhide e1, List.length_append]
          rw [List.length_append] at lo
          omega

end Go.Proofs.Ytkajdhliejjohaa
