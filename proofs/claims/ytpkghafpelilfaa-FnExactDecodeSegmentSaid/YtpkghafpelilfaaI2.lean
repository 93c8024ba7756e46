import Derived.Test.YtpkghafpelilfaaI1
import Derived.Test.YtpkghafpelilfaaO2
import Derived.Lib.BytesEntry
import Derived.Lib.SliceRun
import Derived.Test.YtpkghafpelilfaaI0
namespace Go.Proofs.Ytpkghafpelilfaa
open Go.RowKit

/-- Where the first newline of a list stands, or -1. -/
def ix (bs : List Int) : Int := if (hd bs).length < bs.length then ((hd bs).length : Int) else -1
theorem ix_cons (x : Int) (r : List Int) : ix (x :: r) = if x = 10 then 0 else if ix r = -1 then -1 else ix r + 1 := by
  unfold ix hd
  rw [List.takeWhile_cons]
  by_cases e : x = 10
  · subst e; simp
  · simp only [bne_iff_ne, ne_eq, e, not_false_eq_true, if_true, List.length_cons, if_false]
    by_cases h : (List.takeWhile (fun x => x != 10) r).length < r.length
    · rw [if_pos (by omega), if_pos h, if_neg (by omega)]
      omega
    · rw [if_neg (by omega), if_neg h, if_pos rfl]
theorem ix_lib (bs : List Int) (hb : ∀ x ∈ bs, 0 ≤ x ∧ x ≤ 255) : Lib.indexByte (Lib.bytesOf bs) (10 : Int).toNat.toUInt8 = ix bs := by
  induction bs with
  | nil => rfl
  | cons x r ih =>
    have hx := hb x (by simp)
    rw [ix_cons, ← ih (fun y hy => hb y (by simp [hy]))]
    have e : (UInt8.ofNat x.toNat == (10 : Int).toNat.toUInt8) = decide (x = 10) := by
      have e1 : (10 : Int).toNat.toUInt8 = UInt8.ofNat 10 := rfl
      rw [e1, Bool.eq_iff_iff, beq_iff_eq, decide_eq_true_iff]
      constructor
      · intro h
        have h2 := congrArg UInt8.toNat h
        rw [UInt8.toNat_ofNat', UInt8.toNat_ofNat'] at h2
        omega
      · intro h
        rw [h]
        rfl
    show Lib.indexByte (UInt8.ofNat x.toNat :: Lib.bytesOf r) _ = _
    simp only [Lib.indexByte, e, decide_eq_true_eq, beq_iff_eq]
theorem ix_lo (bs : List Int) : -1 ≤ ix bs := by unfold ix; split <;> omega
theorem ix_hi (bs : List Int) : ix bs ≤ bs.length := by unfold ix; split <;> omega
theorem ix_neg {bs : List Int} (h : ix bs < 0) : hd bs = bs := by
  unfold ix at h
  split at h
  · omega
  · rename_i h1
    have h2 : hd bs = bs.takeWhile (fun x => x != 10) := rfl
    have h3 := List.takeWhile_prefix (fun x : Int => x != 10) (l := bs)
    have h4 := hd_len bs
    rw [h2] at h1 h4 ⊢
    exact h3.eq_of_length (by omega)
theorem ix_pos {bs : List Int} (h : 0 ≤ ix bs) : ix bs = ((hd bs).length : Int) ∧ (hd bs).length < bs.length := by
  unfold ix at h ⊢
  split at h
  · rename_i h1; rw [if_pos h1]; exact ⟨rfl, h1⟩
  · omega

theorem bytes_mem {bs : List Int} (h : Bytes bs) : ∀ x ∈ bs, 0 ≤ x ∧ x ≤ 255 := by
  intro x hx
  obtain ⟨i, hi, rfl⟩ := List.mem_iff_getElem.1 hx
  have := h i
  rw [List.getElem?_eq_getElem hi] at this
  exact this

theorem run_ixb {P : Program} (w : World) (a : Option Addr) (N c : Nat) (bs : List Int) (hv : SlAt mB 0 0 N w (.slice a bs.length c) bs) (hb : Bytes bs) :
    (Extern.BytealgIndexByte.indexByte #[.slice a bs.length c, .int .u8 10]).run P w = .ok (.int .i64 (ix bs)) w := by
  rw [← ix_lib bs (bytes_mem hb)]
  obtain ⟨a', c', e, -, hc⟩ := hv
  cases e
  by_cases hp : 0 < bs.length
  · obtain ⟨b, off, rfl, -, -, hcell⟩ := hc hp
    exact Lib.run_indexByteSlice w b off bs.length c bs rfl (fun i hi => by rw [hcell i hi, List.getD_eq_getElem?_getD]; rfl) 10
  · have e0 : bs = [] := List.eq_nil_of_length_eq_zero (by omega)
    subst e0
    cases a with
    | none => exact Lib.run_indexByteNil w _ c 10
    | some ad => rfl

set_option maxHeartbeats 1000000 in
set_option maxRecDepth 100000 in
theorem indexByte_any (v : Value) (bs : List Int) (N : Nat) (w : World) (hv : SlAt mB 0 0 N w v bs) (hb : Bytes bs) :
    Calls Try.prog 75 #[v, .int .u8 10] w fun e w' => e = .returned (.int .i64 (ix bs)) ∧ w' = w := by
  have Hv := hide hv
  obtain ⟨a, cap, rfl, -, -⟩ := hv
  go_enter Try.func75, Try.ntmps75
  go_wp2
  rw [run_callFunc_extern Try.func78 (by kernel_rfl) (by kernel_rfl) (by kernel_rfl) (e := Extern.BytealgIndexByte.indexByte) (by kernel_rfl), run_ixb w a N cap bs (unhide Hv) hb]
  simp only [Result.andThen]
  rw [Oper.upon_value]
  go_wp2
  go_ret
  exact ⟨rfl, rfl⟩

theorem hd_is_take (bs : List Int) : bs.take (hd bs).length = hd bs := by
  have h3 := List.takeWhile_prefix (fun x : Int => x != 10) (l := bs)
  exact (List.prefix_iff_eq_take.1 h3).symm

/-- What cutting at a newline answers. -/
def CutAt (e : Ending) (N : Nat) (w : World) (bs : List Int) : Prop :=
  ∃ va vb r, e = .returned (.tuple #[va, vb, .bool r]) ∧ (SlAt mB 0 0 N w va (hd bs) ∧ CapOk va) ∧ SlAt mB 0 0 N w vb (bs.drop ((hd bs).length + 1)) ∧ CapOk vb

/-- Bytes put behind a list of bytes that is owned. -/
theorem app_bytes {w : World} {ops : Array Oper} {rest : List Oper} {o : Oper} {a : Act} {Q : Exit → Act → World → Prop} (hgd : o.guard = none) (s x : Operand)
    (ho : o.op = .call { callee := .builtin .append, args := #[s, x], argTypes := #[28, 28] }) (base : Nat) (v : Value) (os : List Int) (hs : a.eval s = v) (hown : w.ownsRow base 5 1 v os.length (os.map mB)) (hbase : base ≤ w.heap.size)
    (sv : Value) (hx : a.eval x = sv) (xs : List Int) (hv : SlAt mB 0 0 w.heap.size w sv xs) (hlen : os.length + xs.length ≤ 1073741824)
    (h : ∀ v' w', Below base w w' → w.grownBy w' v.ownBlock → w'.ownsRow base 5 1 v' (os ++ xs).length ((os ++ xs).map mB) → v'.oneCell' = true → wpList Try.prog ops Q rest (a.put o.dst v') w') : wpList Try.prog ops Q (o :: rest) a w := by
  obtain ⟨i0, hi, hz0, hz1, hz2⟩ := info_parts Try.zinByte
  obtain ⟨sa, sc, rfl, hl, hc⟩ := hv
  cases sa with
  | none =>
    have h0 : xs = [] := by
      refine List.eq_nil_of_length_eq_zero ?_
      by_cases q : 0 < xs.length
      · obtain ⟨b, off, e, -⟩ := hc q; simp at e
      · omega
    subst h0
    obtain ⟨oa, oc, e⟩ := own_is hown
    exact wpList_append_none_c hgd s x 28 ho base 5 i0 1 Try.underlying28 hi _ os.length _ hs hown sc hx (h _ w (Below.refl _ _) ⟨rfl, rfl, rfl, Nat.le_refl _, fun _ _ _ => rfl⟩ (by rw [List.append_nil]; exact hown) (by rw [e]; rfl))
  | some ad =>
    refine wpList_append_own_at w hgd s x 28 ho base 5 i0 (.int .u8 0) 1 1 Try.underlying28 hi hz0 hz1 hz2 rfl (by decide) _ os.length (os.map mB) hs hown ad xs.length sc (xs.map mB) hx (by simp) ?_ ?_ (by unfold maxLen; omega) (by omega) hbase ?_
    · intro j u hu
      have hj : j < xs.length := by
        have := (List.getElem?_eq_some_iff.1 hu).1
        simpa using this
      obtain ⟨b, off, e, -, -, hcell⟩ := hc (by omega)
      simp only [Option.some.injEq] at e
      subst e
      rw [List.getElem?_map, getD_of_lt hj] at hu
      simp only [Option.map_some, Option.some.injEq] at hu
      subst hu
      have e3 : (⟨b, off, none⟩ : Addr).add j = ⟨b, off + j, none⟩ := by cases j <;> rfl
      rw [e3]
      exact hcell j hj
    · intro u hu
      obtain ⟨y, -, rfl⟩ := List.mem_map.1 hu
      rfl
    · intro v' w' h1 hg _ _
      have e1 : (os ++ xs).length = os.length + xs.length := List.length_append
      obtain ⟨oa, oc, rfl⟩ := own_is h1
      exact h _ w' ((Below.refl _ _).grown hg hbase (fun k hk => (hown.lt k hk).1)) hg (by rw [e1, List.map_append]; exact h1) rfl

set_option maxHeartbeats 2000000 in
set_option maxRecDepth 100000 in
theorem bclone_any (v : Value) (bs : List Int) (w : World) (hv : SlAt mB 0 0 w.heap.size w v bs) (hl : bs.length ≤ 1048576) :
    Calls Try.prog 62 #[v] w fun e w' => (∃ v', e = .returned v' ∧ w'.ownsRow w.heap.size 5 1 v' bs.length (bs.map mB)) ∧ Below w.heap.size w w' := by
  have Hv := hide hv
  obtain ⟨a, cap, rfl, hml, hc⟩ := hv
  cases a with
  | none =>
    have h0 : bs = [] := by
      refine List.eq_nil_of_length_eq_zero ?_
      by_cases q : 0 < bs.length
      · obtain ⟨b, off, e, -⟩ := hc q; simp at e
      · omega
    subst h0
    clear hc
    have hn := Lib.run_eql_slice_nil (P := Try.prog) w 28 _ none 0 cap 0 0 Try.underlying28
    go_enter Try.func62, Try.ntmps62
    go_wp2
    go_ret
    exact ⟨⟨_, rfl, World.ownsRow_nil _ _ _ _⟩, Below.refl _ _⟩
  | some ad =>
    clear hc
    have hn := Lib.run_eql_slice_nil (P := Try.prog) w 28 _ (some ad) bs.length cap 0 0 Try.underlying28
    go_enter Try.func62, Try.ntmps62
    have hb1 := below1 w (.cells #[] 5)
    have HV := hide ((unhide Hv).below hb1 (Nat.le_refl _))
    have hO : Hid ((w.alloc (.cells #[] 5)).ownsRow w.heap.size 5 1 (.slice (some ⟨w.heap.size, 0, none⟩) 0 0) ([] : List Int).length (([] : List Int).map mB)) := ⟨rfl, Or.inr ⟨w.heap.size, 0, #[], rfl, Nat.le_refl _, (pushd_alloc w _).new, Nat.le_refl _, Nat.zero_le _, rfl, rfl⟩⟩
    go_wp2_with (at_builtin; refine app_bytes rfl _ _ rfl w.heap.size _ [] rfl (unhide hO) (by rw [sz_alloc]; omega) _ rfl bs (unhide HV) (by simp; omega) ?_; intro v' w' hb2 hg2 ho2 hone)
    go_ret
    exact ⟨⟨_, rfl, by simpa using ho2⟩, hb1.trans hb2⟩

end Go.Proofs.Ytpkghafpelilfaa
