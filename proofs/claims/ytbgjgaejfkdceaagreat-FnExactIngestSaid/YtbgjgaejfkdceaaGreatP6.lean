import Derived.Test.YtbgjgaejfkdceaaGreatP2
import Derived.Test.YtbgjgaejfkdceaaGreatP1
import Derived.Laws.OwnMore
import Derived.ArgAppend
import Derived.Test.YtbgjgaejfkdceaaGreatO1
namespace Go.Proofs.YtbgjgaejfkdceaaGreat
open Go.RowKit

/-- A number as a varint. -/
def viF : Nat → Int → List Int
  | 0, n => [n % 256]
  | k + 1, n => if n < 128 then [n % 256] else (n % 128 + 128) :: viF k (n / 128)
/-- A number as a varint. -/
def vi (n : Int) : List Int := viF n.toNat n
theorem viF_enough : ∀ (k j : Nat) (n : Int), n.toNat ≤ k → n.toNat ≤ j → viF k n = viF j n
  | 0, 0, _, _, _ => rfl
  | 0, j + 1, n, h, _ => by rw [viF, viF, if_pos (by omega)]
  | k + 1, 0, n, _, h => by rw [viF, viF, if_pos (by omega)]
  | k + 1, j + 1, n, h, h' => by
    rw [viF, viF]
    by_cases g : n < 128
    · rw [if_pos g, if_pos g]
    · rw [if_neg g, if_neg g, viF_enough k j (n / 128) (by omega) (by omega)]
theorem vi_lo {n : Int} (h : n < 128) : vi n = [n % 256] := by
  unfold vi
  cases n.toNat with
  | zero => rfl
  | succ k => rw [viF, if_pos h]
theorem vi_hi {n : Int} (h : ¬ n < 128) : vi n = (n % 128 + 128) :: vi (n / 128) := by
  unfold vi
  obtain ⟨k, hk⟩ : ∃ k, n.toNat = k + 1 := ⟨n.toNat - 1, by omega⟩
  rw [hk, viF, if_neg h, viF_enough k (n / 128).toNat (n / 128) (by omega) (by omega)]
theorem vi_ind {P : Int → Prop} (lo : ∀ n, n < 128 → P n) (hi : ∀ n, ¬ n < 128 → P (n / 128) → P n) (n : Int) : P n := by
  have key : ∀ (k : Nat) (n : Int), n.toNat ≤ k → P n := by
    intro k
    induction k with
    | zero => intro n h; exact lo n (by omega)
    | succ k ih =>
      intro n h
      by_cases g : n < 128
      · exact lo n g
      · exact hi n g (ih _ (by omega))
  exact key _ n (Nat.le_refl _)
theorem vi_len (k : Nat) : ∀ n : Int, n < 128 ^ (k + 1) → (vi n).length ≤ k + 1 := by
  induction k with
  | zero => intro n h; rw [vi_lo (by simpa using h)]; simp
  | succ k ih =>
    intro n h
    by_cases h1 : n < 128
    · rw [vi_lo h1]; simp
    · rw [vi_hi h1, List.length_cons]
      have := ih (n / 128) (by rw [Int.pow_succ] at h; omega)
      omega
theorem vi_len9 {n : Int} (h : n ≤ 9223372036854775807) : (vi n).length ≤ 9 := vi_len 8 n (by omega)
theorem vi_bytes (n : Int) : ∀ x ∈ vi n, 0 ≤ x ∧ x ≤ 255 := by
  induction n using vi_ind with
  | lo n h => rw [vi_lo h]; intro x hx; simp at hx; omega
  | hi n h ih =>
    rw [vi_hi h]
    intro x hx
    rcases List.mem_cons.1 hx with rfl | hx
    · omega
    · exact ih x hx

/-- A whole list of bytes behind a row of one's own. -/
theorem app_moreB {w : World} {ops : Array Oper} {rest : List Oper} {o : Oper} {a : Act} {Q : Exit → Act → World → Prop} (hgd : o.guard = none) (s x : Operand)
    (ho : o.op = .call { callee := .builtin .append, args := #[s, x], argTypes := #[25, 25] }) (base : Nat) (ov : Value) (hs : a.eval s = ov) (os : List Int) (hown : w.ownsRow base 5 1 ov os.length (os.map mB)) (hbase : base ≤ w.heap.size)
    (sv : Value) (hx : a.eval x = sv) (xs : List Int) (hv : SlAt mB 0 0 w.heap.size w sv xs) (hlen : os.length + xs.length ≤ 1073741824)
    (h : ∀ v' w', Below base w w' → w'.ownsRow base 5 1 v' (os ++ xs).length ((os ++ xs).map mB) → v'.oneCell' = true → wpList Tryz.prog ops Q rest (a.put o.dst v') w') : wpList Tryz.prog ops Q (o :: rest) a w := by
  obtain ⟨i0, hi, hz0, hz1, hz2⟩ := info_parts Tryz.zinByte
  obtain ⟨sa, sc, rfl, hl, hc⟩ := hv
  cases sa with
  | none =>
    have h0 : xs.length = 0 := by
      by_cases q : 0 < xs.length
      · obtain ⟨b, off, e, -⟩ := hc q; simp at e
      · omega
    rw [h0] at hx
    refine wpList_append_none_c hgd s x 25 ho base 5 i0 1 Tryz.underlying25 hi _ os.length (os.map mB) hs hown sc hx (h _ w (Below.refl _ _) (by rw [List.eq_nil_of_length_eq_zero h0, List.append_nil]; exact hown) ?_)
    obtain ⟨oa, oc, rfl⟩ := own_is hown
    rfl
  | some ad =>
    refine wpList_append_own_at w hgd s x 25 ho base 5 i0 (.int .u8 0) 1 1 Tryz.underlying25 hi hz0 hz1 hz2 rfl (by decide) _ os.length (os.map mB) hs hown ad xs.length sc (xs.map mB) hx (by simp) ?_ ?_ (by unfold maxLen; omega) (by omega) hbase ?_
    · intro j u hu
      have hj : j < xs.length := by
        have := (List.getElem?_eq_some_iff.1 hu).1
        simpa using this
      obtain ⟨b, off, e, -, -, hcell⟩ := hc (by omega)
      simp only [Option.some.injEq] at e
      subst e
      rw [List.getElem?_map, getD_of_lt hj] at hu
      simp only [Option.map_some, Option.some.injEq] at hu
      subst hu
      have e3 : (⟨b, off, none⟩ : Addr).add j = ⟨b, off + j, none⟩ := by cases j <;> rfl
      rw [e3]
      exact hcell j hj
    · intro u hu
      obtain ⟨y, -, rfl⟩ := List.mem_map.1 hu
      rfl
    · intro v' w' h1 hg _ _
      have h2 : w'.ownsRow base 5 1 v' (os ++ xs).length ((os ++ xs).map mB) := by rw [List.length_append, List.map_append]; exact h1
      obtain ⟨oa, oc, rfl⟩ := own_is h2
      exact h _ w' ((Below.refl _ _).grown hg hbase (fun k hk => (hown.lt k hk).1)) h2 rfl

/-- What owns its row can be read. -/
theorem own_rdB {base n : Nat} {w : World} {v : Value} {xs : List Int} (h : w.ownsRow base 5 1 v n (xs.map mB)) (hn : n ≤ maxLen) : SlAt mB 0 0 w.heap.size w v xs := by
  have hlen := h.1
  rw [List.length_map, Nat.mul_one] at hlen
  rcases h.2 with ⟨rfl, hz⟩ | ⟨g, cap, cur, rfl, hbg, hg, hnc, hcm, hcs, htake⟩
  · exact ⟨none, 0, by rw [hlen, hz], by omega, fun hp => by omega⟩
  · refine ⟨_, cap, by rw [hlen], by omega, fun hp => ⟨g, 0, rfl, Nat.zero_le _, (h.lt g rfl).2, fun i hi => ?_⟩⟩
    rw [Nat.zero_add, h.cellAt i (by omega), List.getElem?_map, getD_of_lt hi]
    rfl

/-- What the model's l4varint answers. -/
def ViR (e : Ending) (w w' : World) (n : Int) : Prop := ∃ v, e = .returned v ∧ w'.ownsRow w.heap.size 5 1 v (vi n).length ((vi n).map mB)

theorem viR_lo {n : Int} (h : n < 128) (w : World) : ViR (.returned (.slice (some ⟨w.heap.size, 0, none⟩) 1 1)) w (w.alloc (.cells #[.int .u8 (n % 256)] 5)) n :=
  ⟨_, rfl, by rw [vi_lo h]; exact World.ownsRow_lit w #[.int .u8 (n % 256)] 1 (Nat.le_refl _) (by unfold maxLen; omega) rfl⟩

set_option maxHeartbeats 2000000 in
set_option maxRecDepth 100000 in
theorem l4varint_lo (n : Int) (w : World) (h1 : n < 128) (_hn0 : -9223372036854775808 ≤ n) :
    Calls Tryz.prog 64 #[.int .i64 n] w fun e w' => ViR e w w' n ∧ Below w.heap.size w w' := by
  go_enter Tryz.func64, Tryz.ntmps64
  go_wp2
  go_ret
  exact ⟨viR_lo h1 w, below1 _ _⟩

set_option maxHeartbeats 2000000 in
set_option maxRecDepth 100000 in
theorem l4varint_f (f : Nat) : ∀ (n : Int) (w : World), n < 128 ^ (f + 1) → f ≤ 8 → n ≤ 9223372036854775807 → -9223372036854775808 ≤ n →
    Calls Tryz.prog 64 #[.int .i64 n] w fun e w' => ViR e w w' n ∧ Below w.heap.size w w' := by
  induction f with
  | zero => intro n w h0 _ _ h; exact l4varint_lo n w (by simpa using h0) h
  | succ f ih =>
    intro n w h0 hf hn1 hn0
    by_cases h1 : n < 128
    · exact l4varint_lo n w h1 hn0
    · have hlt : n / 128 < 128 ^ (f + 1) := by rw [Int.pow_succ] at h0; omega
      have IH := hide (fun w => ih (n / 128) w hlt (by omega) (by omega) (by omega))
      have Hv := hide (vi_hi h1)
      have hln := vi_len f (n / 128) hlt
      clear ih hlt h0
      have hb0 := below1 w (.cells #[.int .u8 (n % 128 + 128)] 5)
      have HO : Hid ((w.alloc (.cells #[.int .u8 (n % 128 + 128)] 5)).ownsRow w.heap.size 5 1 (.slice (some ⟨w.heap.size, 0, none⟩) 1 1) 1 ([n % 128 + 128].map mB)) := World.ownsRow_lit w #[.int .u8 (n % 128 + 128)] 1 (Nat.le_refl _) (by unfold maxLen; omega) rfl
      go_enter Tryz.func64, Tryz.ntmps64
      go_wp2_with fail
      generalize w.alloc (.cells #[.int .u8 (n % 128 + 128)] 5) = V at *
      refine (unhide IH V).mono ?_
      rintro e w1 ⟨⟨v1, rfl, hown⟩, hb1⟩
      have hz0 := hb0.size
      have hz1 := hb1.size
      have HO1 := hide (own_keep (unhide HO) hb1 (Nat.le_refl _))
      have HS1 := hide (own_rdB hown (by unfold maxLen; omega))
      have hB1 : Below w.heap.size w w1 := hb0.trans (hb1.mono hz0)
      obtain ⟨oa, oc, rfl⟩ := own_is hown
      clear hown hb1 hb0
      go_wp2_with (at_builtin; refine app_moreB rfl _ _ rfl w.heap.size _ rfl [n % 128 + 128] (by exact unhide HO1) (by omega) _ rfl (vi (n / 128)) (by exact unhide HS1) (by simp; omega) ?_; intro v3 w3 hb3 ho3 hoc3)
      go_ret
      exact ⟨⟨_, rfl, by rw [unhide Hv]; exact ho3⟩, hB1.trans hb3⟩

theorem l4varint_any (n : Int) (w : World) (hn1 : n ≤ 9223372036854775807) (hn0 : -9223372036854775808 ≤ n) :
    Calls Tryz.prog 64 #[.int .i64 n] w fun e w' => ViR e w w' n ∧ Below w.heap.size w w' := l4varint_f 8 n w (by omega) (Nat.le_refl _) hn1 hn0

end Go.Proofs.YtbgjgaejfkdceaaGreat

namespace Go.Proofs.YtbgjgaejfkdceaaGreat
open Go.RowKit

/-- Xor of numbers that are not negative. -/
def xr (h b : Int) : Int := ((h.toNat ^^^ b.toNat : Nat) : Int)
theorem xr_bounds {h b : Int} (h1 : h < 4294967296) (b1 : b ≤ 255) : 0 ≤ xr h b ∧ xr h b < 4294967296 := by
  unfold xr
  refine ⟨by omega, ?_⟩
  have : h.toNat ^^^ b.toNat < 2 ^ 32 := Nat.xor_lt_two_pow (by omega) (by omega)
  omega
/-- One byte more under the checksum. -/
def ckS (h b : Int) : Int := (xr h b * 16777619) % 4294967296
theorem ckS_bounds (h b : Int) : 0 ≤ ckS h b ∧ ckS h b < 4294967296 := by unfold ckS; omega
/-- The checksum. -/
def ck (xs : List Int) : Int := xs.foldl ckS 2166136261
theorem ck_bounds (xs : List Int) : 0 ≤ ck xs ∧ ck xs < 4294967296 := by
  unfold ck
  rcases List.eq_nil_or_concat xs with rfl | ⟨l, a, rfl⟩
  · simp
  · rw [List.concat_eq_append, List.foldl_append]
    exact ckS_bounds _ _
theorem ck_next {xs : List Int} {i : Nat} (h : i < xs.length) : ck (xs.take (i + 1)) = ckS (ck (xs.take i)) (xs[i]?.getD 0) := by
  unfold ck
  rw [List.take_add_one, List.foldl_append, List.getElem?_eq_getElem h]
  rfl
/-- Its four bytes. -/
def ckB (h : Int) : List Int := [h / 16777216, h / 65536 % 256, h / 256 % 256, h % 256]

theorem bits_xor64 {h b : Int} (h0 : 0 ≤ h) (h1 : h < 4294967296) (b0 : 0 ≤ b) (b1 : b ≤ 255) : bits .xor .i64 h b = xr h b := by
  have hb := xr_bounds h1 b1
  unfold xr at hb
  have e1 : (BitVec.ofInt 64 h).toNat = h.toNat := by rw [BitVec.toNat_ofInt]; omega
  have e2 : (BitVec.ofInt 64 b).toNat = b.toNat := by rw [BitVec.toNat_ofInt]; omega
  show IntKind.i64.wrap ((BitVec.ofInt 64 h ^^^ BitVec.ofInt 64 b).toNat : Int) = xr h b
  rw [BitVec.toNat_xor, e1, e2, k64i (by omega) (by omega)]
  rfl
theorem bits_xor32 {h b : Int} (h0 : 0 ≤ h) (h1 : h < 4294967296) (b0 : 0 ≤ b) (b1 : b ≤ 255) : bits .xor .u32 h b = xr h b := by
  have hb := xr_bounds h1 b1
  unfold xr at hb
  have e1 : (BitVec.ofInt 32 h).toNat = h.toNat := by rw [BitVec.toNat_ofInt]; omega
  have e2 : (BitVec.ofInt 32 b).toNat = b.toNat := by rw [BitVec.toNat_ofInt]; omega
  show IntKind.u32.wrap ((BitVec.ofInt 32 h ^^^ BitVec.ofInt 32 b).toNat : Int) = xr h b
  rw [BitVec.toNat_xor, e1, e2]
  show ((h.toNat ^^^ b.toNat : Nat) : Int) % 4294967296 = xr h b
  rw [Int.emod_eq_of_lt (by omega) (by omega)]
  rfl

set_option maxHeartbeats 2000000 in
set_option maxRecDepth 100000 in
theorem l4checksum_any (v : Value) (xs : List Int) (w : World) (hv : SlAt mB 0 0 w.heap.size w v xs) (hb : Bytes xs) :
    Calls Tryz.prog 47 #[v] w fun e w' => (∃ v', e = .returned v' ∧ w'.ownsRow w.heap.size 5 1 v' 4 ((ckB (ck xs)).map mB)) ∧ Below w.heap.size w w' := by
  have HB := hide hb
  obtain ⟨a, cap, rfl, hl, hc⟩ := hv
  unfold maxLen at hl
  clear hb
  go_enter Tryz.func47, Tryz.ntmps47
  go_wp2
  go_loop [3, 4] (fun hv iv => ∃ k : Nat, k ≤ xs.length ∧ iv = .int .i64 k ∧ hv = .int .i64 (ck (xs.take k))) (fun _ i => xs.length - (intOf i).toNat)
  case atStart => exact ⟨0, Nat.zero_le _, rfl, rfl⟩
  case round =>
    obtain ⟨k, hk, rfl, rfl⟩ := hrel
    by_cases hlt : k < xs.length
    · have hlt' : (k : Int) < (xs.length : Int) := by omega
      obtain ⟨b, off, rfl, -, -, hcell⟩ := hc (by omega)
      have hx := hcell k hlt
      unfold mB at hx
      have hN := hide (ck_next hlt)
      have hbk := unhide HB k
      have hck := ck_bounds (xs.take k)
      clear hcell hc
      generalize xs[k]?.getD 0 = x at *
      generalize ck (xs.take k) = h at *
      have e1 := bits_xor64 hck.1 hck.2 hbk.1 hbk.2
      have hxr := xr_bounds (h := h) hck.2 hbk.2
      go_wp2
      go_round
      case rel => exact ⟨k + 1, by omega, by go_num, by rw [unhide hN]; rfl⟩
      case measure => simp [intOf]; omega
    · obtain rfl : k = xs.length := by omega
      rw [List.take_length]
      have hck := ck_bounds xs
      obtain ⟨h, hh⟩ : ∃ h, h = ck xs := ⟨_, rfl⟩
      rw [← hh] at hck ⊢
      have HH := hide hh
      clear hh
      go_wp2
      go_ret
      refine ⟨⟨_, rfl, ?_⟩, below1 _ _⟩
      rw [← unhide HH]
      exact World.ownsRow_lit w #[.int .u8 (h / 16777216), .int .u8 (h / 65536 % 256), .int .u8 (h / 256 % 256), .int .u8 (h % 256)] 4 (Nat.le_refl _) (by unfold maxLen; omega) rfl

set_option maxHeartbeats 2000000 in
set_option maxRecDepth 100000 in
theorem checksum_any (v : Value) (xs : List Int) (N : Nat) (w : World) (hv : SlAt mB 0 0 N w v xs) (hb : Bytes xs) :
    Calls Tryz.prog 91 #[v] w fun e w' => e = .returned (.int .u32 (ck xs)) ∧ w' = w := by
  have HB := hide hb
  obtain ⟨a, cap, rfl, hl, hc⟩ := hv
  unfold maxLen at hl
  clear hb
  go_enter Tryz.func91, Tryz.ntmps91
  go_wp2
  go_loop [3, 8] (fun hv iv => ∃ k : Nat, k ≤ xs.length ∧ iv = .int .i64 k ∧ hv = .int .u32 (ck (xs.take k))) (fun _ i => xs.length - (intOf i).toNat)
  case atStart => exact ⟨0, Nat.zero_le _, rfl, rfl⟩
  case round =>
    obtain ⟨k, hk, rfl, rfl⟩ := hrel
    by_cases hlt : k < xs.length
    · have hlt' : (k : Int) < (xs.length : Int) := by omega
      obtain ⟨b, off, rfl, -, -, hcell⟩ := hc (by omega)
      have hx := hcell k hlt
      unfold mB at hx
      have hN := hide (ck_next hlt)
      have hbk := unhide HB k
      have hck := ck_bounds (xs.take k)
      clear hcell hc
      generalize xs[k]?.getD 0 = x at *
      generalize ck (xs.take k) = h at *
      have e1 := bits_xor32 hck.1 hck.2 hbk.1 hbk.2
      have hxr := xr_bounds (h := h) hck.2 hbk.2
      go_wp2
      go_round
      case rel => exact ⟨k + 1, by omega, by go_num, by rw [unhide hN]; rfl⟩
      case measure => simp [intOf]; omega
    · obtain rfl : k = xs.length := by omega
      rw [List.take_length]
      go_wp2
      go_ret
      exact ⟨rfl, rfl⟩

end Go.Proofs.YtbgjgaejfkdceaaGreat

namespace Go.Proofs.YtbgjgaejfkdceaaGreat
open Go.RowKit

theorem grownBy_refl (w : World) (r : Option Nat) : w.grownBy w r := ⟨rfl, rfl, rfl, Nat.le_refl _, fun _ _ _ => rfl⟩

/-- A whole list of bytes behind a row of one's own, and what else is as it was. -/
theorem app_moreG {w : World} {ops : Array Oper} {rest : List Oper} {o : Oper} {a : Act} {Q : Exit → Act → World → Prop} (hgd : o.guard = none) (s x : Operand)
    (ho : o.op = .call { callee := .builtin .append, args := #[s, x], argTypes := #[25, 25] }) (base : Nat) (ov : Value) (hs : a.eval s = ov) (os : List Int) (hown : w.ownsRow base 5 1 ov os.length (os.map mB)) (hbase : base ≤ w.heap.size)
    (sv : Value) (hx : a.eval x = sv) (xs : List Int) (hv : SlAt mB 0 0 w.heap.size w sv xs) (hlen : os.length + xs.length ≤ 1073741824)
    (h : ∀ v' w', w.grownBy w' ov.ownBlock → w'.ownsRow base 5 1 v' (os ++ xs).length ((os ++ xs).map mB) → v'.oneCell' = true → wpList Tryz.prog ops Q rest (a.put o.dst v') w') : wpList Tryz.prog ops Q (o :: rest) a w := by
  obtain ⟨i0, hi, hz0, hz1, hz2⟩ := info_parts Tryz.zinByte
  obtain ⟨sa, sc, rfl, hl, hc⟩ := hv
  cases sa with
  | none =>
    have h0 : xs.length = 0 := by
      by_cases q : 0 < xs.length
      · obtain ⟨b, off, e, -⟩ := hc q; simp at e
      · omega
    rw [h0] at hx
    refine wpList_append_none_c hgd s x 25 ho base 5 i0 1 Tryz.underlying25 hi _ os.length (os.map mB) hs hown sc hx (h _ w (grownBy_refl _ _) (by rw [List.eq_nil_of_length_eq_zero h0, List.append_nil]; exact hown) ?_)
    obtain ⟨oa, oc, rfl⟩ := own_is hown
    rfl
  | some ad =>
    refine wpList_append_own_at w hgd s x 25 ho base 5 i0 (.int .u8 0) 1 1 Tryz.underlying25 hi hz0 hz1 hz2 rfl (by decide) _ os.length (os.map mB) hs hown ad xs.length sc (xs.map mB) hx (by simp) ?_ ?_ (by unfold maxLen; omega) (by omega) hbase ?_
    · intro j u hu
      have hj : j < xs.length := by
        have := (List.getElem?_eq_some_iff.1 hu).1
        simpa using this
      obtain ⟨b, off, e, -, -, hcell⟩ := hc (by omega)
      simp only [Option.some.injEq] at e
      subst e
      rw [List.getElem?_map, getD_of_lt hj] at hu
      simp only [Option.map_some, Option.some.injEq] at hu
      subst hu
      have e3 : (⟨b, off, none⟩ : Addr).add j = ⟨b, off + j, none⟩ := by cases j <;> rfl
      rw [e3]
      exact hcell j hj
    · intro u hu
      obtain ⟨y, -, rfl⟩ := List.mem_map.1 hu
      rfl
    · intro v' w' h1 hg _ _
      have h2 : w'.ownsRow base 5 1 v' (os ++ xs).length ((os ++ xs).map mB) := by rw [List.length_append, List.map_append]; exact h1
      obtain ⟨oa, oc, rfl⟩ := own_is h2
      exact h _ w' hg h2 rfl

/-- ov is os: a row of one's own, or a whole one of which nothing more can be used. -/
def OwnC (lo : Nat) (w : World) (ov : Value) (os : List Int) : Prop := w.ownsRow lo 5 1 ov os.length (os.map mB) ∨ ∃ (g : Nat) (cur : Array Value) (fz : Nat × Nat), ov = .slice (some ⟨g, 0, none⟩) os.length os.length ∧ lo ≤ g ∧ w.heap[g]? = some (.cells cur 5 fz) ∧ cur.toList = os.map mB
theorem OwnC.is {lo : Nat} {w : World} {ov : Value} {os : List Int} (h : OwnC lo w ov os) : ∃ oa oc, ov = .slice oa os.length oc := by
  rcases h with h | ⟨g, cur, fz, e, -⟩
  · exact own_is h
  · exact ⟨_, _, e⟩
theorem OwnC.blk {lo : Nat} {w : World} {ov : Value} {os : List Int} (h : OwnC lo w ov os) : ∀ k, ov.ownBlock = some k → lo ≤ k ∧ ∃ c fz, w.heap[k]? = some (.cells c 5 fz) := by
  intro k hk
  rcases h with h | ⟨g, cur, fz, rfl, h1, h2, -⟩
  · rcases h.2 with ⟨rfl, _⟩ | ⟨g, cap, cur, rfl, hb, hg, _⟩
    · simp [Value.ownBlock] at hk
    · obtain rfl : g = k := by simpa [Value.ownBlock] using hk
      exact ⟨hb, cur, _, hg⟩
  · obtain rfl : g = k := by simpa [Value.ownBlock] using hk
    exact ⟨h1, cur, fz, h2⟩
theorem OwnC.alloc {lo : Nat} {w : World} {ov : Value} {os : List Int} (h : OwnC lo w ov os) (o : Obj) : OwnC lo (w.alloc o) ov os := by
  rcases h with h | ⟨g, cur, fz, e, h1, h2, h3⟩
  · exact Or.inl (h.alloc o)
  · refine Or.inr ⟨g, cur, fz, e, h1, ?_, h3⟩
    rw [(below1 w o).block g (Array.getElem?_eq_some_iff.1 h2).1]
    exact h2
theorem grownBy_any {w w' : World} (h : w.grownBy w' none) (r : Option Nat) : w.grownBy w' r := ⟨h.os, h.tape, h.output, h.size, fun k hk _ => h.block k hk (by simp)⟩

/-- A byte behind such a row. -/
theorem app_oneC {w : World} {ops : Array Oper} {rest : List Oper} {o : Oper} {a : Act} {Q : Exit → Act → World → Prop} (hgd : o.guard = none) (s x : Operand)
    (ho : o.op = .call { callee := .builtin .append, args := #[s, x], argTypes := #[25, 25] }) (base : Nat) (ov : Value) (hs : a.eval s = ov) (os : List Int) (hown : OwnC base w ov os) (hbase : base ≤ w.heap.size)
    (b c : Nat) (hx : a.eval x = .slice (some ⟨b, 0, none⟩) 1 c) (y : Int) (hy : w.cell? ⟨b, 0, none⟩ = some (mB y)) (hlen : os.length + 1 ≤ 1073741824)
    (h : ∀ v' w', w.grownBy w' ov.ownBlock → w'.ownsRow base 5 1 v' (os ++ [y]).length ((os ++ [y]).map mB) → wpList Tryz.prog ops Q rest (a.put o.dst v') w') : wpList Tryz.prog ops Q (o :: rest) a w := by
  obtain ⟨i0, hi, hz0, hz1, hz2⟩ := info_parts Tryz.zinByte
  have hnews : ∀ (j : Nat) (u : Value), [mB y][j]? = some u → w.cell? ((⟨b, 0, none⟩ : Addr).add j) = some u := cell_1 hy
  have hone : ∀ u ∈ [mB y], u.oneCell' = true := fun u hu => by simp at hu; subst hu; rfl
  have e1 : (os ++ [y]).length = os.length + 1 := by simp
  rcases hown with hown | ⟨g, cur, fz, rfl, h1, h2, h3⟩
  · refine wpList_append_own_at w hgd s x 25 ho base 5 i0 (.int .u8 0) 1 1 Tryz.underlying25 hi hz0 hz1 hz2 rfl (by decide) _ os.length (os.map mB) hs hown ⟨b, 0, none⟩ 1 c [mB y] hx rfl hnews hone (by unfold maxLen; omega) (by omega) hbase ?_
    intro v' w' h1 hg _ _
    exact h v' w' hg (by rw [e1, List.map_append]; exact h1)
  · have hcl : cur.size = os.length := by have := congrArg List.length h3; simpa using this
    refine wpList_append_grows w hgd s x 25 ho 5 i0 (.int .u8 0) 1 1 Tryz.underlying25 hi hz0 hz1 hz2 rfl (by decide) (some ⟨g, 0, none⟩) os.length os.length (os.map mB) hs (fun e => by cases e) (by simp) ?_ ⟨b, 0, none⟩ 1 c [mB y] hx rfl hnews hone (by omega) (by unfold maxLen; omega) (by omega) ?_
    · intro bb eb j u hu
      cases eb
      have e3 : (⟨g, 0, none⟩ : Addr).add j = ⟨g, j, none⟩ := by cases j <;> simp [Addr.add]
      rw [e3]
      simp only [World.cell?, h2]
      rw [← h3] at hu
      simpa using hu
    · intro v' w' h4 h5
      refine h v' w' (grownBy_any h5 _) ?_
      rw [e1, List.map_append]
      exact own_low h4 hbase

/-- The encoder in the box B has gathered os. -/
def EncAt (lo B : Nat) (w : World) (os : List Int) : Prop := lo ≤ B ∧ ∃ ov, Boxed w B 104 ov ∧ w.ownsRow lo 5 1 ov os.length (os.map mB)
/-- The same, ahead of the first byte that is put. -/
def EncAny (lo B : Nat) (w : World) (os : List Int) : Prop := lo ≤ B ∧ ∃ ov, Boxed w B 104 ov ∧ OwnC lo w ov os
theorem EncAt.any {lo B : Nat} {w : World} {os : List Int} (h : EncAt lo B w os) : EncAny lo B w os := by
  obtain ⟨hB, ov, h1, h2⟩ := h
  exact ⟨hB, ov, h1, Or.inl h2⟩
/-- Lists that aren't the encoder's are as they were. -/
def Keep (t : TypeId) (w w' : World) : Prop := ∀ (k : Nat) (c : Array Value), w.heap[k]? = some (Obj.cells c t (0, 0)) → w'.heap[k]? = w.heap[k]?
theorem Keep.refl (t : TypeId) (w : World) : Keep t w w := fun _ _ _ => rfl
theorem Keep.trans {t : TypeId} {a b c : World} (h : Keep t a b) (k : Keep t b c) : Keep t a c := fun i x hx => (k i x ((h i x hx).trans hx)).trans (h i x hx)

/-- The bytes xs, which lie in V, behind those of the encoder. -/
theorem enc_app {lo B : Nat} {t : TypeId} {w V w3 : World} {ov v3 : Value} {os : List Int} {zs : List Int} (hB : lo ≤ B) (hbx : Boxed w B 104 ov) (hown : OwnC lo w ov os) (hV : w.grownBy V none)
    (hg : V.grownBy w3 ov.ownBlock) (h3 : w3.ownsRow lo 5 1 v3 zs.length (zs.map mB)) (t1 : t ≠ 5) (t2 : t ≠ 104) :
    Boxed w3 B 104 ov ∧ EncAt lo B (w3.setCell ⟨B, 0, none⟩ v3) zs ∧ Below lo w (w3.setCell ⟨B, 0, none⟩ v3) ∧ Keep t w (w3.setCell ⟨B, 0, none⟩ v3) := by
  have hbV : Boxed V B 104 ov := hbx.kept hV (by simp)
  have hnr : some B ≠ ov.ownBlock := fun e => by
    obtain ⟨-, c, fz, hc⟩ := hown.blk B e.symm
    rw [show w.heap[B]? = _ from hbx] at hc
    simp at hc
  have hb3 : Boxed w3 B 104 ov := hbV.kept hg hnr
  have hBl := hbx.lt
  refine ⟨hb3, ⟨hB, v3, hb3.set v3, h3.kept (grownBy_setCell' w3 B v3) (.inr (hb3.not_row (by decide) h3).symm)⟩, ?_, ?_⟩
  · have b1 : Below lo w V := ⟨hV.os, hV.tape, hV.output, hV.size, fun k hk => hV.block k (by omega) (by simp)⟩
    have b2 : Below lo w w3 := b1.grown hg (by have := hV.size; omega) (fun j ej => (hown.blk j ej).1)
    exact bput b2 hB v3
  · intro k c hk
    have hkl : k < w.heap.size := (Array.getElem?_eq_some_iff.1 hk).1
    have e1 : V.heap[k]? = w.heap[k]? := hV.block k hkl (by simp)
    have hne : some k ≠ ov.ownBlock := fun e => by
      obtain ⟨-, c', fz, hc⟩ := hown.blk k e.symm
      rw [hk] at hc
      simp at hc
      exact t1 hc.2.1
    have e2 : w3.heap[k]? = V.heap[k]? := hg.block k (Nat.lt_of_lt_of_le hkl hV.size) hne
    have hkB : k ≠ B := fun e => by
      subst e
      rw [show w.heap[k]? = _ from hbx] at hk
      simp at hk
      exact t2 hk.2.symm
    rw [Below.heap_setCell _ _ _ _ (by exact hkB), e2, e1]

theorem app1_len (ts : List Int) (x : Int) : (ts ++ [x]).length = ts.length + 1 := by simp
theorem lit_cell (w : World) (x : Int) : (w.alloc (.cells #[.int .u8 x] 5)).cell? ⟨w.heap.size, 0, none⟩ = some (mB x) := (Boxed.new w 5 (.int .u8 x)).cell

theorem or128 (n : Int) : bits .or .u8 (n % 256) 128 = n % 128 + 128 := by
  have e0 : ∀ x : Fin 256, (BitVec.ofNat 8 x.val ||| 128#8).toNat = x.val % 128 + 128 := by decide +kernel
  have e1 : (BitVec.ofInt 8 (n % 256)) = BitVec.ofNat 8 (n % 256).toNat := by
    apply BitVec.eq_of_toNat_eq
    rw [BitVec.toNat_ofInt, BitVec.toNat_ofNat]
    omega
  have e2 := e0 ⟨(n % 256).toNat, by omega⟩
  show IntKind.u8.wrap ((BitVec.ofInt 8 (n % 256) ||| BitVec.ofInt 8 128).toNat : Int) = n % 128 + 128
  rw [e1, show BitVec.ofInt 8 128 = 128#8 from rfl, e2]
  show ((n % 256).toNat % 128 + 128 : Nat) % (256 : Int) = _
  omega

theorem vis_len : ∀ ns : List Int, (∀ x ∈ ns, x ≤ 9223372036854775807) → (ns.flatMap vi).length ≤ 9 * ns.length
  | [], _ => by simp
  | x :: r, h => by
    have h1 := vis_len r (fun y hy => h y (List.mem_cons_of_mem _ hy))
    have h2 := vi_len9 (h x (List.mem_cons_self ..))
    simp only [List.flatMap_cons, List.length_append, List.length_cons]
    omega
theorem flat_vi {ns : List Int} {k : Nat} (h : k < ns.length) : (ns.take (k + 1)).flatMap vi = (ns.take k).flatMap vi ++ vi (ns[k]?.getD 0) := by
  rw [List.take_add_one, List.flatMap_append, List.getElem?_eq_getElem h]
  simp
theorem in64_mem {ns : List Int} (h : ∀ i : Nat, In64 (ns[i]?.getD 0)) : ∀ x ∈ ns, x ≤ 9223372036854775807 := fun x hx => by
  obtain ⟨i, hi, rfl⟩ := List.getElem_of_mem hx
  have := (h i).2
  rw [List.getElem?_eq_getElem hi] at this
  exact this

set_option maxHeartbeats 4000000 in
set_option maxRecDepth 100000 in
theorem putVarints_any (lo B nb : Nat) (ns : List Int) (os : List Int) (w : World) (he : EncAny lo B w os) (hlo : lo ≤ w.heap.size) (hn : w.rowIs nb 3 ns.length (fun i => mI (ns[i]?.getD 0))) (h64 : ∀ i : Nat, In64 (ns[i]?.getD 0)) (hl : ns.length ≤ 16) (hl0 : 0 < ns.length) (hos : os.length ≤ 536870912) :
    Calls Tryz.prog 77 #[.pointer (some ⟨B, 0, none⟩), .slice (some ⟨nb, 0, none⟩) ns.length ns.length] w fun e w' => (∃ v, e = .returned v) ∧ EncAt lo B w' (os ++ ns.flatMap vi) ∧ Below lo w w' ∧ Keep 3 w w' := by
  have HE := hide he
  have HN := hide hn
  have H64 := hide h64
  clear he hn h64
  go_enter Tryz.func77, Tryz.ntmps77
  go_wp2_with fail
  go_loopw [8] (fun iv wr => ∃ k : Nat, k ≤ ns.length ∧ iv = .int .i64 k ∧ EncAny lo B wr (os ++ (ns.take k).flatMap vi) ∧ (0 < k → EncAt lo B wr (os ++ (ns.take k).flatMap vi)) ∧ Below lo w wr ∧ Keep 3 w wr) (fun iv _ => ns.length - (intOf iv).toNat)
  case atStart => exact ⟨0, Nat.zero_le _, rfl, by simpa using unhide HE, fun h => absurd h (Nat.lt_irrefl _), Below.refl _ _, Keep.refl _ _⟩
  case round =>
    obtain ⟨k, hk, rfl, henc, hat, hb, hkp⟩ := hrel
    have hz := hb.size
    by_cases hlt : k < ns.length
    · have hlt' : (k : Int) < (ns.length : Int) := by omega
      have hrow : wr.rowIs nb 3 ns.length (fun i => mI (ns[i]?.getD 0)) := by
        obtain ⟨c, hc, hr⟩ := unhide HN
        exact (unhide HN).of_block (hkp nb c hc)
      have hx := hrow.cell hlt
      unfold mI at hx
      have h64 := unhide H64 k
      have Hfl := hide (flat_vi hlt)
      have hln : ((ns.take k).flatMap vi).length ≤ 9 * 16 := by
        have h1 := vis_len (ns.take k) (fun x hx => in64_mem (unhide H64) x (List.mem_of_mem_take hx))
        rw [List.length_take] at h1
        omega
      have hln2 := vi_len9 h64.2
      have Henc := hide henc
      have Hkp := hide hkp
      clear hrow henc hkp hat
      generalize ns[k]?.getD 0 = n at *
      generalize (ns.take k).flatMap vi = gs at *
      obtain ⟨VV, hVV⟩ : ∃ VV, VV = wr := ⟨_, rfl⟩
      rw [← hVV] at hb hz Henc Hkp hx ⊢
      clear hVV
      go_wp2_with fail
      go_loopw [5] (fun nv wr => ∃ (m : Int) (ds : List Int), nv = .int .i64 m ∧ vi n = ds ++ vi m ∧ EncAny lo B wr (os ++ gs ++ ds) ∧ Below lo w wr ∧ Keep 3 w wr ∧ m ≤ 9223372036854775807 ∧ -9223372036854775808 ≤ m) (fun nv _ => (intOf nv).toNat)
      case atStart => exact ⟨n, [], rfl, rfl, by simpa using unhide Henc, hb, unhide Hkp, h64.2, h64.1⟩
      case round =>
        obtain ⟨m, ds, rfl, hds, henc, hb2, hkp2, hm1, hm0⟩ := hrel
        have hz2 := hb2.size
        have Hds := hide hds
        have hdl : ds.length ≤ 9 := by have := congrArg List.length hds; rw [List.length_append] at this; omega
        obtain ⟨hB, ov, hbx, hown⟩ := henc
        have Hbx := hide hbx
        have Hown := hide hown
        have Hkp2 := hide hkp2
        have c0 := hbx.cell
        have z0 := hbx.frozen
        obtain ⟨oa, oc, rfl⟩ := hown.is
        clear hbx hown hds hkp2
        have hol : (os ++ gs ++ ds).length + 1 ≤ 1073741824 := by simp only [List.length_append]; omega
        obtain ⟨ts, hts⟩ : ∃ ts, ts = os ++ gs ++ ds := ⟨_, rfl⟩
        rw [← hts] at Hown Hbx hol c0
        have Hts := hide hts
        clear hts
        by_cases hm : m < 128
        · have hm' : ¬ (128 : Int) ≤ m := by omega
          have HV := hide (vi_lo hm)
          go_wp2_with (at_builtin; refine app_oneC rfl _ _ rfl lo _ rfl ts (by exact (unhide Hown).alloc _) (by rw [sz_alloc]; omega) _ 1 rfl (m % 256) (by exact lit_cell _ _) hol ?_; intro v3 w3 hg3 ho3; obtain ⟨hb3, henc3, hbel3, hkeep3⟩ := enc_app (t := 3) hB (unhide Hbx) (unhide Hown) (World.grownBy_alloc _ _ _) hg3 ho3 (by decide) (by decide); have c3 := hb3.cell; have z3 := hb3.frozen; have He3 := hide henc3; have Hk3 := hide hkeep3; rw [app1_len] at ho3; obtain ⟨oa3, oc3, rfl⟩ := own_is ho3; clear hg3 ho3 hb3 henc3 hkeep3)
          have e2 : os ++ (ns.take (k + 1)).flatMap vi = ts ++ [m % 256] := by rw [unhide Hfl, unhide Hds, unhide HV, unhide Hts]; simp
          exact ⟨⟨k + 1, by omega, by go_num, by rw [e2]; exact (unhide He3).any, fun _ => by rw [e2]; exact unhide He3, hb2.trans hbel3, (unhide Hkp2).trans (unhide Hk3)⟩, by simp [intOf]; omega⟩
        · have hm' : (128 : Int) ≤ m := by omega
          have e1 := or128 m
          have HV := hide (vi_hi hm)
          go_wp2_with (at_builtin; refine app_oneC rfl _ _ rfl lo _ rfl ts (by exact (unhide Hown).alloc _) (by rw [sz_alloc]; omega) _ 1 rfl (m % 128 + 128) (by exact lit_cell _ _) hol ?_; intro v3 w3 hg3 ho3; obtain ⟨hb3, henc3, hbel3, hkeep3⟩ := enc_app (t := 3) hB (unhide Hbx) (unhide Hown) (World.grownBy_alloc _ _ _) hg3 ho3 (by decide) (by decide); have c3 := hb3.cell; have z3 := hb3.frozen; have He3 := hide henc3; have Hk3 := hide hkeep3; rw [app1_len] at ho3; obtain ⟨oa3, oc3, rfl⟩ := own_is ho3; clear hg3 ho3 hb3 henc3 hkeep3)
          have e2 : ts ++ [m % 128 + 128] = os ++ gs ++ (ds ++ [m % 128 + 128]) := by rw [unhide Hts]; simp
          refine ⟨⟨m / 128, ds ++ [m % 128 + 128], rfl, by rw [unhide Hds, unhide HV]; simp, by rw [← e2]; exact (unhide He3).any, hb2.trans hbel3, (unhide Hkp2).trans (unhide Hk3), by omega, by omega⟩, by simp [intOf]; omega⟩
    · obtain rfl : k = ns.length := by omega
      have henc := hat hl0
      rw [List.take_length] at henc
      go_wp2
      go_end0
      exact ⟨⟨_, rfl⟩, henc, hb, hkp⟩

end Go.Proofs.YtbgjgaejfkdceaaGreat

namespace Go.Proofs.YtbgjgaejfkdceaaGreat
open Go.RowKit

theorem EncAt.alloc {lo B : Nat} {w : World} {os : List Int} (h : EncAt lo B w os) (o : Obj) : EncAt lo B (w.alloc o) os := by
  obtain ⟨hB, ov, h1, h2⟩ := h
  exact ⟨hB, ov, h1.alloc o, h2.alloc o⟩
theorem EncAny.alloc {lo B : Nat} {w : World} {os : List Int} (h : EncAny lo B w os) (o : Obj) : EncAny lo B (w.alloc o) os := by
  obtain ⟨hB, ov, h1, h2⟩ := h
  exact ⟨hB, ov, h1.alloc o, h2.alloc o⟩
theorem row1 (w : World) (x : Int) : (w.alloc (.cells #[.int .i64 x] 3)).rowIs w.heap.size 3 1 (fun i => mI ([x][i]?.getD 0)) :=
  World.rowIs_alloc w #[.int .i64 x] 3 _ (fun i hi => by
    have hi' : i < 1 := hi
    match i, hi' with
    | 0, _ => rfl)
theorem row2 (w : World) (x y : Int) : (w.alloc (.cells #[.int .i64 x, .int .i64 y] 3)).rowIs w.heap.size 3 2 (fun i => mI ([x, y][i]?.getD 0)) :=
  World.rowIs_alloc w #[.int .i64 x, .int .i64 y] 3 _ (fun i hi => by
    have hi' : i < 2 := hi
    match i, hi' with
    | 0, _ => rfl
    | 1, _ => rfl)
theorem in64_1 {x : Int} (h : In64 x) : ∀ i : Nat, In64 ([x][i]?.getD 0) := fun i => by
  match i with
  | 0 => exact h
  | i + 1 => simp [In64]
theorem in64_2 {x y : Int} (h : In64 x) (k : In64 y) : ∀ i : Nat, In64 ([x, y][i]?.getD 0) := fun i => by
  match i with
  | 0 => exact h
  | 1 => exact k
  | i + 2 => simp [In64]
theorem flat1 (x : Int) : [x].flatMap vi = vi x := by simp
theorem flat2 (x y : Int) : [x, y].flatMap vi = vi x ++ vi y := by simp

/-- One number, two numbers. -/
theorem put1_any (lo B nb : Nat) (x : Int) (os : List Int) (w : World) (he : EncAny lo B w os) (hlo : lo ≤ w.heap.size) (h64 : In64 x) (hos : os.length ≤ 536870912) (hnb : nb = w.heap.size) :
    Calls Tryz.prog 77 #[.pointer (some ⟨B, 0, none⟩), .slice (some ⟨nb, 0, none⟩) 1 1] (w.alloc (.cells #[.int .i64 x] 3)) fun e w' => (∃ v, e = .returned v) ∧ EncAt lo B w' (os ++ vi x) ∧ Below lo w w' := by
  subst hnb
  refine (putVarints_any lo B w.heap.size [x] os (w.alloc (.cells #[.int .i64 x] 3)) (he.alloc _) (by rw [sz_alloc]; omega) (row1 w x) (in64_1 h64) (by simp) (by simp) hos).mono ?_
  rintro e w' ⟨h1, h2, h3, -⟩
  rw [flat1] at h2
  exact ⟨h1, h2, ((Below.refl lo w).alloc hlo _).trans h3⟩
theorem put2_any (lo B nb : Nat) (x y : Int) (os : List Int) (w : World) (he : EncAny lo B w os) (hlo : lo ≤ w.heap.size) (h64 : In64 x) (k64 : In64 y) (hos : os.length ≤ 536870912) (hnb : nb = w.heap.size) :
    Calls Tryz.prog 77 #[.pointer (some ⟨B, 0, none⟩), .slice (some ⟨nb, 0, none⟩) 2 2] (w.alloc (.cells #[.int .i64 x, .int .i64 y] 3)) fun e w' => (∃ v, e = .returned v) ∧ EncAt lo B w' (os ++ (vi x ++ vi y)) ∧ Below lo w w' := by
  subst hnb
  refine (putVarints_any lo B w.heap.size [x, y] os (w.alloc (.cells #[.int .i64 x, .int .i64 y] 3)) (he.alloc _) (by rw [sz_alloc]; omega) (row2 w x y) (in64_2 h64 k64) (by simp) (by simp) hos).mono ?_
  rintro e w' ⟨h1, h2, h3, -⟩
  rw [flat2] at h2
  exact ⟨h1, h2, ((Below.refl lo w).alloc hlo _).trans h3⟩

theorem SlAt.under {α : Type} {mk : α → Value} {d : α} {lo n m : Nat} {w w' : World} {v : Value} {xs : List α} (h : SlAt mk d lo n w v xs) (hb : Below m w w') (hm : n ≤ m) : SlAt mk d lo n w' v xs := h.same (Same.of_below hb hm)

set_option maxHeartbeats 4000000 in
set_option maxRecDepth 100000 in
theorem putLine_any (lo B : Nat) (v : Value) (x os : List Int) (w : World) (he : EncAt lo B w os) (hlo : lo ≤ w.heap.size) (hv : SlAt mB 0 0 lo w v x) (hx : x.length ≤ 268435456) (hos : os.length ≤ 268435456) :
    Calls Tryz.prog 78 #[.pointer (some ⟨B, 0, none⟩), v] w fun e w' => (∃ v, e = .returned v) ∧ EncAt lo B w' (os ++ (vi x.length ++ x)) ∧ Below lo w w' := by
  have HE := hide he
  have HV := hide hv
  obtain ⟨a, cap, rfl, -, -⟩ := hv
  clear he
  go_enter Tryz.func78, Tryz.ntmps78
  go_wp2_with fail
  refine (put1_any lo B _ x.length os w (unhide HE).any hlo ⟨by omega, by omega⟩ (by omega) rfl).mono ?_
  rintro e w1 ⟨⟨v1, rfl⟩, henc, hb1⟩
  have hz1 := hb1.size
  have hvl := vi_len9 (n := (x.length : Int)) (by omega)
  obtain ⟨ts, hts⟩ : ∃ ts, ts = os ++ vi x.length := ⟨_, rfl⟩
  rw [← hts] at henc
  have htl : ts.length + x.length ≤ 1073741824 := by rw [hts, List.length_append]; omega
  have Hts := hide hts
  obtain ⟨hB, ov, hbx, hown⟩ := henc
  have Hbx := hide hbx
  have Hown := hide hown
  have c0 := hbx.cell
  have HV1 := hide (((unhide HV).under hb1 (Nat.le_refl _)).mono (Nat.le_refl _) (show lo ≤ w1.heap.size by omega))
  obtain ⟨oa, oc, rfl⟩ := own_is hown
  clear hbx hown hts
  go_wp2_with (at_builtin; refine app_moreG rfl _ _ rfl lo _ rfl ts (by exact unhide Hown) (by omega) _ rfl x (by exact unhide HV1) htl ?_; intro v3 w3 hg3 ho3 hoc3; obtain ⟨hb3, henc3, hbel3, -⟩ := enc_app (t := 3) hB (unhide Hbx) (Or.inl (unhide Hown)) (grownBy_refl _ _) hg3 ho3 (by decide) (by decide); have c3 := hb3.cell; have z3 := hb3.frozen; have He3 := hide henc3; rw [List.length_append] at ho3; obtain ⟨oa3, oc3, rfl⟩ := own_is ho3; clear hg3 ho3 hb3 henc3)
  go_end0
  have e1 : os ++ (vi x.length ++ x) = ts ++ x := by rw [unhide Hts, List.append_assoc]
  rw [e1]
  exact ⟨⟨_, rfl⟩, unhide He3, hb1.trans hbel3⟩

/-- The way from each number to the next. -/
def dst : Int → List Int → List Int
  | _, [] => []
  | b, p :: r => vi (p - b) ++ dst p r

theorem dst_drop {b : Int} {ps : List Int} {k : Nat} (h : k < ps.length) : dst b (ps.drop k) = vi (ps[k]?.getD 0 - b) ++ dst (ps[k]?.getD 0) (ps.drop (k + 1)) := by
  rw [List.drop_eq_getElem_cons h, List.getElem?_eq_getElem h]
  rfl
/-- Numbers that are not too great. -/
def Mid (x : Int) : Prop := 0 ≤ x ∧ x ≤ 1099511627776
theorem dst_len : ∀ (ps : List Int) (b : Int), 0 ≤ b → (∀ x ∈ ps, Mid x) → (dst b ps).length ≤ 9 * ps.length
  | [], _, _, _ => by simp [dst]
  | p :: r, b, hb, h => by
    have hp := h p (List.mem_cons_self ..)
    have h1 := dst_len r p hp.1 (fun y hy => h y (List.mem_cons_of_mem _ hy))
    have h2 := vi_len9 (n := p - b) (by have := hp.2; omega)
    simp only [dst, List.length_append, List.length_cons]
    omega

set_option maxHeartbeats 4000000 in
set_option maxRecDepth 100000 in
theorem putDistances_any (lo B : Nat) (v : Value) (b : Int) (ps os : List Int) (w : World) (he : EncAt lo B w os) (hlo : lo ≤ w.heap.size) (hv : SlAt mI 0 0 lo w v ps) (hb0 : Mid b) (hps : ∀ x ∈ ps, Mid x) (hl : ps.length ≤ 1048576) (hos : os.length ≤ 268435456) :
    Calls Tryz.prog 79 #[.pointer (some ⟨B, 0, none⟩), .int .i64 b, v] w fun e w' => (∃ v, e = .returned v) ∧ EncAt lo B w' (os ++ dst b ps) ∧ Below lo w w' := by
  have HE := hide he
  have HV := hide hv
  have HP := hide hps
  obtain ⟨a, cap, rfl, -, -⟩ := hv
  clear he hps
  go_enter Tryz.func79, Tryz.ntmps79
  go_wp2_with fail
  go_loopw [1, 10] (fun bv iv wr => ∃ (k : Nat) (c : Int) (ds : List Int), k ≤ ps.length ∧ iv = .int .i64 k ∧ bv = .int .i64 c ∧ Mid c ∧ dst b ps = ds ++ dst c (ps.drop k) ∧ EncAt lo B wr (os ++ ds) ∧ Below lo w wr) (fun _ iv _ => ps.length - (intOf iv).toNat)
  case atStart => exact ⟨0, b, [], Nat.zero_le _, rfl, rfl, hb0, rfl, by simpa using unhide HE, Below.refl _ _⟩
  case round =>
    obtain ⟨k, c, ds, hk, rfl, rfl, hc, hds, henc, hb⟩ := hrel
    have hz := hb.size
    have hdl : ds.length ≤ 9 * 1048576 := by
      have h1 := dst_len ps b hb0.1 (unhide HP)
      rw [hds, List.length_append] at h1
      omega
    have Hds := hide hds
    have Henc := hide henc
    clear hds henc
    by_cases hlt : k < ps.length
    · have hlt' : (k : Int) < (ps.length : Int) := by omega
      obtain ⟨_, _, e, -, hcc⟩ := (unhide HV).under hb (Nat.le_refl _)
      cases e
      obtain ⟨b2, off, rfl, -, -, hcell⟩ := hcc (by omega)
      have hx := hcell k hlt
      unfold mI at hx
      have hm : Mid (ps[k]?.getD 0) := unhide HP _ (by rw [List.getElem?_eq_getElem hlt]; exact List.getElem_mem hlt)
      have Hdd := hide (dst_drop (b := c) hlt)
      clear hcell hcc
      generalize ps[k]?.getD 0 = p at *
      unfold Mid at hc hm
      go_wp2_with fail
      refine (put1_any lo B _ (p - c) (os ++ ds) wr (unhide Henc).any (by omega) ⟨by omega, by omega⟩ (by rw [List.length_append]; omega) rfl).mono ?_
      rintro e w1 ⟨⟨v1, rfl⟩, henc1, hb1⟩
      have He1 := hide henc1
      clear henc1
      go_wp2
      go_roundw
      case rel => exact ⟨k + 1, p, ds ++ vi (p - c), by omega, by go_num, rfl, hm, by rw [unhide Hds, unhide Hdd, List.append_assoc], by rw [← List.append_assoc]; exact unhide He1, hb.trans hb1⟩
      case measure => simp [intOf]; omega
    · obtain rfl : k = ps.length := by omega
      have e1 : dst b ps = ds := by rw [unhide Hds, List.drop_length]; simp [dst]
      have Hf : Hid (EncAt lo B wr (os ++ dst b ps)) := by rw [e1]; exact unhide Henc
      clear e1
      go_wp2
      go_end0
      exact ⟨⟨_, rfl⟩, unhide Hf, hb⟩

theorem lit_four {w : World} {x y z t : Int} : SlAt mB 0 0 (w.alloc (.cells #[.int .u8 x, .int .u8 y, .int .u8 z, .int .u8 t] 5)).heap.size (w.alloc (.cells #[.int .u8 x, .int .u8 y, .int .u8 z, .int .u8 t] 5)) (.slice (some ⟨w.heap.size, 0, none⟩) 4 4) [x, y, z, t] :=
  own_rdB (base := w.heap.size) (n := 4) (World.ownsRow_lit w #[.int .u8 x, .int .u8 y, .int .u8 z, .int .u8 t] 4 (Nat.le_refl _) (by unfold maxLen; omega) rfl) (by unfold maxLen; omega)

set_option maxHeartbeats 4000000 in
set_option maxRecDepth 100000 in
theorem putChecksum_any (lo B : Nat) (os : List Int) (w : World) (he : EncAt lo B w os) (hlo : lo ≤ w.heap.size) (hbb : Bytes os) (hos : os.length ≤ 536870912) :
    Calls Tryz.prog 80 #[.pointer (some ⟨B, 0, none⟩)] w fun e w' => (∃ v, e = .returned v) ∧ EncAt lo B w' (os ++ ckB (ck os)) ∧ Below lo w w' := by
  obtain ⟨hB, ov, hbx, hown⟩ := he
  have Hbx := hide hbx
  have Hown := hide hown
  have HS := hide (own_rdB hown (by unfold maxLen; omega))
  have HBB := hide hbb
  have c0 := hbx.cell
  obtain ⟨oa, oc, rfl⟩ := own_is hown
  clear hbx hown hbb
  have hck := ck_bounds os
  go_enter Tryz.func80, Tryz.ntmps80
  go_wp2_with fail
  refine (checksum_any _ os _ _ (unhide HS) (unhide HBB)).mono ?_
  rintro e w1 ⟨rfl, rfl⟩
  obtain ⟨h, hh⟩ : ∃ h, h = ck os := ⟨_, rfl⟩
  rw [← hh] at hck ⊢
  have HH := hide hh
  clear hh
  go_wp2_with (at_builtin; refine app_moreG rfl _ _ rfl lo _ rfl os (by exact (unhide Hown).alloc _) (by rw [sz_alloc]; omega) _ rfl [h / 16777216, h / 65536 % 256, h / 256 % 256, h % 256] (by exact lit_four) (by simp; omega) ?_; intro v3 w3 hg3 ho3 hoc3; obtain ⟨hb3, henc3, hbel3, -⟩ := enc_app (t := 3) hB (unhide Hbx) (Or.inl (unhide Hown)) (World.grownBy_alloc _ _ _) hg3 ho3 (by decide) (by decide); have c3 := hb3.cell; have z3 := hb3.frozen; have He3 := hide henc3; rw [List.length_append] at ho3; obtain ⟨oa3, oc3, rfl⟩ := own_is ho3; clear hg3 ho3 hb3 henc3)
  go_end0
  rw [← unhide HH]
  exact ⟨⟨_, rfl⟩, unhide He3, hbel3⟩

end Go.Proofs.YtbgjgaejfkdceaaGreat

namespace Go.Proofs.YtbgjgaejfkdceaaGreat
open Go.RowKit

/-- The lexicographic comparison: -1, 0 or 1. -/
def lexc : List Int → List Int → Int
  | [], [] => 0
  | [], _ :: _ => -1
  | _ :: _, [] => 1
  | x :: xs, y :: ys => if x < y then -1 else if y < x then 1 else lexc xs ys

theorem lexc_vals : ∀ xs ys : List Int, lexc xs ys = -1 ∨ lexc xs ys = 0 ∨ lexc xs ys = 1
  | [], [] => by simp [lexc]
  | [], _ :: _ => by simp [lexc]
  | _ :: _, [] => by simp [lexc]
  | x :: xs, y :: ys => by
    simp only [lexc]
    split
    · simp
    · split
      · simp
      · exact lexc_vals xs ys
theorem lexc_zero : ∀ {xs ys : List Int}, lexc xs ys = 0 ↔ xs = ys
  | [], [] => by simp [lexc]
  | [], _ :: _ => by simp [lexc]
  | _ :: _, [] => by simp [lexc]
  | x :: xs, y :: ys => by
    simp only [lexc, List.cons.injEq]
    have ih := lexc_zero (xs := xs) (ys := ys)
    by_cases h1 : x < y
    · rw [if_pos h1]
      constructor
      · intro h; omega
      · rintro ⟨rfl, -⟩; omega
    · rw [if_neg h1]
      by_cases h2 : y < x
      · rw [if_pos h2]
        constructor
        · intro h; omega
        · rintro ⟨rfl, -⟩; omega
      · rw [if_neg h2, ih]
        constructor
        · intro h; exact ⟨by omega, h⟩
        · rintro ⟨-, h⟩; exact h
theorem lexc_swap : ∀ xs ys : List Int, lexc ys xs = - lexc xs ys
  | [], [] => by simp [lexc]
  | [], _ :: _ => by simp [lexc]
  | _ :: _, [] => by simp [lexc]
  | x :: xs, y :: ys => by
    simp only [lexc]
    have ih := lexc_swap xs ys
    by_cases h1 : x < y
    · rw [if_pos h1, if_neg (by omega), if_pos h1]
      rfl
    · by_cases h2 : y < x
      · rw [if_pos h2, if_neg h1, if_pos h2]
      · rw [if_neg h2, if_neg h1, if_neg h1, if_neg h2, ih]
theorem lexc_trans : ∀ {xs ys zs : List Int}, lexc xs ys < 0 → lexc ys zs < 0 → lexc xs zs < 0
  | [], [], _, h, _ => by simp [lexc] at h
  | _ :: _, [], _, h, _ => by simp [lexc] at h
  | _, _ :: _, [], _, h => by simp [lexc] at h
  | [], _ :: _, _ :: _, _, _ => by simp [lexc]
  | x :: xs, y :: ys, z :: zs, h1, h2 => by
    simp only [lexc] at h1 h2 ⊢
    have ih := lexc_trans (xs := xs) (ys := ys) (zs := zs)
    by_cases a1 : x < y
    · by_cases b1 : y < z
      · rw [if_pos (by omega)]; omega
      · rw [if_neg b1] at h2
        by_cases b2 : z < y
        · rw [if_pos b2] at h2; omega
        · rw [if_pos (by omega)]; omega
    · rw [if_neg a1] at h1
      by_cases a2 : y < x
      · rw [if_pos a2] at h1; omega
      · rw [if_neg a2] at h1
        by_cases b1 : y < z
        · rw [if_pos (by omega)]; omega
        · rw [if_neg b1] at h2
          by_cases b2 : z < y
          · rw [if_pos b2] at h2; omega
          · rw [if_neg b2] at h2
            rw [if_neg (by omega), if_neg (by omega)]
            exact ih h1 h2

theorem drop_cons {xs : List Int} {i : Nat} (h : i < xs.length) : xs.drop i = xs[i]?.getD 0 :: xs.drop (i + 1) := by
  rw [List.drop_eq_getElem_cons h]
  simp [h]
theorem drop_nil {xs : List Int} : xs.drop xs.length = [] := by simp

set_option maxHeartbeats 1000000 in
set_option maxRecDepth 100000 in
theorem equal_any (u v : Value) (xs ys : List Int) (w : World) (hu : SlAt mI 0 0 w.heap.size w u xs) (hv : SlAt mI 0 0 w.heap.size w v ys) :
    Calls Tryz.prog 82 #[u, v] w fun e w' => RetB e (xs = ys) ∧ ∃ q, w' = w.drewN q := by
  obtain ⟨a, cap, rfl, hl, hc⟩ := hu
  obtain ⟨a2, cap2, rfl, hl2, hc2⟩ := hv
  unfold maxLen at hl hl2
  by_cases hn : xs.length = ys.length
  · have hn' : ((xs.length : Int) != (ys.length : Int)) = false := by simp [hn]
    have HN := hide hn
    have hle1 : xs.length ≤ ys.length := by omega
    have hle2 : ys.length ≤ xs.length := by omega
    clear hn
    go_enter Tryz.func82, Tryz.ntmps82
    go_wp2_with fail
    go_loopw [13] (fun i wr => (∃ k : Nat, k ≤ xs.length ∧ i = .int .i64 k ∧ ∀ j : Nat, j < k → xs[j]?.getD 0 = ys[j]?.getD 0) ∧ ∃ q, wr = w.drewN q) (fun i _ => xs.length - (intOf i).toNat)
    case atStart => exact ⟨⟨0, Nat.zero_le _, rfl, fun j hj => absurd hj (Nat.not_lt_zero _)⟩, 0, rfl⟩
    case round =>
      obtain ⟨⟨k, hk, rfl, he⟩, q, rfl⟩ := hrel
      have He := hide he
      clear he
      by_cases h1 : k < xs.length
      · have h1' : (k : Int) < (xs.length : Int) := by omega
        have h2' : (k : Int) < (ys.length : Int) := by omega
        obtain ⟨b, off, rfl, -, -, hcell⟩ := hc (by omega)
        obtain ⟨b2, off2, rfl, -, -, hcell2⟩ := hc2 (by omega)
        have hx : w.cell? ⟨b, off + k, none⟩ = some (.int .i64 (xs[k]?.getD 0)) := hcell k h1
        have hy : w.cell? ⟨b2, off2 + k, none⟩ = some (.int .i64 (ys[k]?.getD 0)) := hcell2 k (by omega)
        have Hst : Hid (xs[k]?.getD 0 = ys[k]?.getD 0 → ∀ j : Nat, j < k + 1 → xs[j]?.getD 0 = ys[j]?.getD 0) := fun h j hj => by
          by_cases e : j = k
          · subst e; exact h
          · exact unhide He j (by omega)
        have Hno : Hid (xs[k]?.getD 0 ≠ ys[k]?.getD 0 → xs ≠ ys) := fun h e => h (by rw [e])
        clear hcell hcell2 hc hc2 He
        generalize xs[k]?.getD 0 = x at *
        generalize ys[k]?.getD 0 = y at *
        by_cases g0 : x = y
        · subst g0
          have HQ := hide (unhide Hst rfl)
          clear Hst Hno
          go_wp2_with fail
          go_quiet (fail)
          go_wp2
          go_roundw
          case rel => exact ⟨⟨k + 1, by omega, by go_num, unhide HQ⟩, _, rfl⟩
          case measure => simp [intOf]; omega
        · have g0' : (x != y) = true := by simp [g0]
          have HQ := hide (unhide Hno g0)
          clear Hst Hno
          go_wp2_with fail
          go_quiet (fail)
          go_wp2
          go_ret
          exact ⟨RetB.no (unhide HQ), _, drew2 _ _ _⟩
      · obtain rfl : k = xs.length := by omega
        clear hc hc2
        have HQ : Hid (xs = ys) := by
          apply List.ext_getElem (unhide HN)
          intro i h1 h2
          have := unhide He i h1
          simpa [h1, h2] using this
        go_wp2
        go_ret
        exact ⟨RetB.yes (unhide HQ), _, rfl⟩
  · have hn' : ((xs.length : Int) != (ys.length : Int)) = true := by simp; omega
    clear hc hc2
    go_enter Tryz.func82, Tryz.ntmps82
    go_wp2
    go_ret
    exact ⟨RetB.no (fun h => hn (by rw [h])), 0, rfl⟩

end Go.Proofs.YtbgjgaejfkdceaaGreat
