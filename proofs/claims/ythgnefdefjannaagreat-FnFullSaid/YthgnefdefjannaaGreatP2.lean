import Derived.Test.YthgnefdefjannaaGreatP1
import Derived.Laws.OwnMore
namespace Go.Proofs.YthgnefdefjannaaGreat
open Go.RowKit

/-- The marks of bytes and of bools. -/
def cntB (k : Int) (n : Nat) : List Int := (List.range n).map (fun i : Nat => (k + (i : Int)) % 256)
theorem cntB_len (k : Int) (n : Nat) : (cntB k n).length = n := by simp [cntB]
theorem cntB_get (k : Int) (n i : Nat) (h : i < n) : (cntB k n)[i]?.getD 0 = (k + i) % 256 := by simp [cntB, h]
def cntT (k : Int) (n : Nat) : List Bool := (List.range n).map (fun i : Nat => ((k + (i : Int)) % 3 == 0))
theorem cntT_len (k : Int) (n : Nat) : (cntT k n).length = n := by simp [cntT]
theorem cntT_get (k : Int) (n i : Nat) (h : i < n) : (cntT k n)[i]?.getD false = ((k + (i : Int)) % 3 == 0) := by simp [cntT, h]

end Go.Proofs.YthgnefdefjannaaGreat

namespace Go.Proofs.YthgnefdefjannaaGreat
open Go.RowKit

theorem SameB.refl (lo n : Nat) (w : World) : SameB lo n w w := fun _ _ _ => rfl
theorem SameB.trans {lo n : Nat} {a b c : World} (h : SameB lo n a b) (k : SameB lo n b c) : SameB lo n a c := fun i h1 h2 => (k i h1 h2).trans (h i h1 h2)
def Bytes (bs : List Int) : Prop := ∀ i : Nat, 0 ≤ bs[i]?.getD 0 ∧ bs[i]?.getD 0 ≤ 255
theorem SlW.keep {α : Type} {mk : α → Value} {d : α} {lo n m : Nat} {w w' : World} {v : Value} {xs : List α} (h : SlW mk d lo n w v xs) (hb : Below m w w') (hn : n ≤ m) : SlW mk d lo n w' v xs := h.same (SameB.of_below hb hn)
theorem SlW.all {α : Type} {mk : α → Value} {d : α} {lo n : Nat} {w : World} {v : Value} {xs : List α} (h : SlW mk d lo n w v xs) (hn : n ≤ w.heap.size) : SlAt mk d 0 w.heap.size w v xs := h.at.mono (Nat.zero_le _) hn
theorem SlW.val {α : Type} {mk : α → Value} {d : α} {lo n : Nat} {w : World} {v : Value} {xs : List α} (h : SlW mk d lo n w v xs) : ∃ a cap, v = .slice a xs.length cap := by
  obtain ⟨a, cap, rfl, -, -⟩ := h
  exact ⟨a, cap, rfl⟩
theorem drewB {m : Nat} {w : World} (q : Nat) : Below m w (w.drewN q) := below_drewN (Below.refl _ _) q
theorem SameB.mono {lo n lo' n' : Nat} {a b : World} (h : SameB lo n a b) (h1 : lo ≤ lo') (h2 : n' ≤ n) : SameB lo' n' a b := fun k k1 k2 => h k (by omega) (by omega)
theorem SlAt.cut {α : Type} {mk : α → Value} {d : α} {m : Nat} {w w' : World} {v : Value} {xs : List α} (h : SlAt mk d 0 w.heap.size w v xs) (hb : Below m w w') (hm : w.heap.size ≤ m) : SlAt mk d 0 w'.heap.size w' v xs := h.below hb hm
theorem SlAt.drewN {α : Type} {mk : α → Value} {d : α} {lo n : Nat} {w : World} {v : Value} {xs : List α} (h : SlAt mk d lo n w v xs) (q : Nat) : SlAt mk d lo n (w.drewN q) v xs := h

end Go.Proofs.YthgnefdefjannaaGreat

namespace Go.Proofs.YthgnefdefjannaaGreat
open Go.RowKit

/-- A number as a varint. -/
def viF : Nat → Int → List Int
  | 0, n => [n % 256]
  | k + 1, n => if n < 128 then [n % 256] else (n % 128 + 128) :: viF k (n / 128)
/-- A number as a varint. -/
def vi (n : Int) : List Int := viF n.toNat n
theorem viF_enough : ∀ (k j : Nat) (n : Int), n.toNat ≤ k → n.toNat ≤ j → viF k n = viF j n
  | 0, 0, _, _, _ => rfl
  | 0, j + 1, n, h, _ => by rw [viF, viF, if_pos (by omega)]
  | k + 1, 0, n, _, h => by rw [viF, viF, if_pos (by omega)]
  | k + 1, j + 1, n, h, h' => by
    rw [viF, viF]
    by_cases g : n < 128
    · rw [if_pos g, if_pos g]
    · rw [if_neg g, if_neg g, viF_enough k j (n / 128) (by omega) (by omega)]
theorem vi_lo {n : Int} (h : n < 128) : vi n = [n % 256] := by
  unfold vi
  cases n.toNat with
  | zero => rfl
  | succ k => rw [viF, if_pos h]
theorem vi_hi {n : Int} (h : ¬ n < 128) : vi n = (n % 128 + 128) :: vi (n / 128) := by
  unfold vi
  obtain ⟨k, hk⟩ : ∃ k, n.toNat = k + 1 := ⟨n.toNat - 1, by omega⟩
  rw [hk, viF, if_neg h, viF_enough k (n / 128).toNat (n / 128) (by omega) (by omega)]
theorem vi_ind {P : Int → Prop} (lo : ∀ n, n < 128 → P n) (hi : ∀ n, ¬ n < 128 → P (n / 128) → P n) (n : Int) : P n := by
  have key : ∀ (k : Nat) (n : Int), n.toNat ≤ k → P n := by
    intro k
    induction k with
    | zero => intro n h; exact lo n (by omega)
    | succ k ih =>
      intro n h
      by_cases g : n < 128
      · exact lo n g
      · exact hi n g (ih _ (by omega))
  exact key _ n (Nat.le_refl _)
theorem vi_len (k : Nat) : ∀ n : Int, n < 128 ^ (k + 1) → (vi n).length ≤ k + 1 := by
  induction k with
  | zero => intro n h; rw [vi_lo (by simpa using h)]; simp
  | succ k ih =>
    intro n h
    by_cases h1 : n < 128
    · rw [vi_lo h1]; simp
    · rw [vi_hi h1, List.length_cons]
      have := ih (n / 128) (by rw [Int.pow_succ] at h; omega)
      omega
theorem vi_len9 {n : Int} (h : n ≤ 9223372036854775807) : (vi n).length ≤ 9 := vi_len 8 n (by omega)
theorem vi_bytes (n : Int) : ∀ x ∈ vi n, 0 ≤ x ∧ x ≤ 255 := by
  induction n using vi_ind with
  | lo n h => rw [vi_lo h]; intro x hx; simp at hx; omega
  | hi n h ih =>
    rw [vi_hi h]
    intro x hx
    rcases List.mem_cons.1 hx with rfl | hx
    · omega
    · exact ih x hx

/-- A whole list of bytes behind a row of one's own. -/
theorem app_moreB {w : World} {ops : Array Oper} {rest : List Oper} {o : Oper} {a : Act} {Q : Exit → Act → World → Prop} (hgd : o.guard = none) (s x : Operand)
    (ho : o.op = .call { callee := .builtin .append, args := #[s, x], argTypes := #[22, 22] }) (base : Nat) (ov : Value) (hs : a.eval s = ov) (os : List Int) (hown : w.ownsRow base 5 1 ov os.length (os.map mB)) (hbase : base ≤ w.heap.size)
    (sv : Value) (hx : a.eval x = sv) (xs : List Int) (hv : SlAt mB 0 0 w.heap.size w sv xs) (hlen : os.length + xs.length ≤ 1073741824)
    (h : ∀ v' w', Below base w w' → w'.ownsRow base 5 1 v' (os ++ xs).length ((os ++ xs).map mB) → v'.oneCell' = true → wpList Tryz.prog ops Q rest (a.put o.dst v') w') : wpList Tryz.prog ops Q (o :: rest) a w := by
  obtain ⟨i0, hi, hz0, hz1, hz2⟩ := info_parts Tryz.zinByte
  obtain ⟨sa, sc, rfl, hl, hc⟩ := hv
  cases sa with
  | none =>
    have h0 : xs.length = 0 := by
      by_cases q : 0 < xs.length
      · obtain ⟨b, off, e, -⟩ := hc q; simp at e
      · omega
    rw [h0] at hx
    refine wpList_append_none_c hgd s x 22 ho base 5 i0 1 Tryz.underlying22 hi _ os.length (os.map mB) hs hown sc hx (h _ w (Below.refl _ _) (by rw [List.eq_nil_of_length_eq_zero h0, List.append_nil]; exact hown) ?_)
    obtain ⟨oa, oc, rfl⟩ := own_is hown
    rfl
  | some ad =>
    refine wpList_append_own_at w hgd s x 22 ho base 5 i0 (.int .u8 0) 1 1 Tryz.underlying22 hi hz0 hz1 hz2 rfl (by decide) _ os.length (os.map mB) hs hown ad xs.length sc (xs.map mB) hx (by simp) ?_ ?_ (by unfold maxLen; omega) (by omega) hbase ?_
    · intro j u hu
      have hj : j < xs.length := by
        have := (List.getElem?_eq_some_iff.1 hu).1
        simpa using this
      obtain ⟨b, off, e, -, -, hcell⟩ := hc (by omega)
      simp only [Option.some.injEq] at e
      subst e
      rw [List.getElem?_map, getD_of_lt hj] at hu
      simp only [Option.map_some, Option.some.injEq] at hu
      subst hu
      have e3 : (⟨b, off, none⟩ : Addr).add j = ⟨b, off + j, none⟩ := by cases j <;> rfl
      rw [e3]
      exact hcell j hj
    · intro u hu
      obtain ⟨y, -, rfl⟩ := List.mem_map.1 hu
      rfl
    · intro v' w' h1 hg _ _
      have h2 : w'.ownsRow base 5 1 v' (os ++ xs).length ((os ++ xs).map mB) := by rw [List.length_append, List.map_append]; exact h1
      obtain ⟨oa, oc, rfl⟩ := own_is h2
      exact h _ w' ((Below.refl _ _).grown hg hbase (fun k hk => (hown.lt k hk).1)) h2 rfl

/-- What owns its row can be read. -/
theorem own_rdB {base n : Nat} {w : World} {v : Value} {xs : List Int} (h : w.ownsRow base 5 1 v n (xs.map mB)) (hn : n ≤ maxLen) : SlAt mB 0 0 w.heap.size w v xs := by
  have hlen := h.1
  rw [List.length_map, Nat.mul_one] at hlen
  rcases h.2 with ⟨rfl, hz⟩ | ⟨g, cap, cur, rfl, hbg, hg, hnc, hcm, hcs, htake⟩
  · exact ⟨none, 0, by rw [hlen, hz], by omega, fun hp => by omega⟩
  · refine ⟨_, cap, by rw [hlen], by omega, fun hp => ⟨g, 0, rfl, Nat.zero_le _, (h.lt g rfl).2, fun i hi => ?_⟩⟩
    rw [Nat.zero_add, h.cellAt i (by omega), List.getElem?_map, getD_of_lt hi]
    rfl

/-- What the model's l4varint answers. -/
def ViR (e : Ending) (w w' : World) (n : Int) : Prop := ∃ v, e = .returned v ∧ w'.ownsRow w.heap.size 5 1 v (vi n).length ((vi n).map mB)

theorem viR_lo {n : Int} (h : n < 128) (w : World) : ViR (.returned (.slice (some ⟨w.heap.size, 0, none⟩) 1 1)) w (w.alloc (.cells #[.int .u8 (n % 256)] 5)) n :=
  ⟨_, rfl, by rw [vi_lo h]; exact World.ownsRow_lit w #[.int .u8 (n % 256)] 1 (Nat.le_refl _) (by unfold maxLen; omega) rfl⟩

set_option maxHeartbeats 2000000 in
set_option maxRecDepth 100000 in
theorem l4varint_lo (n : Int) (w : World) (h1 : n < 128) (_hn0 : -9223372036854775808 ≤ n) :
    Calls Tryz.prog 55 #[.int .i64 n] w fun e w' => ViR e w w' n ∧ Below w.heap.size w w' := by
  go_enter Tryz.func55, Tryz.ntmps55
  go_wp2
  go_ret
  exact ⟨viR_lo h1 w, below1 _ _⟩

set_option maxHeartbeats 2000000 in
set_option maxRecDepth 100000 in
theorem l4varint_f (f : Nat) : ∀ (n : Int) (w : World), n < 128 ^ (f + 1) → f ≤ 8 → n ≤ 9223372036854775807 → -9223372036854775808 ≤ n →
    Calls Tryz.prog 55 #[.int .i64 n] w fun e w' => ViR e w w' n ∧ Below w.heap.size w w' := by
  induction f with
  | zero => intro n w h0 _ _ h; exact l4varint_lo n w (by simpa using h0) h
  | succ f ih =>
    intro n w h0 hf hn1 hn0
    by_cases h1 : n < 128
    · exact l4varint_lo n w h1 hn0
    · have hlt : n / 128 < 128 ^ (f + 1) := by rw [Int.pow_succ] at h0; omega
      have IH := hide (fun w => ih (n / 128) w hlt (by omega) (by omega) (by omega))
      have Hv := hide (vi_hi h1)
      have hln := vi_len f (n / 128) hlt
      clear ih hlt h0
      have hb0 := below1 w (.cells #[.int .u8 (n % 128 + 128)] 5)
      have HO : Hid ((w.alloc (.cells #[.int .u8 (n % 128 + 128)] 5)).ownsRow w.heap.size 5 1 (.slice (some ⟨w.heap.size, 0, none⟩) 1 1) 1 ([n % 128 + 128].map mB)) := World.ownsRow_lit w #[.int .u8 (n % 128 + 128)] 1 (Nat.le_refl _) (by unfold maxLen; omega) rfl
      go_enter Tryz.func55, Tryz.ntmps55
      go_wp2_with fail
      generalize w.alloc (.cells #[.int .u8 (n % 128 + 128)] 5) = V at *
      refine (unhide IH V).mono ?_
      rintro e w1 ⟨⟨v1, rfl, hown⟩, hb1⟩
      have hz0 := hb0.size
      have hz1 := hb1.size
      have HO1 := hide (own_keep (unhide HO) hb1 (Nat.le_refl _))
      have HS1 := hide (own_rdB hown (by unfold maxLen; omega))
      have hB1 : Below w.heap.size w w1 := hb0.trans (hb1.mono hz0)
      obtain ⟨oa, oc, rfl⟩ := own_is hown
      clear hown hb1 hb0
      go_wp2_with (at_builtin; refine app_moreB rfl _ _ rfl w.heap.size _ rfl [n % 128 + 128] (by exact unhide HO1) (by omega) _ rfl (vi (n / 128)) (by exact unhide HS1) (by simp; omega) ?_; intro v3 w3 hb3 ho3 hoc3)
      go_ret
      exact ⟨⟨_, rfl, by rw [unhide Hv]; exact ho3⟩, hB1.trans hb3⟩

theorem l4varint_any (n : Int) (w : World) (hn1 : n ≤ 9223372036854775807) (hn0 : -9223372036854775808 ≤ n) :
    Calls Tryz.prog 55 #[.int .i64 n] w fun e w' => ViR e w w' n ∧ Below w.heap.size w w' := l4varint_f 8 n w (by omega) (Nat.le_refl _) hn1 hn0

end Go.Proofs.YthgnefdefjannaaGreat

namespace Go.Proofs.YthgnefdefjannaaGreat
open Go.RowKit

/-- Xor of numbers that are not negative. -/
def xr (h b : Int) : Int := ((h.toNat ^^^ b.toNat : Nat) : Int)
theorem xr_bounds {h b : Int} (h1 : h < 4294967296) (b1 : b ≤ 255) : 0 ≤ xr h b ∧ xr h b < 4294967296 := by
  unfold xr
  refine ⟨by omega, ?_⟩
  have : h.toNat ^^^ b.toNat < 2 ^ 32 := Nat.xor_lt_two_pow (by omega) (by omega)
  omega
/-- One byte more under the checksum. -/
def ckS (h b : Int) : Int := (xr h b * 16777619) % 4294967296
theorem ckS_bounds (h b : Int) : 0 ≤ ckS h b ∧ ckS h b < 4294967296 := by unfold ckS; omega
/-- The checksum. -/
def ck (xs : List Int) : Int := xs.foldl ckS 2166136261
theorem ck_bounds (xs : List Int) : 0 ≤ ck xs ∧ ck xs < 4294967296 := by
  unfold ck
  rcases List.eq_nil_or_concat xs with rfl | ⟨l, a, rfl⟩
  · simp
  · rw [List.concat_eq_append, List.foldl_append]
    exact ckS_bounds _ _
theorem ck_next {xs : List Int} {i : Nat} (h : i < xs.length) : ck (xs.take (i + 1)) = ckS (ck (xs.take i)) (xs[i]?.getD 0) := by
  unfold ck
  rw [List.take_add_one, List.foldl_append, List.getElem?_eq_getElem h]
  rfl
/-- Its four bytes. -/
def ckB (h : Int) : List Int := [h / 16777216, h / 65536 % 256, h / 256 % 256, h % 256]

theorem bits_xor64 {h b : Int} (h0 : 0 ≤ h) (h1 : h < 4294967296) (b0 : 0 ≤ b) (b1 : b ≤ 255) : bits .xor .i64 h b = xr h b := by
  have hb := xr_bounds h1 b1
  unfold xr at hb
  have e1 : (BitVec.ofInt 64 h).toNat = h.toNat := by rw [BitVec.toNat_ofInt]; omega
  have e2 : (BitVec.ofInt 64 b).toNat = b.toNat := by rw [BitVec.toNat_ofInt]; omega
  show IntKind.i64.wrap ((BitVec.ofInt 64 h ^^^ BitVec.ofInt 64 b).toNat : Int) = xr h b
  rw [BitVec.toNat_xor, e1, e2, k64i (by omega) (by omega)]
  rfl
theorem bits_xor32 {h b : Int} (h0 : 0 ≤ h) (h1 : h < 4294967296) (b0 : 0 ≤ b) (b1 : b ≤ 255) : bits .xor .u32 h b = xr h b := by
  have hb := xr_bounds h1 b1
  unfold xr at hb
  have e1 : (BitVec.ofInt 32 h).toNat = h.toNat := by rw [BitVec.toNat_ofInt]; omega
  have e2 : (BitVec.ofInt 32 b).toNat = b.toNat := by rw [BitVec.toNat_ofInt]; omega
  show IntKind.u32.wrap ((BitVec.ofInt 32 h ^^^ BitVec.ofInt 32 b).toNat : Int) = xr h b
  rw [BitVec.toNat_xor, e1, e2]
  show ((h.toNat ^^^ b.toNat : Nat) : Int) % 4294967296 = xr h b
  rw [Int.emod_eq_of_lt (by omega) (by omega)]
  rfl

set_option maxHeartbeats 2000000 in
set_option maxRecDepth 100000 in
theorem l4checksum_any (v : Value) (xs : List Int) (w : World) (hv : SlAt mB 0 0 w.heap.size w v xs) (hb : Bytes xs) :
    Calls Tryz.prog 38 #[v] w fun e w' => (∃ v', e = .returned v' ∧ w'.ownsRow w.heap.size 5 1 v' 4 ((ckB (ck xs)).map mB)) ∧ Below w.heap.size w w' := by
  have HB := hide hb
  obtain ⟨a, cap, rfl, hl, hc⟩ := hv
  unfold maxLen at hl
  clear hb
  go_enter Tryz.func38, Tryz.ntmps38
  go_wp2
  go_loop [3, 4] (fun hv iv => ∃ k : Nat, k ≤ xs.length ∧ iv = .int .i64 k ∧ hv = .int .i64 (ck (xs.take k))) (fun _ i => xs.length - (intOf i).toNat)
  case atStart => exact ⟨0, Nat.zero_le _, rfl, rfl⟩
  case round =>
    obtain ⟨k, hk, rfl, rfl⟩ := hrel
    by_cases hlt : k < xs.length
    · have hlt' : (k : Int) < (xs.length : Int) := by omega
      obtain ⟨b, off, rfl, -, -, hcell⟩ := hc (by omega)
      have hx := hcell k hlt
      unfold mB at hx
      have hN := hide (ck_next hlt)
      have hbk := unhide HB k
      have hck := ck_bounds (xs.take k)
      clear hcell hc
      generalize xs[k]?.getD 0 = x at *
      generalize ck (xs.take k) = h at *
      have e1 := bits_xor64 hck.1 hck.2 hbk.1 hbk.2
      have hxr := xr_bounds (h := h) hck.2 hbk.2
      go_wp2
      go_round
      case rel => exact ⟨k + 1, by omega, by go_num, by rw [unhide hN]; rfl⟩
      case measure => simp [intOf]; omega
    · obtain rfl : k = xs.length := by omega
      rw [List.take_length]
      have hck := ck_bounds xs
      obtain ⟨h, hh⟩ : ∃ h, h = ck xs := ⟨_, rfl⟩
      rw [← hh] at hck ⊢
      have HH := hide hh
      clear hh
      go_wp2
      go_ret
      refine ⟨⟨_, rfl, ?_⟩, below1 _ _⟩
      rw [← unhide HH]
      exact World.ownsRow_lit w #[.int .u8 (h / 16777216), .int .u8 (h / 65536 % 256), .int .u8 (h / 256 % 256), .int .u8 (h % 256)] 4 (Nat.le_refl _) (by unfold maxLen; omega) rfl

set_option maxHeartbeats 2000000 in
set_option maxRecDepth 100000 in
theorem checksum_any (v : Value) (xs : List Int) (N : Nat) (w : World) (hv : SlAt mB 0 0 N w v xs) (hb : Bytes xs) :
    Calls Tryz.prog 75 #[v] w fun e w' => e = .returned (.int .u32 (ck xs)) ∧ w' = w := by
  have HB := hide hb
  obtain ⟨a, cap, rfl, hl, hc⟩ := hv
  unfold maxLen at hl
  clear hb
  go_enter Tryz.func75, Tryz.ntmps75
  go_wp2
  go_loop [3, 8] (fun hv iv => ∃ k : Nat, k ≤ xs.length ∧ iv = .int .i64 k ∧ hv = .int .u32 (ck (xs.take k))) (fun _ i => xs.length - (intOf i).toNat)
  case atStart => exact ⟨0, Nat.zero_le _, rfl, rfl⟩
  case round =>
    obtain ⟨k, hk, rfl, rfl⟩ := hrel
    by_cases hlt : k < xs.length
    · have hlt' : (k : Int) < (xs.length : Int) := by omega
      obtain ⟨b, off, rfl, -, -, hcell⟩ := hc (by omega)
      have hx := hcell k hlt
      unfold mB at hx
      have hN := hide (ck_next hlt)
      have hbk := unhide HB k
      have hck := ck_bounds (xs.take k)
      clear hcell hc
      generalize xs[k]?.getD 0 = x at *
      generalize ck (xs.take k) = h at *
      have e1 := bits_xor32 hck.1 hck.2 hbk.1 hbk.2
      have hxr := xr_bounds (h := h) hck.2 hbk.2
      go_wp2
      go_round
      case rel => exact ⟨k + 1, by omega, by go_num, by rw [unhide hN]; rfl⟩
      case measure => simp [intOf]; omega
    · obtain rfl : k = xs.length := by omega
      rw [List.take_length]
      go_wp2
      go_ret
      exact ⟨rfl, rfl⟩

end Go.Proofs.YthgnefdefjannaaGreat

namespace Go.Proofs.YthgnefdefjannaaGreat
open Go.RowKit

/-- Nothing of the block is frozen. -/
def Free (w : World) (b : Nat) : Prop := ∃ c t, w.heap[b]? = some (.cells c t (0, 0))
theorem Free.same {w w' : World} {b : Nat} (h : Free w b) (e : w'.heap[b]? = w.heap[b]?) : Free w' b := by
  obtain ⟨c, t, hb⟩ := h
  exact ⟨c, t, e.trans hb⟩
theorem Free.put {w : World} {b b' o : Nat} {u : Value} (h : Free w b) : Free (w.setCell ⟨b', o, none⟩ u) b := by
  by_cases e : b = b'
  · subst e; exact own_put h
  · exact h.same (Below.heap_setCell _ _ _ _ (by exact e))

/-- The blocks from lo on and below n. -/
def Rng (lo n : Nat) (k : Nat) : Prop := lo ≤ k ∧ k < n

/-- Outside the blocks of S the world w' is as w was. -/
structure ChgF (S : Nat → Prop) (w w' : World) : Prop where
  os : w'.os = w.os
  tape : w'.tape = w.tape
  output : w'.output = w.output
  size : w'.heap.size = w.heap.size
  block : ∀ k, ¬ S k → w'.heap[k]? = w.heap[k]?
theorem ChgF.refl (S : Nat → Prop) (w : World) : ChgF S w w := ⟨rfl, rfl, rfl, rfl, fun _ _ => rfl⟩
theorem ChgF.trans {S : Nat → Prop} {a b c : World} (h : ChgF S a b) (k : ChgF S b c) : ChgF S a c :=
  ⟨k.os.trans h.os, k.tape.trans h.tape, k.output.trans h.output, k.size.trans h.size, fun i hi => (k.block i hi).trans (h.block i hi)⟩
theorem ChgF.mono {S T : Nat → Prop} {a b : World} (h : ChgF S a b) (hs : ∀ k, S k → T k) : ChgF T a b := ⟨h.os, h.tape, h.output, h.size, fun k hk => h.block k (fun q => hk (hs k q))⟩
theorem Chg.foot {lo n : Nat} {S : Nat → Prop} {a b : World} (h : Chg lo n a b) (hs : ∀ k, lo ≤ k → k < n → S k) : ChgF S a b := ⟨h.os, h.tape, h.output, h.size, fun k hk => h.block k (by
  by_cases e : lo ≤ k ∧ k < n
  · exact absurd (hs k e.1 e.2) hk
  · omega)⟩
theorem ChgF.chg {lo n : Nat} {a b : World} (h : ChgF (Rng lo n) a b) : Chg lo n a b := ⟨h.os, h.tape, h.output, h.size, fun k hk => h.block k (by unfold Rng; omega)⟩
theorem ChgF.below {S : Nat → Prop} {lo : Nat} {w w' : World} (h : ChgF S w w') (hs : ∀ k, S k → lo ≤ k) : Below lo w w' := ⟨h.os, h.tape, h.output, by rw [h.size]; exact Nat.le_refl _, fun k hk => h.block k (fun q => by have := hs k q; omega)⟩
theorem ChgF.put {S : Nat → Prop} {a w : World} (h : ChgF S a w) {b o : Nat} (h1 : S b) (u : Value) : ChgF S a (w.setCell ⟨b, o, none⟩ u) :=
  h.trans ⟨rfl, rfl, rfl, by simp [World.setCell], fun k hk => Below.heap_setCell _ _ _ _ (by show k ≠ b; intro e; subst e; exact hk h1)⟩

/-- v is a slice, element by element mk of xs, in the blocks of S, which nothing has frozen. -/
def SlF {α : Type} (mk : α → Value) (d : α) (S : Nat → Prop) (w : World) (v : Value) (xs : List α) : Prop :=
  ∃ lo n, SlW mk d lo n w v xs ∧ ∀ k, lo ≤ k → k < n → S k
theorem SlW.foot {α : Type} {mk : α → Value} {d : α} {lo n : Nat} {w : World} {v : Value} {xs : List α} (h : SlW mk d lo n w v xs) : SlF mk d (Rng lo n) w v xs := ⟨lo, n, h, fun _ h1 h2 => ⟨h1, h2⟩⟩
theorem SlF.same {α : Type} {mk : α → Value} {d : α} {S : Nat → Prop} {w w' : World} {v : Value} {xs : List α} (h : SlF mk d S w v xs) (hs : ∀ k, S k → w'.heap[k]? = w.heap[k]?) : SlF mk d S w' v xs := by
  obtain ⟨lo, n, h1, h2⟩ := h
  exact ⟨lo, n, h1.same (fun k k1 k2 => hs k (h2 k k1 k2)), h2⟩
theorem SlF.mono {α : Type} {mk : α → Value} {d : α} {S T : Nat → Prop} {w : World} {v : Value} {xs : List α} (h : SlF mk d S w v xs) (hs : ∀ k, S k → T k) : SlF mk d T w v xs := by
  obtain ⟨lo, n, h1, h2⟩ := h
  exact ⟨lo, n, h1, fun k k1 k2 => hs k (h2 k k1 k2)⟩
theorem SlF.at {α : Type} {mk : α → Value} {d : α} {S : Nat → Prop} {N : Nat} {w : World} {v : Value} {xs : List α} (h : SlF mk d S w v xs) (hs : ∀ k, S k → k < N) : SlAt mk d 0 N w v xs := by
  obtain ⟨lo, n, ⟨a, cap, rfl, hl, hc⟩, h2⟩ := h
  refine ⟨a, cap, rfl, hl, fun hp => ?_⟩
  obtain ⟨b, off, rfl, h3, h4, h5, hcell⟩ := hc hp
  exact ⟨b, off, rfl, Nat.zero_le _, hs b (h2 b h3 h4), hcell⟩
theorem SlF.val {α : Type} {mk : α → Value} {d : α} {S : Nat → Prop} {w : World} {v : Value} {xs : List α} (h : SlF mk d S w v xs) : ∃ a cap, v = .slice a xs.length cap := by
  obtain ⟨lo, n, ⟨a, cap, e, -⟩, -⟩ := h
  exact ⟨a, cap, e⟩

/-- v is a slice of slices that reads as xss, in blocks below N. -/
def SsAt {α : Type} (mk : α → Value) (d : α) (N : Nat) (w : World) (v : Value) (xss : List (List α)) : Prop :=
  ∃ a cap, v = .slice a xss.length cap ∧ (xss.length ≤ cap ∧ cap ≤ maxLen) ∧
    (0 < xss.length → ∃ b off, a = some ⟨b, off, none⟩ ∧ b < N ∧ ∀ i : Nat, i < xss.length → ∃ s, w.cell? ⟨b, off + i, none⟩ = some s ∧ SlAt mk d 0 N w s (xss[i]?.getD []) ∧ CapOk s)
theorem SsAt.below {α : Type} {mk : α → Value} {d : α} {m : Nat} {w w' : World} {v : Value} {xss : List (List α)} (h : SsAt mk d w.heap.size w v xss) (hb : Below m w w') (hm : w.heap.size ≤ m) : SsAt mk d w'.heap.size w' v xss := by
  obtain ⟨a, cap, rfl, hl, hc⟩ := h
  refine ⟨a, cap, rfl, hl, fun hp => ?_⟩
  obtain ⟨b, off, rfl, h1, h2⟩ := hc hp
  refine ⟨b, off, rfl, by have := hb.size; omega, fun i hi => ?_⟩
  obtain ⟨s, h3, h4, h5⟩ := h2 i hi
  exact ⟨s, by rw [hb.cell (p := ⟨b, off + i, none⟩) (by show b < m; omega)]; exact h3, h4.below hb hm, h5⟩
theorem SsAt.drewN {α : Type} {mk : α → Value} {d : α} {n : Nat} {w : World} {v : Value} {xss : List (List α)} (h : SsAt mk d n w v xss) (q : Nat) : SsAt mk d n (w.drewN q) v xss := h

/-- v is a slice of slices, xss, that owns its memory, in the blocks of S: the row of the slices and one for each slice, all apart. -/
def SsF {α : Type} (mk : α → Value) (d : α) (S : Nat → Prop) (w : World) (v : Value) (xss : List (List α)) : Prop :=
  ∃ a cap, v = .slice a xss.length cap ∧ (xss.length ≤ cap ∧ cap ≤ maxLen) ∧ (0 < xss.length → ∃ (b off : Nat) (sv : Nat → Value) (T : Nat → Nat → Prop), a = some ⟨b, off, none⟩ ∧ S b ∧ Free w b ∧
    (∀ i : Nat, i < xss.length → w.cell? ⟨b, off + i, none⟩ = some (sv i)) ∧ (∀ i : Nat, i < xss.length → SlF mk d (T i) w (sv i) (xss[i]?.getD []) ∧ CapOk (sv i)) ∧
    (∀ i : Nat, i < xss.length → ∀ k, T i k → S k ∧ k ≠ b) ∧ ∀ i j : Nat, i < xss.length → j < xss.length → i ≠ j → ∀ k, T i k → ¬ T j k)
theorem SsF.same {α : Type} {mk : α → Value} {d : α} {S : Nat → Prop} {w w' : World} {v : Value} {xss : List (List α)} (h : SsF mk d S w v xss) (hs : ∀ k, S k → w'.heap[k]? = w.heap[k]?) : SsF mk d S w' v xss := by
  obtain ⟨a, cap, rfl, hl, hc⟩ := h
  refine ⟨a, cap, rfl, hl, fun hp => ?_⟩
  obtain ⟨b, off, sv, T, e, h1, h2, h3, h4, h5, h6⟩ := hc hp
  exact ⟨b, off, sv, T, e, h1, h2.same (hs b h1), fun i hi => by rw [World.cell?_of_block (w := w) (a := ⟨b, off + i, none⟩) (hs b h1)]; exact h3 i hi, fun i hi => ⟨(h4 i hi).1.same (fun k hk => hs k (h5 i hi k hk).1), (h4 i hi).2⟩, h5, h6⟩
theorem SsF.mono {α : Type} {mk : α → Value} {d : α} {S S' : Nat → Prop} {w : World} {v : Value} {xss : List (List α)} (h : SsF mk d S w v xss) (hs : ∀ k, S k → S' k) : SsF mk d S' w v xss := by
  obtain ⟨a, cap, rfl, hl, hc⟩ := h
  refine ⟨a, cap, rfl, hl, fun hp => ?_⟩
  obtain ⟨b, off, sv, T, e, h1, h2, h3, h4, h5, h6⟩ := hc hp
  exact ⟨b, off, sv, T, e, hs b h1, h2, h3, h4, fun i hi k hk => ⟨hs k (h5 i hi k hk).1, (h5 i hi k hk).2⟩, h6⟩
theorem SsF.at {α : Type} {mk : α → Value} {d : α} {S : Nat → Prop} {N : Nat} {w : World} {v : Value} {xss : List (List α)} (h : SsF mk d S w v xss) (hs : ∀ k, S k → k < N) : SsAt mk d N w v xss := by
  obtain ⟨a, cap, rfl, hl, hc⟩ := h
  refine ⟨a, cap, rfl, hl, fun hp => ?_⟩
  obtain ⟨b, off, sv, T, e, h1, h2, h3, h4, h5, h6⟩ := hc hp
  exact ⟨b, off, e, hs b h1, fun i hi => ⟨sv i, h3 i hi, (h4 i hi).1.at (fun k hk => hs k (h5 i hi k hk).1), (h4 i hi).2⟩⟩
theorem SsF.keep {α : Type} {mk : α → Value} {d : α} {lo n m : Nat} {w w' : World} {v : Value} {xss : List (List α)} (h : SsF mk d (Rng lo n) w v xss) (hb : Below m w w') (hn : n ≤ m) : SsF mk d (Rng lo n) w' v xss := h.same (fun k hk => hb.block k (by unfold Rng at hk; omega))
theorem SsF.all {α : Type} {mk : α → Value} {d : α} {lo n : Nat} {w : World} {v : Value} {xss : List (List α)} (h : SsF mk d (Rng lo n) w v xss) (hn : n ≤ w.heap.size) : SsAt mk d w.heap.size w v xss := h.at (fun k hk => by unfold Rng at hk; omega)
theorem SsF.nil {α : Type} (mk : α → Value) (d : α) (S : Nat → Prop) (w : World) (a : Option Addr) (cap : Nat) (hc : cap ≤ maxLen) : SsF mk d S w (.slice a 0 cap) ([] : List (List α)) := ⟨a, cap, rfl, ⟨Nat.zero_le _, hc⟩, fun h => absurd h (by simp)⟩

/-- The part of a copy that is made. -/
def PartS {α : Type} (mk : α → Value) (d : α) (t : TypeId) (N : Nat) (w : World) (xss : List (List α)) (k : Nat) : Prop :=
  ∃ (f : Nat → Value) (T : Nat → Nat → Prop), w.rowIs N t xss.length f ∧ (∀ i : Nat, i < k → SlF mk d (T i) w (f i) (xss[i]?.getD []) ∧ CapOk (f i)) ∧ (∀ i : Nat, i < k → ∀ j, T i j → N < j ∧ j < w.heap.size) ∧
    ∀ i j : Nat, i < k → j < k → i ≠ j → ∀ q, T i q → ¬ T j q
theorem partS_step {α : Type} {mk : α → Value} {d : α} {t : TypeId} {N k : Nat} {wr w1 : World} {xss : List (List α)} {v : Value} (h : PartS mk d t N wr xss k) (hk : k < xss.length) (hb : Below wr.heap.size wr w1)
    (hv : SlW mk d wr.heap.size w1.heap.size w1 v (xss[k]?.getD [])) (hcv : CapOk v) : PartS mk d t N (w1.setCell ⟨N, k, none⟩ v) xss (k + 1) := by
  obtain ⟨f, T, hrow, h4, h5, h6⟩ := h
  have hN := hrow.lt
  have hz := hb.size
  have hrow1 := hrow.of_block (hb.block N hN)
  have hput : ∀ k', k' ≠ N → (w1.setCell ⟨N, k, none⟩ v).heap[k']? = w1.heap[k']? := fun k' hne => Below.heap_setCell _ _ _ _ (by exact hne)
  refine ⟨_, fun i => if i = k then Rng wr.heap.size w1.heap.size else T i, hrow1.set k v, fun i hi => ?_, fun i hi j hj => ?_, fun i j hi hj hne q hq hq' => ?_⟩
  · by_cases e : i = k
    · subst e
      simp only [if_true]
      exact ⟨hv.foot.same (fun k' hk' => hput k' (by unfold Rng at hk'; omega)), hcv⟩
    · simp only [e, if_false]
      refine ⟨((h4 i (by omega)).1.same (w' := w1) (fun k' hk' => hb.block k' (h5 i (by omega) k' hk').2)).same (fun k' hk' => hput k' ?_), (h4 i (by omega)).2⟩
      have := h5 i (by omega) k' hk'
      omega
  · rw [sz_put]
    by_cases e : i = k
    · simp only [e, if_true] at hj; unfold Rng at hj; omega
    · simp only [e, if_false] at hj
      have := h5 i (by omega) j hj
      omega
  · by_cases e1 : i = k
    · by_cases e2 : j = k
      · omega
      · simp only [e1, e2, if_true, if_false] at hq hq'
        have := h5 j (by omega) q hq'
        unfold Rng at hq
        omega
    · by_cases e2 : j = k
      · simp only [e1, e2, if_true, if_false] at hq hq'
        have := h5 i (by omega) q hq
        unfold Rng at hq'
        omega
      · simp only [e1, e2, if_false] at hq hq'
        exact h6 i j (by omega) (by omega) hne q hq hq'
theorem partS_done {α : Type} {mk : α → Value} {d : α} {t : TypeId} {N cap : Nat} {w : World} {xss : List (List α)} (h : PartS mk d t N w xss xss.length) (hl : xss.length ≤ cap ∧ cap ≤ maxLen) : SsF mk d (Rng N w.heap.size) w (.slice (some ⟨N, 0, none⟩) xss.length cap) xss := by
  obtain ⟨f, T, hrow, h4, h5, h6⟩ := h
  have hN := hrow.lt
  have hfr : Free w N := by obtain ⟨c, hcb, -⟩ := hrow; exact ⟨c, t, hcb⟩
  exact ⟨_, cap, rfl, hl, fun _ => ⟨N, 0, f, T, rfl, ⟨Nat.le_refl _, hN⟩, hfr, fun i hi => by rw [Nat.zero_add]; exact hrow.cell hi, h4, fun i hi k hk => by have := h5 i hi k hk; unfold Rng; omega, h6⟩⟩

/-- How many elements all lists have, and the marks. -/
def tot {α : Type} : List (List α) → Nat
  | [] => 0
  | x :: r => x.length + tot r
def marksL {α β : Type} (c : Int → Nat → List β) (k : Int) : List (List α) → List (List β)
  | [] => []
  | x :: r => c k x.length :: marksL c (k + x.length) r
theorem marksL_len {α β : Type} (c : Int → Nat → List β) (k : Int) (xss : List (List α)) : (marksL c k xss).length = xss.length := by
  induction xss generalizing k with
  | nil => rfl
  | cons x r ih => simp [marksL, ih]
theorem marksL_get {α β : Type} (c : Int → Nat → List β) (k : Int) (xss : List (List α)) (i : Nat) (h : i < xss.length) : (marksL c k xss)[i]?.getD [] = c (k + tot (xss.take i)) (xss[i]?.getD []).length := by
  induction xss generalizing k i with
  | nil => simp at h
  | cons x r ih =>
    cases i with
    | zero => simp [marksL, tot]
    | succ i => simp only [marksL, List.getElem?_cons_succ, List.take_succ_cons, tot]; rw [ih _ i (by simpa using h)]; congr 1; omega
theorem tot_step {α : Type} (xss : List (List α)) (i : Nat) (h : i < xss.length) : tot (xss.take (i + 1)) = tot (xss.take i) + (xss[i]?.getD []).length := by
  induction xss generalizing i with
  | nil => simp at h
  | cons x r ih =>
    cases i with
    | zero => simp [tot]
    | succ i => simp only [List.take_succ_cons, tot, List.getElem?_cons_succ]; rw [ih i (by simpa using h)]; omega
theorem tot_take {α : Type} (xss : List (List α)) (i : Nat) : tot (xss.take i) ≤ tot xss := by
  induction xss generalizing i with
  | nil => simp [tot]
  | cons x r ih => cases i with
    | zero => simp [tot]
    | succ i => have := ih i; simp only [List.take_succ_cons, tot]; omega
theorem tot_get {α : Type} (xss : List (List α)) (i : Nat) : (xss[i]?.getD []).length ≤ tot xss := by
  by_cases h : i < xss.length
  · have h1 := tot_step xss i h
    have h2 := tot_take xss (i + 1)
    omega
  · rw [List.getElem?_eq_none (by omega)]; simp

/-- While the lists are marked: the first m are. -/
def mixL {α : Type} (ys xss : List (List α)) (m i : Nat) : List α := if i < m then ys[i]?.getD [] else xss[i]?.getD []
def MkS {α : Type} (mk : α → Value) (d : α) (S : Nat → Prop) (w0 w : World) (ys xss : List (List α)) (b off : Nat) (sv : Nat → Value) (T : Nat → Nat → Prop) (m : Nat) : Prop :=
  Free w b ∧ (∀ i : Nat, i < xss.length → w.cell? ⟨b, off + i, none⟩ = some (sv i)) ∧ (∀ i : Nat, i < xss.length → SlF mk d (T i) w (sv i) (mixL ys xss m i) ∧ CapOk (sv i)) ∧ ChgF S w0 w
theorem mkS_step {α : Type} {mk : α → Value} {d : α} {S : Nat → Prop} {w0 wr w1 : World} {ys xss : List (List α)} {b off : Nat} {sv : Nat → Value} {T : Nat → Nat → Prop} {m : Nat} (h : MkS mk d S w0 wr ys xss b off sv T m) (hm : m < xss.length)
    (h5 : ∀ i : Nat, i < xss.length → ∀ k, T i k → S k ∧ k ≠ b) (h6 : ∀ i j : Nat, i < xss.length → j < xss.length → i ≠ j → ∀ k, T i k → ¬ T j k)
    (hc : ChgF (T m) wr w1) (hs : SlF mk d (T m) w1 (sv m) (ys[m]?.getD [])) : MkS mk d S w0 w1 ys xss b off sv T (m + 1) := by
  obtain ⟨hu, h3, h4, hch⟩ := h
  have eb : w1.heap[b]? = wr.heap[b]? := hc.block b (fun q => (h5 m hm b q).2 rfl)
  refine ⟨hu.same eb, fun i hi => by rw [World.cell?_of_block (w := wr) (a := ⟨b, off + i, none⟩) eb]; exact h3 i hi, fun i hi => ?_, hch.trans (hc.mono (fun k hk => (h5 m hm k hk).1))⟩
  by_cases e : i = m
  · subst e
    unfold mixL
    rw [if_pos (by omega)]
    exact ⟨hs, (h4 i hi).2⟩
  · have e2 : mixL ys xss (m + 1) i = mixL ys xss m i := by
      unfold mixL
      by_cases e3 : i < m
      · rw [if_pos e3, if_pos (by omega)]
      · rw [if_neg e3, if_neg (by omega)]
    rw [e2]
    exact ⟨(h4 i hi).1.same (fun k hk => hc.block k (h6 i m hi hm e k hk)), (h4 i hi).2⟩

theorem SsAt.take {α : Type} {mk : α → Value} {d : α} {N k cap b off : Nat} {w : World} {xss : List (List α)} (hk : k ≤ xss.length) (hl : xss.length ≤ cap ∧ cap ≤ maxLen) (hb : b < N)
    (hc : ∀ i : Nat, i < xss.length → ∃ s, w.cell? ⟨b, off + i, none⟩ = some s ∧ SlAt mk d 0 N w s (xss[i]?.getD []) ∧ CapOk s) : SsAt mk d N w (.slice (some ⟨b, off, none⟩) k cap) (xss.take k) := by
  have e : (xss.take k).length = k := by simp; omega
  refine ⟨_, cap, by rw [e], ⟨by omega, hl.2⟩, fun _ => ⟨b, off, rfl, hb, fun i hi => ?_⟩⟩
  rw [e] at hi
  obtain ⟨s, h1, h2⟩ := hc i (by omega)
  exact ⟨s, h1, by rw [List.getElem?_take, if_pos hi]; exact h2⟩
theorem SsAt.drop {α : Type} {mk : α → Value} {d : α} {N k m cap b off : Nat} {w : World} {xss : List (List α)} (hk : k + m = xss.length) (hl : m ≤ cap ∧ cap ≤ maxLen) (hb : b < N)
    (hc : ∀ i : Nat, i < xss.length → ∃ s, w.cell? ⟨b, off + i, none⟩ = some s ∧ SlAt mk d 0 N w s (xss[i]?.getD []) ∧ CapOk s) : SsAt mk d N w (.slice (some ⟨b, off + k, none⟩) m cap) (xss.drop k) := by
  have e : (xss.drop k).length = m := by simp; omega
  refine ⟨_, cap, by rw [e], ⟨by omega, hl.2⟩, fun _ => ⟨b, off + k, rfl, hb, fun i hi => ?_⟩⟩
  rw [e] at hi
  obtain ⟨s, h1, h2⟩ := hc (k + i) (by omega)
  exact ⟨s, by rw [Nat.add_assoc]; exact h1, by rw [List.getElem?_drop]; exact h2⟩

theorem tot_drop {α : Type} (xss : List (List α)) (i : Nat) : tot (xss.drop i) ≤ tot xss := by
  induction xss generalizing i with
  | nil => simp [tot]
  | cons x r ih => cases i with
    | zero => simp
    | succ i => have := ih i; simp only [List.drop_succ_cons, tot]; omega


end Go.Proofs.YthgnefdefjannaaGreat
