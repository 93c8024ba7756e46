import Derived.Test.YthgnefdefjannaaGreatP9
import Derived.Lib.AppendStr
import Derived.Test.YthgnefdefjannaaGreatP3
import Derived.Test.YthgnefdefjannaaGreatP5
namespace Go.Proofs.YthgnefdefjannaaGreat
open Go.RowKit

/-- Bytes that are still to be read. -/
def Cod (xs : List Int) : Prop := ∀ x ∈ xs, 0 ≤ x ∧ x ≤ 255
theorem Cod.tail {xs : List Int} (h : Cod xs) : Cod xs.tail := fun x hx => h x (List.mem_of_mem_tail hx)
theorem Cod.head {xs : List Int} (h : Cod xs) : 0 ≤ xs.headD 0 ∧ xs.headD 0 ≤ 255 := by
  cases xs with
  | nil => simp
  | cons x r => exact h x (List.mem_cons_self ..)

/-- The odd bytes. -/
def oddB : List Int := [92, 46, 91, 93, 40, 41, 124, 42, 43, 63, 123, 125, 94, 36, 45, 10, 9, 13, 32, 126, 0, 127, 128, 255, 33]
theorem oddB_byte : ∀ k, k < 25 → 0 ≤ oddB.getD k 0 ∧ oddB.getD k 0 ≤ 255 := by decide
theorem oddB_eq (k : Nat) (h : k < 25) : wrap64 (((ByteArray.mk #[92, 46, 91, 93, 40, 41, 124, 42, 43, 63, 123, 125, 94, 36, 45, 10, 9, 13, 32, 126, 0, 127, 128, 255, 33])[k]'h).toNat : Int) = oddB.getD k 0 := by
  have e : (((ByteArray.mk #[92, 46, 91, 93, 40, 41, 124, 42, 43, 63, 123, 125, 94, 36, 45, 10, 9, 13, 32, 126, 0, 127, 128, 255, 33])[k]'h).toNat : Int) = oddB.getD k 0 := by
    have H : ∀ k : Fin 25, (((#[92, 46, 91, 93, 40, 41, 124, 42, 43, 63, 123, 125, 94, 36, 45, 10, 9, 13, 32, 126, 0, 127, 128, 255, 33] : Array UInt8)[k.1]'k.2).toNat : Int) = oddB.getD k.1 0 := by decide
    exact H ⟨k, h⟩
  have hb := oddB_byte k h
  rw [e]
  unfold wrap64; omega

/-- The byte that is drawn from a byte of the code. -/
def dB (y : Int) : Int := if y < 200 then 97 + y % 3 else if y < 215 then 48 + y % 3 else oddB.getD (y % 25).toNat 0
theorem dB_byte {y : Int} : 0 ≤ dB y ∧ dB y ≤ 255 := by
  unfold dB
  split
  · omega
  · split
    · omega
    · exact oddB_byte _ (by omega)

theorem l1drawByte_any (N D : Nat) (xs : List Int) (w : World) (h : CdAt N D w xs) (hx : Cod xs) :
    Calls Tryz.prog 42 #[.pointer (some ⟨D, 0, none⟩)] w fun e w' => e = .returned (.int .i64 (dB (xs.headD 0))) ∧ CdAt N D w' xs.tail ∧ Only D w w' := by
  have H := hide h
  have HX := hide hx
  have hh := hx.head
  obtain ⟨y, hy⟩ : ∃ y, xs.headD 0 = y := ⟨_, rfl⟩
  rw [hy] at hh ⊢
  have HY := hide hy
  clear hy hx h
  by_cases h1 : y < 200
  · rw [show dB y = 97 + y % 3 from if_pos h1]
    go_enter Tryz.func42, Tryz.ntmps42
    go_wp2_with fail
    refine (next_any N D xs w (unhide H) (unhide HX)).mono ?_
    rintro e w1 ⟨he, hc, ho⟩
    rw [unhide HY] at he
    subst he
    go_wp2
    go_ret
    exact ⟨rfl, hc, ho⟩
  · by_cases h2 : y < 215
    · rw [show dB y = 48 + y % 3 from (if_neg h1).trans (if_pos h2)]
      go_enter Tryz.func42, Tryz.ntmps42
      go_wp2_with fail
      refine (next_any N D xs w (unhide H) (unhide HX)).mono ?_
      rintro e w1 ⟨he, hc, ho⟩
      rw [unhide HY] at he
      subst he
      go_wp2
      go_ret
      exact ⟨rfl, hc, ho⟩
    · have hk : (y % 25).toNat < 25 := by omega
      rw [show dB y = oddB.getD (y % 25).toNat 0 from (if_neg h1).trans (if_neg h2)]
      go_enter Tryz.func42, Tryz.ntmps42
      go_wp2_with fail
      refine (next_any N D xs w (unhide H) (unhide HX)).mono ?_
      rintro e w1 ⟨he, hc, ho⟩
      rw [unhide HY] at he
      subst he
      go_wp2
      rw [oddB_eq _ hk]
      go_ret
      exact ⟨rfl, hc, ho⟩

/-- The word of a number. -/
def wdL (c : Int) : List Int :=
  if c % 10 = 0 then [101, 114, 114, 111, 114] else if c % 10 = 1 then [119, 97, 114, 110] else if c % 10 = 2 then [100, 105, 115, 107, 32, 102, 117, 108, 108]
  else if c % 10 = 3 then [97, 98, 99] else if c % 10 = 4 then [99, 97, 98, 97, 98] else if c % 10 = 5 then [114, 101, 97, 100, 32, 49, 55] else if c % 10 = 6 then [105, 111]
  else if c % 10 = 7 then [114, 101, 114, 114, 111, 114] else if c % 10 = 8 then [98, 99, 97, 98, 99] else [97, 46, 99]
theorem wdL_len (c : Int) : (wdL c).length ≤ 9 := by
  unfold wdL
  repeat' split
  all_goals decide
theorem wdL_byte (c : Int) : Cod (wdL c) := by
  unfold wdL Cod
  repeat' split
  all_goals decide
/-- A string of these bytes. -/
def StrOf (s : ByteArray) (xs : List Int) : Prop := Go.Lib.strCells s = xs.map mB

set_option maxHeartbeats 4000000 in
theorem l4word_any (c : Int) (w : World) (h0 : 0 ≤ c) (h1 : c ≤ 255) :
    Calls Tryz.prog 43 #[.int .i64 c] w fun e w' => (∃ s, e = .returned (.string s) ∧ StrOf s (wdL c)) ∧ w' = w := by
  obtain ⟨k, hk, k0, k1⟩ : ∃ k, c % 10 = k ∧ 0 ≤ k ∧ k ≤ 9 := ⟨_, rfl, by omega, by omega⟩
  have e : k = 0 ∨ k = 1 ∨ k = 2 ∨ k = 3 ∨ k = 4 ∨ k = 5 ∨ k = 6 ∨ k = 7 ∨ k = 8 ∨ k = 9 := by omega
  clear k0 k1
  rcases e with rfl | rfl | rfl | rfl | rfl | rfl | rfl | rfl | rfl | rfl
  all_goals
    have hw : Hid (wdL c = wdL c) := rfl
    unfold wdL
    simp only [hk]
    go_enter Tryz.func43, Tryz.ntmps43
    go_wp2
    go_ret
    exact ⟨⟨_, rfl, rfl⟩, rfl⟩

end Go.Proofs.YthgnefdefjannaaGreat

namespace Go.Proofs.YthgnefdefjannaaGreat
open Go.RowKit

/-- The bytes of a string behind a row of one's own. -/
theorem app_strB {w : World} {ops : Array Oper} {rest : List Oper} {o : Oper} {a : Act} {Q : Exit → Act → World → Prop} (hgd : o.guard = none) (s x : Operand)
    (ho : o.op = .call { callee := .builtin .append, args := #[s, x], argTypes := #[22, 9] }) (base : Nat) (ov : Value) (hs : a.eval s = ov) (os : List Int) (hown : w.ownsRow base 5 1 ov os.length (os.map mB)) (hbase : base ≤ w.heap.size)
    (sv : ByteArray) (hx : a.eval x = .string sv) (xs : List Int) (hv : StrOf sv xs) (hlen : os.length + xs.length ≤ 1073741824)
    (h : ∀ v' w', Below base w w' → w'.ownsRow base 5 1 v' (os ++ xs).length ((os ++ xs).map mB) → v'.oneCell' = true → wpList Tryz.prog ops Q rest (a.put o.dst v') w') : wpList Tryz.prog ops Q (o :: rest) a w := by
  obtain ⟨i0, hi, hz0, hz1, hz2⟩ := info_parts Tryz.zinByte
  have hl : sv.size = xs.length := by
    have := congrArg List.length hv
    rw [Go.Lib.strCells_length, List.length_map] at this
    exact this
  refine Go.Lib.wpList_append_own_string w hgd s x 22 9 ho base 5 i0 Tryz.underlying22 Tryz.underlying9 hi hz0 hz1 hz2 _ os.length (os.map mB) hs hown sv hx (by rw [hl]; unfold maxLen; omega) (by omega) hbase ?_
  intro v' w' h1 hg _
  have h2 : w'.ownsRow base 5 1 v' (os ++ xs).length ((os ++ xs).map mB) := by rw [List.length_append, List.map_append, ← hl, ← hv]; exact h1
  obtain ⟨oa, oc, rfl⟩ := own_is h2
  exact h _ w' ((Below.refl _ _).grown hg hbase (fun k hk => (hown.lt k hk).1)) h2 rfl

theorem lit_one {w : World} {x : Int} : SlAt mB 0 0 (w.alloc (.cells #[.int .u8 x] 5)).heap.size (w.alloc (.cells #[.int .u8 x] 5)) (.slice (some ⟨w.heap.size, 0, none⟩) 1 1) [x] :=
  own_rdB (base := w.heap.size) (n := 1) (World.ownsRow_lit w #[.int .u8 x] 1 (Nat.le_refl _) (by unfold maxLen; omega) rfl) (by unfold maxLen; omega)

/-- Letters of a code: three to a byte. -/
def lnA : Nat → Nat → Int → List Int → List Int × List Int
  | 0, _, _, xs => ([], xs)
  | m + 1, i, c, xs => if i % 3 = 0 then ((97 + xs.headD 0 % 3) :: (lnA m (i + 1) (xs.headD 0 / 3) xs.tail).1, (lnA m (i + 1) (xs.headD 0 / 3) xs.tail).2) else ((97 + c % 3) :: (lnA m (i + 1) (c / 3) xs).1, (lnA m (i + 1) (c / 3) xs).2)
theorem lnA_ok : ∀ (m i : Nat) (c : Int) (xs : List Int), Cod xs → (lnA m i c xs).1.length = m ∧ Cod (lnA m i c xs).1 ∧ Cod (lnA m i c xs).2
  | 0, _, _, xs, h => ⟨rfl, (fun x hx => absurd hx (List.not_mem_nil)), h⟩
  | m + 1, i, c, xs, h => by
    unfold lnA
    split
    · have := lnA_ok m (i + 1) (xs.headD 0 / 3) xs.tail h.tail
      refine ⟨by simp only [List.length_cons]; omega, fun x hx => ?_, this.2.2⟩
      rcases List.mem_cons.1 hx with rfl | hx
      · omega
      · exact this.2.1 x hx
    · have := lnA_ok m (i + 1) (c / 3) xs h
      refine ⟨by simp only [List.length_cons]; omega, fun x hx => ?_, this.2.2⟩
      rcases List.mem_cons.1 hx with rfl | hx
      · omega
      · exact this.2.1 x hx
def fxB (b : Int) : Int := if b = 10 ∨ b = 126 then 97 else b
/-- Bytes of any kind. -/
def lnB : Nat → List Int → List Int × List Int
  | 0, xs => ([], xs)
  | m + 1, xs => (fxB (dB (xs.headD 0)) :: (lnB m xs.tail).1, (lnB m xs.tail).2)
theorem lnB_ok : ∀ (m : Nat) (xs : List Int), Cod xs → (lnB m xs).1.length = m ∧ Cod (lnB m xs).1 ∧ Cod (lnB m xs).2
  | 0, xs, h => ⟨rfl, (fun x hx => absurd hx (List.not_mem_nil)), h⟩
  | m + 1, xs, h => by
    unfold lnB
    have := lnB_ok m xs.tail h.tail
    refine ⟨by simp only [List.length_cons]; omega, fun x hx => ?_, this.2.2⟩
    rcases List.mem_cons.1 hx with rfl | hx
    · have := dB_byte (y := xs.headD 0)
      unfold fxB
      split <;> omega
    · exact this.2.1 x hx
/-- A line of a code. -/
def dLn (xs : List Int) : List Int × List Int :=
  if xs.headD 0 % 8 < 3 then lnA (xs.tail.headD 0 % 9).toNat 0 0 xs.tail.tail
  else if xs.headD 0 % 8 = 3 then lnB (xs.tail.headD 0 % 5).toNat xs.tail.tail
  else if xs.headD 0 % 8 < 6 then (wdL (xs.tail.headD 0) ++ (if xs.tail.headD 0 / 10 % 2 = 1 then [32] else []) ++ wdL (xs.tail.tail.headD 0), xs.tail.tail.tail)
  else if xs.headD 0 % 8 = 7 then (wdL (xs.tail.headD 0) ++ [48 + xs.tail.headD 0 % 10], xs.tail.tail)
  else (wdL (xs.tail.headD 0), xs.tail.tail)
theorem Cod.app {xs ys : List Int} (h : Cod xs) (k : Cod ys) : Cod (xs ++ ys) := fun x hx => by
  rcases List.mem_append.1 hx with q | q
  · exact h x q
  · exact k x q
theorem dLn_ok (xs : List Int) (h : Cod xs) : (dLn xs).1.length ≤ 20 ∧ Cod (dLn xs).1 ∧ Cod (dLn xs).2 := by
  unfold dLn
  split
  · have := lnA_ok (xs.tail.headD 0 % 9).toNat 0 0 xs.tail.tail h.tail.tail
    exact ⟨by omega, this.2⟩
  · split
    · have := lnB_ok (xs.tail.headD 0 % 5).toNat xs.tail.tail h.tail.tail
      exact ⟨by omega, this.2⟩
    · have h1 := wdL_len (xs.tail.headD 0)
      have h2 := wdL_len (xs.tail.tail.headD 0)
      split
      · refine ⟨?_, ((wdL_byte _).app ?_).app (wdL_byte _), h.tail.tail.tail⟩
        · simp only [List.length_append]
          split <;> simp only [List.length_cons, List.length_nil] <;> omega
        · split
          · intro x hx; simp at hx; omega
          · intro x hx; cases hx
      · split
        · refine ⟨by simp only [List.length_append, List.length_cons, List.length_nil]; omega, (wdL_byte _).app ?_, h.tail.tail⟩
          intro x hx; simp at hx; omega
        · exact ⟨by show (wdL (xs.tail.headD 0)).length ≤ 20; omega, wdL_byte _, h.tail.tail⟩

/-- What a drawing of bytes leaves: the bytes in a row of its own, the rest of the code. -/
def Drawn (N D lo : Nat) (w : World) (r : List Int × List Int) (e : Ending) (w' : World) : Prop := (∃ v, e = .returned v ∧ w'.ownsRow lo 5 1 v r.1.length (r.1.map mB)) ∧ CdAt N D w' r.2 ∧ Mv lo D w w'

end Go.Proofs.YthgnefdefjannaaGreat

namespace Go.Proofs.YthgnefdefjannaaGreat
open Go.RowKit

set_option maxHeartbeats 4000000 in
set_option maxRecDepth 100000 in
theorem l4drawLine_A (N D : Nat) (xs : List Int) (w : World) (h : CdAt N D w xs) (hx : Cod xs) (hD : D < w.heap.size) (hk : xs.headD 0 % 8 < 3) :
    Calls Tryz.prog 29 #[.pointer (some ⟨D, 0, none⟩)] w (Drawn N D w.heap.size w (lnA (xs.tail.headD 0 % 9).toNat 0 0 xs.tail.tail)) := by
  have H := hide h
  have HX := hide hx
  have hh := hx.head
  have hh2 := hx.tail.head
  obtain ⟨y, hy⟩ : ∃ y, xs.headD 0 = y := ⟨_, rfl⟩
  obtain ⟨y2, hy2⟩ : ∃ y, xs.tail.headD 0 = y := ⟨_, rfl⟩
  rw [hy] at hh hk
  rw [hy2] at hh2 ⊢
  have HY := hide hy
  have HY2 := hide hy2
  clear hy hx h hy2
  obtain ⟨n, hn⟩ : ∃ n : Nat, (y2 % 9).toNat = n := ⟨_, rfl⟩
  rw [hn]
  have hn9 : y2 % 9 = (n : Int) := by omega
  have hn8 : n ≤ 8 := by omega
  have HN := hide hn9
  clear hn hn9
  obtain ⟨R, hR⟩ : ∃ R, lnA n 0 0 xs.tail.tail = R := ⟨_, rfl⟩
  rw [hR]
  have HR := hide hR
  clear hR
  go_enter Tryz.func29, Tryz.ntmps29
  go_wp2_with fail
  refine (next_any N D xs w (unhide H) (unhide HX)).mono ?_
  rintro e w1 ⟨he, hc1, ho1⟩
  rw [unhide HY] at he
  subst he
  go_wp2_with fail
  refine (next_any N D xs.tail w1 hc1 (unhide HX).tail).mono ?_
  rintro e w2 ⟨he, hc2, ho2⟩
  rw [unhide HY2] at he
  subst he
  have HC2 := hide hc2
  have HM2 := hide ((ho1.mv w.heap.size).trans (ho2.mv w.heap.size))
  clear hc1 hc2 ho1 ho2
  go_wp2
  go_loopw [4, 6, 7] (fun ov cv i wr => ∃ (m : Nat) (c : Int) (zs os : List Int), m ≤ n ∧ i = .int .i64 (m : Nat) ∧ cv = .int .i64 c ∧ (0 ≤ c ∧ c ≤ 255) ∧ Cod zs ∧ os.length = m ∧ (os ++ (lnA (n - m) m c zs).1 = R.1 ∧ (lnA (n - m) m c zs).2 = R.2) ∧ wr.ownsRow w.heap.size 5 1 ov m (os.map mB) ∧ CdAt N D wr zs ∧ Mv w.heap.size D w wr) (fun _ _ i _ => n - (intOf i).toNat)
  case atStart =>
    refine ⟨0, 0, xs.tail.tail, [], Nat.zero_le _, rfl, rfl, by omega, (unhide HX).tail.tail, rfl, ⟨by rw [← unhide HR]; rfl, by rw [← unhide HR]; rfl⟩, World.ownsRow_nil _ _ _ _, unhide HC2, unhide HM2⟩
  case round =>
    obtain ⟨m, c, zs, os, hm, rfl, rfl, hcb, hzs, hos, heq, hown, hcd, hmv⟩ := hrel
    have HO := hide hown
    have HCD := hide hcd
    have HMV := hide hmv
    have HE := hide heq
    have HZ := hide hzs
    have HOS := hide hos
    have hszr := hmv.size
    obtain ⟨oa, oc, rfl⟩ := own_is hown
    by_cases hlt : m < n
    · have hlt' : (m : Int) < y2 % 9 := by have := unhide HN; omega
      obtain ⟨q, hq⟩ : ∃ q, n - m = q + 1 := ⟨n - m - 1, by omega⟩
      have hq' : n - (m + 1) = q := by omega
      rw [hq] at heq
      have HQ := hide hq'
      clear hown hcd hmv hq hq'
      by_cases h3 : m % 3 = 0
      · have h3' : (m : Int) % 3 = 0 := by omega
        rw [lnA, if_pos h3] at heq
        have HE2 := hide heq
        have hzh := hzs.head
        obtain ⟨y3, hy3⟩ : ∃ y, zs.headD 0 = y := ⟨_, rfl⟩
        rw [hy3] at hzh HE2
        have HY3 := hide hy3
        clear heq hzs hos hy3
        go_wp2_with fail
        refine (next_any N D zs wr (unhide HCD) (unhide HZ)).mono ?_
        rintro e w4 ⟨he, hc4, ho4⟩
        rw [unhide HY3] at he
        subst he
        have hz4 : wr.heap.size ≤ w4.heap.size := Nat.le_of_eq ho4.size.symm
        have HC4 := hide hc4
        have HM4 := hide ((unhide HMV).trans (ho4.mv w.heap.size))
        have HO4 := hide (own_mv (unhide HO) (ho4.mv wr.heap.size) (Nat.le_refl _) hD)
        clear hc4 ho4
        go_wp2_with (at_builtin; refine app_moreB rfl _ _ rfl w.heap.size _ rfl os (by rw [unhide HOS]; exact (unhide HO4).alloc _) (by rw [sz_alloc]; omega) _ rfl [97 + y3 % 3] (by exact lit_one) (by rw [unhide HOS]; simp; omega) ?_; intro v5 w5 hb5 ho5 hoc5)
        have hB5 : Below w.heap.size w4 w5 := (below1 w4 _).mono (by omega) |>.trans hb5
        have HC5 := hide ((unhide HC4).keep hB5 hD)
        have HM5 := hide ((unhide HM4).trans (Below.mv hB5 D))
        have HO5 := hide ho5
        have hl5 : (os ++ [97 + y3 % 3]).length = m + 1 := by simp [unhide HOS]
        rw [hl5] at HO5
        have HL5 := hide hl5
        clear ho5 hl5 hb5 hB5
        go_wp2
        refine ⟨⟨m + 1, y3 / 3, zs.tail, os ++ [97 + y3 % 3], by omega, by go_num, rfl, by omega, (unhide HZ).tail, unhide HL5, ?_, unhide HO5, unhide HC5, unhide HM5⟩, by simp [intOf]; omega⟩
        rw [unhide HQ, List.append_assoc, List.singleton_append]
        exact unhide HE2
      · have h3' : ¬ (m : Int) % 3 = 0 := by omega
        rw [lnA, if_neg h3] at heq
        have HE2 := hide heq
        clear heq hzs hos
        go_wp2_with (at_builtin; refine app_moreB rfl _ _ rfl w.heap.size _ rfl os (by rw [unhide HOS]; exact (unhide HO).alloc _) (by rw [sz_alloc]; omega) _ rfl [97 + c % 3] (by exact lit_one) (by rw [unhide HOS]; simp; omega) ?_; intro v5 w5 hb5 ho5 hoc5)
        have hB5 : Below w.heap.size wr w5 := (below1 wr _).mono (by omega) |>.trans hb5
        have HC5 := hide ((unhide HCD).keep hB5 hD)
        have HM5 := hide ((unhide HMV).trans (Below.mv hB5 D))
        have HO5 := hide ho5
        have hl5 : (os ++ [97 + c % 3]).length = m + 1 := by simp [unhide HOS]
        rw [hl5] at HO5
        have HL5 := hide hl5
        clear ho5 hl5 hb5 hB5
        go_wp2
        refine ⟨⟨m + 1, c / 3, zs, os ++ [97 + c % 3], by omega, by go_num, rfl, by omega, unhide HZ, unhide HL5, ?_, unhide HO5, unhide HC5, unhide HM5⟩, by simp [intOf]; omega⟩
        rw [unhide HQ, List.append_assoc, List.singleton_append]
        exact unhide HE2
    · obtain rfl : m = n := by omega
      have hlt' : ¬ (m : Int) < y2 % 9 := by have := unhide HN; omega
      rw [Nat.sub_self, lnA, List.append_nil] at heq
      have HE2 := hide heq
      clear heq hown hcd hmv hzs hos
      go_wp2
      go_ret
      refine ⟨⟨_, rfl, ?_⟩, ?_, unhide HMV⟩
      · rw [← (unhide HE2).1, unhide HOS]; exact unhide HO
      · rw [← (unhide HE2).2]; exact unhide HCD

set_option maxHeartbeats 4000000 in
set_option maxRecDepth 100000 in
theorem l4drawLine_B (N D : Nat) (xs : List Int) (w : World) (h : CdAt N D w xs) (hx : Cod xs) (hD : D < w.heap.size) (hk : xs.headD 0 % 8 = 3) :
    Calls Tryz.prog 29 #[.pointer (some ⟨D, 0, none⟩)] w (Drawn N D w.heap.size w (lnB (xs.tail.headD 0 % 5).toNat xs.tail.tail)) := by
  have H := hide h
  have HX := hide hx
  have hh := hx.head
  have hh2 := hx.tail.head
  obtain ⟨y, hy⟩ : ∃ y, xs.headD 0 = y := ⟨_, rfl⟩
  obtain ⟨y2, hy2⟩ : ∃ y, xs.tail.headD 0 = y := ⟨_, rfl⟩
  rw [hy] at hh hk
  rw [hy2] at hh2 ⊢
  have HY := hide hy
  have HY2 := hide hy2
  clear hy hx h hy2
  obtain ⟨n, hn⟩ : ∃ n : Nat, (y2 % 5).toNat = n := ⟨_, rfl⟩
  rw [hn]
  have hn9 : y2 % 5 = (n : Int) := by omega
  have hn8 : n ≤ 4 := by omega
  have HN := hide hn9
  clear hn hn9
  obtain ⟨R, hR⟩ : ∃ R, lnB n xs.tail.tail = R := ⟨_, rfl⟩
  rw [hR]
  have HR := hide hR
  clear hR
  go_enter Tryz.func29, Tryz.ntmps29
  go_wp2_with fail
  refine (next_any N D xs w (unhide H) (unhide HX)).mono ?_
  rintro e w1 ⟨he, hc1, ho1⟩
  rw [unhide HY] at he
  subst he
  go_wp2_with fail
  refine (next_any N D xs.tail w1 hc1 (unhide HX).tail).mono ?_
  rintro e w2 ⟨he, hc2, ho2⟩
  rw [unhide HY2] at he
  subst he
  have HC2 := hide hc2
  have HM2 := hide ((ho1.mv w.heap.size).trans (ho2.mv w.heap.size))
  clear hc1 hc2 ho1 ho2
  go_wp2
  go_loopw [4, 9] (fun ov i wr => ∃ (m : Nat) (zs os : List Int), m ≤ n ∧ i = .int .i64 (m : Nat) ∧ Cod zs ∧ os.length = m ∧ (os ++ (lnB (n - m) zs).1 = R.1 ∧ (lnB (n - m) zs).2 = R.2) ∧ wr.ownsRow w.heap.size 5 1 ov m (os.map mB) ∧ CdAt N D wr zs ∧ Mv w.heap.size D w wr) (fun _ i _ => n - (intOf i).toNat)
  case atStart =>
    refine ⟨0, xs.tail.tail, [], Nat.zero_le _, rfl, (unhide HX).tail.tail, rfl, ⟨by rw [← unhide HR]; rfl, by rw [← unhide HR]; rfl⟩, World.ownsRow_nil _ _ _ _, unhide HC2, unhide HM2⟩
  case round =>
    obtain ⟨m, zs, os, hm, rfl, hzs, hos, heq, hown, hcd, hmv⟩ := hrel
    have HO := hide hown
    have HCD := hide hcd
    have HMV := hide hmv
    have HZ := hide hzs
    have HOS := hide hos
    have hszr := hmv.size
    obtain ⟨oa, oc, rfl⟩ := own_is hown
    by_cases hlt : m < n
    · have hlt' : (m : Int) < y2 % 5 := by have := unhide HN; omega
      obtain ⟨q, hq⟩ : ∃ q, n - m = q + 1 := ⟨n - m - 1, by omega⟩
      have hq' : n - (m + 1) = q := by omega
      rw [hq, lnB] at heq
      have HQ := hide hq'
      clear hown hcd hmv hq hq'
      have HE2 := hide heq
      have hdb := dB_byte (y := zs.headD 0)
      obtain ⟨b, hb⟩ : ∃ y, dB (zs.headD 0) = y := ⟨_, rfl⟩
      rw [hb] at HE2 hdb
      have HY3 := hide hb
      clear heq hzs hos hb
      go_wp2_with fail
      refine (l1drawByte_any N D zs wr (unhide HCD) (unhide HZ)).mono ?_
      rintro e w4 ⟨he, hc4, ho4⟩
      rw [unhide HY3] at he
      subst he
      have hz4 : wr.heap.size ≤ w4.heap.size := Nat.le_of_eq ho4.size.symm
      have HC4 := hide hc4
      have HM4 := hide ((unhide HMV).trans (ho4.mv w.heap.size))
      have HO4 := hide (own_mv (unhide HO) (ho4.mv wr.heap.size) (Nat.le_refl _) hD)
      clear hc4 ho4
      by_cases h10 : b = 10 ∨ b = 126
      · rw [show fxB b = 97 from if_pos h10] at HE2
        rcases h10 with rfl | rfl
        · go_wp2_with (at_builtin; refine app_moreB rfl _ _ rfl w.heap.size _ rfl os (by rw [unhide HOS]; exact (unhide HO4).alloc _) (by rw [sz_alloc]; omega) _ rfl [97] (by exact lit_one) (by rw [unhide HOS]; simp; omega) ?_; intro v5 w5 hb5 ho5 hoc5)
          have hB5 : Below w.heap.size w4 w5 := (below1 w4 _).mono (by omega) |>.trans hb5
          have HC5 := hide ((unhide HC4).keep hB5 hD)
          have HM5 := hide ((unhide HM4).trans (Below.mv hB5 D))
          have HO5 := hide ho5
          have hl5 : (os ++ [97]).length = m + 1 := by simp [unhide HOS]
          rw [hl5] at HO5
          have HL5 := hide hl5
          clear ho5 hl5 hb5 hB5
          go_wp2
          refine ⟨⟨m + 1, zs.tail, os ++ [97], by omega, by go_num, (unhide HZ).tail, unhide HL5, ?_, unhide HO5, unhide HC5, unhide HM5⟩, by simp [intOf]; omega⟩
          rw [unhide HQ, List.append_assoc, List.singleton_append]
          exact unhide HE2
        · go_wp2_with (at_builtin; refine app_moreB rfl _ _ rfl w.heap.size _ rfl os (by rw [unhide HOS]; exact (unhide HO4).alloc _) (by rw [sz_alloc]; omega) _ rfl [97] (by exact lit_one) (by rw [unhide HOS]; simp; omega) ?_; intro v5 w5 hb5 ho5 hoc5)
          have hB5 : Below w.heap.size w4 w5 := (below1 w4 _).mono (by omega) |>.trans hb5
          have HC5 := hide ((unhide HC4).keep hB5 hD)
          have HM5 := hide ((unhide HM4).trans (Below.mv hB5 D))
          have HO5 := hide ho5
          have hl5 : (os ++ [97]).length = m + 1 := by simp [unhide HOS]
          rw [hl5] at HO5
          have HL5 := hide hl5
          clear ho5 hl5 hb5 hB5
          go_wp2
          refine ⟨⟨m + 1, zs.tail, os ++ [97], by omega, by go_num, (unhide HZ).tail, unhide HL5, ?_, unhide HO5, unhide HC5, unhide HM5⟩, by simp [intOf]; omega⟩
          rw [unhide HQ, List.append_assoc, List.singleton_append]
          exact unhide HE2
      · rw [show fxB b = b from if_neg h10] at HE2
        have h10' : ¬ b = 10 := fun q => h10 (Or.inl q)
        have h11' : ¬ b = 126 := fun q => h10 (Or.inr q)
        have h12' : (b == 10) = false := beq_eq_false_iff_ne.2 h10'
        have h13' : (b == 126) = false := beq_eq_false_iff_ne.2 h11'
        clear h10
        go_wp2_with (at_builtin; refine app_moreB rfl _ _ rfl w.heap.size _ rfl os (by rw [unhide HOS]; exact (unhide HO4).alloc _) (by rw [sz_alloc]; omega) _ rfl [b] (by exact lit_one) (by rw [unhide HOS]; simp; omega) ?_; intro v5 w5 hb5 ho5 hoc5)
        have hB5 : Below w.heap.size w4 w5 := (below1 w4 _).mono (by omega) |>.trans hb5
        have HC5 := hide ((unhide HC4).keep hB5 hD)
        have HM5 := hide ((unhide HM4).trans (Below.mv hB5 D))
        have HO5 := hide ho5
        have hl5 : (os ++ [b]).length = m + 1 := by simp [unhide HOS]
        rw [hl5] at HO5
        have HL5 := hide hl5
        clear ho5 hl5 hb5 hB5
        go_wp2
        refine ⟨⟨m + 1, zs.tail, os ++ [b], by omega, by go_num, (unhide HZ).tail, unhide HL5, ?_, unhide HO5, unhide HC5, unhide HM5⟩, by simp [intOf]; omega⟩
        rw [unhide HQ, List.append_assoc, List.singleton_append]
        exact unhide HE2
    · obtain rfl : m = n := by omega
      have hlt' : ¬ (m : Int) < y2 % 5 := by have := unhide HN; omega
      rw [Nat.sub_self, lnB, List.append_nil] at heq
      have HE2 := hide heq
      clear heq hown hcd hmv hzs hos
      go_wp2
      go_ret
      refine ⟨⟨_, rfl, ?_⟩, ?_, unhide HMV⟩
      · rw [← (unhide HE2).1, unhide HOS]; exact unhide HO
      · rw [← (unhide HE2).2]; exact unhide HCD

end Go.Proofs.YthgnefdefjannaaGreat

namespace Go.Proofs.YthgnefdefjannaaGreat
open Go.RowKit

set_option maxHeartbeats 4000000 in
set_option maxRecDepth 100000 in
theorem l4drawLine_C (N D : Nat) (xs : List Int) (w : World) (h : CdAt N D w xs) (hx : Cod xs) (hD : D < w.heap.size) (hk : xs.headD 0 % 8 = 6) :
    Calls Tryz.prog 29 #[.pointer (some ⟨D, 0, none⟩)] w (Drawn N D w.heap.size w (wdL (xs.tail.headD 0), xs.tail.tail)) := by
  have H := hide h
  have HX := hide hx
  have hh := hx.head
  have hh2 := hx.tail.head
  have hh3 := hx.tail.tail.head
  obtain ⟨y, hy⟩ : ∃ y, xs.headD 0 = y := ⟨_, rfl⟩
  obtain ⟨c, hy2⟩ : ∃ y, xs.tail.headD 0 = y := ⟨_, rfl⟩
  obtain ⟨d, hy3⟩ : ∃ y, xs.tail.tail.headD 0 = y := ⟨_, rfl⟩
  rw [hy] at hh hk
  rw [hy2] at hh2 ⊢
  rw [hy3] at hh3
  have HY := hide hy
  have HY2 := hide hy2
  have HY3 := hide hy3
  clear hy hx h hy2 hy3
  have hl1 := wdL_len c
  have hl2 := wdL_len d
  obtain ⟨W, hW⟩ : ∃ W, wdL c = W := ⟨_, rfl⟩
  rw [hW] at hl1 ⊢
  have HW := hide hW
  clear hW
  go_enter Tryz.func29, Tryz.ntmps29
  go_wp2_with fail
  refine (next_any N D xs w (unhide H) (unhide HX)).mono ?_
  rintro e w1 ⟨he, hc1, ho1⟩
  rw [unhide HY] at he
  subst he
  go_wp2_with fail
  refine (next_any N D xs.tail w1 hc1 (unhide HX).tail).mono ?_
  rintro e w2 ⟨he, hc2, ho2⟩
  rw [unhide HY2] at he
  subst he
  have hz2 : w.heap.size ≤ w2.heap.size := Nat.le_trans (Nat.le_of_eq ho1.size.symm) (Nat.le_of_eq ho2.size.symm)
  have HC2 := hide hc2
  have HM2 := hide ((ho1.mv w.heap.size).trans (ho2.mv w.heap.size))
  clear hc1 hc2 ho1 ho2
  go_wp2_with fail
  refine (l4word_any c w2 (by omega) (by omega)).mono ?_
  rintro e w3 ⟨⟨s, rfl, hs⟩, rfl⟩
  rw [unhide HW] at hs
  have HS := hide hs
  clear hs
  go_wp2_with (at_builtin; refine app_strB rfl _ _ rfl w.heap.size _ rfl [] (by exact World.ownsRow_nil _ _ _ _) hz2 _ rfl W (unhide HS) (by simp; omega) ?_; intro v5 w5 hb5 ho5 hoc5; rw [List.nil_append] at ho5; have hz5 : w.heap.size ≤ w5.heap.size := Nat.le_trans hz2 hb5.size; have HC5 := hide ((unhide HC2).keep hb5 hD); have HM5 := hide ((unhide HM2).trans (Below.mv hb5 D)); have HO5 := hide ho5; obtain ⟨oa5, oc5, rfl⟩ := own_is ho5; clear ho5 hb5)
  go_ret
  exact ⟨⟨_, rfl, unhide HO5⟩, unhide HC5, unhide HM5⟩

set_option maxHeartbeats 4000000 in
set_option maxRecDepth 100000 in
theorem l4drawLine_E (N D : Nat) (xs : List Int) (w : World) (h : CdAt N D w xs) (hx : Cod xs) (hD : D < w.heap.size) (hk : xs.headD 0 % 8 = 7) :
    Calls Tryz.prog 29 #[.pointer (some ⟨D, 0, none⟩)] w (Drawn N D w.heap.size w (wdL (xs.tail.headD 0) ++ [48 + xs.tail.headD 0 % 10], xs.tail.tail)) := by
  have H := hide h
  have HX := hide hx
  have hh := hx.head
  have hh2 := hx.tail.head
  have hh3 := hx.tail.tail.head
  obtain ⟨y, hy⟩ : ∃ y, xs.headD 0 = y := ⟨_, rfl⟩
  obtain ⟨c, hy2⟩ : ∃ y, xs.tail.headD 0 = y := ⟨_, rfl⟩
  obtain ⟨d, hy3⟩ : ∃ y, xs.tail.tail.headD 0 = y := ⟨_, rfl⟩
  rw [hy] at hh hk
  rw [hy2] at hh2 ⊢
  rw [hy3] at hh3
  have HY := hide hy
  have HY2 := hide hy2
  have HY3 := hide hy3
  clear hy hx h hy2 hy3
  have hl1 := wdL_len c
  have hl2 := wdL_len d
  obtain ⟨W, hW⟩ : ∃ W, wdL c = W := ⟨_, rfl⟩
  rw [hW] at hl1 ⊢
  have HW := hide hW
  clear hW
  go_enter Tryz.func29, Tryz.ntmps29
  go_wp2_with fail
  refine (next_any N D xs w (unhide H) (unhide HX)).mono ?_
  rintro e w1 ⟨he, hc1, ho1⟩
  rw [unhide HY] at he
  subst he
  go_wp2_with fail
  refine (next_any N D xs.tail w1 hc1 (unhide HX).tail).mono ?_
  rintro e w2 ⟨he, hc2, ho2⟩
  rw [unhide HY2] at he
  subst he
  have hz2 : w.heap.size ≤ w2.heap.size := Nat.le_trans (Nat.le_of_eq ho1.size.symm) (Nat.le_of_eq ho2.size.symm)
  have HC2 := hide hc2
  have HM2 := hide ((ho1.mv w.heap.size).trans (ho2.mv w.heap.size))
  clear hc1 hc2 ho1 ho2
  go_wp2_with fail
  refine (l4word_any c w2 (by omega) (by omega)).mono ?_
  rintro e w3 ⟨⟨s, rfl, hs⟩, rfl⟩
  rw [unhide HW] at hs
  have HS := hide hs
  clear hs
  go_wp2_with (first | (at_builtin; refine app_strB rfl _ _ rfl w.heap.size _ rfl [] (by exact World.ownsRow_nil _ _ _ _) hz2 _ rfl W (unhide HS) (by simp; omega) ?_; intro v5 w5 hb5 ho5 hoc5; rw [List.nil_append] at ho5; have hz5 : w.heap.size ≤ w5.heap.size := Nat.le_trans hz2 hb5.size; have HC5 := hide ((unhide HC2).keep hb5 hD); have HM5 := hide ((unhide HM2).trans (Below.mv hb5 D)); have HO5 := hide ho5; obtain ⟨oa5, oc5, rfl⟩ := own_is ho5; clear ho5 hb5) | (at_builtin; refine app_moreB rfl _ _ rfl w.heap.size _ rfl W (by exact (unhide HO5).alloc _) (by rw [sz_alloc]; omega) _ rfl [48 + c % 10] (by exact lit_one) (by simp; omega) ?_; intro v6 w6 hb6 ho6 hoc6))
  have hB6 : Below w.heap.size w5 w6 := (below1 w5 _).mono (by omega) |>.trans hb6
  go_ret
  exact ⟨⟨_, rfl, ho6⟩, (unhide HC5).keep hB6 hD, (unhide HM5).trans (Below.mv hB6 D)⟩

set_option maxHeartbeats 4000000 in
set_option maxRecDepth 100000 in
theorem l4drawLine_F (N D : Nat) (xs : List Int) (w : World) (h : CdAt N D w xs) (hx : Cod xs) (hD : D < w.heap.size) (hk : xs.headD 0 % 8 = 4 ∨ xs.headD 0 % 8 = 5) (hc : ¬ xs.tail.headD 0 / 10 % 2 = 1) :
    Calls Tryz.prog 29 #[.pointer (some ⟨D, 0, none⟩)] w (Drawn N D w.heap.size w (wdL (xs.tail.headD 0) ++ [] ++ wdL (xs.tail.tail.headD 0), xs.tail.tail.tail)) := by
  have H := hide h
  have HX := hide hx
  have hh := hx.head
  have hh2 := hx.tail.head
  have hh3 := hx.tail.tail.head
  obtain ⟨y, hy⟩ : ∃ y, xs.headD 0 = y := ⟨_, rfl⟩
  obtain ⟨c, hy2⟩ : ∃ y, xs.tail.headD 0 = y := ⟨_, rfl⟩
  obtain ⟨d, hy3⟩ : ∃ y, xs.tail.tail.headD 0 = y := ⟨_, rfl⟩
  rw [hy] at hh hk
  rw [hy2] at hh2 hc ⊢
  rw [hy3] at hh3 ⊢
  have HY := hide hy
  have HY2 := hide hy2
  have HY3 := hide hy3
  clear hy hx h hy2 hy3
  have hl1 := wdL_len c
  have hl2 := wdL_len d
  obtain ⟨W, hW⟩ : ∃ W, wdL c = W := ⟨_, rfl⟩
  rw [hW] at hl1 ⊢
  have HW := hide hW
  clear hW
  obtain ⟨V, hV⟩ : ∃ V, wdL d = V := ⟨_, rfl⟩
  rw [hV] at hl2 ⊢
  have HV := hide hV
  clear hV
  have hk1 : y % 8 < 6 := by omega
  have hk2 : ¬ y % 8 < 3 := by omega
  have hk3 : ¬ y % 8 = 3 := by omega
  have hk7 : ¬ y % 8 = 7 := by omega
  clear hk
  rw [List.append_nil]
  go_enter Tryz.func29, Tryz.ntmps29
  go_wp2_with fail
  refine (next_any N D xs w (unhide H) (unhide HX)).mono ?_
  rintro e w1 ⟨he, hc1, ho1⟩
  rw [unhide HY] at he
  subst he
  go_wp2_with fail
  refine (next_any N D xs.tail w1 hc1 (unhide HX).tail).mono ?_
  rintro e w2 ⟨he, hc2, ho2⟩
  rw [unhide HY2] at he
  subst he
  have hz2 : w.heap.size ≤ w2.heap.size := Nat.le_trans (Nat.le_of_eq ho1.size.symm) (Nat.le_of_eq ho2.size.symm)
  have HC2 := hide hc2
  have HM2 := hide ((ho1.mv w.heap.size).trans (ho2.mv w.heap.size))
  clear hc1 hc2 ho1 ho2
  go_wp2_with fail
  refine (l4word_any c w2 (by omega) (by omega)).mono ?_
  rintro e w3 ⟨⟨s, rfl, hs⟩, rfl⟩
  rw [unhide HW] at hs
  have HS := hide hs
  clear hs
  go_wp2_with (at_builtin; refine app_strB rfl _ _ rfl w.heap.size _ rfl [] (by exact World.ownsRow_nil _ _ _ _) hz2 _ rfl W (unhide HS) (by simp; omega) ?_; intro v5 w5 hb5 ho5 hoc5; rw [List.nil_append] at ho5; have hz5 : w.heap.size ≤ w5.heap.size := Nat.le_trans hz2 hb5.size; have HC5 := hide ((unhide HC2).keep hb5 hD); have HM5 := hide ((unhide HM2).trans (Below.mv hb5 D)); have HO5 := hide ho5; obtain ⟨oa5, oc5, rfl⟩ := own_is ho5; clear ho5 hb5)
  refine (next_any N D xs.tail.tail w5 (unhide HC5) (unhide HX).tail.tail).mono ?_
  rintro e w6 ⟨he, hc6, ho6⟩
  rw [unhide HY3] at he
  subst he
  have hz6 : w.heap.size ≤ w6.heap.size := Nat.le_trans hz5 (Nat.le_of_eq ho6.size.symm)
  have HC6 := hide hc6
  have HM6 := hide ((unhide HM5).trans (ho6.mv w.heap.size))
  have HO6 := hide (own_mv (unhide HO5) (ho6.mv w5.heap.size) (Nat.le_refl _) hD)
  clear hc6 ho6
  go_wp2_with fail
  refine (l4word_any d w6 (by omega) (by omega)).mono ?_
  rintro e w8 ⟨⟨t, rfl, ht⟩, rfl⟩
  rw [unhide HV] at ht
  have HT := hide ht
  clear ht
  go_wp2_with (at_builtin; refine app_strB rfl _ _ rfl w.heap.size _ rfl W (by exact unhide HO6) hz6 _ rfl V (unhide HT) (by skip; omega) ?_; intro v9 w9 hb9 ho9 hoc9)
  go_ret
  exact ⟨⟨_, rfl, ho9⟩, (unhide HC6).keep hb9 hD, (unhide HM6).trans (Below.mv hb9 D)⟩

set_option maxHeartbeats 4000000 in
set_option maxRecDepth 100000 in
theorem l4drawLine_G (N D : Nat) (xs : List Int) (w : World) (h : CdAt N D w xs) (hx : Cod xs) (hD : D < w.heap.size) (hk : xs.headD 0 % 8 = 4 ∨ xs.headD 0 % 8 = 5) (hc : xs.tail.headD 0 / 10 % 2 = 1) :
    Calls Tryz.prog 29 #[.pointer (some ⟨D, 0, none⟩)] w (Drawn N D w.heap.size w (wdL (xs.tail.headD 0) ++ [32] ++ wdL (xs.tail.tail.headD 0), xs.tail.tail.tail)) := by
  have H := hide h
  have HX := hide hx
  have hh := hx.head
  have hh2 := hx.tail.head
  have hh3 := hx.tail.tail.head
  obtain ⟨y, hy⟩ : ∃ y, xs.headD 0 = y := ⟨_, rfl⟩
  obtain ⟨c, hy2⟩ : ∃ y, xs.tail.headD 0 = y := ⟨_, rfl⟩
  obtain ⟨d, hy3⟩ : ∃ y, xs.tail.tail.headD 0 = y := ⟨_, rfl⟩
  rw [hy] at hh hk
  rw [hy2] at hh2 hc ⊢
  rw [hy3] at hh3 ⊢
  have HY := hide hy
  have HY2 := hide hy2
  have HY3 := hide hy3
  clear hy hx h hy2 hy3
  have hl1 := wdL_len c
  have hl2 := wdL_len d
  obtain ⟨W, hW⟩ : ∃ W, wdL c = W := ⟨_, rfl⟩
  rw [hW] at hl1 ⊢
  have HW := hide hW
  clear hW
  obtain ⟨V, hV⟩ : ∃ V, wdL d = V := ⟨_, rfl⟩
  rw [hV] at hl2 ⊢
  have HV := hide hV
  clear hV
  have hk1 : y % 8 < 6 := by omega
  have hk2 : ¬ y % 8 < 3 := by omega
  have hk3 : ¬ y % 8 = 3 := by omega
  have hk7 : ¬ y % 8 = 7 := by omega
  clear hk
  obtain ⟨X, hXe⟩ : ∃ X, W ++ [32] = X := ⟨_, rfl⟩
  have hlX : X.length = W.length + 1 := by rw [← hXe]; simp
  have hlX' : X.length ≤ 10 := by omega
  have HLX := hide hlX
  rw [hXe]
  have HXE := hide hXe
  clear hXe hlX
  go_enter Tryz.func29, Tryz.ntmps29
  go_wp2_with fail
  refine (next_any N D xs w (unhide H) (unhide HX)).mono ?_
  rintro e w1 ⟨he, hc1, ho1⟩
  rw [unhide HY] at he
  subst he
  go_wp2_with fail
  refine (next_any N D xs.tail w1 hc1 (unhide HX).tail).mono ?_
  rintro e w2 ⟨he, hc2, ho2⟩
  rw [unhide HY2] at he
  subst he
  have hz2 : w.heap.size ≤ w2.heap.size := Nat.le_trans (Nat.le_of_eq ho1.size.symm) (Nat.le_of_eq ho2.size.symm)
  have HC2 := hide hc2
  have HM2 := hide ((ho1.mv w.heap.size).trans (ho2.mv w.heap.size))
  clear hc1 hc2 ho1 ho2
  go_wp2_with fail
  refine (l4word_any c w2 (by omega) (by omega)).mono ?_
  rintro e w3 ⟨⟨s, rfl, hs⟩, rfl⟩
  rw [unhide HW] at hs
  have HS := hide hs
  clear hs
  go_wp2_with (at_builtin; refine app_strB rfl _ _ rfl w.heap.size _ rfl [] (by exact World.ownsRow_nil _ _ _ _) hz2 _ rfl W (unhide HS) (by simp; omega) ?_; intro v5 w5 hb5 ho5 hoc5; rw [List.nil_append] at ho5; have hz5 : w.heap.size ≤ w5.heap.size := Nat.le_trans hz2 hb5.size; have HC5 := hide ((unhide HC2).keep hb5 hD); have HM5 := hide ((unhide HM2).trans (Below.mv hb5 D)); have HO5 := hide ho5; obtain ⟨oa5, oc5, rfl⟩ := own_is ho5; clear ho5 hb5)
  refine (next_any N D xs.tail.tail w5 (unhide HC5) (unhide HX).tail.tail).mono ?_
  rintro e w6 ⟨he, hc6, ho6⟩
  rw [unhide HY3] at he
  subst he
  have hz6 : w.heap.size ≤ w6.heap.size := Nat.le_trans hz5 (Nat.le_of_eq ho6.size.symm)
  have HC6 := hide hc6
  have HM6 := hide ((unhide HM5).trans (ho6.mv w.heap.size))
  have HO6 := hide (own_mv (unhide HO5) (ho6.mv w5.heap.size) (Nat.le_refl _) hD)
  clear hc6 ho6
  go_wp2_with (at_builtin; refine app_moreB rfl _ _ rfl w.heap.size _ rfl W (by exact (unhide HO6).alloc _) (by rw [sz_alloc]; omega) _ rfl [32] (by exact lit_one) (by simp; omega) ?_; intro v7 w7 hb7 ho7 hoc7; rw [unhide HXE] at ho7; have hB7 : Below w.heap.size w6 w7 := (below1 w6 _).mono (by omega) |>.trans hb7; have hz7 : w.heap.size ≤ w7.heap.size := Nat.le_trans hz6 hB7.size; have HC7 := hide ((unhide HC6).keep hB7 hD); have HM7 := hide ((unhide HM6).trans (Below.mv hB7 D)); have HO7 := hide ho7; obtain ⟨oa7, oc7, rfl⟩ := own_is ho7; clear ho7 hb7 hB7)
  refine (l4word_any d w7 (by omega) (by omega)).mono ?_
  rintro e w8 ⟨⟨t, rfl, ht⟩, rfl⟩
  rw [unhide HV] at ht
  have HT := hide ht
  clear ht
  go_wp2_with (at_builtin; refine app_strB rfl _ _ rfl w.heap.size _ rfl X (by exact unhide HO7) hz7 _ rfl V (unhide HT) (by skip; omega) ?_; intro v9 w9 hb9 ho9 hoc9)
  go_ret
  exact ⟨⟨_, rfl, ho9⟩, (unhide HC7).keep hb9 hD, (unhide HM7).trans (Below.mv hb9 D)⟩

theorem l4drawLine_any (N D : Nat) (xs : List Int) (w : World) (h : CdAt N D w xs) (hx : Cod xs) (hD : D < w.heap.size) :
    Calls Tryz.prog 29 #[.pointer (some ⟨D, 0, none⟩)] w (Drawn N D w.heap.size w (dLn xs)) := by
  have hh := hx.head
  unfold dLn
  by_cases h1 : xs.headD 0 % 8 < 3
  · rw [if_pos h1]; exact l4drawLine_A N D xs w h hx hD h1
  · rw [if_neg h1]
    by_cases h2 : xs.headD 0 % 8 = 3
    · rw [if_pos h2]; exact l4drawLine_B N D xs w h hx hD h2
    · rw [if_neg h2]
      by_cases h3 : xs.headD 0 % 8 < 6
      · rw [if_pos h3]
        by_cases h4 : xs.tail.headD 0 / 10 % 2 = 1
        · rw [if_pos h4]; exact l4drawLine_G N D xs w h hx hD (by omega) h4
        · rw [if_neg h4]; exact l4drawLine_F N D xs w h hx hD (by omega) h4
      · rw [if_neg h3]
        by_cases h4 : xs.headD 0 % 8 = 7
        · rw [if_pos h4]; exact l4drawLine_E N D xs w h hx hD h4
        · rw [if_neg h4]; exact l4drawLine_C N D xs w h hx hD (by omega)

end Go.Proofs.YthgnefdefjannaaGreat

namespace Go.Proofs.YthgnefdefjannaaGreat
open Go.RowKit

/-- Lines of a code. -/
def dLs : Nat → List Int → List (List Int) × List Int
  | 0, xs => ([], xs)
  | n + 1, xs => ((dLn xs).1 :: (dLs n (dLn xs).2).1, (dLs n (dLn xs).2).2)
theorem dLs_ok : ∀ (n : Nat) (xs : List Int), Cod xs → (dLs n xs).1.length = n ∧ tot (dLs n xs).1 ≤ 20 * n ∧ (∀ l ∈ (dLs n xs).1, Cod l) ∧ Cod (dLs n xs).2
  | 0, xs, h => ⟨rfl, Nat.le_refl _, (fun x hx => absurd hx List.not_mem_nil), h⟩
  | n + 1, xs, h => by
    have h1 := dLn_ok xs h
    have h2 := dLs_ok n (dLn xs).2 h1.2.2
    unfold dLs
    refine ⟨by simp only [List.length_cons]; omega, ?_, fun l hl => ?_, h2.2.2.2⟩
    · show (dLn xs).1.length + tot (dLs n (dLn xs).2).1 ≤ 20 * (n + 1)
      omega
    · rcases List.mem_cons.1 hl with rfl | hl
      · exact h1.2.1
      · exact h2.2.2.1 l hl

set_option maxHeartbeats 4000000 in
set_option maxRecDepth 100000 in
theorem l4drawLines_any (N D : Nat) (xs : List Int) (most : Int) (w : World) (h : CdAt N D w xs) (hx : Cod xs) (hD : D < w.heap.size) (hm1 : 1 ≤ most) (hm2 : most ≤ 100) :
    Calls Tryz.prog 15 #[.pointer (some ⟨D, 0, none⟩), .int .i64 most] w fun e w' => (∃ v, e = .returned v ∧ ∃ ps, ps.map Cl.xs = (dLs (1 + xs.headD 0 % most).toNat xs.tail).1 ∧ LB w.heap.size w' v ps) ∧ CdAt N D w' (dLs (1 + xs.headD 0 % most).toNat xs.tail).2 ∧ Mv w.heap.size D w w' := by
  obtain ⟨j0, hj, hy0, hy1, hy2⟩ := info_parts Tryz.zinByteS
  have H := hide h
  have HX := hide hx
  have hh := hx.head
  obtain ⟨y, hy⟩ : ∃ y, xs.headD 0 = y := ⟨_, rfl⟩
  rw [hy] at hh ⊢
  have HY := hide hy
  clear hy hx h
  have hq1 := Int.emod_nonneg y (b := most) (by omega)
  have hq2 := Int.emod_lt_of_pos y (b := most) (by omega)
  obtain ⟨q, hq⟩ : ∃ q, y % most = q := ⟨_, rfl⟩
  rw [hq] at hq1 hq2 ⊢
  have hmz : ¬ most = 0 := by omega
  have ht : Int.tmod y most = q := by rw [Int.tmod_eq_emod_of_nonneg hh.1]; exact hq
  obtain ⟨n, hn⟩ : ∃ n : Nat, (1 + q).toNat = n := ⟨_, rfl⟩
  rw [hn]
  have HN : Hid (1 + q = (n : Int)) := by show 1 + q = (n : Int); omega
  have hn8 : n ≤ 100 := by omega
  clear hn
  obtain ⟨R, hR⟩ : ∃ R, dLs n xs.tail = R := ⟨_, rfl⟩
  rw [hR]
  have HR := hide hR
  clear hR
  go_enter Tryz.func15, Tryz.ntmps15
  go_wp2_with fail
  refine (next_any N D xs w (unhide H) (unhide HX)).mono ?_
  rintro e w1 ⟨he, hc1, ho1⟩
  rw [unhide HY] at he
  subst he
  have HC1 := hide hc1
  have HM1 := hide (ho1.mv w.heap.size)
  clear hc1 ho1
  go_wp2_with fail
  go_loopw [6, 7] (fun ov i wr => ∃ (m : Nat) (zs : List Int) (ps : List (Cl Int)), m ≤ n ∧ i = .int .i64 (m : Nat) ∧ Cod zs ∧ ps.length = m ∧ (ps.map Cl.xs ++ (dLs (n - m) zs).1 = R.1 ∧ (dLs (n - m) zs).2 = R.2) ∧ LB w.heap.size wr ov ps ∧ CdAt N D wr zs ∧ Mv w.heap.size D w wr) (fun _ i _ => n - (intOf i).toNat)
  case atStart =>
    exact ⟨0, xs.tail, [], Nat.zero_le _, rfl, (unhide HX).tail, rfl, ⟨by rw [← unhide HR]; rfl, by rw [← unhide HR]; rfl⟩, LL.nil, unhide HC1, unhide HM1⟩
  case round =>
    obtain ⟨m, zs, ps, hm, rfl, hzs, hos, heq, hll, hcd, hmv⟩ := hrel
    have Hll := hide hll
    have HCD := hide hcd
    have HMV := hide hmv
    have HZ := hide hzs
    have HOS := hide hos
    have hszr := hmv.size
    obtain ⟨oa, oc, rfl⟩ := own_is hll.own
    have hpl : ps.length ≤ 100 := by omega
    by_cases hlt : m < n
    · have hlt' : (m : Int) < 1 + q := by have := unhide HN; omega
      obtain ⟨q', hq'⟩ : ∃ q, n - m = q + 1 := ⟨n - m - 1, by omega⟩
      have hq'' : n - (m + 1) = q' := by omega
      rw [hq', dLs] at heq
      have HQ := hide hq''
      clear hll hcd hmv hq' hq''
      have HE2 := hide heq
      have hlen := (dLn_ok zs hzs).1
      have HZ2 := hide (dLn_ok zs hzs).2.2
      clear heq hzs hos
      go_wp2_with fail
      refine (l4drawLine_any N D zs wr (unhide HCD) (unhide HZ) (by omega)).mono ?_
      rintro e w4 ⟨⟨lv, rfl, ho4⟩, hc4, hm4⟩
      obtain ⟨x, hxe⟩ : ∃ x, (dLn zs).1 = x := ⟨_, rfl⟩
      rw [hxe] at ho4 HE2 hlen
      clear hxe
      have hz4 : wr.heap.size ≤ w4.heap.size := hm4.size
      have HC4 := hide hc4
      have Hst := hide (LB.pushMv (unhide Hll) hszr hD hm4 (unhide HMV) ho4)
      have Hk := hide ((unhide Hll).keepMv hm4 (Nat.le_refl _) hD)
      obtain ⟨la, lc, rfl⟩ := own_is ho4
      clear hc4 ho4 hm4
      go_wp2_with (at_builtin; refine wpList_append_own _ rfl _ _ 23 rfl w.heap.size 22 j0 (.slice none 0 0) 1 24 Tryz.underlying23 hj hy0 hy1 hy2 rfl (by decide) _ _ _ rfl (World.ownsRow.alloc (w := w4) (unhide Hk).own _) ⟨w4.heap.size, 0, none⟩ 1 1 [.slice la x.length lc] rfl rfl ?_ ?_ ?_ ?_ ?_ ?_)
      · exact cell_1 (by simp)
      · intro u hu; simp at hu; subst hu; rfl
      · unfold maxLen; omega
      · omega
      · rw [sz_alloc]; omega
      intro v3 w3 h5 hg5 _
      have h3 := hide (unhide Hst w3 v3 h5 hg5)
      obtain ⟨g3, cap3, rfl⟩ := ownsRow_succ h5
      clear h5 hg5
      go_wp2
      obtain ⟨p, r1, r2, r3, r4⟩ := unhide h3
      refine ⟨⟨m + 1, (dLn zs).2, ps ++ [p], by omega, by go_num, unhide HZ2, by simp [unhide HOS], ?_, r2, (unhide HC4).keep r4 hD, r3⟩, by simp [intOf]; omega⟩
      rw [unhide HQ, List.map_append, List.append_assoc, List.map_cons, List.map_nil, List.singleton_append, r1]
      exact unhide HE2
    · obtain rfl : m = n := by omega
      have hlt' : ¬ (m : Int) < 1 + q := by have := unhide HN; omega
      rw [Nat.sub_self, dLs, List.append_nil] at heq
      have HE2 := hide heq
      clear heq hll hcd hmv hzs hos
      go_wp2
      go_ret
      refine ⟨⟨_, rfl, ps, (unhide HE2).1, unhide Hll⟩, ?_, unhide HMV⟩
      rw [← (unhide HE2).2]; exact unhide HCD

end Go.Proofs.YthgnefdefjannaaGreat
