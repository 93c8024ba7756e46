import Derived.Test.YtpkghafpelilfaaDe1
import Derived.Test.YtpkghafpelilfaaL1
import Derived.Laws.BytesArg
import Derived.Lib.Bytes
namespace Go.Proofs.Ytpkghafpelilfaa
open Go.RowKit

theorem strOf_inj {xs ys : List Int} (hx : Bytes xs) (hy : Bytes ys) (h : (strOfNums xs).toList = (strOfNums ys).toList) : xs = ys := by
  have h1 : (xs.map fun n => UInt8.ofNat n.toNat) = ys.map fun n => UInt8.ofNat n.toNat := by
    rw [Lib.strOfNums_toList, Lib.strOfNums_toList] at h
    exact h
  have hl : xs.length = ys.length := by simpa using congrArg List.length h1
  refine List.ext_getElem hl (fun i h2 h3 => ?_)
  have e1 : (xs.map fun n => UInt8.ofNat n.toNat)[i]? = (ys.map fun n => UInt8.ofNat n.toNat)[i]? := by rw [h1]
  rw [List.getElem?_map, List.getElem?_map, List.getElem?_eq_getElem h2, List.getElem?_eq_getElem h3] at e1
  simp only [Option.map_some, Option.some.injEq] at e1
  have bx := hx i
  have bys := hy i
  rw [List.getElem?_eq_getElem h2] at bx
  rw [List.getElem?_eq_getElem h3] at bys
  simp only [Option.getD_some] at bx bys
  have e2 := congrArg UInt8.toNat e1
  rw [UInt8.toNat_ofNat', UInt8.toNat_ofNat'] at e2
  omega

set_option maxHeartbeats 1000000 in
set_option maxRecDepth 100000 in
theorem l4sameBytes_any (u v : Value) (x y : List Int) (N : Nat) (w : World) (hu : SlAt mB 0 0 N w u x) (hv : SlAt mB 0 0 N w v y) (hx : Bytes x) (hy : Bytes y) :
    Calls Try.prog 37 #[u, v] w fun e w' => RetB e (x = y) ∧ ∃ q, w' = w.drewN q := by
  have c1 := str_of hu
  have c2 := str_of hv
  have HI := hide (strOf_inj hx hy)
  obtain ⟨a, cap, rfl, -, -⟩ := hu
  obtain ⟨a2, cap2, rfl, -, -⟩ := hv
  clear hx hy
  by_cases h : x = y
  · have hs : ((strOfNums x).toList == (strOfNums y).toList) = true := by rw [h]; simp
    have Hn := hide h
    clear h
    go_enter Try.func37, Try.ntmps37
    go_wp2
    go_ret
    exact ⟨RetB.yes (unhide Hn), 0, rfl⟩
  · have hs : ((strOfNums x).toList == (strOfNums y).toList) = false := beq_eq_false_iff_ne.2 (fun e => h (unhide HI e))
    have Hn := hide h
    clear h
    go_enter Try.func37, Try.ntmps37
    go_wp2
    go_ret
    exact ⟨RetB.no (unhide Hn), 0, rfl⟩

set_option maxHeartbeats 1000000 in
set_option maxRecDepth 100000 in
theorem bequal_any (u v : Value) (x y : List Int) (N : Nat) (w : World) (hu : SlAt mB 0 0 N w u x) (hv : SlAt mB 0 0 N w v y) (hx : Bytes x) (hy : Bytes y) :
    Calls Try.prog 40 #[u, v] w fun e w' => RetB e (x = y) ∧ ∃ q, w' = w.drewN q := by
  have c1 := str_of hu
  have c2 := str_of hv
  have HI := hide (strOf_inj hx hy)
  obtain ⟨a, cap, rfl, -, -⟩ := hu
  obtain ⟨a2, cap2, rfl, -, -⟩ := hv
  clear hx hy
  by_cases h : x = y
  · have hs : ((strOfNums x).toList == (strOfNums y).toList) = true := by rw [h]; simp
    have Hn := hide h
    clear h
    go_enter Try.func40, Try.ntmps40
    go_wp2
    go_ret
    exact ⟨RetB.yes (unhide Hn), 0, rfl⟩
  · have hs : ((strOfNums x).toList == (strOfNums y).toList) = false := beq_eq_false_iff_ne.2 (fun e => h (unhide HI e))
    have Hn := hide h
    clear h
    go_enter Try.func40, Try.ntmps40
    go_wp2
    go_ret
    exact ⟨RetB.no (unhide Hn), 0, rfl⟩

/-- A slice from its j-th element on, and up to it. -/
theorem sl_from {N j c : Nat} {a : Option Addr} {w : World} {xs : List Int} (h : SlAt mB 0 0 N w (.slice a xs.length c) xs) (hj : j ≤ xs.length) (hc : xs.length ≤ c) (hm : c ≤ maxLen) : SlAt mB 0 0 N w (.slice (if c = j then a else a.map (fun x => x.add j)) (xs.length - j) (c - j)) (xs.drop j) ∧ CapOk (.slice (if c = j then a else a.map (fun x => x.add j)) (xs.length - j) (c - j)) := by
  obtain ⟨a', c', e, hl, hcell⟩ := h
  cases e
  refine ⟨⟨_, _, by rw [List.length_drop], by rw [List.length_drop]; omega, fun hp => ?_⟩, CapOk.mk (by omega) (by omega)⟩
  rw [List.length_drop] at hp
  obtain ⟨b, off, rfl, h1, h2, h3⟩ := hcell (by omega)
  rw [if_neg (by omega)]
  have e3 : (⟨b, off, none⟩ : Addr).add j = ⟨b, off + j, none⟩ := by cases j <;> rfl
  refine ⟨b, off + j, by simp [e3], h1, h2, fun i hi => ?_⟩
  rw [List.length_drop] at hi
  rw [Nat.add_assoc, h3 (j + i) (by omega), List.getElem?_drop]
theorem sl_to {N j c : Nat} {a : Option Addr} {w : World} {xs : List Int} (h : SlAt mB 0 0 N w (.slice a xs.length c) xs) (hj : j ≤ xs.length) (hc : xs.length ≤ c) (hm : c ≤ maxLen) : SlAt mB 0 0 N w (.slice a j c) (xs.take j) ∧ CapOk (.slice a j c) := by
  obtain ⟨a', c', e, hl, hcell⟩ := h
  cases e
  have e1 : (xs.take j).length = j := by rw [List.length_take]; omega
  refine ⟨⟨a, c, by rw [e1], by omega, fun hp => ?_⟩, CapOk.mk (by omega) hm⟩
  rw [e1] at hp
  obtain ⟨b, off, rfl, h1, h2, h3⟩ := hcell (by omega)
  refine ⟨b, off, rfl, h1, h2, fun i hi => ?_⟩
  rw [e1] at hi
  rw [h3 i (by omega), List.getElem?_take, if_pos hi]

/-- The reader in the box D has xs before it. -/
def RdAt (N D : Nat) (w : World) (xs : List Int) : Prop := N ≤ D ∧ ∃ v, Boxed w D 58 v ∧ SlAt mB 0 0 N w v xs ∧ CapOk v
/-- Nothing but the box D has changed. -/
def Only (D : Nat) (w w' : World) : Prop := ChgF (fun k => k = D) w w'
theorem Only.refl (D : Nat) (w : World) : Only D w w := ChgF.refl _ _
theorem Only.trans {D : Nat} {a b c : World} (h : Only D a b) (k : Only D b c) : Only D a c := ChgF.trans h k
theorem Only.set {D : Nat} {w : World} {v : Value} : Only D w (w.setCell ⟨D, 0, none⟩ v) := ChgF.put (S := fun k => k = D) (ChgF.refl _ _) rfl v
theorem Only.below {D m : Nat} {w w' : World} (h : Only D w w') (hm : m ≤ D) : Below m w w' := ChgF.below h (fun k hk => by omega)
theorem RdAt.step {N D : Nat} {w : World} {ys : List Int} {v v' : Value} (hN : N ≤ D) (hb : Boxed w D 58 v) (hs : SlAt mB 0 0 N w v' ys) (hc : CapOk v') : RdAt N D (w.setCell ⟨D, 0, none⟩ v') ys :=
  ⟨hN, v', hb.set v', hs.under (Only.set.below hN) (Nat.le_refl _), hc⟩

set_option maxHeartbeats 2000000 in
set_option maxRecDepth 100000 in
theorem takeByte_any (N D : Nat) (xs : List Int) (w : World) (h : RdAt N D w xs) :
    Calls Try.prog 74 #[.pointer (some ⟨D, 0, none⟩)] w fun e w' => e = .returned (.int .u8 (xs.headD 0)) ∧ RdAt N D w' xs.tail ∧ Only D w w' := by
  have H := hide h
  obtain ⟨hN, v, hb, hs, hcp⟩ := h
  have Hb := hide hb
  have Hs := hide hs
  have c0 := hb.cell
  have z0 := hb.frozen
  obtain ⟨a, c, rfl, hl, hc⟩ := hs
  have hcc := hcp.le
  clear hb hcp
  cases xs with
  | nil =>
    clear hc
    go_enter Try.func74, Try.ntmps74
    go_wp2
    go_ret
    exact ⟨rfl, unhide H, Only.refl _ _⟩
  | cons x r =>
    obtain ⟨b, off, rfl, -, -, hcell⟩ := hc (by simp)
    have hx := hcell 0 (by simp)
    unfold mB at hx
    simp only [List.getElem?_cons_zero, Option.getD_some, Nat.add_zero] at hx
    have hlen : (x :: r).length = r.length + 1 := rfl
    have hf := sl_from (j := 1) (unhide Hs) (by simp) hcc.1 hcc.2
    have e1 : (some (⟨b, off, none⟩ : Addr)).map (fun x => x.add 1) = some ⟨b, off + 1, none⟩ := rfl
    rw [e1, hlen, Nat.add_sub_cancel] at hf
    rw [hlen] at c0 hcc
    clear hcell hc e1
    have hne : (((r.length : Int) + 1) == 0) = false := by rw [beq_eq_false_iff_ne]; omega
    by_cases hc1 : c = 1
    · rw [if_pos hc1] at hf
      subst hc1
      have hr0 : r.length = 0 := by omega
      rw [hr0] at hf
      have Hf := hide hf
      clear hf
      go_enter Try.func74, Try.ntmps74
      go_wp2
      go_ret
      exact ⟨rfl, RdAt.step hN (unhide Hb) (unhide Hf).1 (unhide Hf).2, Only.set⟩
    · rw [if_neg hc1] at hf
      have Hf := hide hf
      clear hf
      go_enter Try.func74, Try.ntmps74
      go_wp2
      go_ret
      exact ⟨rfl, RdAt.step hN (unhide Hb) (unhide Hf).1 (unhide Hf).2, Only.set⟩

/-- So many bytes, or all. -/
def upto (n : Int) (xs : List Int) : Nat := if n ≤ xs.length then n.toNat else xs.length
theorem take_upto (n : Int) (xs : List Int) : xs.take (upto n xs) = xs.take n.toNat ∧ xs.drop (upto n xs) = xs.drop n.toNat := by
  unfold upto
  split
  · exact ⟨rfl, rfl⟩
  · rw [List.take_of_length_le (Nat.le_refl _), List.take_of_length_le (by omega), List.drop_of_length_le (Nat.le_refl _), List.drop_of_length_le (by omega)]
    exact ⟨rfl, rfl⟩

set_option maxHeartbeats 2000000 in
set_option maxRecDepth 100000 in
theorem takeBytes_any (N D : Nat) (n : Int) (xs : List Int) (w : World) (h : RdAt N D w xs) (hn : 0 ≤ n) (hn1 : n ≤ 9223372036854775807) :
    Calls Try.prog 64 #[.pointer (some ⟨D, 0, none⟩), .int .i64 n] w fun e w' => (∃ v, e = .returned v ∧ SlAt mB 0 0 N w' v (xs.take n.toNat) ∧ CapOk v) ∧ RdAt N D w' (xs.drop n.toNat) ∧ Only D w w' := by
  rw [← (take_upto n xs).1, ← (take_upto n xs).2]
  obtain ⟨hN, v, hb, hs, hcp⟩ := h
  have Hb := hide hb
  have Hs := hide hs
  have c0 := hb.cell
  have z0 := hb.frozen
  obtain ⟨a, c, rfl, hl, hc⟩ := hs
  unfold maxLen at hl
  have hcc := hcp.le
  have hcm := hcc.2
  unfold maxLen at hcm
  have hku : upto n xs ≤ xs.length := by unfold upto; split <;> omega
  have hf := sl_from (j := upto n xs) (unhide Hs) hku hcc.1 hcc.2
  have ht := sl_to (j := upto n xs) (unhide Hs) hku hcc.1 hcc.2
  have Ht := hide ht
  have hmin : Hid (min n (xs.length : Int) = (upto n xs : Int)) := by
    show min n (xs.length : Int) = (upto n xs : Int)
    unfold upto
    split <;> omega
  have hm := unhide hmin
  have hmm : (if n ≤ (xs.length : Int) then n else (xs.length : Int)) = (upto n xs : Int) := by unfold upto; split <;> simp <;> omega
  generalize upto n xs = k at *
  clear hb hcp hc ht
  by_cases hck : c = k
  · rw [if_pos hck] at hf
    subst hck
    rw [Nat.sub_self, show xs.length - c = 0 by omega] at hf
    have Hf := hide hf
    clear hf
    go_enter Try.func64, Try.ntmps64
    go_wp2
    go_ret
    exact ⟨⟨_, rfl, (unhide Ht).1.under (Only.set.below hN) (Nat.le_refl _), (unhide Ht).2⟩, RdAt.step hN (unhide Hb) (unhide Hf).1 (unhide Hf).2, Only.set⟩
  · rw [if_neg hck] at hf
    have Hf := hide hf
    clear hf
    go_enter Try.func64, Try.ntmps64
    go_wp2
    go_ret
    exact ⟨⟨_, rfl, (unhide Ht).1.under (Only.set.below hN) (Nat.le_refl _), (unhide Ht).2⟩, RdAt.step hN (unhide Hb) (unhide Hf).1 (unhide Hf).2, Only.set⟩

theorem tv_zero (xs : List Int) : tv 0 xs = (0, xs) := rfl
theorem or_add (n m i : Nat) (h1 : n < 2 ^ i) : n ||| (m * 2 ^ i) = n + m * 2 ^ i := by rw [← Nat.shiftLeft_eq, Nat.or_comm, ← Nat.shiftLeft_add_eq_or_of_lt h1, Nat.add_comm]
theorem pow_facts {j : Nat} (hj : j ≤ 8) : ∃ P : Nat, 2 ^ (7 * j) = P ∧ (2 : Int) ^ (7 * j) = P ∧ (128 : Int) ^ j = P ∧ P ≤ 72057594037927936 ∧ 1 ≤ P := by
  have : j = 0 ∨ j = 1 ∨ j = 2 ∨ j = 3 ∨ j = 4 ∨ j = 5 ∨ j = 6 ∨ j = 7 ∨ j = 8 := by omega
  rcases this with rfl | rfl | rfl | rfl | rfl | rfl | rfl | rfl | rfl <;> exact ⟨_, rfl, by decide, by decide, by decide, by decide⟩
theorem or_shl {j : Nat} {n y : Int} (hj : j ≤ 8) (hn0 : 0 ≤ n) (hn1 : n < 128 ^ j) : bits .or .i64 n (wrap64 (y % 128 * 2 ^ (7 * j))) = n + 128 ^ j * (y % 128) := by
  obtain ⟨P, p1, p2, p3, p4, p5⟩ := pow_facts hj
  rw [p2, p3]
  rw [p3] at hn1
  obtain ⟨m, hm⟩ : ∃ m : Nat, y % 128 = m := ⟨(y % 128).toNat, by omega⟩
  obtain ⟨k, hk⟩ : ∃ k : Nat, n = k := ⟨n.toNat, by omega⟩
  have hm1 : m ≤ 127 := by omega
  rw [hm, hk]
  have hmp : m * P ≤ 127 * 72057594037927936 := Nat.mul_le_mul hm1 p4
  have hkP : k < P := by omega
  have e0 : ((m : Int) * (P : Int)) = ((m * P : Nat) : Int) := by push_cast; rfl
  rw [e0, w64i (by omega) (by omega)]
  have e1 : (BitVec.ofInt 64 (k : Int)).toNat = k := by rw [BitVec.toNat_ofInt]; omega
  have e2 : (BitVec.ofInt 64 ((m * P : Nat) : Int)).toNat = m * P := by rw [BitVec.toNat_ofInt]; omega
  have e3 : k ||| (m * P) = k + m * P := by rw [← p1]; exact or_add k m (7 * j) (by rw [p1]; exact hkP)
  show IntKind.i64.wrap ((BitVec.ofInt 64 (k : Int) ||| BitVec.ofInt 64 ((m * P : Nat) : Int)).toNat : Int) = _
  rw [BitVec.toNat_or, e1, e2, e3, k64i (by omega) (by omega)]
  push_cast
  rw [Int.mul_comm (P : Int) (m : Int)]

set_option maxHeartbeats 2000000 in
set_option maxRecDepth 100000 in
theorem takeVarint_any (N D : Nat) (xs : List Int) (w : World) (h : RdAt N D w xs) (hb : ∀ x ∈ xs, 0 ≤ x ∧ x ≤ 255) :
    Calls Try.prog 65 #[.pointer (some ⟨D, 0, none⟩)] w fun e w' => e = .returned (.int .i64 (tv 9 xs).1) ∧ RdAt N D w' (tv 9 xs).2 ∧ Only D w w' := by
  have H := hide h
  have HB := hide hb
  clear h hb
  go_enter Try.func65, Try.ntmps65
  go_wp2
  go_loopw [3, 4] (fun nv sv wr => ∃ (j : Nat) (n : Int) (ys : List Int), j ≤ 9 ∧ sv = .int .i64 ((7 * j : Nat) : Int) ∧ nv = .int .i64 n ∧ 0 ≤ n ∧ n < 128 ^ j ∧ (tv 9 xs).1 = n + 128 ^ j * (tv (9 - j) ys).1 ∧ (tv 9 xs).2 = (tv (9 - j) ys).2 ∧ (∀ y ∈ ys, 0 ≤ y ∧ y ≤ 255) ∧ RdAt N D wr ys ∧ Only D w wr) (fun _ sv _ => 63 - (intOf sv).toNat)
  case atStart => exact ⟨0, 0, xs, by omega, rfl, rfl, by omega, by simp, by simp, rfl, unhide HB, unhide H, Only.refl _ _⟩
  case round =>
    obtain ⟨j, n, ys, hj, rfl, rfl, hn0, hn1, h1, h2, hys, hrd, honly⟩ := hrel
    have Hrd := hide hrd
    have Hys := hide hys
    have H1 := hide h1
    have H2 := hide h2
    have Ho := hide honly
    clear h1 h2 hys hrd honly
    by_cases hlt : j < 9
    · have hlt' : (7 * j : Int) < 63 := by omega
      go_wp2_with fail
      refine (takeByte_any N D ys wr (unhide Hrd)).mono ?_
      rintro e w1 ⟨rfl, hrd1, ho1⟩
      have hy : 0 ≤ ys.headD 0 ∧ ys.headD 0 ≤ 255 := by
        cases ys with
        | nil => simp
        | cons y r => exact unhide Hys y (List.mem_cons_self ..)
      have e1 := or_shl (j := j) (y := ys.headD 0) (by omega) hn0 hn1
      have htv : tv (9 - j) ys = if ys.headD 0 < 128 then (ys.headD 0, ys.tail) else (ys.headD 0 % 128 + 128 * (tv (9 - (j + 1)) ys.tail).1, (tv (9 - (j + 1)) ys.tail).2) := by
        obtain ⟨q, hq⟩ : ∃ q, 9 - j = q + 1 := ⟨8 - j, by omega⟩
        have hq2 : 9 - (j + 1) = q := by omega
        rw [hq, hq2]
        rfl
      have Htv := hide htv
      have Hrd1 := hide hrd1
      have Hyt : Hid (∀ y ∈ ys.tail, 0 ≤ y ∧ y ≤ 255) := fun y hy => unhide Hys y (List.mem_of_mem_tail hy)
      obtain ⟨P, p1, p2, p3, p4, p5⟩ := pow_facts (j := j) (by omega)
      have Hp : Hid ((128 : Int) ^ j = P ∧ (128 : Int) ^ (j + 1) = P * 128) := ⟨p3, by rw [Int.pow_succ, p3]⟩
      clear hrd1 htv p1 p2 p3
      by_cases hyl : ys.headD 0 < 128
      · generalize ys.headD 0 = y at *
        go_wp2_with fail
        go_ret
        refine ⟨?_, ?_, (unhide Ho).trans ho1⟩
        · have h1 := unhide H1
          rw [unhide Htv, if_pos hyl] at h1
          rw [h1]
          show Ending.returned (Value.int IntKind.i64 (n + 128 ^ j * (y % 128))) = _
          rw [show y % 128 = y by omega]
        · have h2 := unhide H2
          rw [unhide Htv, if_pos hyl] at h2
          rw [h2]
          exact unhide Hrd1
      · generalize ys.headD 0 = y at *
        go_wp2_with fail
        obtain ⟨q1, q2⟩ := unhide Hp
        have h1 := unhide H1
        have h2 := unhide H2
        rw [unhide Htv, if_neg (by omega)] at h1 h2
        refine ⟨⟨j + 1, n + 128 ^ j * (y % 128), ys.tail, by omega, by go_num, rfl, ?_, ?_, ?_, h2, unhide Hyt, unhide Hrd1, (unhide Ho).trans ho1⟩, by simp [intOf]; omega⟩
        · rw [q1]
          have := Int.mul_nonneg (a := (P : Int)) (b := y % 128) (by omega) (by omega)
          omega
        · rw [q1] at hn1
          rw [q1, q2]
          have := Int.mul_le_mul_of_nonneg_left (show y % 128 ≤ 127 by omega) (show 0 ≤ (P : Int) by omega)
          omega
        · rw [q2]
          rw [q1] at h1 ⊢
          rw [h1]
          show n + (P : Int) * (y % 128 + 128 * (tv (9 - (j + 1)) ys.tail).1) = _
          rw [Int.mul_add, ← Int.mul_assoc, Int.add_assoc]
    · obtain rfl : j = 9 := by omega
      go_wp2
      go_ret
      refine ⟨?_, ?_, unhide Ho⟩
      · have h1 := unhide H1
        rw [show 9 - 9 = 0 from rfl, tv_zero] at h1
        simp only [Int.mul_zero, Int.add_zero] at h1
        exact congrArg (fun z => Ending.returned (Value.int IntKind.i64 z)) h1.symm
      · have h2 := unhide H2
        rw [show 9 - 9 = 0 from rfl, tv_zero] at h2
        rw [h2]
        exact unhide Hrd

end Go.Proofs.Ytpkghafpelilfaa
