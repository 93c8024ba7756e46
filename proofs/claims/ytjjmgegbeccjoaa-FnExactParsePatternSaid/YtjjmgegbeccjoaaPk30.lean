import Derived.Test.YtjjmgegbeccjoaaPk29
namespace Go.Proofs.Ytjjmgegbeccjoaa
open Go.RowKit

/-- What l1braces answers. -/
def BcM (e : Ending) (xs : List Int) (i : Nat) : Prop := (brc (xs.drop (i + 1)) = none ∧ e = .returned (.tuple #[.int .i64 0, .int .i64 0, .int .i64 0])) ∨ ∃ (lo hi m : Int) (n : Nat), brc (xs.drop (i + 1)) = some ((lo, hi), xs.drop (i + n)) ∧ 2 ≤ n ∧ i + n ≤ xs.length ∧ lo ≤ 9999 ∧ hi ≤ 9999 ∧ e = .returned (.tuple #[.int .i64 lo, .int .i64 hi, .int .i64 m]) ∧ m = (n : Int)
theorem cell_of {w : World} {b off : Nat} {xs : List Int} {k : Nat} {c : Int} (hcell : ∀ i : Nat, i < xs.length → w.cell? ⟨b, off + i, none⟩ = some (mB (xs[i]?.getD 0))) (hk : k < xs.length) (hc : c = xs[k]?.getD 0) : w.cell? ⟨b, off + k, none⟩ = some (.int .u8 c) := by rw [hcell k hk, ← hc]; rfl
theorem drop_hd {xs : List Int} {k : Nat} {c : Int} (hk : k < xs.length) (hc : c = xs[k]?.getD 0) : xs.drop k = c :: xs.drop (k + 1) := by rw [hc]; exact drop_at hk
theorem byte_in {xs : List Int} {k : Nat} {c : Int} (hb : BytesIn xs) (hk : k < xs.length) (hc : c = xs[k]?.getD 0) : 0 ≤ c ∧ c ≤ 255 := by
  rw [hc]
  exact hb _ (by rw [List.getElem?_eq_getElem hk]; exact List.getElem_mem hk)

set_option maxHeartbeats 8000000 in
set_option maxRecDepth 100000 in
theorem l1braces_any (sv : Value) (xs : List Int) (i : Nat) (w : World) (hv : SlAt mB 0 0 w.heap.size w sv xs) (hb : BytesIn xs) (hl : xs.length ≤ 100000) (hil : i < xs.length) :
    Calls Try.prog 22 #[sv, .int .i64 (i : Nat)] w fun e w' => BcM e xs i ∧ w' = w := by
  have Hv := hide hv
  obtain ⟨a, cp, rfl, -, hc⟩ := hv
  obtain ⟨b, off, rfl, -, -, hcell⟩ := hc (by omega)
  have HCELL := hide hcell
  have HB := hide hb
  have HN := hide (l1num_any _ xs (i + 1) w (unhide Hv) hb hl hil)
  rw [show ((i + 1 : Nat) : Int) = (i : Int) + 1 by omega] at HN
  clear hc hb hcell
  go_enter Try.func22, Try.ntmps22
  go_wp2_with fail
  refine (unhide HN).mono ?_
  rintro e w1 ⟨⟨hn, rfl⟩ | ⟨lo, n, hs, n1, n4, hle, lo0, lo1, rfl⟩, rfl⟩
  · have HX : Hid (brc (xs.drop (i + 1)) = none) := by show brc _ = none; unfold brc; rw [hn]; rfl
    clear hn HN
    go_wp2
    go_ret3
    exact ⟨.inl ⟨unhide HX, rfl⟩, rfl⟩
  · have HX : Hid (brc (xs.drop (i + 1)) = brc2 lo (xs.drop (i + 1 + n))) := by show brc _ = _; unfold brc; rw [hs]; rfl
    have nz : ¬ (n : Int) = 0 := by omega
    clear hs HN
    by_cases hj : i + 1 + n < xs.length
    · obtain ⟨c, hce⟩ : ∃ c, c = xs[i + 1 + n]?.getD 0 := ⟨_, rfl⟩
      have x0 := cell_of (unhide HCELL) hj hce
      obtain ⟨c0, c1⟩ := byte_in (unhide HB) hj hce
      have HD := hide (drop_hd hj hce)
      have hj' : (i : Int) + 1 + (n : Int) < (xs.length : Int) := by omega
      have hj2 : ¬ (xs.length : Int) ≤ (i : Int) + 1 + (n : Int) := by omega
      have hj3 : (0 : Int) ≤ (i : Int) + 1 + (n : Int) := by omega
      clear hce
      by_cases e1 : c = 125
      · have HY : Hid (brc (xs.drop (i + 1)) = some ((lo, lo), xs.drop (i + 1 + n + 1))) := by show brc _ = _; rw [unhide HX, unhide HD, brc2, if_pos e1]
        subst e1
        clear HX HD
        go_wp2
        go_ret3
        exact ⟨.inr ⟨lo, lo, _, 1 + n + 1, by rw [unhide HY]; congr 3; omega, by omega, by omega, by omega, by omega, rfl, by omega⟩, rfl⟩
      by_cases e2 : c = 44
      · have HY : Hid (brc (xs.drop (i + 1)) = brc3 lo (xs.drop (i + 1 + n + 1))) := by show brc _ = _; rw [unhide HX, unhide HD, brc2, if_neg e1, if_pos e2]
        subst e2
        clear HX HD e1
        have hk3 : (0 : Int) ≤ (i : Int) + 1 + (n : Int) + 1 := by omega
        by_cases hk : i + 1 + n + 1 < xs.length
        · obtain ⟨d, hde⟩ : ∃ d, d = xs[i + 1 + n + 1]?.getD 0 := ⟨_, rfl⟩
          have x1 := cell_of (unhide HCELL) hk hde
          obtain ⟨d0, d1⟩ := byte_in (unhide HB) hk hde
          have HD := hide (drop_hd hk hde)
          have hk' : (i : Int) + 1 + (n : Int) + 1 < (xs.length : Int) := by omega
          clear hde
          by_cases e3 : d = 125
          · have HZ : Hid (brc (xs.drop (i + 1)) = some ((lo, -1), xs.drop (i + 1 + n + 1 + 1))) := by show brc _ = _; rw [unhide HY, unhide HD, brc3, if_pos e3]
            subst e3
            clear HY HD
            go_wp2
            go_ret3
            exact ⟨.inr ⟨lo, -1, _, 1 + n + 1 + 1, by rw [unhide HZ]; congr 3; omega, by omega, by omega, by omega, by omega, rfl, by omega⟩, rfl⟩
          · have HZ : Hid (brc (xs.drop (i + 1)) = (num1 (xs.drop (i + 1 + n + 1))).bind fun x => if x.1 < lo then none else match x.2 with
                | d :: r2 => if d = 125 then some ((lo, x.1), r2) else none
                | [] => none) := by
              show brc _ = _
              rw [unhide HY]
              exact brc3_num (fun r e => e3 (by rw [unhide HD] at e; exact (List.cons.inj e).1))
            have HN2 := hide (l1num_any _ xs (i + 1 + n + 1) w1 (unhide Hv) (unhide HB) hl (by omega))
            rw [show ((i + 1 + n + 1 : Nat) : Int) = (i : Int) + 1 + (n : Int) + 1 by omega] at HN2
            clear HY HD
            go_wp2_with fail
            refine (unhide HN2).mono ?_
            rintro e w2 ⟨⟨hn, rfl⟩ | ⟨hi, m, hs, m1, m4, hle2, hi0, hi1, rfl⟩, rfl⟩
            · have HX : Hid (brc (xs.drop (i + 1)) = none) := by show brc _ = none; rw [unhide HZ, hn]; rfl
              clear hn HN2 HZ
              go_wp2
              go_ret3
              exact ⟨.inl ⟨unhide HX, rfl⟩, rfl⟩
            · have mz : (m : Int) ≠ 0 := by omega
              have mz2 : ((m : Int) == 0) = false := by simp; omega
              by_cases hlh : hi < lo
              · have HX : Hid (brc (xs.drop (i + 1)) = none) := by show brc _ = none; rw [unhide HZ, hs, Option.bind_some, if_pos hlh]
                clear hs HN2 HZ
                go_wp2
                go_ret3
                exact ⟨.inl ⟨unhide HX, rfl⟩, rfl⟩
              · have hlh2 : decide (hi < lo) = false := by simp; omega
                have HW : Hid (brc (xs.drop (i + 1)) = match xs.drop (i + 1 + n + 1 + m) with
                    | d :: r2 => if d = 125 then some ((lo, hi), r2) else none
                    | [] => none) := by
                  show brc _ = _
                  rw [unhide HZ, hs, Option.bind_some, if_neg hlh]
                have hq3 : (0 : Int) ≤ (i : Int) + 1 + (n : Int) + 1 + (m : Int) := by omega
                clear hs HN2 HZ
                by_cases hq : i + 1 + n + 1 + m < xs.length
                · obtain ⟨f, hfe⟩ : ∃ f, f = xs[i + 1 + n + 1 + m]?.getD 0 := ⟨_, rfl⟩
                  have x2 := cell_of (unhide HCELL) hq hfe
                  obtain ⟨f0, f1⟩ := byte_in (unhide HB) hq hfe
                  have HD := hide (drop_hd hq hfe)
                  have hq' : (i : Int) + 1 + (n : Int) + 1 + (m : Int) < (xs.length : Int) := by omega
                  have hq2 : ¬ (xs.length : Int) ≤ (i : Int) + 1 + (n : Int) + 1 + (m : Int) := by omega
                  clear hfe
                  by_cases e4 : f = 125
                  · have HF : Hid (brc (xs.drop (i + 1)) = some ((lo, hi), xs.drop (i + 1 + n + 1 + m + 1))) := by show brc _ = _; rw [unhide HW, unhide HD]; simp only; rw [if_pos e4]
                    subst e4
                    clear HW HD
                    go_wp2
                    all_goals go_ret3
                    all_goals exact ⟨.inr ⟨lo, hi, _, 1 + n + 1 + m + 1, by rw [unhide HF]; congr 3; omega, by omega, by omega, by omega, by omega, rfl, by omega⟩, rfl⟩
                  · have HF : Hid (brc (xs.drop (i + 1)) = none) := by show brc _ = _; rw [unhide HW, unhide HD]; simp only; rw [if_neg e4]
                    have e5 : (f != 125) = true := by simp [e4]
                    clear HW HD
                    go_wp2
                    go_ret3
                    exact ⟨.inl ⟨unhide HF, rfl⟩, rfl⟩
                · have hq2 : (xs.length : Int) ≤ (i : Int) + 1 + (n : Int) + 1 + (m : Int) := by omega
                  have HF : Hid (brc (xs.drop (i + 1)) = none) := by show brc _ = _; rw [unhide HW, List.drop_eq_nil_of_le (by omega)]
                  clear HW
                  go_wp2
                  go_ret3
                  exact ⟨.inl ⟨unhide HF, rfl⟩, rfl⟩
        · have hk' : ¬ (i : Int) + 1 + (n : Int) + 1 < (xs.length : Int) := by omega
          have hk5 : decide ((i : Int) + 1 + (n : Int) + 1 < (xs.length : Int)) = false := by simp; omega
          clear hk
          have HN2 := hide (l1num_any _ xs (i + 1 + n + 1) w1 (unhide Hv) (unhide HB) hl (by omega))
          rw [show ((i + 1 + n + 1 : Nat) : Int) = (i : Int) + 1 + (n : Int) + 1 by omega] at HN2
          have HZ : Hid (brc (xs.drop (i + 1)) = none) := by show brc _ = none; rw [unhide HY, List.drop_eq_nil_of_le (by omega)]; rfl
          clear HY
          go_wp2_with fail
          refine (unhide HN2).mono ?_
          rintro e w2 ⟨⟨hn, rfl⟩ | ⟨hi, m, hs, m1, m4, hle2, -⟩, rfl⟩
          · clear hn HN2
            go_wp2
            go_ret3
            exact ⟨.inl ⟨unhide HZ, rfl⟩, rfl⟩
          · omega
      · have HY : Hid (brc (xs.drop (i + 1)) = none) := by show brc _ = _; rw [unhide HX, unhide HD, brc2, if_neg e1, if_neg e2]
        have e3 : (c != 44) = true := by simp [e2]
        clear HX HD
        go_wp2
        go_ret3
        exact ⟨.inl ⟨unhide HY, rfl⟩, rfl⟩
    · have hj' : ¬ (i : Int) + 1 + (n : Int) < (xs.length : Int) := by omega
      have hj2 : (xs.length : Int) ≤ (i : Int) + 1 + (n : Int) := by omega
      have HY : Hid (brc (xs.drop (i + 1)) = none) := by show brc _ = none; rw [unhide HX, List.drop_eq_nil_of_le (by omega)]; rfl
      clear HX
      go_wp2
      go_ret3
      exact ⟨.inl ⟨unhide HY, rfl⟩, rfl⟩


theorem grown_bl2 {base e n : Nat} {w w' : World} {v : Value} {xs : List Value} (h : w.ownsRow base e 1 v n xs) (hb : base ≤ w.heap.size) (hg : w.grownBy w' v.ownBlock) : Below base w w' := (Below.refl base w).grown hg hb (fun k hk => (h.lt k hk).1)
theorem app_i2 {w : World} {ops : Array Oper} {rest : List Oper} {o : Oper} {a : Act} {Q : Exit → Act → World → Prop} (hgd : o.guard = none) (s x : Operand)
    (ho : o.op = .call { callee := .builtin .append, args := #[s, x], argTypes := #[40, 40] }) (base : Nat) (v : Value) (hs : a.eval s = v) (y : Int) (hx : a.eval x = .slice (some ⟨w.heap.size, 0, none⟩) 1 1) (n : Nat) (xs : List Int) (hn : n = xs.length)
    (h1 : w.ownsRow base 3 1 v n (xs.map mI)) (hb : base ≤ w.heap.size) (hl : n ≤ 1000000)
    (h : ∀ v' w', w'.ownsRow base 3 1 v' (n + 1) ((xs ++ [y]).map mI) → Below base w w' → wpList Try.prog ops Q rest (a.put o.dst v') w') : wpList Try.prog ops Q (o :: rest) a (w.alloc (.cells #[.int .i64 y] 3)) := by
  subst hn
  obtain ⟨i0, hi, hz0, hz1, hz2⟩ := info_parts Try.zinInt
  refine wpList_append_own_at _ hgd s x 40 ho base 3 i0 (.int .i64 0) 1 8 Try.underlying40 hi hz0 hz1 hz2 rfl (by decide) v xs.length (xs.map mI) hs (h1.alloc _) ⟨w.heap.size, 0, none⟩ 1 1 [.int .i64 y] hx rfl (fun j y hj => by
    match j, hj with
    | 0, hj => exact (pushd_alloc w _).news 0 _ hj) (fun u hu => by rw [List.mem_singleton] at hu; subst hu; rfl) (by unfold maxLen; omega) (by omega) (by rw [sz_alloc]; omega) ?_
  intro v' w' r1 r2 _ r3
  refine h v' w' ?_ ((below1 w _).mono hb |>.trans (grown_bl2 (h1.alloc _) (by rw [sz_alloc]; omega) r2))
  rw [List.map_append]
  exact r1
/-- The marks of a set of bytes. -/
def MkAt (w : World) (mb : Nat) (p : Nat → Bool) : Prop := w.rowIs mb 4 256 (fun j => .bool (p j))
def cnP (p : Nat → Bool) (k : Nat) : List Int := (List.range k).flatMap (emR p)
theorem cnP_s (p : Nat → Bool) (k : Nat) : cnP p (k + 1) = cnP p k ++ emR p k := by unfold cnP; rw [List.range_succ, List.flatMap_append]; simp
theorem emR_no {p : Nat → Bool} {k : Nat} (h : p k = false) : emR p k = [] := by simp [emR, h]
theorem emR_yes {p : Nat → Bool} {k : Nat} (h : p k = true) (s c : Bool) (hs : (k == 0 || !p (k - 1)) = s) (hc : (k == 255 || !p (k + 1)) = c) : emR p k = (if s then [(k : Int)] else []) ++ (if c then [(k : Int)] else []) := by
  simp only [emR, h, hs, hc, Bool.true_and]
theorem st_A {p : Nat → Bool} {k : Nat} (h : k = 0) : (k == 0 || !p (k - 1)) = true := by rw [h]; rfl
theorem st_B {p : Nat → Bool} {k : Nat} (h : p (k - 1) = false) : (k == 0 || !p (k - 1)) = true := by rw [h]; simp
theorem st_C {p : Nat → Bool} {k : Nat} (h0 : ¬ k = 0) (h : p (k - 1) = true) : (k == 0 || !p (k - 1)) = false := by rw [h]; simp [h0]
theorem cl_A {p : Nat → Bool} {k : Nat} (h : k = 255) : (k == 255 || !p (k + 1)) = true := by rw [h]; rfl
theorem cl_B {p : Nat → Bool} {k : Nat} (h : p (k + 1) = false) : (k == 255 || !p (k + 1)) = true := by rw [h]; simp
theorem cl_C {p : Nat → Bool} {k : Nat} (h0 : ¬ k = 255) (h : p (k + 1) = true) : (k == 255 || !p (k + 1)) = false := by rw [h]; simp [h0]
theorem len3 (A B C : List Int) : (A ++ B ++ C).length = A.length + B.length + C.length := by rw [List.length_append, List.length_append]
theorem emR_len (p : Nat → Bool) (k : Nat) : (emR p k).length ≤ 2 := by
  unfold emR
  rw [List.length_append]
  split <;> split <;> simp
theorem cnP_len (p : Nat → Bool) : ∀ k, (cnP p k).length ≤ 2 * k
  | 0 => by simp [cnP]
  | k + 1 => by
    rw [cnP_s, List.length_append]
    have := cnP_len p k
    have := emR_len p k
    omega

set_option maxHeartbeats 8000000 in
set_option maxRecDepth 100000 in
theorem l1ranges_any (mb : Nat) (p : Nat → Bool) (w : World) (hm : MkAt w mb p) :
    Calls Try.prog 45 #[.slice (some ⟨mb, 0, none⟩) 256 256] w fun e w' => ∃ v, e = .returned v ∧ w'.ownsRow w.heap.size 3 1 v (cnn p).length ((cnn p).map mI) ∧ Below w.heap.size w w' := by
  have hmb := row_lt hm
  have HM := hide hm
  clear hm
  go_enter Try.func45, Try.ntmps45
  go_wp2_with fail
  go_loopw [3, 4] (fun ov bv wr => ∃ (k n : Nat), k ≤ 256 ∧ bv = .int .i64 (k : Nat) ∧ n = (cnP p k).length ∧ wr.ownsRow w.heap.size 3 1 ov n ((cnP p k).map mI) ∧ Below w.heap.size w wr) (fun _ bv _ => 256 - (intOf bv).toNat)
  case atStart => exact ⟨0, 0, by omega, rfl, rfl, World.ownsRow_nil _ _ _ _, Below.refl _ _⟩
  case round =>
    obtain ⟨k, n, hk, rfl, hn, hown, hB⟩ := hrel
    obtain ⟨w3, rfl⟩ : ∃ w3, w3 = wr := ⟨_, rfl⟩
    obtain ⟨oa, oc, rfl⟩ := own_is hown
    have hz3 := hB.size
    have hn2 : n ≤ 600 := by rw [hn]; have := cnP_len p k; omega
    have HO := hide hown
    have HB := hide hB
    have HN := hide hn
    have rM := (unhide HM).of_block (hB.block mb hmb)
    clear hown hB hn
    by_cases hlt : k < 256
    · have hlt' : (k : Int) < 256 := by omega
      have x0 := rM.cell (i := k) hlt
      have HN1 : Hid (n + 1 = (cnP p k ++ [(k : Int)]).length) := by show _ = _; rw [List.length_append, List.length_singleton, ← unhide HN]
      cases hp : p k with
      | false =>
        rw [hp] at x0
        have HE : Hid (cnP p (k + 1) = cnP p k) := by show _ = _; rw [cnP_s, emR_no hp, List.append_nil]
        clear rM hp
        go_wp2
        go_roundw
        case rel => exact ⟨k + 1, n, by omega, by go_num, by rw [unhide HE]; exact unhide HN, by rw [unhide HE]; exact unhide HO, unhide HB⟩
        case measure => simp [intOf]; omega
      | true =>
        rw [hp] at x0
        by_cases k0 : k = 0
        · by_cases k5 : k = 255
          · omega
          · cases p2 : p (k + 1) with
            | false =>
              have HE : Hid (cnP p (k + 1) = cnP p k ++ [(k : Int)] ++ [(k : Int)]) := by
                show _ = _
                rw [cnP_s, emR_yes hp true true (st_A k0) (cl_B p2), List.append_assoc]
                rfl
              have kk0 : ((k : Int) == 0) = true := by simp; omega
              have kk5 : ((k : Int) == 255) = false := by simp; omega
              have kk6 : (k : Int) + 1 < 256 := by omega
              have HM2 : Hid (∀ W : World, Below w.heap.size w W → W.cell? ⟨mb, 0 + (k + 1), none⟩ = some (.bool false)) := fun W hW => by
                have h9 := ((unhide HM).of_block (hW.block mb hmb)).cell (i := k + 1) (by omega)
                rw [p2] at h9
                rw [Nat.zero_add]
                exact h9
              clear rM hp p2 k0 k5
              go_wp2_with (at_builtin; refine app_i2 rfl _ _ rfl w.heap.size (.slice oa n oc) rfl (k : Int) rfl n (cnP p k) (unhide HN) (unhide HO) hz3 (by omega) ?_)
              intro v4 w4 ho4 hb4
              obtain ⟨o4, d4, rfl⟩ := own_is ho4
              obtain ⟨L4, hL4⟩ : ∃ L4, L4 = cnP p k ++ [(k : Int)] := ⟨_, rfl⟩
              replace ho4 : w4.ownsRow w.heap.size 3 1 (.slice o4 (n + 1) d4) (n + 1) (L4.map mI) := by rw [hL4, List.map_append]; exact ho4
              have HL4 := hide hL4
              have HN4 : Hid (n + 1 = L4.length) := by rw [hL4]; exact unhide HN1
              clear hL4
              have HO4 := hide ho4
              have HB4 := hide ((unhide HB).trans hb4)
              have hz4 := hb4.size
              have x2 := unhide HM2 w4 (unhide HB4)
              rw [Nat.zero_add] at x2
              clear ho4 hb4
              go_wp2_with (at_builtin; refine app_i2 rfl _ _ rfl w.heap.size (.slice o4 (n + 1) d4) rfl (k : Int) rfl (n + 1) L4 (unhide HN4) (unhide HO4) (by omega) (by omega) ?_)
              intro v5 w5 ho5 hb5
              obtain ⟨o5, d5, rfl⟩ := own_is ho5
              have HO5 := hide ho5
              have HB5 := hide ((unhide HB4).trans hb5)
              clear ho5 hb5
              go_wp2
              go_roundw
              case rel => exact ⟨k + 1, n + 1 + 1, by omega, by go_num, by rw [unhide HE, len3, ← unhide HN]; rfl, by rw [unhide HE, ← unhide HL4]; simpa using unhide HO5, unhide HB5⟩
              case measure => simp [intOf]; omega
            | true =>
              have HE : Hid (cnP p (k + 1) = cnP p k ++ [(k : Int)] ++ []) := by
                show _ = _
                rw [cnP_s, emR_yes hp true false (st_A k0) (cl_C k5 p2), List.append_assoc]
                rfl
              have kk0 : ((k : Int) == 0) = true := by simp; omega
              have kk5 : ((k : Int) == 255) = false := by simp; omega
              have kk6 : (k : Int) + 1 < 256 := by omega
              have HM2 : Hid (∀ W : World, Below w.heap.size w W → W.cell? ⟨mb, 0 + (k + 1), none⟩ = some (.bool true)) := fun W hW => by
                have h9 := ((unhide HM).of_block (hW.block mb hmb)).cell (i := k + 1) (by omega)
                rw [p2] at h9
                rw [Nat.zero_add]
                exact h9
              clear rM hp p2 k0 k5
              go_wp2_with (at_builtin; refine app_i2 rfl _ _ rfl w.heap.size (.slice oa n oc) rfl (k : Int) rfl n (cnP p k) (unhide HN) (unhide HO) hz3 (by omega) ?_)
              intro v4 w4 ho4 hb4
              obtain ⟨o4, d4, rfl⟩ := own_is ho4
              obtain ⟨L4, hL4⟩ : ∃ L4, L4 = cnP p k ++ [(k : Int)] := ⟨_, rfl⟩
              replace ho4 : w4.ownsRow w.heap.size 3 1 (.slice o4 (n + 1) d4) (n + 1) (L4.map mI) := by rw [hL4, List.map_append]; exact ho4
              have HL4 := hide hL4
              have HN4 : Hid (n + 1 = L4.length) := by rw [hL4]; exact unhide HN1
              clear hL4
              have HO4 := hide ho4
              have HB4 := hide ((unhide HB).trans hb4)
              have hz4 := hb4.size
              have x2 := unhide HM2 w4 (unhide HB4)
              rw [Nat.zero_add] at x2
              clear ho4 hb4
              go_wp2
              go_roundw
              case rel => exact ⟨k + 1, n + 1, by omega, by go_num, by rw [unhide HE, len3, ← unhide HN]; rfl, by rw [unhide HE, ← unhide HL4]; simpa using unhide HO4, unhide HB4⟩
              case measure => simp [intOf]; omega
        · cases p1 : p (k - 1) with
          | false =>
            by_cases k5 : k = 255
            · have HE : Hid (cnP p (k + 1) = cnP p k ++ [(k : Int)] ++ [(k : Int)]) := by
                show _ = _
                rw [cnP_s, emR_yes hp true true (st_B p1) (cl_A k5), List.append_assoc]
                rfl
              have kk0 : ((k : Int) == 0) = false := by simp; omega
              have kk1 : (0 : Int) ≤ (k : Int) - 1 := by omega
              have kk2 : (k : Int) - 1 < 256 := by omega
              have x1 := rM.cell (i := k - 1) (by omega)
              rw [p1] at x1
              have kk3 : ((k : Int) - 1).toNat = k - 1 := by omega
              have kk5 : ((k : Int) == 255) = true := by simp; omega
              clear rM hp p1 k0 k5
              go_wp2_with (at_builtin; refine app_i2 rfl _ _ rfl w.heap.size (.slice oa n oc) rfl (k : Int) rfl n (cnP p k) (unhide HN) (unhide HO) hz3 (by omega) ?_)
              intro v4 w4 ho4 hb4
              obtain ⟨o4, d4, rfl⟩ := own_is ho4
              obtain ⟨L4, hL4⟩ : ∃ L4, L4 = cnP p k ++ [(k : Int)] := ⟨_, rfl⟩
              replace ho4 : w4.ownsRow w.heap.size 3 1 (.slice o4 (n + 1) d4) (n + 1) (L4.map mI) := by rw [hL4, List.map_append]; exact ho4
              have HL4 := hide hL4
              have HN4 : Hid (n + 1 = L4.length) := by rw [hL4]; exact unhide HN1
              clear hL4
              have HO4 := hide ho4
              have HB4 := hide ((unhide HB).trans hb4)
              have hz4 := hb4.size
              clear ho4 hb4
              go_wp2_with (at_builtin; refine app_i2 rfl _ _ rfl w.heap.size (.slice o4 (n + 1) d4) rfl (k : Int) rfl (n + 1) L4 (unhide HN4) (unhide HO4) (by omega) (by omega) ?_)
              intro v5 w5 ho5 hb5
              obtain ⟨o5, d5, rfl⟩ := own_is ho5
              have HO5 := hide ho5
              have HB5 := hide ((unhide HB4).trans hb5)
              clear ho5 hb5
              go_wp2
              go_roundw
              case rel => exact ⟨k + 1, n + 1 + 1, by omega, by go_num, by rw [unhide HE, len3, ← unhide HN]; rfl, by rw [unhide HE, ← unhide HL4]; simpa using unhide HO5, unhide HB5⟩
              case measure => simp [intOf]; omega
            · cases p2 : p (k + 1) with
              | false =>
                have HE : Hid (cnP p (k + 1) = cnP p k ++ [(k : Int)] ++ [(k : Int)]) := by
                  show _ = _
                  rw [cnP_s, emR_yes hp true true (st_B p1) (cl_B p2), List.append_assoc]
                  rfl
                have kk0 : ((k : Int) == 0) = false := by simp; omega
                have kk1 : (0 : Int) ≤ (k : Int) - 1 := by omega
                have kk2 : (k : Int) - 1 < 256 := by omega
                have x1 := rM.cell (i := k - 1) (by omega)
                rw [p1] at x1
                have kk3 : ((k : Int) - 1).toNat = k - 1 := by omega
                have kk5 : ((k : Int) == 255) = false := by simp; omega
                have kk6 : (k : Int) + 1 < 256 := by omega
                have HM2 : Hid (∀ W : World, Below w.heap.size w W → W.cell? ⟨mb, 0 + (k + 1), none⟩ = some (.bool false)) := fun W hW => by
                  have h9 := ((unhide HM).of_block (hW.block mb hmb)).cell (i := k + 1) (by omega)
                  rw [p2] at h9
                  rw [Nat.zero_add]
                  exact h9
                clear rM hp p1 p2 k0 k5
                go_wp2_with (at_builtin; refine app_i2 rfl _ _ rfl w.heap.size (.slice oa n oc) rfl (k : Int) rfl n (cnP p k) (unhide HN) (unhide HO) hz3 (by omega) ?_)
                intro v4 w4 ho4 hb4
                obtain ⟨o4, d4, rfl⟩ := own_is ho4
                obtain ⟨L4, hL4⟩ : ∃ L4, L4 = cnP p k ++ [(k : Int)] := ⟨_, rfl⟩
                replace ho4 : w4.ownsRow w.heap.size 3 1 (.slice o4 (n + 1) d4) (n + 1) (L4.map mI) := by rw [hL4, List.map_append]; exact ho4
                have HL4 := hide hL4
                have HN4 : Hid (n + 1 = L4.length) := by rw [hL4]; exact unhide HN1
                clear hL4
                have HO4 := hide ho4
                have HB4 := hide ((unhide HB).trans hb4)
                have hz4 := hb4.size
                have x2 := unhide HM2 w4 (unhide HB4)
                rw [Nat.zero_add] at x2
                clear ho4 hb4
                go_wp2_with (at_builtin; refine app_i2 rfl _ _ rfl w.heap.size (.slice o4 (n + 1) d4) rfl (k : Int) rfl (n + 1) L4 (unhide HN4) (unhide HO4) (by omega) (by omega) ?_)
                intro v5 w5 ho5 hb5
                obtain ⟨o5, d5, rfl⟩ := own_is ho5
                have HO5 := hide ho5
                have HB5 := hide ((unhide HB4).trans hb5)
                clear ho5 hb5
                go_wp2
                go_roundw
                case rel => exact ⟨k + 1, n + 1 + 1, by omega, by go_num, by rw [unhide HE, len3, ← unhide HN]; rfl, by rw [unhide HE, ← unhide HL4]; simpa using unhide HO5, unhide HB5⟩
                case measure => simp [intOf]; omega
              | true =>
                have HE : Hid (cnP p (k + 1) = cnP p k ++ [(k : Int)] ++ []) := by
                  show _ = _
                  rw [cnP_s, emR_yes hp true false (st_B p1) (cl_C k5 p2), List.append_assoc]
                  rfl
                have kk0 : ((k : Int) == 0) = false := by simp; omega
                have kk1 : (0 : Int) ≤ (k : Int) - 1 := by omega
                have kk2 : (k : Int) - 1 < 256 := by omega
                have x1 := rM.cell (i := k - 1) (by omega)
                rw [p1] at x1
                have kk3 : ((k : Int) - 1).toNat = k - 1 := by omega
                have kk5 : ((k : Int) == 255) = false := by simp; omega
                have kk6 : (k : Int) + 1 < 256 := by omega
                have HM2 : Hid (∀ W : World, Below w.heap.size w W → W.cell? ⟨mb, 0 + (k + 1), none⟩ = some (.bool true)) := fun W hW => by
                  have h9 := ((unhide HM).of_block (hW.block mb hmb)).cell (i := k + 1) (by omega)
                  rw [p2] at h9
                  rw [Nat.zero_add]
                  exact h9
                clear rM hp p1 p2 k0 k5
                go_wp2_with (at_builtin; refine app_i2 rfl _ _ rfl w.heap.size (.slice oa n oc) rfl (k : Int) rfl n (cnP p k) (unhide HN) (unhide HO) hz3 (by omega) ?_)
                intro v4 w4 ho4 hb4
                obtain ⟨o4, d4, rfl⟩ := own_is ho4
                obtain ⟨L4, hL4⟩ : ∃ L4, L4 = cnP p k ++ [(k : Int)] := ⟨_, rfl⟩
                replace ho4 : w4.ownsRow w.heap.size 3 1 (.slice o4 (n + 1) d4) (n + 1) (L4.map mI) := by rw [hL4, List.map_append]; exact ho4
                have HL4 := hide hL4
                have HN4 : Hid (n + 1 = L4.length) := by rw [hL4]; exact unhide HN1
                clear hL4
                have HO4 := hide ho4
                have HB4 := hide ((unhide HB).trans hb4)
                have hz4 := hb4.size
                have x2 := unhide HM2 w4 (unhide HB4)
                rw [Nat.zero_add] at x2
                clear ho4 hb4
                go_wp2
                go_roundw
                case rel => exact ⟨k + 1, n + 1, by omega, by go_num, by rw [unhide HE, len3, ← unhide HN]; rfl, by rw [unhide HE, ← unhide HL4]; simpa using unhide HO4, unhide HB4⟩
                case measure => simp [intOf]; omega
          | true =>
            by_cases k5 : k = 255
            · have HE : Hid (cnP p (k + 1) = cnP p k ++ [] ++ [(k : Int)]) := by
                show _ = _
                rw [cnP_s, emR_yes hp false true (st_C k0 p1) (cl_A k5), List.append_assoc]
                rfl
              have kk0 : ((k : Int) == 0) = false := by simp; omega
              have kk1 : (0 : Int) ≤ (k : Int) - 1 := by omega
              have kk2 : (k : Int) - 1 < 256 := by omega
              have x1 := rM.cell (i := k - 1) (by omega)
              rw [p1] at x1
              have kk3 : ((k : Int) - 1).toNat = k - 1 := by omega
              have kk5 : ((k : Int) == 255) = true := by simp; omega
              clear rM hp p1 k0 k5
              go_wp2_with (at_builtin; refine app_i2 rfl _ _ rfl w.heap.size (.slice oa n oc) rfl (k : Int) rfl (n) (cnP p k) (unhide HN) (unhide HO) (by omega) (by omega) ?_)
              intro v5 w5 ho5 hb5
              obtain ⟨o5, d5, rfl⟩ := own_is ho5
              have HO5 := hide ho5
              have HB5 := hide ((unhide HB).trans hb5)
              clear ho5 hb5
              go_wp2
              go_roundw
              case rel => exact ⟨k + 1, n + 1, by omega, by go_num, by rw [unhide HE, len3, ← unhide HN]; rfl, by rw [unhide HE]; simpa using unhide HO5, unhide HB5⟩
              case measure => simp [intOf]; omega
            · cases p2 : p (k + 1) with
              | false =>
                have HE : Hid (cnP p (k + 1) = cnP p k ++ [] ++ [(k : Int)]) := by
                  show _ = _
                  rw [cnP_s, emR_yes hp false true (st_C k0 p1) (cl_B p2), List.append_assoc]
                  rfl
                have kk0 : ((k : Int) == 0) = false := by simp; omega
                have kk1 : (0 : Int) ≤ (k : Int) - 1 := by omega
                have kk2 : (k : Int) - 1 < 256 := by omega
                have x1 := rM.cell (i := k - 1) (by omega)
                rw [p1] at x1
                have kk3 : ((k : Int) - 1).toNat = k - 1 := by omega
                have kk5 : ((k : Int) == 255) = false := by simp; omega
                have kk6 : (k : Int) + 1 < 256 := by omega
                have HM2 : Hid (∀ W : World, Below w.heap.size w W → W.cell? ⟨mb, 0 + (k + 1), none⟩ = some (.bool false)) := fun W hW => by
                  have h9 := ((unhide HM).of_block (hW.block mb hmb)).cell (i := k + 1) (by omega)
                  rw [p2] at h9
                  rw [Nat.zero_add]
                  exact h9
                have x2 := unhide HM2 w3 (unhide HB)
                rw [Nat.zero_add] at x2
                clear rM hp p1 p2 k0 k5
                go_wp2_with (at_builtin; refine app_i2 rfl _ _ rfl w.heap.size (.slice oa n oc) rfl (k : Int) rfl (n) (cnP p k) (unhide HN) (unhide HO) (by omega) (by omega) ?_)
                intro v5 w5 ho5 hb5
                obtain ⟨o5, d5, rfl⟩ := own_is ho5
                have HO5 := hide ho5
                have HB5 := hide ((unhide HB).trans hb5)
                clear ho5 hb5
                go_wp2
                go_roundw
                case rel => exact ⟨k + 1, n + 1, by omega, by go_num, by rw [unhide HE, len3, ← unhide HN]; rfl, by rw [unhide HE]; simpa using unhide HO5, unhide HB5⟩
                case measure => simp [intOf]; omega
              | true =>
                have HE : Hid (cnP p (k + 1) = cnP p k ++ [] ++ []) := by
                  show _ = _
                  rw [cnP_s, emR_yes hp false false (st_C k0 p1) (cl_C k5 p2), List.append_assoc]
                  rfl
                have kk0 : ((k : Int) == 0) = false := by simp; omega
                have kk1 : (0 : Int) ≤ (k : Int) - 1 := by omega
                have kk2 : (k : Int) - 1 < 256 := by omega
                have x1 := rM.cell (i := k - 1) (by omega)
                rw [p1] at x1
                have kk3 : ((k : Int) - 1).toNat = k - 1 := by omega
                have kk5 : ((k : Int) == 255) = false := by simp; omega
                have kk6 : (k : Int) + 1 < 256 := by omega
                have HM2 : Hid (∀ W : World, Below w.heap.size w W → W.cell? ⟨mb, 0 + (k + 1), none⟩ = some (.bool true)) := fun W hW => by
                  have h9 := ((unhide HM).of_block (hW.block mb hmb)).cell (i := k + 1) (by omega)
                  rw [p2] at h9
                  rw [Nat.zero_add]
                  exact h9
                have x2 := unhide HM2 w3 (unhide HB)
                rw [Nat.zero_add] at x2
                clear rM hp p1 p2 k0 k5
                go_wp2
                go_roundw
                case rel => exact ⟨k + 1, n, by omega, by go_num, by rw [unhide HE, len3, ← unhide HN]; rfl, by rw [unhide HE]; simpa using unhide HO, unhide HB⟩
                case measure => simp [intOf]; omega
    · obtain rfl : k = 256 := by omega
      go_wp2
      go_ret
      refine ⟨_, rfl, ?_, unhide HB⟩
      show w3.ownsRow _ _ _ (.slice oa n oc) (cnP p 256).length _
      rw [← unhide HN]
      exact unhide HO

end Go.Proofs.Ytjjmgegbeccjoaa
