import Derived.Test.YtpkghafpelilfaaP1
import Derived.Test.YtpkghafpelilfaaU0
import Derived.Laws.OwnMore
namespace Go.Proofs.Ytpkghafpelilfaa
open Go.RowKit

/-- A number as a varint. -/
def viF : Nat → Int → List Int
  | 0, n => [n % 256]
  | k + 1, n => if n < 128 then [n % 256] else (n % 128 + 128) :: viF k (n / 128)
/-- A number as a varint. -/
def vi (n : Int) : List Int := viF n.toNat n
theorem viF_enough : ∀ (k j : Nat) (n : Int), n.toNat ≤ k → n.toNat ≤ j → viF k n = viF j n
  | 0, 0, _, _, _ => rfl
  | 0, j + 1, n, h, _ => by rw [viF, viF, if_pos (by omega)]
  | k + 1, 0, n, _, h => by rw [viF, viF, if_pos (by omega)]
  | k + 1, j + 1, n, h, h' => by
    rw [viF, viF]
    by_cases g : n < 128
    · rw [if_pos g, if_pos g]
    · rw [if_neg g, if_neg g, viF_enough k j (n / 128) (by omega) (by omega)]
theorem vi_lo {n : Int} (h : n < 128) : vi n = [n % 256] := by
  unfold vi
  cases n.toNat with
  | zero => rfl
  | succ k => rw [viF, if_pos h]
theorem vi_hi {n : Int} (h : ¬ n < 128) : vi n = (n % 128 + 128) :: vi (n / 128) := by
  unfold vi
  obtain ⟨k, hk⟩ : ∃ k, n.toNat = k + 1 := ⟨n.toNat - 1, by omega⟩
  rw [hk, viF, if_neg h, viF_enough k (n / 128).toNat (n / 128) (by omega) (by omega)]
theorem vi_ind {P : Int → Prop} (lo : ∀ n, n < 128 → P n) (hi : ∀ n, ¬ n < 128 → P (n / 128) → P n) (n : Int) : P n := by
  have key : ∀ (k : Nat) (n : Int), n.toNat ≤ k → P n := by
    intro k
    induction k with
    | zero => intro n h; exact lo n (by omega)
    | succ k ih =>
      intro n h
      by_cases g : n < 128
      · exact lo n g
      · exact hi n g (ih _ (by omega))
  exact key _ n (Nat.le_refl _)
theorem vi_len (k : Nat) : ∀ n : Int, n < 128 ^ (k + 1) → (vi n).length ≤ k + 1 := by
  induction k with
  | zero => intro n h; rw [vi_lo (by simpa using h)]; simp
  | succ k ih =>
    intro n h
    by_cases h1 : n < 128
    · rw [vi_lo h1]; simp
    · rw [vi_hi h1, List.length_cons]
      have := ih (n / 128) (by rw [Int.pow_succ] at h; omega)
      omega
theorem vi_len9 {n : Int} (h : n ≤ 9223372036854775807) : (vi n).length ≤ 9 := vi_len 8 n (by omega)
theorem vi_bytes (n : Int) : ∀ x ∈ vi n, 0 ≤ x ∧ x ≤ 255 := by
  induction n using vi_ind with
  | lo n h => rw [vi_lo h]; intro x hx; simp at hx; omega
  | hi n h ih =>
    rw [vi_hi h]
    intro x hx
    rcases List.mem_cons.1 hx with rfl | hx
    · omega
    · exact ih x hx

/-- A whole list of bytes behind a row of one's own. -/
theorem app_moreB {w : World} {ops : Array Oper} {rest : List Oper} {o : Oper} {a : Act} {Q : Exit → Act → World → Prop} (hgd : o.guard = none) (s x : Operand)
    (ho : o.op = .call { callee := .builtin .append, args := #[s, x], argTypes := #[28, 28] }) (base : Nat) (ov : Value) (hs : a.eval s = ov) (os : List Int) (hown : w.ownsRow base 5 1 ov os.length (os.map mB)) (hbase : base ≤ w.heap.size)
    (sv : Value) (hx : a.eval x = sv) (xs : List Int) (hv : SlAt mB 0 0 w.heap.size w sv xs) (hlen : os.length + xs.length ≤ 1073741824)
    (h : ∀ v' w', Below base w w' → w'.ownsRow base 5 1 v' (os ++ xs).length ((os ++ xs).map mB) → v'.oneCell' = true → wpList Try.prog ops Q rest (a.put o.dst v') w') : wpList Try.prog ops Q (o :: rest) a w := by
  obtain ⟨i0, hi, hz0, hz1, hz2⟩ := info_parts Try.zinByte
  obtain ⟨sa, sc, rfl, hl, hc⟩ := hv
  cases sa with
  | none =>
    have h0 : xs.length = 0 := by
      by_cases q : 0 < xs.length
      · obtain ⟨b, off, e, -⟩ := hc q; simp at e
      · omega
    rw [h0] at hx
    refine wpList_append_none_c hgd s x 28 ho base 5 i0 1 Try.underlying28 hi _ os.length (os.map mB) hs hown sc hx (h _ w (Below.refl _ _) (by rw [List.eq_nil_of_length_eq_zero h0, List.append_nil]; exact hown) ?_)
    obtain ⟨oa, oc, rfl⟩ := own_is hown
    rfl
  | some ad =>
    refine wpList_append_own_at w hgd s x 28 ho base 5 i0 (.int .u8 0) 1 1 Try.underlying28 hi hz0 hz1 hz2 rfl (by decide) _ os.length (os.map mB) hs hown ad xs.length sc (xs.map mB) hx (by simp) ?_ ?_ (by unfold maxLen; omega) (by omega) hbase ?_
    · intro j u hu
      have hj : j < xs.length := by
        have := (List.getElem?_eq_some_iff.1 hu).1
        simpa using this
      obtain ⟨b, off, e, -, -, hcell⟩ := hc (by omega)
      simp only [Option.some.injEq] at e
      subst e
      rw [List.getElem?_map, getD_of_lt hj] at hu
      simp only [Option.map_some, Option.some.injEq] at hu
      subst hu
      have e3 : (⟨b, off, none⟩ : Addr).add j = ⟨b, off + j, none⟩ := by cases j <;> rfl
      rw [e3]
      exact hcell j hj
    · intro u hu
      obtain ⟨y, -, rfl⟩ := List.mem_map.1 hu
      rfl
    · intro v' w' h1 hg _ _
      have h2 : w'.ownsRow base 5 1 v' (os ++ xs).length ((os ++ xs).map mB) := by rw [List.length_append, List.map_append]; exact h1
      obtain ⟨oa, oc, rfl⟩ := own_is h2
      exact h _ w' ((Below.refl _ _).grown hg hbase (fun k hk => (hown.lt k hk).1)) h2 rfl

/-- What owns its row can be read. -/
theorem own_rdB {base n : Nat} {w : World} {v : Value} {xs : List Int} (h : w.ownsRow base 5 1 v n (xs.map mB)) (hn : n ≤ maxLen) : SlAt mB 0 0 w.heap.size w v xs := by
  have hlen := h.1
  rw [List.length_map, Nat.mul_one] at hlen
  rcases h.2 with ⟨rfl, hz⟩ | ⟨g, cap, cur, rfl, hbg, hg, hnc, hcm, hcs, htake⟩
  · exact ⟨none, 0, by rw [hlen, hz], by omega, fun hp => by omega⟩
  · refine ⟨_, cap, by rw [hlen], by omega, fun hp => ⟨g, 0, rfl, Nat.zero_le _, (h.lt g rfl).2, fun i hi => ?_⟩⟩
    rw [Nat.zero_add, h.cellAt i (by omega), List.getElem?_map, getD_of_lt hi]
    rfl

/-- What the model's l4varint answers. -/
def ViR (e : Ending) (w w' : World) (n : Int) : Prop := ∃ v, e = .returned v ∧ w'.ownsRow w.heap.size 5 1 v (vi n).length ((vi n).map mB)

theorem viR_lo {n : Int} (h : n < 128) (w : World) : ViR (.returned (.slice (some ⟨w.heap.size, 0, none⟩) 1 1)) w (w.alloc (.cells #[.int .u8 (n % 256)] 5)) n :=
  ⟨_, rfl, by rw [vi_lo h]; exact World.ownsRow_lit w #[.int .u8 (n % 256)] 1 (Nat.le_refl _) (by unfold maxLen; omega) rfl⟩

set_option maxHeartbeats 2000000 in
set_option maxRecDepth 100000 in
theorem l4varint_lo (n : Int) (w : World) (h1 : n < 128) (_hn0 : -9223372036854775808 ≤ n) :
    Calls Try.prog 67 #[.int .i64 n] w fun e w' => ViR e w w' n ∧ Below w.heap.size w w' := by
  go_enter Try.func67, Try.ntmps67
  go_wp2
  go_ret
  exact ⟨viR_lo h1 w, below1 _ _⟩

set_option maxHeartbeats 2000000 in
set_option maxRecDepth 100000 in
theorem l4varint_f (f : Nat) : ∀ (n : Int) (w : World), n < 128 ^ (f + 1) → f ≤ 8 → n ≤ 9223372036854775807 → -9223372036854775808 ≤ n →
    Calls Try.prog 67 #[.int .i64 n] w fun e w' => ViR e w w' n ∧ Below w.heap.size w w' := by
  induction f with
  | zero => intro n w h0 _ _ h; exact l4varint_lo n w (by simpa using h0) h
  | succ f ih =>
    intro n w h0 hf hn1 hn0
    by_cases h1 : n < 128
    · exact l4varint_lo n w h1 hn0
    · have hlt : n / 128 < 128 ^ (f + 1) := by rw [Int.pow_succ] at h0; omega
      have IH := hide (fun w => ih (n / 128) w hlt (by omega) (by omega) (by omega))
      have Hv := hide (vi_hi h1)
      have hln := vi_len f (n / 128) hlt
      clear ih hlt h0
      have hb0 := below1 w (.cells #[.int .u8 (n % 128 + 128)] 5)
      have HO : Hid ((w.alloc (.cells #[.int .u8 (n % 128 + 128)] 5)).ownsRow w.heap.size 5 1 (.slice (some ⟨w.heap.size, 0, none⟩) 1 1) 1 ([n % 128 + 128].map mB)) := World.ownsRow_lit w #[.int .u8 (n % 128 + 128)] 1 (Nat.le_refl _) (by unfold maxLen; omega) rfl
      go_enter Try.func67, Try.ntmps67
      go_wp2_with fail
      generalize w.alloc (.cells #[.int .u8 (n % 128 + 128)] 5) = V at *
      refine (unhide IH V).mono ?_
      rintro e w1 ⟨⟨v1, rfl, hown⟩, hb1⟩
      have hz0 := hb0.size
      have hz1 := hb1.size
      have HO1 := hide (own_keep (unhide HO) hb1 (Nat.le_refl _))
      have HS1 := hide (own_rdB hown (by unfold maxLen; omega))
      have hB1 : Below w.heap.size w w1 := hb0.trans (hb1.mono hz0)
      obtain ⟨oa, oc, rfl⟩ := own_is hown
      clear hown hb1 hb0
      go_wp2_with (at_builtin; refine app_moreB rfl _ _ rfl w.heap.size _ rfl [n % 128 + 128] (by exact unhide HO1) (by omega) _ rfl (vi (n / 128)) (by exact unhide HS1) (by simp; omega) ?_; intro v3 w3 hb3 ho3 hoc3)
      go_ret
      exact ⟨⟨_, rfl, by rw [unhide Hv]; exact ho3⟩, hB1.trans hb3⟩

theorem l4varint_any (n : Int) (w : World) (hn1 : n ≤ 9223372036854775807) (hn0 : -9223372036854775808 ≤ n) :
    Calls Try.prog 67 #[.int .i64 n] w fun e w' => ViR e w w' n ∧ Below w.heap.size w w' := l4varint_f 8 n w (by omega) (Nat.le_refl _) hn1 hn0

end Go.Proofs.Ytpkghafpelilfaa
