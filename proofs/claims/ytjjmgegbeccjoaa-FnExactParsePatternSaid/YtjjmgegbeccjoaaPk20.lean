import Derived.Test.YtjjmgegbeccjoaaW4
import Derived.Laws.Bits64b
import Derived.Test.YtjjmgegbeccjoaaPk19
import Derived.Test.YtjjmgegbeccjoaaPk7
namespace Go.Proofs.Ytjjmgegbeccjoaa
open Go.RowKit

def cmp4 (g : Nat → Nat) (j : Nat) : Nat := if j < 4 then 18446744073709551615 - g j else 0
theorem cmp4_fit (g : Nat → Nat) : Fit (cmp4 g) := fun j => by unfold cmp4; split <;> omega
theorem cmp4_bt {g : Nat → Nat} (hg : Fit g) (b : Nat) : Bt (cmp4 g) b = (decide (b < 256) && !Bt g b) := by
  unfold Bt cmp4
  by_cases hb : b < 256
  · rw [if_pos (by omega)]
    have := Nat.testBit_two_pow_sub_succ (show g (b / 64) < 2 ^ 64 from hg (b / 64)) (b % 64)
    rw [show (2 : Nat) ^ 64 - (g (b / 64) + 1) = 18446744073709551615 - g (b / 64) by omega] at this
    rw [this]
    simp [hb, show b % 64 < 64 by omega]
  · rw [if_neg (by omega)]
    simp [hb]

theorem xor_all {a : Nat} (h : a < 18446744073709551616) : 18446744073709551615 ^^^ a = 18446744073709551615 - a := by
  apply Nat.eq_of_testBit_eq
  intro i
  have h1 := Nat.testBit_two_pow_sub_one 64 i
  have h2 := Nat.testBit_two_pow_sub_succ (show a < 2 ^ 64 from h) i
  rw [show (2 : Nat) ^ 64 - 1 = 18446744073709551615 by decide] at h1
  rw [show (2 : Nat) ^ 64 - (a + 1) = 18446744073709551615 - a by omega] at h2
  rw [Nat.testBit_xor, h1, h2]
  by_cases hi : i < 64
  · simp [hi]
  · have : a.testBit i = false := Nat.testBit_lt_two_pow (Nat.lt_of_lt_of_le h (by
      have : (2 : Nat) ^ 64 ≤ 2 ^ i := Nat.pow_le_pow_right (by decide) (by omega)
      exact this))
    simp [hi, this]
theorem xor_u64 {a : Nat} (h : a < 18446744073709551616) : bits BinOp.xor IntKind.u64 (if IntKind.u64.signed = true then -1 else IntKind.u64.max) (a : Int) = ((18446744073709551615 - a : Nat) : Int) := by
  rw [← xor_all h]
  exact bits_xor_u64_nat 18446744073709551615 a (by decide) h

set_option maxHeartbeats 2000000 in
set_option maxRecDepth 100000 in
theorem complement_w (g : Nat → Nat) (w : World) (hg : Fit g) : Calls Try.prog 65 #[ws4 g] w fun e w' => e = .returned (ws4 (cmp4 g)) ∧ Below w.heap.size w w' := by
  unfold ws4
  have Hg := hide hg
  clear hg
  go_enter Try.func65, Try.ntmps65
  go_wp2
  go_loopw [4] (fun iv wr => ∃ i : Nat, i ≤ 4 ∧ iv = .int .i64 i ∧ wr.rowIs w.heap.size 98 4 (fun j => .int .u64 ((if j < i then cmp4 g j else g j : Nat) : Int)) ∧ (∃ g : Nat → Value, wr.rowIs (w.heap.size + 1) 98 4 g) ∧ Below w.heap.size w wr) (fun iv _ => 4 - (intOf iv).toNat)
  case atStart =>
    refine ⟨0, by omega, rfl, ((four_row w _ g).alloc _).congr (fun j hj => by simp), ⟨fun j => .int .u64 ((fun _ => 0 : Nat → Nat) j : Nat), ?_⟩, below2 w _ _⟩
    have h := zero_row (w.alloc (.cells #[.int .u64 (g 0 : Nat), .int .u64 (g 1 : Nat), .int .u64 (g 2 : Nat), .int .u64 (g 3 : Nat)] 98)) 98
    rw [sz_alloc] at h; exact h
  case round =>
    obtain ⟨i, hi, rfl, hrow, ⟨g2, hrow2⟩, hb⟩ := hrel
    by_cases hlt : i < 4
    · have hlt' : (i : Int) < 4 := by omega
      have c0 := hrow.cell hlt
      rw [if_neg (Nat.lt_irrefl _)] at c0
      have f0 := hrow.frozen i
      have hgi := unhide Hg i
      have Hrow := hide hrow
      have Hrow2 := hide hrow2
      clear hrow hrow2
      have hx := xor_u64 hgi
      have HX := hide hx
      clear hx
      go_wp2
      rw [unhide HX]
      refine ⟨⟨i + 1, by omega, by go_num, ?_, ⟨g2, ?_⟩, ?_⟩, by simp [intOf]; omega⟩
      · refine ((unhide Hrow).set i _).congr (fun j hj => ?_)
        by_cases e : j = i
        · subst e; simp [cmp4, hlt]
        · have e2 : (j < i + 1) ↔ j < i := by omega
          simp [e, e2]
      · exact (unhide Hrow2).setOther (by show w.heap.size + 1 ≠ w.heap.size; omega) _
      · exact bput hb (Nat.le_refl _) _
    · obtain rfl : i = 4 := by omega
      have c0 := hrow.cell (i := 0) (by omega)
      have c1 := hrow.cell (i := 1) (by omega)
      have c2 := hrow.cell (i := 2) (by omega)
      have c3 := hrow.cell (i := 3) (by omega)
      rw [if_pos (by omega)] at c0 c1 c2 c3
      have d0 := hrow2.cell (i := 0) (by omega)
      have d1 := hrow2.cell (i := 1) (by omega)
      have d2 := hrow2.cell (i := 2) (by omega)
      have d3 := hrow2.cell (i := 3) (by omega)
      have f0 := hrow2.frozen 0
      have f1 := hrow2.frozen 1
      have f2 := hrow2.frozen 2
      have f3 := hrow2.frozen 3
      clear hrow hrow2
      go_wp2
      refine bodyPost_ret (v := .agg #[.int .u64 (cmp4 g 0 : Nat), .int .u64 (cmp4 g 1 : Nat), .int .u64 (cmp4 g 2 : Nat), .int .u64 (cmp4 g 3 : Nat)]) (by simp [results, Try.results65, go_sem, d0, d1, d2, d3]) rfl ⟨rfl, ?_⟩
      exact bput (bput (bput (bput hb (by omega) _) (by omega) _) (by omega) _) (by omega) _

theorem zero_fit : Fit (fun _ => 0) := fun _ => by show 0 < 18446744073709551616; omega
theorem zero_bt (b : Nat) : Bt (fun _ => 0) b = false := by simp [Bt]
theorem canon_all : Canon [0, 255] := ⟨rfl, fun i hi => by
    match i, hi with
    | 0, _ => simp
    | 1, _ => simp, fun m hm => by
    obtain rfl : m = 0 := by simp at hm; omega
    simp [PairOk]⟩
theorem canon_dot : Canon [0, 9, 11, 255] := ⟨rfl, fun i hi => by
    match i, hi with
    | 0, _ => simp
    | 1, _ => simp
    | 2, _ => simp
    | 3, _ => simp, fun m hm => by
    have : m = 0 ∨ m = 1 := by simp at hm; omega
    rcases this with rfl | rfl <;> simp [PairOk]⟩

theorem words_all : WordsOf [0, 255] (cmp4 (fun _ => 0)) := ⟨cmp4_fit _, fun b => by
  rw [cmp4_bt zero_fit, zero_bt]
  show (decide (b < 256) && !false) = (false || decide ((0 : Int) ≤ (b : Int) ∧ (b : Int) ≤ 255))
  simp
  omega⟩
theorem words_dot {g : Nat → Nat} (hf : Fit g) (h : ∀ b : Nat, Bt g b = (false || decide ((10 : Int) ≤ (b : Int) ∧ (b : Int) ≤ 10))) : WordsOf [0, 9, 11, 255] (cmp4 g) := ⟨cmp4_fit _, fun b => by
  rw [cmp4_bt hf, h]
  show (decide (b < 256) && !(false || decide ((10 : Int) ≤ (b : Int) ∧ (b : Int) ≤ 10))) = ((false || decide ((0 : Int) ≤ (b : Int) ∧ (b : Int) ≤ 9)) || decide ((11 : Int) ≤ (b : Int) ∧ (b : Int) ≤ 255))
  rw [Bool.eq_iff_iff]
  simp
  omega⟩

theorem box4 {w w1 : World} {t : TypeId} (hb : Below (w.heap.size + 1) (w.alloc (.cells #[.int .u64 0, .int .u64 0, .int .u64 0, .int .u64 0] t)) w1) : w1.rowIs w.heap.size t 4 (fun j => .int .u64 ((fun _ => 0 : Nat → Nat) j : Nat)) :=
  World.rowIs.of_block (zero_row w t) (hb.block _ (Nat.lt_succ_self _))


/-! The list that is made of marks is canonical. -/
def lstD (C : List Int) : Int := C.getLastD (-2)
theorem lstD_snoc (C : List Int) (s e : Int) : lstD (C ++ [s, e]) = e := by simp [lstD]
theorem lstD_ix {C : List Int} (h : 0 < C.length) : C[C.length - 1]?.getD 0 = lstD C := by
  unfold lstD
  rw [List.getLastD_eq_getLast?, List.getLast?_eq_getElem?]
  rw [List.getElem?_eq_getElem (by omega)]
  rfl
theorem getD_app {C D : List Int} {i : Nat} (h : i < C.length) : (C ++ D)[i]?.getD 0 = C[i]?.getD 0 := by rw [List.getElem?_append_left h]
theorem getD_new (C : List Int) (s e : Int) : (C ++ [s, e])[C.length]?.getD 0 = s ∧ (C ++ [s, e])[C.length + 1]?.getD 0 = e := by
  constructor
  · rw [List.getElem?_append_right (Nat.le_refl _)]; simp
  · rw [List.getElem?_append_right (by omega), show C.length + 1 - C.length = 1 by omega]; rfl
theorem canon_snoc {C : List Int} (h : Canon C) {s e : Int} (h0 : 0 ≤ s) (h1 : s ≤ e) (h2 : e ≤ 255) (h3 : lstD C + 2 ≤ s) : Canon (C ++ [s, e]) := by
  obtain ⟨a, b, c⟩ := h
  obtain ⟨n1, n2⟩ := getD_new C s e
  refine ⟨by simp; omega, fun i hi => ?_, fun m hm => ?_⟩
  · simp at hi
    by_cases e1 : i < C.length
    · rw [getD_app e1]; exact b i e1
    · by_cases e2 : i = C.length
      · subst e2; rw [n1]; omega
      · obtain rfl : i = C.length + 1 := by omega
        rw [n2]; omega
  · simp at hm
    by_cases e1 : 2 * m < C.length
    · have := c m e1
      unfold PairOk at this ⊢
      rw [getD_app e1, getD_app (show 2 * m + 1 < C.length by omega)]
      refine ⟨this.1, fun h => ?_⟩
      rw [getD_app (show 2 * m - 1 < C.length by omega)]
      exact this.2 h
    · obtain e2 : 2 * m = C.length := by omega
      unfold PairOk
      rw [e2, n1, n2]
      refine ⟨h1, fun h => ?_⟩
      rw [getD_app (show C.length - 1 < C.length by omega), lstD_ix h]
      omega
theorem inP_app (C D : List Int) : ∀ (k b : Nat), 2 * k ≤ C.length → InP (C ++ D) k b = InP C k b
  | 0, _, _ => rfl
  | k + 1, b, h => by
    simp only [InP]
    rw [inP_app C D k b (by omega), getD_app (show 2 * k < C.length by omega), getD_app (show 2 * k + 1 < C.length by omega)]
theorem inP_snoc {C : List Int} (h : C.length % 2 = 0) (s e : Int) (b : Nat) : InP (C ++ [s, e]) ((C ++ [s, e]).length / 2) b = (InP C (C.length / 2) b || decide (s ≤ (b : Int) ∧ (b : Int) ≤ e)) := by
  have hl : (C ++ [s, e]).length / 2 = C.length / 2 + 1 := by simp
  obtain ⟨n1, n2⟩ := getD_new C s e
  rw [hl]
  simp only [InP]
  rw [inP_app C _ _ _ (by omega), show 2 * (C.length / 2) = C.length by omega, n1, n2]
/-- Outside of a run. -/
structure CnA (p : Nat → Bool) (n : Nat) (C : List Int) : Prop where
  can : Canon C
  inp : ∀ b : Nat, InP C (C.length / 2) b = (decide (b < n) && p b)
  last : lstD C ≤ (n : Int) - 1
  next : n < 256 → p n = true → lstD C + 2 ≤ (n : Int) ∧ (n = 0 ∨ p (n - 1) = false)
/-- Inside a run that began at s. -/
structure CnB (p : Nat → Bool) (n : Nat) (C : List Int) (s : Nat) : Prop where
  can : Canon C
  inp : ∀ b : Nat, InP C (C.length / 2) b = (decide (b < s) && p b)
  lt : s < n
  last : lstD C + 2 ≤ (s : Int)
  run : ∀ i, s ≤ i → i < n → p i = true
  top : n < 256
  now : p n = true
theorem cnn_step (p : Nat → Bool) : ∀ n : Nat, n ≤ 256 → CnA p n ((List.range n).flatMap (emR p)) ∨ ∃ (C : List Int) (s : Nat), (List.range n).flatMap (emR p) = C ++ [(s : Int)] ∧ CnB p n C s
  | 0, _ => .inl ⟨⟨rfl, fun i hi => by simp at hi, fun m hm => by simp at hm⟩, fun b => by simp [InP], by simp [lstD], fun _ _ => by simp [lstD]⟩
  | n + 1, hn => by
    have e0 : (List.range (n + 1)).flatMap (emR p) = (List.range n).flatMap (emR p) ++ emR p n := by rw [List.range_succ, List.flatMap_append]; simp
    rw [e0]
    rcases cnn_step p n (by omega) with h | ⟨C, s, e, h⟩
    · generalize (List.range n).flatMap (emR p) = C at h ⊢
      cases hp : p n with
      | false =>
        have em : emR p n = [] := by simp [emR, hp]
        rw [em, List.append_nil]
        refine .inl ⟨h.can, fun b => ?_, by have := h.last; omega, fun _ hq => ⟨by have := h.last; omega, .inr hp⟩⟩
        rw [h.inp b]
        by_cases e : b = n
        · subst e; simp [hp]
        · have : (b < n + 1) ↔ b < n := by omega
          simp [this]
      | true =>
        obtain ⟨h1, h2⟩ := h.next (by omega) hp
        have st : (p n && (n == 0 || !p (n - 1))) = true := by
          rcases h2 with rfl | h2
          · simp [hp]
          · simp [hp, h2]
        by_cases hc : n = 255 ∨ p (n + 1) = false
        · have cl : (p n && (n == 255 || !p (n + 1))) = true := by
            rcases hc with rfl | hc
            · simp [hp]
            · simp [hp, hc]
          have em : emR p n = [(n : Int), (n : Int)] := by simp only [emR]; rw [if_pos st, if_pos cl]; rfl
          rw [em]
          refine .inl ⟨canon_snoc h.can (by omega) (by omega) (by omega) h1, fun b => ?_, by rw [lstD_snoc]; omega, fun hq hq2 => ?_⟩
          · rw [inP_snoc h.can.1, h.inp b]
            by_cases e : b = n
            · subst e; simp [hp]
            · have : (b < n + 1) ↔ b < n := by omega
              have e2 : decide ((n : Int) ≤ (b : Int) ∧ (b : Int) ≤ (n : Int)) = false := decide_eq_false (by omega)
              rw [e2]
              simp [this]
          · rcases hc with rfl | hc
            · omega
            · rw [hc] at hq2; cases hq2
        · have hc1 : n ≠ 255 := fun e => hc (.inl e)
          have hc2 : p (n + 1) = true := by cases e : p (n + 1) with
            | true => rfl
            | false => exact absurd (.inr e) hc
          have cl : ¬ (p n && (n == 255 || !p (n + 1))) = true := by simp [hc1, hc2]
          have em : emR p n = [(n : Int)] := by simp only [emR]; rw [if_pos st, if_neg cl]; rfl
          rw [em]
          exact .inr ⟨C, n, rfl, h.can, h.inp, by omega, h1, fun i i1 i2 => by rw [show i = n by omega]; exact hp, by omega, hc2⟩
    · have hp := h.now
      have hlt := h.lt
      have hq : p (n - 1) = true := h.run (n - 1) (by omega) (by omega)
      have st : ¬ (p n && (n == 0 || !p (n - 1))) = true := by simp [hq]; omega
      rw [e]
      by_cases hc : n = 255 ∨ p (n + 1) = false
      · have cl : (p n && (n == 255 || !p (n + 1))) = true := by
          rcases hc with rfl | hc
          · simp [hp]
          · simp [hp, hc]
        have em : emR p n = [(n : Int)] := by simp only [emR]; rw [if_neg st, if_pos cl]; rfl
        rw [em, List.append_assoc]
        show CnA p (n + 1) (C ++ [(s : Int), (n : Int)]) ∨ _
        refine .inl ⟨canon_snoc h.can (by omega) (by omega) (by have := h.top; omega) h.last, fun b => ?_, by rw [lstD_snoc]; omega, fun hq hq2 => ?_⟩
        · rw [inP_snoc h.can.1, h.inp b]
          by_cases e1 : b < s
          · have e2 : b < n + 1 := by omega
            have e3 : decide ((s : Int) ≤ (b : Int) ∧ (b : Int) ≤ (n : Int)) = false := decide_eq_false (by omega)
            rw [e3]
            simp [e1, e2]
          · by_cases e2 : b ≤ n
            · have e3 : decide ((s : Int) ≤ (b : Int) ∧ (b : Int) ≤ (n : Int)) = true := decide_eq_true (by omega)
              have e4 : b < n + 1 := by omega
              have e5 : p b = true := by
                by_cases e6 : b = n
                · rw [e6]; exact hp
                · exact h.run b (by omega) (by omega)
              rw [e3]
              simp [e1, e4, e5]
            · have e3 : decide ((s : Int) ≤ (b : Int) ∧ (b : Int) ≤ (n : Int)) = false := decide_eq_false (by omega)
              have e4 : ¬ b < n + 1 := by omega
              rw [e3]
              simp [e1, e4]
        · rcases hc with rfl | hc
          · omega
          · rw [hc] at hq2; cases hq2
      · have hc1 : n ≠ 255 := fun e => hc (.inl e)
        have hc2 : p (n + 1) = true := by cases e : p (n + 1) with
          | true => rfl
          | false => exact absurd (.inr e) hc
        have cl : ¬ (p n && (n == 255 || !p (n + 1))) = true := by simp [hc1, hc2]
        have em : emR p n = [] := by simp only [emR]; rw [if_neg st, if_neg cl]; rfl
        rw [em, List.append_nil]
        refine .inr ⟨C, s, rfl, h.can, h.inp, by omega, h.last, fun i i1 i2 => ?_, by have := h.top; omega, hc2⟩
        by_cases e6 : i = n
        · rw [e6]; exact hp
        · exact h.run i i1 (by omega)
theorem cnn_ok (p : Nat → Bool) : Canon (cnn p) ∧ ∀ b : Nat, InP (cnn p) ((cnn p).length / 2) b = (decide (b < 256) && p b) := by
  rcases cnn_step p 256 (Nat.le_refl _) with h | ⟨C, s, -, h⟩
  · exact ⟨h.can, h.inp⟩
  · exact absurd h.top (by omega)
/-- Words beyond the fourth don't matter. -/
def trc (g : Nat → Nat) (j : Nat) : Nat := if j < 4 then g j else 0
theorem trc_ws (g : Nat → Nat) : ws4 (trc g) = ws4 g := rfl
theorem trc_fit {g : Nat → Nat} (h : Fit g) : Fit (trc g) := fun j => by
  unfold trc
  split
  · exact h j
  · decide
theorem trc_bt (g : Nat → Nat) (b : Nat) : Bt (trc g) b = (decide (b < 256) && Bt g b) := by
  unfold Bt trc
  by_cases h : b < 256
  · rw [if_pos (by omega)]; simp [h]
  · rw [if_neg (by omega)]; simp [h]
theorem words_cnn {p : Nat → Bool} {g : Nat → Nat} (hf : Fit g) (h : ∀ b : Nat, Bt g b = p b) : WordsOf (cnn p) (trc g) := ⟨trc_fit hf, fun b => by rw [trc_bt, (cnn_ok p).2 b, h b]⟩
theorem words_one {x : Int} {g : Nat → Nat} (hf : Fit g) (h : ∀ b : Nat, Bt g b = decide (x ≤ (b : Int) ∧ (b : Int) ≤ x)) : WordsOf [x, x] g := ⟨hf, fun b => by rw [h b]; simp [InP]⟩
theorem inR_inP : ∀ (k : Nat) (cs : List Int) (b : Nat), cs.length = 2 * k → inR cs b = InP cs k b := by
  intro k
  induction k with
  | zero => intro cs b h; obtain rfl : cs = [] := List.eq_nil_of_length_eq_zero (by omega); rfl
  | succ k ih =>
    intro cs b h
    obtain ⟨C, s, e, rfl⟩ : ∃ C s e, cs = C ++ [s, e] := by
      obtain ⟨D, e, rfl⟩ : ∃ D e, cs = D ++ [e] := by
        rcases List.eq_nil_or_concat cs with rfl | ⟨D, e, rfl⟩
        · simp at h
        · exact ⟨D, e, by simp⟩
      obtain ⟨C, s, rfl⟩ : ∃ C s, D = C ++ [s] := by
        rcases List.eq_nil_or_concat D with rfl | ⟨C, s, rfl⟩
        · simp at h; omega
        · exact ⟨C, s, by simp⟩
      exact ⟨C, s, e, by simp⟩
    have hC : C.length = 2 * k := by simp at h; omega
    have key : ∀ (j : Nat) (C : List Int), C.length = 2 * j → inR (C ++ [s, e]) b = (inR C b || decide (s ≤ (b : Int) ∧ (b : Int) ≤ e)) := by
      intro j
      induction j with
      | zero => intro C h; obtain rfl : C = [] := List.eq_nil_of_length_eq_zero (by omega); simp [inR]
      | succ j ih2 =>
        intro C h
        match C, h with
        | x :: y :: C', h =>
          simp only [List.cons_append, inR]
          rw [ih2 C' (by simp at h; omega), Bool.or_assoc]
    have := inP_snoc (C := C) (by omega) s e b
    rw [show (C ++ [s, e]).length / 2 = k + 1 by rw [h]; omega, show C.length / 2 = k by omega] at this
    rw [key k C hC, ih C b hC, this]

end Go.Proofs.Ytjjmgegbeccjoaa
