import Derived.Test.YtcmofgehhdfifaaGreatDoorPk3
import Derived.Test.YtcmofgehhdfifaaGreatDoorW2
import Derived.Test.YtcmofgehhdfifaaGreatDoorPk8
import Derived.Test.YtcmofgehhdfifaaGreatDoorPk6
import Derived.Lib.AppendStr
import Derived.Lib.Bytealg
import Derived.Test.YtcmofgehhdfifaaGreatDoorPk9
import Derived.Laws.Bits64b
namespace Go.Proofs.YtcmofgehhdfifaaGreatDoor
/-! The list that is made of marks is canonical. -/
def lstD (C : List Int) : Int := C.getLastD (-2)
theorem lstD_snoc (C : List Int) (s e : Int) : lstD (C ++ [s, e]) = e := by simp [lstD]
theorem lstD_ix {C : List Int} (h : 0 < C.length) : C[C.length - 1]?.getD 0 = lstD C := by
  unfold lstD
  rw [List.getLastD_eq_getLast?, List.getLast?_eq_getElem?]
  rw [List.getElem?_eq_getElem (by omega)]
  rfl
theorem getD_app {C D : List Int} {i : Nat} (h : i < C.length) : (C ++ D)[i]?.getD 0 = C[i]?.getD 0 := by rw [List.getElem?_append_left h]
theorem getD_new (C : List Int) (s e : Int) : (C ++ [s, e])[C.length]?.getD 0 = s ∧ (C ++ [s, e])[C.length + 1]?.getD 0 = e := by
  constructor
  · rw [List.getElem?_append_right (Nat.le_refl _)]; simp
  · rw [List.getElem?_append_right (by omega), show C.length + 1 - C.length = 1 by omega]; rfl
theorem canon_snoc {C : List Int} (h : Canon C) {s e : Int} (h0 : 0 ≤ s) (h1 : s ≤ e) (h2 : e ≤ 255) (h3 : lstD C + 2 ≤ s) : Canon (C ++ [s, e]) := by
  obtain ⟨a, b, c⟩ := h
  obtain ⟨n1, n2⟩ := getD_new C s e
  refine ⟨by simp; omega, fun i hi => ?_, fun m hm => ?_⟩
  · simp at hi
    by_cases e1 : i < C.length
    · rw [getD_app e1]; exact b i e1
    · by_cases e2 : i = C.length
      · subst e2; rw [n1]; omega
      · obtain rfl : i = C.length + 1 := by omega
        rw [n2]; omega
  · simp at hm
    by_cases e1 : 2 * m < C.length
    · have := c m e1
      unfold PairOk at this ⊢
      rw [getD_app e1, getD_app (show 2 * m + 1 < C.length by omega)]
      refine ⟨this.1, fun h => ?_⟩
      rw [getD_app (show 2 * m - 1 < C.length by omega)]
      exact this.2 h
    · obtain e2 : 2 * m = C.length := by omega
      unfold PairOk
      rw [e2, n1, n2]
      refine ⟨h1, fun h => ?_⟩
      rw [getD_app (show C.length - 1 < C.length by omega), lstD_ix h]
      omega
theorem inP_app (C D : List Int) : ∀ (k b : Nat), 2 * k ≤ C.length → InP (C ++ D) k b = InP C k b
  | 0, _, _ => rfl
  | k + 1, b, h => by
    simp only [InP]
    rw [inP_app C D k b (by omega), getD_app (show 2 * k < C.length by omega), getD_app (show 2 * k + 1 < C.length by omega)]
theorem inP_snoc {C : List Int} (h : C.length % 2 = 0) (s e : Int) (b : Nat) : InP (C ++ [s, e]) ((C ++ [s, e]).length / 2) b = (InP C (C.length / 2) b || decide (s ≤ (b : Int) ∧ (b : Int) ≤ e)) := by
  have hl : (C ++ [s, e]).length / 2 = C.length / 2 + 1 := by simp
  obtain ⟨n1, n2⟩ := getD_new C s e
  rw [hl]
  simp only [InP]
  rw [inP_app C _ _ _ (by omega), show 2 * (C.length / 2) = C.length by omega, n1, n2]
structure CnA (p : Nat → Bool) (n : Nat) (C : List Int) : Prop where
  can : Canon C
  inp : ∀ b : Nat, InP C (C.length / 2) b = (decide (b < n) && p b)
  last : lstD C ≤ (n : Int) - 1
  next : n < 256 → p n = true → lstD C + 2 ≤ (n : Int) ∧ (n = 0 ∨ p (n - 1) = false)
structure CnB (p : Nat → Bool) (n : Nat) (C : List Int) (s : Nat) : Prop where
  can : Canon C
  inp : ∀ b : Nat, InP C (C.length / 2) b = (decide (b < s) && p b)
  lt : s < n
  last : lstD C + 2 ≤ (s : Int)
  run : ∀ i, s ≤ i → i < n → p i = true
  top : n < 256
  now : p n = true
theorem cnn_step (p : Nat → Bool) : ∀ n : Nat, n ≤ 256 → CnA p n ((List.range n).flatMap (emR p)) ∨ ∃ (C : List Int) (s : Nat), (List.range n).flatMap (emR p) = C ++ [(s : Int)] ∧ CnB p n C s
  | 0, _ => .inl ⟨⟨rfl, fun i hi => by simp at hi, fun m hm => by simp at hm⟩, fun b => by simp [InP], by simp [lstD], fun _ _ => by simp [lstD]⟩
  | n + 1, hn => by
    have e0 : (List.range (n + 1)).flatMap (emR p) = (List.range n).flatMap (emR p) ++ emR p n := by rw [List.range_succ, List.flatMap_append]; simp
    rw [e0]
    rcases cnn_step p n (by omega) with h | ⟨C, s, e, h⟩
    · generalize (List.range n).flatMap (emR p) = C at h ⊢
      cases hp : p n with
      | false =>
        have em : emR p n = [] := by simp [emR, hp]
        rw [em, List.append_nil]
        refine .inl ⟨h.can, fun b => ?_, by have := h.last; omega, fun _ hq => ⟨by have := h.last; omega, .inr hp⟩⟩
        rw [h.inp b]
        by_cases e : b = n
        · subst e; simp [hp]
        · have : (b < n + 1) ↔ b < n := by omega
          simp [this]
      | true =>
        obtain ⟨h1, h2⟩ := h.next (by omega) hp
        have st : (p n && (n == 0 || !p (n - 1))) = true := by
          rcases h2 with rfl | h2
          · simp [hp]
          · simp [hp, h2]
        by_cases hc : n = 255 ∨ p (n + 1) = false
        · have cl : (p n && (n == 255 || !p (n + 1))) = true := by
            rcases hc with rfl | hc
            · simp [hp]
            · simp [hp, hc]
          have em : emR p n = [(n : Int), (n : Int)] := by simp only [emR]; rw [if_pos st, if_pos cl]; rfl
          rw [em]
          refine .inl ⟨canon_snoc h.can (by omega) (by omega) (by omega) h1, fun b => ?_, by rw [lstD_snoc]; omega, fun hq hq2 => ?_⟩
          · rw [inP_snoc h.can.1, h.inp b]
            by_cases e : b = n
            · subst e; simp [hp]
            · have : (b < n + 1) ↔ b < n := by omega
              have e2 : decide ((n : Int) ≤ (b : Int) ∧ (b : Int) ≤ (n : Int)) = false := decide_eq_false (by omega)
              rw [e2]
              simp [this]
          · rcases hc with rfl | hc
            · omega
            · rw [hc] at hq2; cases hq2
        · have hc1 : n ≠ 255 := fun e => hc (.inl e)
          have hc2 : p (n + 1) = true := by cases e : p (n + 1) with
            | true => rfl
            | false => exact absurd (.inr e) hc
          have cl : ¬ (p n && (n == 255 || !p (n + 1))) = true := by simp [hc1, hc2]
          have em : emR p n = [(n : Int)] := by simp only [emR]; rw [if_pos st, if_neg cl]; rfl
          rw [em]
          exact .inr ⟨C, n, rfl, h.can, h.inp, by omega, h1, fun i i1 i2 => by rw [show i = n by omega]; exact hp, by omega, hc2⟩
    · have hp := h.now
      have hlt := h.lt
      have hq : p (n - 1) = true := h.run (n - 1) (by omega) (by omega)
      have st : ¬ (p n && (n == 0 || !p (n - 1))) = true := by simp [hq]; omega
      rw [e]
      by_cases hc : n = 255 ∨ p (n + 1) = false
      · have cl : (p n && (n == 255 || !p (n + 1))) = true := by
          rcases hc with rfl | hc
          · simp [hp]
          · simp [hp, hc]
        have em : emR p n = [(n : Int)] := by simp only [emR]; rw [if_neg st, if_pos cl]; rfl
        rw [em, List.append_assoc]
        show CnA p (n + 1) (C ++ [(s : Int), (n : Int)]) ∨ _
        refine .inl ⟨canon_snoc h.can (by omega) (by omega) (by have := h.top; omega) h.last, fun b => ?_, by rw [lstD_snoc]; omega, fun hq hq2 => ?_⟩
        · rw [inP_snoc h.can.1, h.inp b]
          by_cases e1 : b < s
          · have e2 : b < n + 1 := by omega
            have e3 : decide ((s : Int) ≤ (b : Int) ∧ (b : Int) ≤ (n : Int)) = false := decide_eq_false (by omega)
            rw [e3]
            simp [e1, e2]
          · by_cases e2 : b ≤ n
            · have e3 : decide ((s : Int) ≤ (b : Int) ∧ (b : Int) ≤ (n : Int)) = true := decide_eq_true (by omega)
              have e4 : b < n + 1 := by omega
              have e5 : p b = true := by
                by_cases e6 : b = n
                · rw [e6]; exact hp
                · exact h.run b (by omega) (by omega)
              rw [e3]
              simp [e1, e4, e5]
            · have e3 : decide ((s : Int) ≤ (b : Int) ∧ (b : Int) ≤ (n : Int)) = false := decide_eq_false (by omega)
              have e4 : ¬ b < n + 1 := by omega
              rw [e3]
              simp [e1, e4]
        · rcases hc with rfl | hc
          · omega
          · rw [hc] at hq2; cases hq2
      · have hc1 : n ≠ 255 := fun e => hc (.inl e)
        have hc2 : p (n + 1) = true := by cases e : p (n + 1) with
          | true => rfl
          | false => exact absurd (.inr e) hc
        have cl : ¬ (p n && (n == 255 || !p (n + 1))) = true := by simp [hc1, hc2]
        have em : emR p n = [] := by simp only [emR]; rw [if_neg st, if_neg cl]; rfl
        rw [em, List.append_nil]
        refine .inr ⟨C, s, rfl, h.can, h.inp, by omega, h.last, fun i i1 i2 => ?_, by have := h.top; omega, hc2⟩
        by_cases e6 : i = n
        · rw [e6]; exact hp
        · exact h.run i i1 (by omega)
theorem cnn_ok (p : Nat → Bool) : Canon (cnn p) ∧ ∀ b : Nat, InP (cnn p) ((cnn p).length / 2) b = (decide (b < 256) && p b) := by
  rcases cnn_step p 256 (Nat.le_refl _) with h | ⟨C, s, -, h⟩
  · exact ⟨h.can, h.inp⟩
  · exact absurd h.top (by omega)
def trc (g : Nat → Nat) (j : Nat) : Nat := if j < 4 then g j else 0
theorem trc_fit {g : Nat → Nat} (h : Fit g) : Fit (trc g) := fun j => by
  unfold trc
  split
  · exact h j
  · decide
theorem trc_bt (g : Nat → Nat) (b : Nat) : Bt (trc g) b = (decide (b < 256) && Bt g b) := by
  unfold Bt trc
  by_cases h : b < 256
  · rw [if_pos (by omega)]; simp [h]
  · rw [if_neg (by omega)]; simp [h]
theorem words_cnn {p : Nat → Bool} {g : Nat → Nat} (hf : Fit g) (h : ∀ b : Nat, Bt g b = p b) : WordsOf (cnn p) (trc g) := ⟨trc_fit hf, fun b => by rw [trc_bt, (cnn_ok p).2 b, h b]⟩
theorem words_one {x : Int} {g : Nat → Nat} (hf : Fit g) (h : ∀ b : Nat, Bt g b = decide (x ≤ (b : Int) ∧ (b : Int) ≤ x)) : WordsOf [x, x] g := ⟨hf, fun b => by rw [h b]; simp [InP]⟩
theorem inR_inP : ∀ (k : Nat) (cs : List Int) (b : Nat), cs.length = 2 * k → inR cs b = InP cs k b := by
  intro k
  induction k with
  | zero => intro cs b h; obtain rfl : cs = [] := List.eq_nil_of_length_eq_zero (by omega); rfl
  | succ k ih =>
    intro cs b h
    obtain ⟨C, s, e, rfl⟩ : ∃ C s e, cs = C ++ [s, e] := by
      obtain ⟨D, e, rfl⟩ : ∃ D e, cs = D ++ [e] := by
        rcases List.eq_nil_or_concat cs with rfl | ⟨D, e, rfl⟩
        · simp at h
        · exact ⟨D, e, by simp⟩
      obtain ⟨C, s, rfl⟩ : ∃ C s, D = C ++ [s] := by
        rcases List.eq_nil_or_concat D with rfl | ⟨C, s, rfl⟩
        · simp at h; omega
        · exact ⟨C, s, by simp⟩
      exact ⟨C, s, e, by simp⟩
    have hC : C.length = 2 * k := by simp at h; omega
    have key : ∀ (j : Nat) (C : List Int), C.length = 2 * j → inR (C ++ [s, e]) b = (inR C b || decide (s ≤ (b : Int) ∧ (b : Int) ≤ e)) := by
      intro j
      induction j with
      | zero => intro C h; obtain rfl : C = [] := List.eq_nil_of_length_eq_zero (by omega); simp [inR]
      | succ j ih2 =>
        intro C h
        match C, h with
        | x :: y :: C', h =>
          simp only [List.cons_append, inR]
          rw [ih2 C' (by simp at h; omega), Bool.or_assoc]
    have := inP_snoc (C := C) (by omega) s e b
    rw [show (C ++ [s, e]).length / 2 = k + 1 by rw [h]; omega, show C.length / 2 = k by omega] at this
    rw [key k C hC, ih C b hC, this]
open Go.RowKit
def StrB (s : ByteArray) (xs : List Int) : Prop := Go.Lib.strCells s = xs.map mB
def hexd (d : Int) : Int := if d < 10 then 48 + d else 87 + d
def spcL : List Int := [92, 46, 91, 93, 40, 41, 124, 42, 43, 63, 123, 125, 94, 36]
def byT (b : Int) : List Int :=
  if b = 10 then [92, 110] else if b = 9 then [92, 116] else if b = 13 then [92, 114]
  else if b ∈ spcL ∨ b = 45 then [92, b] else if 32 ≤ b ∧ b ≤ 126 then [b] else [92, 120, hexd (b / 16), hexd (b % 16)]
theorem byT_len (b : Int) : (byT b).length ≤ 4 := by
  unfold byT
  repeat' split
  all_goals simp
def rngT (lo hi : Int) : List Int := byT lo ++ (if lo + 1 < hi then [45] else []) ++ (if lo < hi then byT hi else [])
theorem rngT_len (lo hi : Int) : (rngT lo hi).length ≤ 9 := by
  unfold rngT
  have h1 := byT_len lo
  have h2 := byT_len hi
  simp only [List.length_append]
  split <;> split <;> simp <;> omega
def rngsT (xs : List Int) : Nat → List Int
  | 0 => []
  | n + 1 => rngsT xs n ++ rngT (xs[2 * n]?.getD 0) (xs[2 * n + 1]?.getD 0)
theorem rngsT_len (xs : List Int) : ∀ n : Nat, (rngsT xs n).length ≤ 9 * n
  | 0 => by simp [rngsT]
  | n + 1 => by
    have h1 := rngsT_len xs n
    have h2 := rngT_len (xs[2 * n]?.getD 0) (xs[2 * n + 1]?.getD 0)
    simp only [rngsT, List.length_append]
    omega
def setT (xs : List Int) : List Int :=
  if xs = [0, 255] then [91, 94, 93] else if xs = [0, 9, 11, 255] then [46]
  else if xs.length = 2 ∧ xs[0]?.getD 0 = xs[1]?.getD 0 then byT (xs[0]?.getD 0) else 91 :: rngsT xs (xs.length / 2) ++ [93]
theorem setT_len {xs : List Int} (h : xs.length ≤ 300) : (setT xs).length ≤ 1500 := by
  unfold setT
  have h1 := byT_len (xs[0]?.getD 0)
  have h2 := rngsT_len xs (xs.length / 2)
  split
  · simp
  · split
    · simp
    · split
      · omega
      · simp only [List.length_append, List.length_cons, List.length_nil]; omega
def decT (v : Int) : List Int := if v < 10 then [48 + v] else if v < 100 then [48 + v / 10, 48 + v % 10] else [48 + v / 100, 48 + v / 10 % 10, 48 + v % 10]
theorem decT_len (v : Int) : (decT v).length ≤ 3 := by
  unfold decT
  repeat' split
  all_goals simp
def repT (lo hi : Int) : List Int :=
  if lo = 0 ∧ hi = -1 then [42] else if lo = 1 ∧ hi = -1 then [43] else if lo = 0 ∧ hi = 1 then [63]
  else if hi = -1 then 123 :: decT lo ++ [44, 125] else if lo = hi then 123 :: decT lo ++ [125] else 123 :: decT lo ++ 44 :: decT hi ++ [125]
theorem repT_len (lo hi : Int) : (repT lo hi).length ≤ 9 := by
  unfold repT
  have h1 := decT_len lo
  have h2 := decT_len hi
  repeat' split
  all_goals simp only [List.length_append, List.length_cons, List.length_nil, List.cons_append]
  all_goals omega
def grp (p : Prop) [Decidable p] (t : List Int) : List Int := if p then 40 :: t ++ [41] else t
theorem grp_len (p : Prop) [Decidable p] (t : List Int) : (grp p t).length ≤ t.length + 2 := by
  unfold grp
  split
  · simp
  · omega
abbrev Tx := Int × List Int
def repX2 (o : Tx) (mn mx : Int) : Tx := (4, grp (2 ≤ o.1) o.2 ++ repT mn mx)
def catX2 (l r : Tx) : Tx := (2, grp (l.1 = 3) l.2 ++ grp (r.1 = 3 ∨ r.1 = 2) r.2)
def altX2 (l r : Tx) : Tx := (3, l.2 ++ 124 :: grp (r.1 = 3) r.2)
def tPush (st : List Tx) (x : El) : List Tx :=
  if x.kind = 0 then (0, [40, 41]) :: st else if x.kind = 1 then (1, setT x.set) :: st else
  match st with
  | [] => []
  | [o] => if x.kind = 4 then [repX2 o x.mn x.mx] else [o]
  | r :: l :: b => if x.kind = 4 then repX2 r x.mn x.mx :: l :: b else if x.kind = 2 then catX2 l r :: b else altX2 l r :: b
def tRun (st : List Tx) : List El → List Tx
  | [] => st
  | x :: r => tRun (tPush st x) r
theorem tRun_append (st : List Tx) (a b : List El) : tRun st (a ++ b) = tRun (tRun st a) b := by
  induction a generalizing st with
  | nil => rfl
  | cons x r ih => simp [tRun, ih]
def SegT (seg : List El) (t : Tx) : Prop := ∀ st, tRun st seg = t :: st
theorem SegT.one {a : List El} {s t : Tx} (h : SegT a s) (k : SegT a t) : s = t := by
  have := (h []).symm.trans (k [])
  simpa using this
theorem SegT.e : SegT [⟨0, [], 0, 0⟩] (0, [40, 41]) := fun st => by simp [tRun, tPush]
theorem SegT.s (xs : List Int) : SegT [⟨1, xs, 0, 0⟩] (1, setT xs) := fun st => by simp [tRun, tPush]
theorem SegT.cat {a b : List El} {s t : Tx} (ha : SegT a s) (hb : SegT b t) : SegT (a ++ b ++ [⟨2, [], 0, 0⟩]) (catX2 s t) := fun st => by
  rw [tRun_append, tRun_append, ha, hb]
  simp [tRun, tPush]
theorem SegT.alt {a b : List El} {s t : Tx} (ha : SegT a s) (hb : SegT b t) : SegT (a ++ b ++ [⟨3, [], 0, 0⟩]) (altX2 s t) := fun st => by
  rw [tRun_append, tRun_append, ha, hb]
  simp [tRun, tPush]
theorem SegT.rep {a : List El} {s : Tx} (ha : SegT a s) (mn mx : Int) : SegT (a ++ [⟨4, [], mn, mx⟩]) (repX2 s mn mx) := fun st => by
  rw [tRun_append, ha]
  cases st with
  | nil => simp [tRun, tPush]
  | cons q st => simp [tRun, tPush]
theorem spc_ix : ∀ n : Nat, n < 256 → ((0 ≤ Lib.indexByte ([92, 46, 91, 93, 40, 41, 123, 125, 124, 42, 43, 63, 94, 36] : List UInt8) n.toUInt8) ↔ ((n : Int) ∈ spcL)) := by decide +kernel
set_option maxHeartbeats 1000000 in
set_option maxRecDepth 100000 in
theorem slIx (s : ByteArray) (c R : Int) (w : World) (hr : (Extern.BytealgIndexByte.indexByte #[.string s, .int .u8 c]).run Tryz.prog w = .ok (.int .i64 R) w) :
    Calls Tryz.prog 107 #[.string s, .int .u8 c] w fun e w' => e = .returned (.int .i64 R) ∧ w' = w := by
  have HR := hide hr
  clear hr
  go_enter Tryz.func107, Tryz.ntmps107
  go_wp2
  rw [run_callFunc_extern Tryz.func116 (by kernel_rfl) (by kernel_rfl) (by kernel_rfl) (e := Extern.BytealgIndexByte.indexByte) (by kernel_rfl), unhide HR]
  simp only [Result.andThen]
  rw [Oper.upon_value]
  go_wp2
  go_ret
  exact ⟨rfl, rfl⟩
set_option maxHeartbeats 1000000 in
set_option maxRecDepth 100000 in
theorem strIx (s : ByteArray) (c R : Int) (w : World) (hr : (Extern.BytealgIndexByte.indexByte #[.string s, .int .u8 c]).run Tryz.prog w = .ok (.int .i64 R) w) :
    Calls Tryz.prog 99 #[.string s, .int .u8 c] w fun e w' => e = .returned (.int .i64 R) ∧ w' = w := by
  have HR := hide hr
  clear hr
  go_enter Tryz.func99, Tryz.ntmps99
  go_wp2_with fail
  refine (slIx s c R _ (unhide HR)).mono ?_
  rintro e w1 ⟨rfl, rfl⟩
  go_wp2
  go_ret
  exact ⟨rfl, rfl⟩
set_option maxHeartbeats 1000000 in
set_option maxRecDepth 100000 in
theorem isSpecial_any (b : Int) (w : World) (h0 : 0 ≤ b) (h1 : b ≤ 255) :
    Calls Tryz.prog 94 #[.int .i64 b] w fun e w' => RetB e (b ∈ spcL) ∧ w' = w := by
  obtain ⟨n, rfl⟩ := Int.eq_ofNat_of_zero_le h0
  have hn := spc_ix n (by omega)
  rw [← hn]
  have hw8 : IntKind.u8.wrap (n : Int) = (n : Int) := by simp [IntKind.wrap, IntKind.bits, IntKind.signed]; omega
  have hr : (Extern.BytealgIndexByte.indexByte #[.string { data := #[92, 46, 91, 93, 40, 41, 123, 125, 124, 42, 43, 63, 94, 36] }, .int .u8 (n : Int)]).run Tryz.prog w = .ok (.int .i64 (Lib.indexByte ([92, 46, 91, 93, 40, 41, 123, 125, 124, 42, 43, 63, 94, 36] : List UInt8) n.toUInt8)) w := Lib.run_indexByteString _ _ w
  generalize Lib.indexByte ([92, 46, 91, 93, 40, 41, 123, 125, 124, 42, 43, 63, 94, 36] : List UInt8) n.toUInt8 = R at *
  have HR := hide hr
  clear hr hn
  go_enter Tryz.func94, Tryz.ntmps94
  go_wp2_with fail
  refine (strIx _ _ R _ (unhide HR)).mono ?_
  rintro e w1 ⟨rfl, rfl⟩
  go_wp2
  go_ret
  exact ⟨RetB.of (by simp), rfl⟩
theorem hexv_bd {c v : Int} (h : hexv c = some v) : 0 ≤ v ∧ v ≤ 15 := by
  unfold hexv at h
  split at h
  · cases h; omega
  · split at h
    · cases h; omega
    · split at h
      · cases h; omega
      · cases h
theorem drop_at {xs : List Int} {at' : Nat} (h : at' < xs.length) : xs.drop at' = xs[at']?.getD 0 :: xs.drop (at' + 1) := by
  rw [List.drop_eq_getElem_cons h, List.getElem?_eq_getElem h]
  rfl
def EsR (e : Ending) (w w' : World) (N q : Nat) (tv : Value) (xs : List Int) (c : Int) (at' d : Nat) (ov : Bool) : Prop :=
  Obk q w w' ∧ ((besc (c :: xs.drop at') = none ∧ Flt e) ∨ ∃ (v : Int) (at2 : Nat), besc (c :: xs.drop at') = some (v, xs.drop at2) ∧ at2 ≤ xs.length ∧ 0 ≤ v ∧ v ≤ 255 ∧ e = .returned (.int .i64 v) ∧ Rdr w' N q tv xs at2 d ov)
set_option maxHeartbeats 8000000 in
theorem escapedByte_any (w : World) (N q : Nat) (tv : Value) (xs : List Int) (c : Int) (at' d : Nat) (ov : Bool) (h : Rdr w N q tv xs at' d ov) (hb : ∀ x ∈ xs, 0 ≤ x ∧ x ≤ 255) (ha : at' ≤ xs.length) (hl : xs.length ≤ 100000) (c0 : 0 ≤ c) (c1 : c ≤ 255) :
    Calls Tryz.prog 114 #[.pointer (some ⟨q, 0, none⟩), .int .i64 c] w fun e w' => EsR e w w' N q tv xs c at' d ov := by
  have H := hide h
  have HB := hide hb
  by_cases e1 : c = 110
  · subst e1
    go_enter Tryz.func114, Tryz.ntmps114
    go_wp2
    go_ret
    exact ⟨obk_drewN q w 0, .inr ⟨10, at', rfl, ha, by omega, by omega, rfl, unhide H⟩⟩
  by_cases e2 : c = 116
  · subst e2
    go_enter Tryz.func114, Tryz.ntmps114
    go_wp2
    go_ret
    exact ⟨obk_drewN q w 0, .inr ⟨9, at', rfl, ha, by omega, by omega, rfl, unhide H⟩⟩
  by_cases e3 : c = 114
  · subst e3
    go_enter Tryz.func114, Tryz.ntmps114
    go_wp2
    go_ret
    exact ⟨obk_drewN q w 0, .inr ⟨13, at', rfl, ha, by omega, by omega, rfl, unhide H⟩⟩
  by_cases e4 : c = 120
  · subst e4
    have HX := hide (hexDigit_any w N q tv xs at' d ov h hb ha hl)
    have HE : Hid (besc (120 :: xs.drop at') = hex2 (xs.drop at')) := rfl
    clear h hb
    go_enter Tryz.func114, Tryz.ntmps114
    go_wp2_with fail
    refine (unhide HX).mono ?_
    rintro e w1 (⟨hno, ⟨z, rfl⟩, hob⟩ | ⟨hlt, ⟨a, hva, rfl⟩, hR, hob⟩)
    · have HZ : Hid (besc (120 :: xs.drop at') = none) := by
        show besc _ = none
        rw [unhide HE]
        rcases hno with e | e
        · rw [List.drop_eq_nil_of_le (by omega)]; rfl
        · by_cases hlt : at' < xs.length
          · rw [drop_at hlt]
            cases hs : xs.drop (at' + 1) with
            | nil => rfl
            | cons y r => simp only [hex2]; rw [e]; rfl
          · rw [List.drop_eq_nil_of_le (by omega)]; rfl
      have HOB := hide hob
      clear hno hob
      go_wp2
      exact ⟨rfl, unhide HOB, .inl ⟨unhide HZ, _, rfl⟩⟩
    · have HX2 := hide (hexDigit_any w1 N q tv xs (at' + 1) d ov hR (unhide HB) hlt hl)
      have HA := hide hva
      obtain ⟨a0, a1⟩ := hexv_bd hva
      have HOB := hide hob
      have HLT := hide hlt
      clear hva hR hob hlt
      go_wp2_with fail
      refine (unhide HX2).mono ?_
      rintro e w2 (⟨hno, ⟨z, rfl⟩, hob2⟩ | ⟨hlt2, ⟨b, hvb, rfl⟩, hR2, hob2⟩)
      · have HZ : Hid (besc (120 :: xs.drop at') = none) := by
          show besc _ = none
          rw [unhide HE, drop_at (unhide HLT)]
          by_cases hlt : at' + 1 < xs.length
          · rw [drop_at hlt]
            simp only [hex2]
            rcases hno with e | e
            · omega
            · rw [unhide HA, e]; rfl
          · rw [List.drop_eq_nil_of_le (by omega)]; rfl
        have HOB2 := hide ((unhide HOB).trans hob2)
        clear hno hob2
        go_wp2
        exact ⟨rfl, unhide HOB2, .inl ⟨unhide HZ, _, rfl⟩⟩
      · obtain ⟨b0, b1⟩ := hexv_bd hvb
        have HZ : Hid (besc (120 :: xs.drop at') = some (a * 16 + b, xs.drop (at' + 1 + 1))) := by
          show besc _ = _
          rw [unhide HE, drop_at (unhide HLT), drop_at hlt2]
          simp only [hex2]
          rw [unhide HA, hvb]
          rfl
        have HOB2 := hide ((unhide HOB).trans hob2)
        have HR2 := hide hR2
        have hle : at' + 1 + 1 ≤ xs.length := by omega
        clear hvb hob2 hR2 hlt2
        go_wp2
        go_ret
        exact ⟨unhide HOB2, .inr ⟨a * 16 + b, _, unhide HZ, hle, by omega, by omega, rfl, unhide HR2⟩⟩
  by_cases e5 : c = 45
  · subst e5
    go_enter Tryz.func114, Tryz.ntmps114
    go_wp2
    go_ret
    exact ⟨obk_drewN q w 0, .inr ⟨45, at', rfl, ha, by omega, by omega, rfl, unhide H⟩⟩
  have HS := hide (isSpecial_any c w c0 c1)
  have HF := hide (fail_any w N q tv xs at' d ov h)
  clear h hb
  go_enter Tryz.func114, Tryz.ntmps114
  go_wp2_with fail
  refine (unhide HS).mono ?_
  rintro e w1 ⟨hret, rfl⟩
  rcases hret.cases with ⟨rfl, hy⟩ | ⟨rfl, hy⟩
  · have HZ : Hid (besc (c :: xs.drop at') = some (c, xs.drop at')) := by show besc _ = _; rw [besc, if_pos (.inl hy)]
    clear hy
    go_wp2
    go_ret
    exact ⟨obk_drewN q w1 0, .inr ⟨c, at', unhide HZ, ha, c0, c1, rfl, unhide H⟩⟩
  · have HZ : Hid (besc (c :: xs.drop at') = none) := by
      show besc _ = _
      rw [besc, if_neg (by rintro (k | k); exact hy k; exact e5 k), if_neg e1, if_neg e2, if_neg e3, if_neg e4]
    clear hy
    go_wp2_with fail
    refine (unhide HF).mono ?_
    rintro e w2 ⟨rfl, rfl⟩
    go_wp2
    exact ⟨rfl, obk_drewN q _ 0, .inl ⟨unhide HZ, _, rfl⟩⟩
def cmp4 (g : Nat → Nat) (j : Nat) : Nat := if j < 4 then 18446744073709551615 - g j else 0
theorem cmp4_fit (g : Nat → Nat) : Fit (cmp4 g) := fun j => by unfold cmp4; split <;> omega
theorem cmp4_bt {g : Nat → Nat} (hg : Fit g) (b : Nat) : Bt (cmp4 g) b = (decide (b < 256) && !Bt g b) := by
  unfold Bt cmp4
  by_cases hb : b < 256
  · rw [if_pos (by omega)]
    have := Nat.testBit_two_pow_sub_succ (show g (b / 64) < 2 ^ 64 from hg (b / 64)) (b % 64)
    rw [show (2 : Nat) ^ 64 - (g (b / 64) + 1) = 18446744073709551615 - g (b / 64) by omega] at this
    rw [this]
    simp [hb, show b % 64 < 64 by omega]
  · rw [if_neg (by omega)]
    simp [hb]
theorem xor_all {a : Nat} (h : a < 18446744073709551616) : 18446744073709551615 ^^^ a = 18446744073709551615 - a := by
  apply Nat.eq_of_testBit_eq
  intro i
  have h1 := Nat.testBit_two_pow_sub_one 64 i
  have h2 := Nat.testBit_two_pow_sub_succ (show a < 2 ^ 64 from h) i
  rw [show (2 : Nat) ^ 64 - 1 = 18446744073709551615 by decide] at h1
  rw [show (2 : Nat) ^ 64 - (a + 1) = 18446744073709551615 - a by omega] at h2
  rw [Nat.testBit_xor, h1, h2]
  by_cases hi : i < 64
  · simp [hi]
  · have : a.testBit i = false := Nat.testBit_lt_two_pow (Nat.lt_of_lt_of_le h (by
      have : (2 : Nat) ^ 64 ≤ 2 ^ i := Nat.pow_le_pow_right (by decide) (by omega)
      exact this))
    simp [hi, this]
theorem xor_u64 {a : Nat} (h : a < 18446744073709551616) : bits BinOp.xor IntKind.u64 (if IntKind.u64.signed = true then -1 else IntKind.u64.max) (a : Int) = ((18446744073709551615 - a : Nat) : Int) := by
  rw [← xor_all h]
  exact bits_xor_u64_nat 18446744073709551615 a (by decide) h
set_option maxHeartbeats 2000000 in
set_option maxRecDepth 100000 in
theorem complement_w (g : Nat → Nat) (w : World) (hg : Fit g) : Calls Tryz.prog 91 #[ws4 g] w fun e w' => e = .returned (ws4 (cmp4 g)) ∧ Below w.heap.size w w' := by
  unfold ws4
  have Hg := hide hg
  clear hg
  go_enter Tryz.func91, Tryz.ntmps91
  go_wp2
  go_loopw [4] (fun iv wr => ∃ i : Nat, i ≤ 4 ∧ iv = .int .i64 i ∧ wr.rowIs w.heap.size 102 4 (fun j => .int .u64 ((if j < i then cmp4 g j else g j : Nat) : Int)) ∧ (∃ g : Nat → Value, wr.rowIs (w.heap.size + 1) 102 4 g) ∧ Below w.heap.size w wr) (fun iv _ => 4 - (intOf iv).toNat)
  case atStart =>
    refine ⟨0, by omega, rfl, ((four_row w _ g).alloc _).congr (fun j hj => by simp), ⟨fun j => .int .u64 ((fun _ => 0 : Nat → Nat) j : Nat), ?_⟩, below2 w _ _⟩
    have h := zero_row (w.alloc (.cells #[.int .u64 (g 0 : Nat), .int .u64 (g 1 : Nat), .int .u64 (g 2 : Nat), .int .u64 (g 3 : Nat)] 102)) 102
    rw [sz_alloc] at h; exact h
  case round =>
    obtain ⟨i, hi, rfl, hrow, ⟨g2, hrow2⟩, hb⟩ := hrel
    by_cases hlt : i < 4
    · have hlt' : (i : Int) < 4 := by omega
      have c0 := hrow.cell hlt
      rw [if_neg (Nat.lt_irrefl _)] at c0
      have f0 := hrow.frozen i
      have hgi := unhide Hg i
      have Hrow := hide hrow
      have Hrow2 := hide hrow2
      clear hrow hrow2
      have hx := xor_u64 hgi
      have HX := hide hx
      clear hx
      go_wp2
      rw [unhide HX]
      refine ⟨⟨i + 1, by omega, by go_num, ?_, ⟨g2, ?_⟩, ?_⟩, by simp [intOf]; omega⟩
      · refine ((unhide Hrow).set i _).congr (fun j hj => ?_)
        by_cases e : j = i
        · subst e; simp [cmp4, hlt]
        · have e2 : (j < i + 1) ↔ j < i := by omega
          simp [e, e2]
      · exact (unhide Hrow2).setOther (by show w.heap.size + 1 ≠ w.heap.size; omega) _
      · exact bput hb (Nat.le_refl _) _
    · obtain rfl : i = 4 := by omega
      have c0 := hrow.cell (i := 0) (by omega)
      have c1 := hrow.cell (i := 1) (by omega)
      have c2 := hrow.cell (i := 2) (by omega)
      have c3 := hrow.cell (i := 3) (by omega)
      rw [if_pos (by omega)] at c0 c1 c2 c3
      have d0 := hrow2.cell (i := 0) (by omega)
      have d1 := hrow2.cell (i := 1) (by omega)
      have d2 := hrow2.cell (i := 2) (by omega)
      have d3 := hrow2.cell (i := 3) (by omega)
      have f0 := hrow2.frozen 0
      have f1 := hrow2.frozen 1
      have f2 := hrow2.frozen 2
      have f3 := hrow2.frozen 3
      clear hrow hrow2
      go_wp2
      refine bodyPost_ret (v := .agg #[.int .u64 (cmp4 g 0 : Nat), .int .u64 (cmp4 g 1 : Nat), .int .u64 (cmp4 g 2 : Nat), .int .u64 (cmp4 g 3 : Nat)]) (by simp [results, Tryz.results91, go_sem, d0, d1, d2, d3]) rfl ⟨rfl, ?_⟩
      exact bput (bput (bput (bput hb (by omega) _) (by omega) _) (by omega) _) (by omega) _
theorem zero_fit : Fit (fun _ => 0) := fun _ => by show 0 < 18446744073709551616; omega
theorem zero_bt (b : Nat) : Bt (fun _ => 0) b = false := by simp [Bt]
theorem canon_all : Canon [0, 255] := ⟨rfl, fun i hi => by
    match i, hi with
    | 0, _ => simp
    | 1, _ => simp, fun m hm => by
    obtain rfl : m = 0 := by simp at hm; omega
    simp [PairOk]⟩
theorem canon_dot : Canon [0, 9, 11, 255] := ⟨rfl, fun i hi => by
    match i, hi with
    | 0, _ => simp
    | 1, _ => simp
    | 2, _ => simp
    | 3, _ => simp, fun m hm => by
    have : m = 0 ∨ m = 1 := by simp at hm; omega
    rcases this with rfl | rfl <;> simp [PairOk]⟩
theorem words_all : WordsOf [0, 255] (cmp4 (fun _ => 0)) := ⟨cmp4_fit _, fun b => by
  rw [cmp4_bt zero_fit, zero_bt]
  show (decide (b < 256) && !false) = (false || decide ((0 : Int) ≤ (b : Int) ∧ (b : Int) ≤ 255))
  simp
  omega⟩
theorem words_dot {g : Nat → Nat} (hf : Fit g) (h : ∀ b : Nat, Bt g b = (false || decide ((10 : Int) ≤ (b : Int) ∧ (b : Int) ≤ 10))) : WordsOf [0, 9, 11, 255] (cmp4 g) := ⟨cmp4_fit _, fun b => by
  rw [cmp4_bt hf, h]
  show (decide (b < 256) && !(false || decide ((10 : Int) ≤ (b : Int) ∧ (b : Int) ≤ 10))) = ((false || decide ((0 : Int) ≤ (b : Int) ∧ (b : Int) ≤ 9)) || decide ((11 : Int) ≤ (b : Int) ∧ (b : Int) ≤ 255))
  rw [Bool.eq_iff_iff]
  simp
  omega⟩
theorem box4 {w w1 : World} {t : TypeId} (hb : Below (w.heap.size + 1) (w.alloc (.cells #[.int .u64 0, .int .u64 0, .int .u64 0, .int .u64 0] t)) w1) : w1.rowIs w.heap.size t 4 (fun j => .int .u64 ((fun _ => 0 : Nat → Nat) j : Nat)) :=
  World.rowIs.of_block (zero_row w t) (hb.block _ (Nat.lt_succ_self _))
set_option maxHeartbeats 2000000 in
set_option maxRecDepth 100000 in
theorem allBytes_w (w : World) : Calls Tryz.prog 76 #[] w fun e w' => (∃ g, e = .returned (ws4 g) ∧ WordsOf [0, 255] g) ∧ Below w.heap.size w w' := by
  have hB0 := below1 w (.cells #[.int .u64 0, .int .u64 0, .int .u64 0, .int .u64 0] 102)
  go_enter Tryz.func76, Tryz.ntmps76
  go_wp2_with fail
  refine (complement_w (fun _ => 0) _ zero_fit).mono ?_
  rintro e w1 ⟨rfl, hb1⟩
  have hrow := box4 (hb1.mono (by rw [sz_alloc]; omega))
  have hB1 : Below w.heap.size w w1 := hB0.trans (hb1.mono (by rw [sz_alloc]; omega))
  have d0 := hrow.cell (i := 0) (by omega)
  have d1 := hrow.cell (i := 1) (by omega)
  have d2 := hrow.cell (i := 2) (by omega)
  have d3 := hrow.cell (i := 3) (by omega)
  have f0 := hrow.frozen 0
  have f1 := hrow.frozen 1
  have f2 := hrow.frozen 2
  have f3 := hrow.frozen 3
  have HW := hide words_all
  clear hrow hb1
  generalize cmp4 (fun _ => 0) = q at *
  unfold ws4
  go_wp2
  refine bodyPost_ret (v := .agg #[.int .u64 (q 0 : Nat), .int .u64 (q 1 : Nat), .int .u64 (q 2 : Nat), .int .u64 (q 3 : Nat)]) (by simp [results, Tryz.results76, go_sem, d0, d1, d2, d3]) rfl ⟨⟨q, rfl, unhide HW⟩, ?_⟩
  exact bput (bput (bput (bput hB1 (by omega) _) (by omega) _) (by omega) _) (by omega) _
structure Gw (q : Nat) (w w' : World) : Prop where
  os : w'.os = w.os
  tape : w'.tape = w.tape
  output : w'.output = w.output
  size : w.heap.size ≤ w'.heap.size
  block : ∀ k, k < w.heap.size → k ≠ q → w'.heap[k]? = w.heap[k]?
theorem Gw.refl (q : Nat) (w : World) : Gw q w w := ⟨rfl, rfl, rfl, Nat.le_refl _, fun _ _ _ => rfl⟩
theorem Gw.trans {q : Nat} {a b c : World} (h : Gw q a b) (k : Gw q b c) : Gw q a c := ⟨k.os.trans h.os, k.tape.trans h.tape, k.output.trans h.output, Nat.le_trans h.size k.size, fun i hi hq => (k.block i (Nat.lt_of_lt_of_le hi h.size) hq).trans (h.block i hi hq)⟩
theorem Obk.gw {q : Nat} {a b : World} (h : Obk q a b) : Gw q a b := ⟨h.os, h.tape, h.output, by rw [h.size]; exact Nat.le_refl _, fun k _ hq => h.block k hq⟩
theorem gw_of {q m : Nat} {a b : World} (h : Below m a b) (hm : a.heap.size ≤ m) : Gw q a b := ⟨h.os, h.tape, h.output, h.size, fun k hk _ => h.block k (by omega)⟩
theorem gw_put {q m : Nat} {a b : World} (h : Gw q a b) (hm : a.heap.size ≤ m) (o : Nat) (u : Value) : Gw q a (b.setCell ⟨m, o, none⟩ u) := ⟨h.os, h.tape, h.output, by simp [World.setCell]; exact h.size, fun k hk hq => (Below.heap_setCell _ _ _ _ (by show k ≠ m; omega)).trans (h.block k hk hq)⟩
theorem Gw.row {q m : Nat} {a b : World} {B : Nat} {t : TypeId} {F : Nat → Value} (h : Gw q a b) (hr : a.rowIs B t m F) (hB : B < a.heap.size) (hq : B ≠ q) : b.rowIs B t m F := World.rowIs.of_block hr (h.block B hB hq)
theorem Gw.below {q m : Nat} {a b : World} (h : Gw q a b) (hm : m ≤ q) (ha : m ≤ a.heap.size) : Below m a b := ⟨h.os, h.tape, h.output, h.size, fun k hk => h.block k (by omega) (by omega)⟩
theorem Rdr.in {w : World} {N q : Nat} {tv : Value} {xs : List Int} {at' d : Nat} {ov : Bool} (h : Rdr w N q tv xs at' d ov) : q < w.heap.size := row_lt h.row
theorem Rdr.keep {w w' : World} {N q m : Nat} {tv : Value} {xs : List Int} {at' d : Nat} {ov : Bool} (h : Rdr w N q tv xs at' d ov) (hb : Below m w w') (hm : w.heap.size ≤ m) : Rdr w' N q tv xs at' d ov := by
  have := h.in
  have := h.lt
  exact ⟨World.rowIs.of_block h.row (hb.block q (by omega)), h.txt.undr hb (by omega), h.lt⟩
theorem Rdr.put {w : World} {N q m o : Nat} {tv : Value} {xs : List Int} {at' d : Nat} {ov : Bool} (h : Rdr w N q tv xs at' d ov) (hm : q < m) (u : Value) : Rdr (w.setCell ⟨m, o, none⟩ u) N q tv xs at' d ov := by
  have h9 := h.lt
  refine ⟨World.rowIs.setOther h.row (by show q ≠ m; omega) u, h.txt.undr (m := N) ⟨rfl, rfl, rfl, by simp [World.setCell], fun k hk => Below.heap_setCell _ _ _ _ (by show k ≠ m; omega)⟩ (Nat.le_refl _), h.lt⟩
def or4 (g h : Nat → Nat) (j : Nat) : Nat := g j ||| h j
theorem or4_fit {g h : Nat → Nat} (hg : Fit g) (hh : Fit h) : Fit (or4 g h) := fun j => by
  have := Nat.or_lt_two_pow (n := 64) (show g j < 2 ^ 64 from hg j) (show h j < 2 ^ 64 from hh j)
  exact this
theorem or4_bt (g h : Nat → Nat) (b : Nat) : Bt (or4 g h) b = (Bt g b || Bt h b) := by unfold Bt or4; rw [Nat.testBit_or]
set_option maxHeartbeats 2000000 in
set_option maxRecDepth 100000 in
theorem union_w (g h : Nat → Nat) (w : World) (hg : Fit g) (hh : Fit h) : Calls Tryz.prog 112 #[ws4 g, ws4 h] w fun e w' => e = .returned (ws4 (or4 g h)) ∧ Below w.heap.size w w' := by
  unfold ws4
  have Hg := hide hg
  have Hh := hide hh
  clear hg hh
  go_enter Tryz.func112, Tryz.ntmps112
  go_wp2
  go_loopw [6] (fun iv wr => ∃ i : Nat, i ≤ 4 ∧ iv = .int .i64 i ∧ wr.rowIs w.heap.size 102 4 (fun j => .int .u64 ((if j < i then or4 g h j else g j : Nat) : Int)) ∧ wr.rowIs (w.heap.size + 1) 102 4 (fun j => .int .u64 (h j : Nat)) ∧ (∃ g : Nat → Value, wr.rowIs (w.heap.size + 2) 102 4 g) ∧ Below w.heap.size w wr) (fun iv _ => 4 - (intOf iv).toNat)
  case atStart =>
    refine ⟨0, by omega, rfl, (((four_row w _ g).alloc _).alloc _).congr (fun j hj => by simp), ?_, ⟨fun j => .int .u64 ((fun _ => 0 : Nat → Nat) j : Nat), ?_⟩, below3 w _ _ _⟩
    · have h9 := (four_row (w.alloc (.cells #[.int .u64 (g 0 : Nat), .int .u64 (g 1 : Nat), .int .u64 (g 2 : Nat), .int .u64 (g 3 : Nat)] 102)) 102 h)
      rw [sz_alloc] at h9; exact h9.alloc _
    · have h9 := zero_row ((w.alloc (.cells #[.int .u64 (g 0 : Nat), .int .u64 (g 1 : Nat), .int .u64 (g 2 : Nat), .int .u64 (g 3 : Nat)] 102)).alloc (.cells #[.int .u64 (h 0 : Nat), .int .u64 (h 1 : Nat), .int .u64 (h 2 : Nat), .int .u64 (h 3 : Nat)] 102)) 102
      rw [sz_alloc, sz_alloc] at h9; exact h9
  case round =>
    obtain ⟨i, hi, rfl, hrow, hrow1, ⟨g2, hrow2⟩, hb⟩ := hrel
    by_cases hlt : i < 4
    · have hlt' : (i : Int) < 4 := by omega
      have c0 := hrow.cell hlt
      rw [if_neg (Nat.lt_irrefl _)] at c0
      have c1 := hrow1.cell hlt
      have f0 := hrow.frozen i
      have hgi := unhide Hg i
      have hhi := unhide Hh i
      have Hrow := hide hrow
      have Hrow1 := hide hrow1
      have Hrow2 := hide hrow2
      have HX := hide (bits_or_u64_nat (g i) (h i) hgi hhi)
      clear hrow hrow1 hrow2
      go_wp2
      go_region
      go_wp2
      rw [unhide HX]
      refine ⟨⟨i + 1, by omega, by go_num, ?_, ?_, ⟨g2, ?_⟩, ?_⟩, by simp [intOf]; omega⟩
      · refine (((unhide Hrow).set i _).congr (fun j hj => ?_)).drew
        by_cases e : j = i
        · subst e; simp [or4]
        · have e2 : (j < i + 1) ↔ j < i := by omega
          simp [e, e2]
      · exact ((unhide Hrow1).setOther (by show w.heap.size + 1 ≠ w.heap.size; omega) _).drew
      · exact ((unhide Hrow2).setOther (by show w.heap.size + 2 ≠ w.heap.size; omega) _).drew
      · exact (bput hb (Nat.le_refl _) _).drew
    · obtain rfl : i = 4 := by omega
      have c0 := hrow.cell (i := 0) (by omega)
      have c1 := hrow.cell (i := 1) (by omega)
      have c2 := hrow.cell (i := 2) (by omega)
      have c3 := hrow.cell (i := 3) (by omega)
      rw [if_pos (by omega)] at c0 c1 c2 c3
      have d0 := hrow2.cell (i := 0) (by omega)
      have d1 := hrow2.cell (i := 1) (by omega)
      have d2 := hrow2.cell (i := 2) (by omega)
      have d3 := hrow2.cell (i := 3) (by omega)
      have f0 := hrow2.frozen 0
      have f1 := hrow2.frozen 1
      have f2 := hrow2.frozen 2
      have f3 := hrow2.frozen 3
      clear hrow hrow1 hrow2
      go_wp2
      refine bodyPost_ret (v := .agg #[.int .u64 (or4 g h 0 : Nat), .int .u64 (or4 g h 1 : Nat), .int .u64 (or4 g h 2 : Nat), .int .u64 (or4 g h 3 : Nat)]) (by simp [results, Tryz.results112, go_sem, d0, d1, d2, d3]) rfl ⟨rfl, ?_⟩
      exact bput (bput (bput (bput hb (by omega) _) (by omega) _) (by omega) _) (by omega) _
set_option maxHeartbeats 2000000 in
set_option maxRecDepth 100000 in
theorem single_any (x : Int) (w : World) (x0 : 0 ≤ x) (x1 : x ≤ 255) : Calls Tryz.prog 92 #[.int .i64 x] w fun e w' => (∃ g, e = .returned (ws4 g) ∧ Fit g ∧ ∀ b : Nat, Bt g b = decide (x ≤ (b : Int) ∧ (b : Int) ≤ x)) ∧ Below w.heap.size w w' := by
  have hB0 := below1 w (.cells #[.int .u64 0, .int .u64 0, .int .u64 0, .int .u64 0] 102)
  go_enter Tryz.func92, Tryz.ntmps92
  go_wp2_with fail
  refine (with_w (fun _ => 0) x x _ zero_fit (by omega) (by omega) (by omega)).mono ?_
  rintro e w1 ⟨q, rfl, hq, hbt, hb1⟩
  have hrow := box4 (hb1.mono (by rw [sz_alloc]; omega))
  have hB1 : Below w.heap.size w w1 := hB0.trans (hb1.mono (by rw [sz_alloc]; omega))
  have d0 := hrow.cell (i := 0) (by omega)
  have d1 := hrow.cell (i := 1) (by omega)
  have d2 := hrow.cell (i := 2) (by omega)
  have d3 := hrow.cell (i := 3) (by omega)
  have f0 := hrow.frozen 0
  have f1 := hrow.frozen 1
  have f2 := hrow.frozen 2
  have f3 := hrow.frozen 3
  have HQ := hide hq
  have HB : Hid (∀ b : Nat, Bt q b = decide (x ≤ (b : Int) ∧ (b : Int) ≤ x)) := fun b => by rw [hbt b, zero_bt, Bool.false_or]
  clear hrow hb1 hq hbt
  unfold ws4
  go_wp2
  refine bodyPost_ret (v := .agg #[.int .u64 (q 0 : Nat), .int .u64 (q 1 : Nat), .int .u64 (q 2 : Nat), .int .u64 (q 3 : Nat)]) (by simp [results, Tryz.results92, go_sem, d0, d1, d2, d3]) rfl ⟨⟨q, rfl, unhide HQ, unhide HB⟩, ?_⟩
  exact bput (bput (bput (bput hB1 (by omega) _) (by omega) _) (by omega) _) (by omega) _
set_option maxHeartbeats 2000000 in
set_option maxRecDepth 100000 in
theorem allBut_any (w : World) : Calls Tryz.prog 77 #[] w fun e w' => (∃ g, e = .returned (ws4 g) ∧ WordsOf [0, 9, 11, 255] g) ∧ Below w.heap.size w w' := by
  have hB0 := below1 w (.cells #[.int .u64 0, .int .u64 0, .int .u64 0, .int .u64 0] 102)
  go_enter Tryz.func77, Tryz.ntmps77
  go_wp2_with fail
  refine (single_any 10 _ (by omega) (by omega)).mono ?_
  rintro e w0 ⟨⟨g0, rfl, hf0, hbt0⟩, hb0⟩
  have HF := hide hf0
  have HW := hide (words_dot hf0 (fun b => by rw [hbt0 b, Bool.false_or]))
  have hz0 := hb0.size
  rw [sz_alloc] at hz0
  have Hb0 := hide hb0
  clear hf0 hbt0 hb0
  unfold ws4
  go_wp2_with fail
  refine (complement_w g0 _ (unhide HF)).mono ?_
  rintro e w1 ⟨rfl, hb1⟩
  have hrow := box4 (Below.trans ((unhide Hb0).mono (by rw [sz_alloc]; omega)) (hb1.mono (by omega)))
  have hB1 : Below w.heap.size w w1 := hB0.trans ((Below.trans ((unhide Hb0).mono (by rw [sz_alloc]; omega)) (hb1.mono (by omega))))
  have d0 := hrow.cell (i := 0) (by omega)
  have d1 := hrow.cell (i := 1) (by omega)
  have d2 := hrow.cell (i := 2) (by omega)
  have d3 := hrow.cell (i := 3) (by omega)
  have f0 := hrow.frozen 0
  have f1 := hrow.frozen 1
  have f2 := hrow.frozen 2
  have f3 := hrow.frozen 3
  clear hrow hb1 Hb0
  generalize cmp4 g0 = q at *
  unfold ws4
  go_wp2
  refine bodyPost_ret (v := .agg #[.int .u64 (q 0 : Nat), .int .u64 (q 1 : Nat), .int .u64 (q 2 : Nat), .int .u64 (q 3 : Nat)]) (by simp [results, Tryz.results77, go_sem, d0, d1, d2, d3]) rfl ⟨⟨q, rfl, unhide HW⟩, ?_⟩
  exact bput (bput (bput (bput hB1 (by omega) _) (by omega) _) (by omega) _) (by omega) _
end Go.Proofs.YtcmofgehhdfifaaGreatDoor
