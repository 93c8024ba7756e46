import Derived.Test.YtinhliecfjlocaaGreatX5
import Derived.Test.YtinhliecfjlocaaGreatPk14
import Derived.Test.YtinhliecfjlocaaGreatPk7
import Derived.Test.YtinhliecfjlocaaGreatC5
import Derived.Test.YtinhliecfjlocaaGreatX6
import Derived.Test.YtinhliecfjlocaaGreatPk19
import Derived.Test.YtinhliecfjlocaaGreatPk9
import Derived.Test.YtinhliecfjlocaaGreatX4
import Derived.Test.YtinhliecfjlocaaGreatPk17
import Derived.Test.YtinhliecfjlocaaGreatX3
namespace Go.Proofs.YtinhliecfjlocaaGreat
open Go.RowKit
abbrev Rl := Nat → Nat → Prop
def rEps (n : Nat) : Rl := fun i j => i = j ∧ j ≤ n
def rOne (n : Nat) (hs : Nat → Prop) : Rl := fun i j => j = i + 1 ∧ i < n ∧ hs i
def rCat (A B : Rl) : Rl := fun i j => ∃ m, A i m ∧ B m j
def rAlt (A B : Rl) : Rl := fun i j => A i j ∨ B i j
def rPow (n : Nat) (A : Rl) : Nat → Rl
  | 0 => rEps n
  | k + 1 => rCat (rPow n A k) A
def rRep (n : Nat) (A : Rl) (mn mx : Int) : Rl := fun i j => ∃ k : Nat, mn ≤ k ∧ (mx = -1 ∨ (k : Int) ≤ mx) ∧ rPow n A k i j
def RB (n : Nat) (A : Rl) : Prop := ∀ i j, A i j → i ≤ j ∧ j ≤ n
theorem rb_eps (n : Nat) : RB n (rEps n) := fun _ _ h => ⟨Nat.le_of_eq h.1, h.2⟩
theorem rb_one (n : Nat) (hs : Nat → Prop) : RB n (rOne n hs) := fun _ _ h => by obtain ⟨rfl, h, -⟩ := h; omega
theorem RB.cat {n : Nat} {A B : Rl} (ha : RB n A) (hb : RB n B) : RB n (rCat A B) := fun _ _ ⟨_, h1, h2⟩ => by
  have := ha _ _ h1; have := hb _ _ h2; omega
theorem RB.alt {n : Nat} {A B : Rl} (ha : RB n A) (hb : RB n B) : RB n (rAlt A B) := fun _ _ h => h.elim (ha _ _) (hb _ _)
theorem RB.pow {n : Nat} {A : Rl} (ha : RB n A) : ∀ k, RB n (rPow n A k)
  | 0 => rb_eps n
  | k + 1 => (RB.pow ha k).cat ha
theorem RB.rep {n : Nat} {A : Rl} (ha : RB n A) (mn mx : Int) : RB n (rRep n A mn mx) := fun _ _ ⟨k, _, _, h⟩ => ha.pow k _ _ h
theorem rl_ext {A B : Rl} (h : ∀ i j, A i j ↔ B i j) : A = B := funext fun i => funext fun j => propext (h i j)
theorem cat_eps {n : Nat} {A : Rl} (ha : RB n A) : rCat A (rEps n) = A := rl_ext fun _ j => ⟨fun ⟨_, h1, h2, _⟩ => h2 ▸ h1, fun h => ⟨j, h, rfl, (ha _ _ h).2⟩⟩
theorem eps_cat {n : Nat} {A : Rl} (ha : RB n A) : rCat (rEps n) A = A := rl_ext fun i _ => ⟨fun ⟨_, ⟨h1, _⟩, h2⟩ => h1 ▸ h2, fun h => ⟨i, ⟨rfl, by have := ha _ _ h; omega⟩, h⟩⟩
theorem cat_assoc (A B C : Rl) : rCat (rCat A B) C = rCat A (rCat B C) := rl_ext fun _ _ => ⟨fun ⟨m, ⟨k, h1, h2⟩, h3⟩ => ⟨k, h1, m, h2, h3⟩, fun ⟨k, h1, m, h2, h3⟩ => ⟨m, ⟨k, h1, h2⟩, h3⟩⟩
theorem pow_front {n : Nat} {A : Rl} (ha : RB n A) : ∀ k, rPow n A (k + 1) = rCat A (rPow n A k)
  | 0 => by show rCat (rEps n) A = rCat A (rEps n); rw [eps_cat ha, cat_eps ha]
  | k + 1 => by show rCat (rPow n A (k + 1)) A = rCat A (rCat (rPow n A k) A); rw [pow_front ha k, cat_assoc]
theorem pow_add {n : Nat} {A : Rl} (ha : RB n A) (k : Nat) : ∀ m, rPow n A (k + m) = rCat (rPow n A k) (rPow n A m)
  | 0 => (cat_eps (ha.pow k)).symm
  | m + 1 => by show rCat (rPow n A (k + m)) A = rCat (rPow n A k) (rCat (rPow n A m) A); rw [pow_add ha k m, cat_assoc]
def lPush (n : Nat) (hs : List Int → Nat → Prop) (st : List Rl) (x : El) : List Rl :=
  if x.kind = 0 then rEps n :: st else if x.kind = 1 then rOne n (hs x.set) :: st else
  match st with
  | [] => []
  | [o] => if x.kind = 4 then [rRep n o x.mn x.mx] else [o]
  | r :: l :: b => if x.kind = 4 then rRep n r x.mn x.mx :: l :: b else (if x.kind = 2 then rCat l r else rAlt l r) :: b
def lRun (n : Nat) (hs : List Int → Nat → Prop) (st : List Rl) : List El → List Rl
  | [] => st
  | x :: r => lRun n hs (lPush n hs st x) r
section
variable {n : Nat} {hs : List Int → Nat → Prop}
theorem lRun_append (st : List Rl) (a b : List El) : lRun n hs st (a ++ b) = lRun n hs (lRun n hs st a) b := by
  induction a generalizing st with
  | nil => rfl
  | cons x r ih => simp [lRun, ih]
def SegL (n : Nat) (hs : List Int → Nat → Prop) (seg : List El) (R : Rl) : Prop := (∀ st, lRun n hs st seg = R :: st) ∧ RB n R
theorem SegL.one {a : List El} {A B : Rl} (h : SegL n hs a A) (k : SegL n hs a B) : A = B := by
  have := (h.1 []).symm.trans (k.1 [])
  simpa using this
theorem SegL.e : SegL n hs [⟨0, [], 0, 0⟩] (rEps n) := ⟨fun st => by simp [lRun, lPush], rb_eps n⟩
theorem SegL.s (xs : List Int) : SegL n hs [⟨1, xs, 0, 0⟩] (rOne n (hs xs)) := ⟨fun st => by simp [lRun, lPush], rb_one n _⟩
theorem SegL.cat {a b : List El} {A B : Rl} (ha : SegL n hs a A) (hb : SegL n hs b B) : SegL n hs (a ++ b ++ [⟨2, [], 0, 0⟩]) (rCat A B) := ⟨fun st => by
  rw [lRun_append, lRun_append, ha.1, hb.1]
  simp [lRun, lPush], ha.2.cat hb.2⟩
theorem SegL.alt {a b : List El} {A B : Rl} (ha : SegL n hs a A) (hb : SegL n hs b B) : SegL n hs (a ++ b ++ [⟨3, [], 0, 0⟩]) (rAlt A B) := ⟨fun st => by
  rw [lRun_append, lRun_append, ha.1, hb.1]
  simp [lRun, lPush], ha.2.alt hb.2⟩
theorem SegL.rep {a : List El} {A : Rl} (ha : SegL n hs a A) (mn mx : Int) : SegL n hs (a ++ [⟨4, [], mn, mx⟩]) (rRep n A mn mx) := ⟨fun st => by
  rw [lRun_append, ha.1]
  cases st <;> simp [lRun, lPush], ha.2.rep mn mx⟩
theorem SegL.jn_rep {a p : List El} {A P : Rl} (ha : SegL n hs a A) (hp : SegL n hs p P) (ps : List (List El)) (hne : ps ≠ []) (hj : SegL n hs (jn ps) P) : ∀ k, SegL n hs (jn (ps ++ List.replicate k a)) (rCat P (rPow n A k))
  | 0 => by
    simp only [List.replicate_zero, List.append_nil]
    show SegL n hs (jn ps) (rCat P (rEps n))
    rw [cat_eps hp.2]; exact hj
  | k + 1 => by
    rw [List.replicate_succ', ← List.append_assoc, jn_snoc (by simp [hne])]
    have := (SegL.jn_rep ha hp ps hne hj k).cat ha
    rw [cat_assoc] at this
    exact this
theorem SegL.jn_pow {a : List El} {A : Rl} (ha : SegL n hs a A) (k : Nat) : SegL n hs (jn (List.replicate (k + 1) a)) (rPow n A (k + 1)) := by
  have h := SegL.jn_rep ha ha [a] (by simp) (by simpa [jn] using ha) k
  rw [← pow_front ha.2] at h
  rw [List.replicate_succ]; exact h
theorem pow_opt {A : Rl} (ha : RB n A) : ∀ (k : Nat) (i j : Nat), rPow n (rAlt A (rEps n)) k i j ↔ ∃ m, m ≤ k ∧ rPow n A m i j
  | 0, i, j => ⟨fun h => ⟨0, Nat.le_refl _, h⟩, fun ⟨m, h1, h2⟩ => by
    obtain rfl : m = 0 := (by omega)
    exact h2⟩
  | k + 1, i, j => by
    constructor
    · rintro ⟨q, h1, h2⟩
      obtain ⟨m, h3, h4⟩ := (pow_opt ha k i q).1 h1
      rcases h2 with h2 | ⟨rfl, -⟩
      · exact ⟨m + 1, by omega, q, h4, h2⟩
      · exact ⟨m, by omega, h4⟩
    · rintro ⟨m, h1, h2⟩
      by_cases e : m ≤ k
      · exact ⟨j, (pow_opt ha k i j).2 ⟨m, e, h2⟩, Or.inr ⟨rfl, ((ha.pow m) _ _ h2).2⟩⟩
      · obtain rfl : m = k + 1 := by omega
        obtain ⟨q, h3, h4⟩ := h2
        exact ⟨q, (pow_opt ha k i q).2 ⟨k, Nat.le_refl _, h3⟩, Or.inl h4⟩
theorem SegL.opt {a : List El} {A : Rl} (ha : SegL n hs a A) : SegL n hs (optE a) (rAlt A (rEps n)) := ha.alt SegL.e
theorem SegL.repx {a : List El} {A : Rl} (ha : SegL n hs a A) (mn mx : Int) (o2 : 0 ≤ mn) (o4 : mx = -1 ∨ (mn ≤ mx ∧ mx ≤ 250)) : SegL n hs (repX a mn mx) (rRep n A mn mx) := by
  unfold repX
  by_cases h0 : mx = 0
  · rw [if_pos h0]
    have e : rRep n A mn mx = rEps n := rl_ext fun i j => ⟨fun ⟨k, h1, h2, h3⟩ => by
      obtain rfl : k = 0 := by omega
      exact h3, fun h => ⟨0, by omega, by omega, h⟩⟩
    rw [e]; exact SegL.e
  · rw [if_neg h0]
    unfold partsX
    rcases o4 with rfl | ⟨o4, o5⟩
    · rw [if_pos rfl]
      obtain ⟨m, rfl⟩ := Int.eq_ofNat_of_zero_le o2
      match m with
      | 0 =>
        have := ha.rep 0 (-1)
        simpa [jn] using this
      | 1 =>
        have := ha.rep 1 (-1)
        simpa [jn] using this
      | m + 2 =>
        have e1 : (((m + 2 : Nat) : Int) - 1).toNat = m + 1 := by omega
        have e2 : (1 : Int) < ((m + 2 : Nat) : Int) := by omega
        rw [e1, if_pos e2, jn_snoc (by simp [List.replicate_succ])]
        have h := (ha.jn_pow m).cat (ha.rep 1 (-1))
        have e : rCat (rPow n A (m + 1)) (rRep n A 1 (-1)) = rRep n A ((m + 2 : Nat) : Int) (-1) := rl_ext fun i j => by
          constructor
          · rintro ⟨q, h1, k, h2, -, h3⟩
            refine ⟨m + 1 + k, by omega, Or.inl rfl, ?_⟩
            rw [pow_add ha.2]; exact ⟨q, h1, h3⟩
          · rintro ⟨k, h1, -, h2⟩
            obtain ⟨t, rfl⟩ : ∃ t, k = m + 1 + t := ⟨k - (m + 1), by omega⟩
            rw [pow_add ha.2] at h2
            obtain ⟨q, h3, h4⟩ := h2
            exact ⟨q, h3, t, by omega, Or.inl rfl, h4⟩
        rw [e] at h
        exact h
    · rw [if_neg (by omega)]
      obtain ⟨m, rfl⟩ := Int.eq_ofNat_of_zero_le o2
      obtain ⟨d, hd⟩ : ∃ d : Nat, mx = (m : Int) + d := ⟨(mx - m).toNat, by omega⟩
      subst hd
      rw [show ((m : Int)).toNat = m by omega, show ((m : Int) + d - m).toNat = d by omega]
      have key : rRep n A (m : Int) ((m : Int) + d) = rCat (rPow n A m) (rPow n (rAlt A (rEps n)) d) := rl_ext fun i j => by
        constructor
        · rintro ⟨k, h1, h2, h3⟩
          obtain ⟨t, rfl⟩ : ∃ t, k = m + t := ⟨k - m, by omega⟩
          rw [pow_add ha.2] at h3
          obtain ⟨q, h4, h5⟩ := h3
          exact ⟨q, h4, (pow_opt ha.2 d q j).2 ⟨t, by omega, h5⟩⟩
        · rintro ⟨q, h4, h5⟩
          obtain ⟨t, h6, h7⟩ := (pow_opt ha.2 d q j).1 h5
          refine ⟨m + t, by omega, by omega, ?_⟩
          rw [pow_add ha.2]; exact ⟨q, h4, h7⟩
      rw [key]
      clear key o2 o5 o4
      rcases Nat.eq_zero_or_pos m with e | e
      · subst e
        obtain ⟨d', rfl⟩ : ∃ d', d = d' + 1 := ⟨d - 1, by omega⟩
        have h := ha.opt.jn_pow d'
        have e : rCat (rPow n A 0) (rPow n (rAlt A (rEps n)) (d' + 1)) = rPow n (rAlt A (rEps n)) (d' + 1) := eps_cat h.2
        rw [e, List.replicate_zero, List.nil_append]
        exact h
      · obtain ⟨m', rfl⟩ : ∃ m', m = m' + 1 := ⟨m - 1, by omega⟩
        exact SegL.jn_rep ha.opt (ha.jn_pow m') (List.replicate (m' + 1) a) (by simp [List.replicate_succ]) (ha.jn_pow m') d
end
def EndsOf (n : Nat) (R : Rl) (F G : Nat → Bool) : Prop := ∀ j, j ≤ n → (G j = true ↔ ∃ i, F i = true ∧ R i j)
def hsL (bs : List Int) : List Int → Nat → Prop := fun xs i => inPs xs (bs[i]?.getD 0)
def BytesOk (bs : List Int) : Prop := bs.length ≤ 20000 ∧ ∀ x ∈ bs, 0 ≤ x ∧ x ≤ 255
def EndRet (n : Nat) (R : Rl) (F : Nat → Bool) (w w' : World) (e : Ending) : Prop := ∃ c G, e = .returned (vB c n) ∧ w.heap.size ≤ c ∧ BR w' n c G ∧ EndsOf n R F G ∧ Below w.heap.size w w'
def EnS (bs : List Int) (L : List El) (R : Rl) : Prop := ∀ (v lv : Value) (b : Nat) (F : Nat → Bool) (w : World), ElsAt 0 w.heap.size w v L → L.length ≤ 3000 → SlAt mB 0 0 w.heap.size w lv bs → BytesOk bs → BR w bs.length b F →
  Calls Tryz.prog 41 #[v, lv, vB b bs.length] w fun e w' => EndRet bs.length R F w w' e
set_option maxHeartbeats 4000000 in
set_option maxRecDepth 100000 in
theorem en_e (bs : List Int) : EnS bs [⟨0, [], 0, 0⟩] (rEps bs.length) := by
  intro v lv bq F w hv hlen hlv hbs hbr
  obtain ⟨a, cp, rfl, -, -⟩ := id hv
  obtain ⟨la, lc, rfl, -, -⟩ := id hlv
  obtain ⟨hlen2, hcap, b, off, rfl, hbn, hel⟩ := ElsAt.last (p := []) hv
  simp only [List.length_singleton, List.length_nil, Nat.zero_mul, Nat.add_zero] at hel hv ⊢
  obtain ⟨i1, i2, i3, sv, c0, c1, c2, c3, hints⟩ := hel
  obtain ⟨sa, sc, rfl, -, -, -⟩ := id hints
  obtain ⟨hn, -⟩ := hbs
  obtain ⟨n, hnn⟩ : ∃ n, n = bs.length := ⟨_, rfl⟩
  rw [← hnn] at hn hbr ⊢
  have hmk := run_make_row' (P := Tryz.prog) 79 4 (.bool false) 1 Tryz.underlying79 Tryz.zinBoolM rfl .i64 .i64 (n + 1) (by omega) (by omega)
  simp only [Int.natCast_add, Int.natCast_one] at hmk
  have hb2 := below2 w (.cells #[.int .i64 0, .slice sa 0 sc, .int .i64 0, .int .i64 0] 114) (.cells (madeCells #[.bool false] (n + 1)) 4)
  have h0 := br_made (w.alloc (.cells #[.int .i64 0, .slice sa 0 sc, .int .i64 0, .int .i64 0] 114)) n
  rw [sz_alloc] at h0
  obtain ⟨w3, hcp, hr3, hob⟩ := copy_bools _ n (w.heap.size + 1) bq _ F h0 (hbr.below hb2 (Nat.le_refl _))
  have HB : Hid (Below w.heap.size w w3) := hb2.trans (obk_bel hob (by omega))
  have HR := hide hr3
  clear hv hints i1 i2 i3 hlv hbr hb2 h0 hob hr3 hnn
  go_enter Tryz.func41, Tryz.ntmps41
  go_wp2
  go_ret
  exact ⟨_, F, rfl, by omega, unhide HR, fun j hj => ⟨fun h => ⟨j, h, rfl, hj⟩, fun ⟨i, h, e, _⟩ => e ▸ h⟩, unhide HB⟩
open Classical in
theorem l1has_dec (v : Value) (set : List Int) (b : Int) (w : World) (hv : SlAt mI 0 0 w.heap.size w v set) (hl : set.length ≤ 1048576) :
    Calls Tryz.prog 73 #[v, .int .i64 b] w fun e w' => e = .returned (.bool (decide (inPs set b))) ∧ w' = w :=
  (l1has_any v set b w hv hl).mono (fun e w' ⟨⟨r, h1, h2⟩, h3⟩ => ⟨by rw [h1]; congr 2; rw [Bool.eq_iff_iff, h2, decide_eq_true_eq], h3⟩)
set_option maxHeartbeats 8000000 in
set_option maxRecDepth 100000 in
open Classical in
theorem en_s (bs xs : List Int) (hxs : xs.length ≤ 1048576) : EnS bs [⟨1, xs, 0, 0⟩] (rOne bs.length (hsL bs xs)) := by
  intro v lv bq F w hv hlen hlv hbs hbr
  obtain ⟨a, cp, rfl, -, -⟩ := id hv
  obtain ⟨hlen2, hcap, b, off, rfl, hbn, hel⟩ := ElsAt.last (p := []) hv
  simp only [List.length_singleton, List.length_nil, Nat.zero_mul, Nat.add_zero] at hel hv ⊢
  obtain ⟨i1, i2, i3, sv, c0, c1, c2, c3, hints⟩ := hel
  have hsl : SlAt mI 0 0 w.heap.size w sv xs := ints_slAt hints
  obtain ⟨sa, sc, rfl, -, -⟩ := id hsl
  have Hsl := hide hsl
  have Hlv := hide hlv
  have Hbt := hide hbs.2
  have hn := hbs.1
  have hmk := run_make_row' (P := Tryz.prog) 79 4 (.bool false) 1 Tryz.underlying79 Tryz.zinBoolM rfl .i64 .i64 (bs.length + 1) (by omega) (by omega)
  simp only [Int.natCast_add, Int.natCast_one] at hmk
  have hb2 := below2 w (.cells #[.int .i64 1, .slice sa xs.length sc, .int .i64 0, .int .i64 0] 114) (.cells (madeCells #[.bool false] (bs.length + 1)) 4)
  have h0 := br_made (w.alloc (.cells #[.int .i64 1, .slice sa xs.length sc, .int .i64 0, .int .i64 0] 114)) bs.length
  rw [sz_alloc] at h0
  have hq0 : ((w.alloc (.cells #[.int .i64 1, .slice sa xs.length sc, .int .i64 0, .int .i64 0] 114)).alloc (.cells (madeCells #[.bool false] (bs.length + 1)) 4)).cell? ⟨w.heap.size, 1, none⟩ = some (.slice sa xs.length sc) :=
    ((below1 _ _).cell (p := ⟨w.heap.size, 1, none⟩) (by rw [sz_alloc]; exact Nat.lt_succ_self _)).trans ((pushd_alloc w _).news 1 _ rfl)
  have Hbr := hide hbr
  have H0 := hide h0
  have HB2 := hide hb2
  have HQ0 := hide hq0
  obtain ⟨la, lc, rfl, -, -⟩ := id hlv
  clear hv hints i1 i2 i3 hlv hbr hb2 h0 hq0 hsl hbs
  go_enter Tryz.func41, Tryz.ntmps41
  go_wp2_with fail
  go_loopw [10] (fun iv wr => ∃ (i : Nat) (G : Nat → Bool), i ≤ bs.length ∧ iv = .int .i64 i ∧ BR wr bs.length (w.heap.size + 1) G ∧ (∀ j, G j = true ↔ ∃ k, k < i ∧ j = k + 1 ∧ F k = true ∧ hsL bs xs k) ∧ wr.cell? ⟨w.heap.size, 1, none⟩ = some (.slice sa xs.length sc) ∧ w.heap.size + 2 ≤ wr.heap.size ∧ Below w.heap.size w wr) (fun iv _ => bs.length - (intOf iv).toNat)
  case atStart => exact ⟨0, _, Nat.zero_le _, rfl, unhide H0, fun j => ⟨fun h => (by cases h), fun ⟨k, hk, _⟩ => absurd hk (Nat.not_lt_zero _)⟩, unhide HQ0, by rw [sz_alloc, sz_alloc]; omega, unhide HB2⟩
  case round =>
    clear H0 HB2 HQ0 hmk c0 c1 c2 c3
    obtain ⟨i, G, hi, rfl, hG, hGi, hq, hz, hB⟩ := hrel
    have HG := hide hG
    have HGi := hide hGi
    by_cases hlt : i < bs.length
    · have hlt' : (i : Int) < (bs.length : Int) := by omega
      have hlt2 : (i : Int) < (bs.length : Int) + 1 := by omega
      have hlt3 : (i : Int) + 1 < (bs.length : Int) + 1 := by omega
      have hw1 : IntKind.i64.wrap ((i : Int) + 1) = (i : Int) + 1 := k64i (by omega) (by omega)
      have hp1 : (0 : Int) ≤ (i : Int) + 1 := by omega
      have hF := (unhide Hbr).below hB (Nat.le_refl _)
      have d1 := World.rowIs.cell hF (i := i) (by omega)
      have d2 := World.rowIs.cell hG (i := i + 1) (by omega)
      have f2 := World.rowIs.frozen hG (i + 1)
      obtain ⟨_, _, e, -, hc⟩ := (unhide Hlv).below hB (Nat.le_refl _)
      cases e
      obtain ⟨lb, lo, rfl, -, -, hcell⟩ := hc (by omega)
      have d3 := hcell i hlt
      obtain ⟨x, hx⟩ : ∃ x, x = bs[i]?.getD 0 := ⟨_, rfl⟩
      have hx2 : 0 ≤ x ∧ x ≤ 255 := unhide Hbt x (by rw [hx, List.getElem?_eq_getElem hlt]; exact List.getElem_mem hlt)
      rw [← hx] at d3
      have HX := hide hx
      have HSL := hide ((unhide Hsl).below hB (Nat.le_refl _))
      have HBW := hide hB
      unfold mB at d3
      clear hF hc hcell hx hG hGi hB
      have hFIN : ∀ r : Bool, (r = true ↔ F i = true ∧ hsL bs xs i) → ∀ W0 : World, BR W0 bs.length (w.heap.size + 1) G → W0.cell? ⟨w.heap.size, 1, none⟩ = some (.slice sa xs.length sc) → w.heap.size + 2 ≤ W0.heap.size → Below w.heap.size w W0 → ∀ W : World, W = W0.setCell ⟨w.heap.size + 1, i + 1, none⟩ (.bool r) → ∃ (i' : Nat) (G : Nat → Bool), i' ≤ bs.length ∧ (Value.int .i64 ((i : Int) + 1)) = .int .i64 i' ∧ BR W bs.length (w.heap.size + 1) G ∧ (∀ j, G j = true ↔ ∃ k, k < i' ∧ j = k + 1 ∧ F k = true ∧ hsL bs xs k) ∧ W.cell? ⟨w.heap.size, 1, none⟩ = some (.slice sa xs.length sc) ∧ w.heap.size + 2 ≤ W.heap.size ∧ Below w.heap.size w W := by
        intro r hr W0 HG hq hz HBW W hW
        subst hW
        refine ⟨i + 1, fun j => if j = i + 1 then r else G j, by omega, by simp, ?_, fun j => ?_, ?_, ?_, ?_⟩
        · refine World.rowIs.congr (World.rowIs.set HG (i + 1) (.bool r)) (fun j hj => ?_)
          by_cases e : j = i + 1 <;> simp [e]
        · by_cases e : j = i + 1
          · subst e
            simp only [if_pos]
            rw [hr]
            constructor
            · intro h; exact ⟨i, by omega, rfl, h⟩
            · rintro ⟨k, hk, e, h⟩
              obtain rfl : i = k := by omega
              exact h
          · simp only [if_neg e]
            rw [unhide HGi j]
            constructor
            · rintro ⟨k, hk, h⟩; exact ⟨k, by omega, h⟩
            · rintro ⟨k, hk, e2, h⟩; exact ⟨k, by omega, e2, h⟩
        · rw [put_other (Or.inl (by omega))]; exact hq
        · rw [sz_put]; exact hz
        · exact bput HBW (by omega) _
      have HFIN := hide hFIN
      clear hFIN
      cases hFi : F i with
      | false =>
        rw [hFi] at d1
        have HR := hide (unhide HFIN false ⟨fun h => (by cases h), fun h => absurd h.1 (by rw [hFi]; decide)⟩)
        clear hFi HFIN
        go_wp2_with fail
        refine wp_region_quiet_tail 18 (by kernel_rfl) (by kernel_rfl) ?_
        simp only [List.take_succ_cons, List.take_zero, List.drop_succ_cons, List.drop_zero]
        repeat (first | go_big_quiet_skip | (go_big_quiet_want; go_big_quiet_op; go_big_quiet_on))
        refine wpQuiet_nil ?_
        go_wp2
        go_roundw
        case rel => exact unhide HR wr.drew (by exact unhide HG) (by exact hq) (by exact hz) (unhide HBW).drew _ rfl
        case measure => simp [intOf]; omega
      | true =>
        rw [hFi] at d1
        have HR : Hid (∀ r : Bool, (r = true ↔ inPs xs x) → _) := fun r h => unhide HFIN r (by rw [h]; unfold hsL; rw [← unhide HX]; exact ⟨fun q => ⟨hFi, q⟩, fun q => q.2⟩)
        clear hFi HFIN
        go_wp2_with fail
        refine wp_region_quiet_tail 18 (by kernel_rfl) (by kernel_rfl) ?_
        simp only [List.take_succ_cons, List.take_zero, List.drop_succ_cons, List.drop_zero]
        repeat (first | go_big_quiet_skip | (go_big_quiet_want; go_big_quiet_op; go_big_quiet_on))
        go_big_quiet_want
        go_big_quiet_op
        refine ⟨_, l1has_dec _ xs x _ (by exact unhide HSL) hxs, ?_⟩
        go_big_quiet_on
        repeat (first | go_big_quiet_skip | (go_big_quiet_want; go_big_quiet_op; go_big_quiet_on))
        refine wpQuiet_nil ?_
        go_wp2
        go_roundw
        case rel => exact unhide HR _ (by rw [decide_eq_true_eq]) wr.drew (by exact unhide HG) (by exact hq) (by exact hz) (unhide HBW).drew _ rfl
        case measure => simp [intOf]; omega
    · have e : i = bs.length := by omega
      have HB := hide hB
      subst e
      clear hG hGi hB hq
      go_wp2
      go_ret
      refine ⟨_, G, rfl, by omega, unhide HG, fun j hj => ?_, unhide HB⟩
      rw [unhide HGi]
      constructor
      · rintro ⟨k, h1, h2, h3, h4⟩; exact ⟨k, h3, h2, h1, h4⟩
      · rintro ⟨k, h3, h2, h1, h4⟩; exact ⟨k, h1, h2, h3, h4⟩
/-! What the model draws of a code: sets and trees, as functions of the code. -/
def dW (y : Int) : Int := if 0 < y % 3 then 0 else y % 12
def mkR (p : Nat → Bool) (lo hi : Int) (n : Nat) : Nat → Bool := fun b => p b || (decide (lo ≤ (b : Int) ∧ (b : Int) ≤ hi) && decide (b < n))
def dMk : Nat → (Nat → Bool) → List Int → (Nat → Bool) × List Int
  | 0, p, zs => (p, zs)
  | n + 1, p, zs => dMk n (mkR p (dB (zs.headD 0)) (dB (zs.headD 0) + dW (zs.tail.headD 0)) 256) zs.tail.tail
theorem dMk_cod : ∀ (n : Nat) (p : Nat → Bool) (zs : List Int), Cod zs → Cod (dMk n p zs).2
  | 0, _, _, h => h
  | n + 1, _, _, h => dMk_cod n _ _ h.tail.tail
def dSet (xs : List Int) : List Int × List Int :=
  if xs.headD 0 % 24 < 16 then ([dB (xs.tail.headD 0), dB (xs.tail.headD 0)], xs.tail.tail)
  else if xs.headD 0 % 24 = 16 then ([97, 98], xs.tail) else if xs.headD 0 % 24 = 17 then ([97, 99], xs.tail)
  else if xs.headD 0 % 24 = 18 then ([48, 57], xs.tail) else if xs.headD 0 % 24 = 19 then ([0, 9, 11, 255], xs.tail)
  else if xs.headD 0 % 24 = 20 then (if xs.tail.headD 0 % 3 = 0 then [] else if xs.tail.headD 0 % 3 = 1 then [0, 255] else [97, 104], xs.tail.tail)
  else (cnn (if xs.headD 0 % 24 = 23 then fun b => !(dMk (1 + xs.tail.headD 0 % 4).toNat (fun _ => false) xs.tail.tail).1 b else (dMk (1 + xs.tail.headD 0 % 4).toNat (fun _ => false) xs.tail.tail).1), (dMk (1 + xs.tail.headD 0 % 4).toNat (fun _ => false) xs.tail.tail).2)
theorem dSet_cod {xs : List Int} (h : Cod xs) : Cod (dSet xs).2 := by
  unfold dSet
  repeat' split
  all_goals first | exact h.tail.tail | exact h.tail | exact dMk_cod _ _ _ h.tail.tail
def SetL (cs : List Int) : Prop := cs.length ≤ 512 ∧ ∀ x ∈ cs, 0 ≤ x ∧ x ≤ 255
theorem cnn_setL (p : Nat → Bool) : SetL (cnn p) := by
  have h := (cnn_ok p).1
  refine ⟨?_, fun x hx => ?_⟩
  · have := cnP_len p 256
    exact this
  · obtain ⟨i, hi, e⟩ := List.getElem_of_mem hx
    have := h.2.1 i hi
    rw [List.getElem?_eq_getElem hi, Option.getD_some, e] at this
    exact this
theorem dSet_setL (xs : List Int) : SetL (dSet xs).1 := by
  have hb := dB_byte (y := xs.tail.headD 0)
  unfold dSet
  repeat' split
  all_goals first | exact cnn_setL _ | (refine ⟨by simp, fun x hx => ?_⟩; simp only [List.mem_cons, List.not_mem_nil, or_false] at hx <;> omega)
theorem SetL.in64 {cs : List Int} (h : SetL cs) (i : Nat) : In64 (cs[i]?.getD 0) := by
  by_cases hi : i < cs.length
  · rw [List.getElem?_eq_getElem hi]
    have := h.2 _ (List.getElem_mem hi)
    simp only [Option.getD_some]
    unfold In64
    omega
  · rw [List.getElem?_eq_none (by omega)]
    exact ⟨by decide, by decide⟩
theorem SetL.nice {cs : List Int} (h : SetL cs) : Nice [⟨1, cs, 0, 0⟩] := by
  have hl := h.1
  refine ⟨fun i => ?_, fun i => ?_⟩
  · cases i with
    | zero => exact ⟨by simp [In64], by simp [In64], by simp [In64], fun j => h.in64 j⟩
    | succ i => simp [dE, In64]
  · cases i with
    | zero => show cs.length ≤ 1048576; omega
    | succ i => simp [dE]
def sE (cs : List Int) : List El := [⟨1, cs, 0, 0⟩]
def eE : List El := [⟨0, [], 0, 0⟩]
def catT (a b : List El) : List El := a ++ b ++ [⟨2, [], 0, 0⟩]
def altT (a b : List El) : List El := a ++ b ++ [⟨3, [], 0, 0⟩]
def repTr (a : List El) (lo hi : Int) : List El := a ++ [⟨4, [], lo, hi⟩]
def szL (L : List El) : Int := (szRun [] L).headD 0
structure DT (n : Nat) (L : List El) : Prop where
  len : L.length ≤ n
  nice : Nice L
  seg : ∃ c, SegM L c ∧ SzS L c
theorem DT.mono {n m : Nat} {L : List El} (h : DT n L) (hm : n ≤ m) : DT m L := ⟨Nat.le_trans h.len hm, h.nice, h.seg⟩
theorem DT.size {n : Nat} {L : List El} (h : DT n L) : SzS L (szL L) := by
  obtain ⟨c, h1, h2⟩ := h.seg
  have : szL L = c := by unfold szL; rw [h1.run []]; rfl
  rw [this]
  exact h2
theorem DT.szb {n : Nat} {L : List El} (h : DT n L) : 0 ≤ szL L ∧ szL L ≤ 501 := by
  obtain ⟨c, h1, h2⟩ := h.seg
  have : szL L = c := by unfold szL; rw [h1.run []]; rfl
  rw [this]
  exact h1.bd
theorem DT.e : DT 1 eE := ⟨Nat.le_refl _, Nice.op _ _ _ (by simp [In64]) (by simp [In64]) (by simp [In64]), 1, SegM.leaf (Or.inl rfl), fun v w hv _ => l1size_leaf 0 (Or.inl rfl) _ v w hv⟩
theorem DT.s {cs : List Int} (h : SetL cs) : DT 1 (sE cs) := ⟨Nat.le_refl _, h.nice, 1, SegM.leaf (Or.inr rfl), fun v w hv _ => l1size_leaf 1 (Or.inr rfl) _ v w hv⟩
theorem DT.bin {n m : Nat} {a b : List El} (ha : DT n a) (hb : DT m b) (k : Int) (hk : k = 2 ∨ k = 3) : DT (n + m + 1) (a ++ b ++ [⟨k, [], 0, 0⟩]) := by
  obtain ⟨ca, a1, a2⟩ := ha.seg
  obtain ⟨cb, b1, b2⟩ := hb.seg
  have hal := ha.len
  have hbl := hb.len
  refine ⟨by simp; omega, (ha.nice.app hb.nice).app (Nice.op _ _ _ ?_ (by simp [In64]) (by simp [In64])), _, SegM.bin a1 b1 hk, fun v w hv hl => l1size_bin k hk _ _ _ _ a1 b1 a2 b2 v w hv hl⟩
  rcases hk with rfl | rfl <;> simp [In64]
theorem DT.cat {n m : Nat} {a b : List El} (ha : DT n a) (hb : DT m b) : DT (n + m + 1) (catT a b) := ha.bin hb 2 (Or.inl rfl)
theorem DT.alt {n m : Nat} {a b : List El} (ha : DT n a) (hb : DT m b) : DT (n + m + 1) (altT a b) := ha.bin hb 3 (Or.inr rfl)
theorem DT.rep {n : Nat} {a : List El} (ha : DT n a) {lo hi : Int} (o2 : 0 ≤ lo) (o3 : lo ≤ 250) (o4 : hi = -1 ∨ (lo ≤ hi ∧ hi ≤ 250)) : DT (n + 1) (repTr a lo hi) := by
  obtain ⟨ca, a1, a2⟩ := ha.seg
  have hal := ha.len
  refine ⟨by simp [repTr]; omega, ha.nice.app (Nice.op _ _ _ (by simp [In64]) (by unfold In64; omega) (by unfold In64; omega)), _, SegM.rep a1 rfl o2 o4, fun v w hv hl => l1size_rep lo hi _ _ a1 o2 o3 o4 a2 v w hv hl⟩
def dWd : Nat → List El → List Int → List El × List Int
  | 0, t, zs => (t, zs)
  | n + 1, t, zs => dWd n (catT t (sE [dB (zs.headD 0), dB (zs.headD 0)])) zs.tail
def dWord (xs : List Int) : List El × List Int := dWd (1 + xs.headD 0 % 4).toNat (sE [dB (xs.tail.headD 0), dB (xs.tail.headD 0)]) xs.tail.tail
theorem one_setL (y : Int) : SetL [dB y, dB y] := by
  have := dB_byte (y := y)
  refine ⟨by simp, fun x hx => ?_⟩
  simp at hx
  omega
theorem dWd_dt : ∀ (n : Nat) {m : Nat} {t : List El} (zs : List Int), DT m t → DT (m + 2 * n) (dWd n t zs).1
  | 0, _, _, _, h => h
  | n + 1, m, t, zs, h => (dWd_dt n _ (h.cat (DT.s (one_setL _)))).mono (by omega)
theorem dWd_cod : ∀ (n : Nat) (t : List El) (zs : List Int), Cod zs → Cod (dWd n t zs).2
  | 0, _, _, h => h
  | n + 1, _, _, h => dWd_cod n _ _ h.tail
theorem dWord_dt (xs : List Int) : DT 9 (dWord xs).1 := (dWd_dt _ _ (DT.s (one_setL _))).mono (by omega)
theorem dWord_cod {xs : List Int} (h : Cod xs) : Cod (dWord xs).2 := dWd_cod _ _ _ h.tail.tail
def rpB (xs : List Int) : (Int × Int) × List Int :=
  if xs.headD 0 % 12 < 3 then ((0, -1), xs.tail) else if xs.headD 0 % 12 < 5 then ((1, -1), xs.tail) else if xs.headD 0 % 12 < 7 then ((0, 1), xs.tail)
  else ((xs.tail.headD 0 % 4, if xs.headD 0 % 12 = 11 then -1 else xs.tail.headD 0 % 4 + xs.tail.tail.headD 0 % 4), xs.tail.tail.tail)
def dRep (x : List El) (xs : List Int) : List El × List Int := (if 60 < szL (repTr x (rpB xs).1.1 (rpB xs).1.2) then x else repTr x (rpB xs).1.1 (rpB xs).1.2, (rpB xs).2)
theorem rpB_ok (xs : List Int) : 0 ≤ (rpB xs).1.1 ∧ (rpB xs).1.1 ≤ 3 ∧ ((rpB xs).1.2 = -1 ∨ ((rpB xs).1.1 ≤ (rpB xs).1.2 ∧ (rpB xs).1.2 ≤ 6)) := by
  unfold rpB
  repeat' split
  all_goals first
    | exact ⟨by decide, by decide, .inl rfl⟩
    | exact ⟨by decide, by decide, .inr ⟨by decide, by decide⟩⟩
    | exact ⟨by simp only; omega, by simp only; omega, .inl rfl⟩
    | exact ⟨by simp only; omega, by simp only; omega, .inr ⟨by simp only; omega, by simp only; omega⟩⟩
theorem rpB_cod {xs : List Int} (h : Cod xs) : Cod (rpB xs).2 := by
  unfold rpB
  repeat' split
  all_goals first | exact h.tail.tail.tail | exact h.tail
theorem dRep_t {n : Nat} {x : List El} (h : DT n x) (xs : List Int) : DT (n + 1) (repTr x (rpB xs).1.1 (rpB xs).1.2) := by
  obtain ⟨h1, h2, h3⟩ := rpB_ok xs
  exact h.rep h1 (by omega) (h3.imp id (fun q => ⟨q.1, by omega⟩))
theorem dRep_dt {n : Nat} {x : List El} (h : DT n x) (xs : List Int) : DT (n + 1) (dRep x xs).1 := by
  unfold dRep
  split
  · exact h.mono (by omega)
  · exact dRep_t h xs
def dTree : Nat → List Int → List El × List Int
  | 0, xs => (sE (dSet xs.tail).1, (dSet xs.tail).2)
  | d + 1, xs =>
    if xs.headD 0 % 16 < 4 ∨ xs.tail.length = 0 then (sE (dSet xs.tail).1, (dSet xs.tail).2)
    else if xs.headD 0 % 16 < 6 then dWord xs.tail else if xs.headD 0 % 16 = 6 then (eE, xs.tail)
    else if xs.headD 0 % 16 < 10 then (catT (dTree d xs.tail).1 (dTree d (dTree d xs.tail).2).1, (dTree d (dTree d xs.tail).2).2)
    else if xs.headD 0 % 16 < 13 then (altT (dTree d xs.tail).1 (dTree d (dTree d xs.tail).2).1, (dTree d (dTree d xs.tail).2).2)
    else dRep (dTree d xs.tail).1 (dTree d xs.tail).2
theorem dTree_cod : ∀ (d : Nat) (xs : List Int), Cod xs → Cod (dTree d xs).2
  | 0, _, h => dSet_cod h.tail
  | d + 1, xs, h => by
    have h1 := dTree_cod d _ h.tail
    have h2 := dTree_cod d _ h1
    unfold dTree
    repeat' split
    all_goals first | exact dSet_cod h.tail | exact dWord_cod h.tail | exact h.tail | exact h2 | exact rpB_cod h1
theorem dTree_dt : ∀ (d : Nat) (xs : List Int), DT (10 * 2 ^ d - 1) (dTree d xs).1
  | 0, xs => (DT.s (dSet_setL _)).mono (by omega)
  | d + 1, xs => by
    have h1 := dTree_dt d xs.tail
    have h2 := dTree_dt d (dTree d xs.tail).2
    have h3 : 1 ≤ 2 ^ d := Nat.one_le_two_pow
    have h4 : 2 ^ (d + 1) = 2 * 2 ^ d := by rw [Nat.pow_succ]; omega
    unfold dTree
    repeat' split
    · exact (DT.s (dSet_setL _)).mono (by omega)
    · exact (dWord_dt _).mono (by omega)
    · exact DT.e.mono (by omega)
    · exact (h1.cat h2).mono (by omega)
    · exact (h1.alt h2).mono (by omega)
    · exact (dRep_dt h1 _).mono (by omega)
def dGd : Nat → List El → List Int → List El × List Int
  | 0, t, zs => (t, zs)
  | n + 1, t, zs =>
    if zs.length = 0 then (t, zs) else if zs.headD 0 % 8 < 2 then (t, zs.tail)
    else if 90 < szL t + szL (dTree 3 zs.tail).1 then (t, (dTree 3 zs.tail).2)
    else dGd n (if zs.headD 0 % 8 < 6 then catT t (dTree 3 zs.tail).1 else altT t (dTree 3 zs.tail).1) (dTree 3 zs.tail).2
theorem dGd_dt : ∀ (n : Nat) {m : Nat} {t : List El} (zs : List Int), DT m t → DT (m + 80 * n) (dGd n t zs).1
  | 0, _, _, _, h => h
  | n + 1, m, t, zs, h => by
    have h1 := dTree_dt 3 zs.tail
    unfold dGd
    split
    · exact h.mono (by omega)
    split
    · exact h.mono (by omega)
    split
    · exact h.mono (by omega)
    refine (dGd_dt n (m := m + 80) _ ?_).mono (by omega)
    split
    · exact (h.cat h1).mono (by omega)
    · exact (h.alt h1).mono (by omega)
theorem dGd_cod : ∀ (n : Nat) (t : List El) (zs : List Int), Cod zs → Cod (dGd n t zs).2
  | 0, _, _, h => h
  | n + 1, t, zs, h => by
    have h1 := dTree_cod 3 _ h.tail
    unfold dGd
    repeat' split
    all_goals first | exact h | exact h.tail | exact h1 | exact dGd_cod n _ _ h1
def dGood (xs : List Int) : List El × List Int := dGd 6 (dTree 4 xs.tail).1 (dTree 4 xs.tail).2
theorem dGood_dt (xs : List Int) : DT 700 (dGood xs).1 := (dGd_dt 6 _ (dTree_dt 4 _)).mono (by omega)
theorem dGood_cod {xs : List Int} (h : Cod xs) : Cod (dGood xs).2 := dGd_cod _ _ _ (dTree_cod 4 _ h.tail)
/-! The rest of what is drawn: trees at a limit, spoiled trees, patterns. -/
structure NL (n : Nat) (L : List El) : Prop where
  len : L.length ≤ n
  nice : Nice L
theorem DT.nl {n : Nat} {L : List El} (h : DT n L) : NL n L := ⟨h.len, h.nice⟩
theorem NL.mono {n m : Nat} {L : List El} (h : NL n L) (hm : n ≤ m) : NL m L := ⟨Nat.le_trans h.len hm, h.nice⟩
theorem NL.cat {n m : Nat} {a b : List El} (ha : NL n a) (hb : NL m b) : NL (n + m + 1) (catT a b) := by
  have := ha.len
  have := hb.len
  exact ⟨by simp [catT]; omega, (ha.nice.app hb.nice).app (Nice.op _ _ _ (by simp [In64]) (by simp [In64]) (by simp [In64]))⟩
theorem NL.alt {n m : Nat} {a b : List El} (ha : NL n a) (hb : NL m b) : NL (n + m + 1) (altT a b) := by
  have := ha.len
  have := hb.len
  exact ⟨by simp [altT]; omega, (ha.nice.app hb.nice).app (Nice.op _ _ _ (by simp [In64]) (by simp [In64]) (by simp [In64]))⟩
theorem NL.rep {n : Nat} {a : List El} (ha : NL n a) {lo hi : Int} (h1 : In64 lo) (h2 : In64 hi) : NL (n + 1) (repTr a lo hi) := by
  have := ha.len
  exact ⟨by simp [repTr]; omega, ha.nice.app (Nice.op _ _ _ (by simp [In64]) h1 h2)⟩
theorem pair_setL {x : Int} (h0 : 0 ≤ x) (h1 : x ≤ 255) : SetL [x, x] := ⟨by simp, fun y hy => by simp only [List.mem_cons, List.not_mem_nil, or_false] at hy; omega⟩
def oneE (x : Int) : List El := sE [x, x]
theorem NL.one {x : Int} (h0 : 0 ≤ x) (h1 : x ≤ 255) : NL 1 (oneE x) := (DT.s (pair_setL h0 h1)).nl
def altN : Nat → List El → List El
  | 0, t => t
  | n + 1, t => altN n (altT t eE)
def repN : Nat → List El → List El
  | 0, t => t
  | n + 1, t => repN n (repTr t 1 1)
theorem altN_nl : ∀ (n : Nat) {m : Nat} {t : List El}, NL m t → NL (m + 2 * n) (altN n t)
  | 0, _, _, h => h
  | n + 1, _, _, h => (altN_nl n (h.alt DT.e.nl)).mono (by omega)
theorem repN_nl : ∀ (n : Nat) {m : Nat} {t : List El}, NL m t → NL (m + n) (repN n t)
  | 0, _, _, h => h
  | n + 1, _, _, h => (repN_nl n (h.rep (by simp [In64]) (by simp [In64]))).mono (by omega)
theorem altN_s : ∀ (n : Nat) (t : List El), altN (n + 1) t = altT (altN n t) eE
  | 0, _ => rfl
  | n + 1, t => altN_s n (altT t eE)
theorem repN_s : ∀ (n : Nat) (t : List El), repN (n + 1) t = repTr (repN n t) 1 1
  | 0, _ => rfl
  | n + 1, t => repN_s n (repTr t 1 1)
def limT (k d : Int) : List El :=
  if k = 0 then repTr (catT (oneE 97) (oneE 98)) (250 + d) (250 + d) else if k = 1 then repTr (oneE 97) 0 (250 + d)
  else if k = 2 then altN (d + 1).toNat (repTr (catT (oneE 97) (oneE 98)) 249 (-1))
  else if k = 3 then (if d = 1 then altT (repTr (repTr (catT (oneE 97) (oneE 98)) 5 5) 50 50) eE else repTr (repTr (catT (oneE 97) (oneE 98)) 5 5) 50 50)
  else if k = 4 then repTr eE 0 (250 + d)
  else repTr (catT (if 0 < d then repTr (repN 30 (oneE 97)) 0 0 else repN 30 (oneE 97)) (if 0 < d then repTr (repN 30 (oneE 97)) 0 0 else repN 30 (oneE 97))) (250 + d) (250 + d)
theorem limT_nl {k d : Int} (h0 : -1 ≤ d) (h1 : d ≤ 1) : NL 200 (limT k d) := by
  have ha := NL.one (x := 97) (by omega) (by omega)
  have hb := NL.one (x := 98) (by omega) (by omega)
  have hd : In64 (250 + d) := by unfold In64; omega
  have h3 := repN_nl 30 ha
  have h4 : NL 32 (if 0 < d then repTr (repN 30 (oneE 97)) 0 0 else repN 30 (oneE 97)) := by
    split
    · exact (h3.rep (by simp [In64]) (by simp [In64])).mono (by omega)
    · exact h3.mono (by omega)
  unfold limT
  split
  · exact ((ha.cat hb).rep hd hd).mono (by omega)
  split
  · exact (ha.rep (by simp [In64]) hd).mono (by omega)
  split
  · exact (altN_nl _ ((ha.cat hb).rep (by simp [In64]) (by simp [In64]))).mono (by omega)
  split
  · split
    · exact ((((ha.cat hb).rep (by simp [In64]) (by simp [In64])).rep (by simp [In64]) (by simp [In64])).alt DT.e.nl).mono (by omega)
    · exact (((ha.cat hb).rep (by simp [In64]) (by simp [In64])).rep (by simp [In64]) (by simp [In64])).mono (by omega)
  split
  · exact (DT.e.nl.rep (by simp [In64]) hd).mono (by omega)
  · exact ((h4.cat h4).rep hd hd).mono (by omega)
def dLim (xs : List Int) : List El × List Int := (limT (xs.headD 0 % 6) (xs.tail.headD 0 % 3 - 1), xs.tail.tail)
def putE (t : List El) (i : Nat) (x : El) : List El := t.set i x
def spE (k y : Int) (x : El) : El :=
  if k = 0 then ⟨5, x.set, x.mn, x.mx⟩ else if k = 1 then ⟨-1, x.set, x.mn, x.mx⟩ else if k = 2 then ⟨y % 5, x.set, x.mn, x.mx⟩
  else if k = 3 then ⟨x.kind, x.set, wrap64 (x.mn + 1), x.mx⟩ else if k = 4 then ⟨x.kind, x.set, x.mn, wrap64 (x.mx - 1)⟩ else if k = 5 then ⟨x.kind, x.set ++ [7], x.mn, x.mx⟩
  else if k = 6 then ⟨x.kind, [5, 4], x.mn, x.mx⟩ else if k = 7 then ⟨x.kind, [5, 6, 7, 9], x.mn, x.mx⟩ else ⟨x.kind, [0, 256], x.mn, x.mx⟩
def spT (t : List El) (k y : Int) (i : Nat) : List El :=
  if k < 9 then putE t i (spE k y (t[i]?.getD dE)) else if k = 9 then t.take (t.length - 1) else if k = 10 then t ++ [⟨2, [], 0, 0⟩] else t ++ [⟨0, [], 0, 0⟩]
def dSpoil (t : List El) (xs : List Int) : List El × List Int := (spT t (xs.headD 0 % 12) (xs.tail.tail.headD 0) (xs.tail.headD 0 % t.length).toNat, if xs.headD 0 % 12 = 2 then xs.tail.tail.tail else xs.tail.tail)
def dAny (xs : List Int) : (Bool × Bool) × List El :=
  if xs.headD 0 % 10 = 0 then ((decide (xs.tail.headD 0 % 2 = 0), decide (xs.tail.headD 0 % 3 = 0)), (dLim xs.tail.tail).1)
  else ((decide (xs.tail.headD 0 % 4 = 1), decide (5 < xs.tail.headD 0 % 8)), if xs.headD 0 % 10 < 3 then (dSpoil (dGood xs.tail).1 (dGood xs.tail).2).1 else (dGood xs.tail).1)
theorem wrap_in (x : Int) : In64 (wrap64 x) := by unfold In64 wrap64; omega
set_option maxHeartbeats 2000000 in
theorem l1cat_w (vx vy : Value) (xs ys : List El) (w : World) (hx : ElsAt 0 w.heap.size w vx xs) (hy : ElsAt 0 w.heap.size w vy ys) (hlx : xs.length ≤ 1048576) (hly : ys.length ≤ 1048576) (hsx : ∀ i : Nat, (xs[i]?.getD dE).set.length ≤ 1048576) (hsy : ∀ i : Nat, (ys[i]?.getD dE).set.length ≤ 1048576) :
    Calls Tryz.prog 62 #[vx, vy] w fun e w' => ∃ v', e = .returned v' ∧ GrowE w.heap.size w' v' (xs ++ ys ++ [⟨2, [], 0, 0⟩]) ∧ Below w.heap.size w w' := by
  have H := hide (l1bin_w 2 vx vy xs ys w hx hy hlx hly hsx hsy)
  obtain ⟨a1, c1, rfl, -, -⟩ := id hx
  obtain ⟨a2, c2, rfl, -, -⟩ := id hy
  clear hx hy hsx hsy
  go_enter Tryz.func62, Tryz.ntmps62
  go_wp2_with fail
  refine (unhide H).mono ?_
  rintro e w1 ⟨v1, rfl, hg1, hb1⟩
  obtain ⟨Z, hZ⟩ : ∃ Z, Z = xs ++ ys ++ [⟨2, [], 0, 0⟩] := ⟨_, rfl⟩
  rw [← hZ] at hg1
  have HZ := hide hZ
  have HG := hide hg1
  obtain ⟨o1, d1, rfl⟩ := hg1.form
  clear hg1 hZ
  go_wp2
  go_ret
  exact ⟨_, rfl, by rw [← unhide HZ]; exact unhide HG, hb1⟩
/-! Drawn trees in memory. -/
theorem Mv.same {lo D n : Nat} {w w' : World} (h : Mv lo D w w') (hn : n ≤ lo) : Same (D + 1) n w w' := fun x o h1 h2 => World.cell?_of_block (h.block x (by omega) (by omega))
theorem ElsAt.mv {l lo D : Nat} {w w' : World} {v : Value} {xs : List El} (h : ElsAt l w.heap.size w v xs) (hm : Mv lo D w w') (hl : w.heap.size ≤ lo) (hD : D < l) : ElsAt l w'.heap.size w' v xs := (h.same ((hm.same hl).mono hD (Nat.le_refl _))).mono (Nat.le_refl _) hm.size
theorem bmv {lo lo' : Nat} {w w' : World} (h : Below lo w w') (D : Nat) (hl : lo' ≤ lo) : Mv lo' D w w' := (Below.mv h D).mono hl
theorem ElsF.at2 {lo n : Nat} {w : World} {v : Value} {xs : List El} (h : ElsF (Rng lo n) w v xs) (hr : Num xs) : ElsAt lo n w v xs := by
  obtain ⟨a, cap, rfl, hl, hc⟩ := h
  refine ⟨a, cap, rfl, hl, fun hp => ?_⟩
  obtain ⟨b, off, sv, T, e, h1, h2, h3, h4, h5, h6⟩ := hc hp
  refine ⟨b, off, e, h1.1, h1.2, fun i hi => ?_⟩
  obtain ⟨r1, r2, r3, r4⟩ := hr i
  obtain ⟨q0, q1, q2, q3⟩ := h3 i hi
  refine ⟨r1, r2, r3, sv i, q0, q1, q2, q3, ?_⟩
  obtain ⟨l0, n0, ⟨a', cap', e', hl', hc'⟩, hT⟩ := h4 i hi
  refine ⟨a', cap', e', hl', r4, fun hp' => ?_⟩
  obtain ⟨b', off', e2, k1, k2, -, k4⟩ := hc' hp'
  have := (h5 i hi b' (hT b' k1 k2)).1
  exact ⟨b', off', e2, this.1, this.2, k4⟩
theorem GrowE.els2 {base : Nat} {w : World} {v : Value} {xs : List El} (h : GrowE base w v xs) (hn : Nice xs) : ElsAt base w.heap.size w v xs := h.foot.at2 hn.num
def DrE (N D lo : Nat) (w : World) (R : List El × List Int) (e : Ending) (w' : World) : Prop := (∃ v, e = .returned v ∧ ElsAt lo w'.heap.size w' v R.1) ∧ CdAt N D w' R.2 ∧ Mv w.heap.size D w w'
def DrS (N D lo : Nat) (w : World) (R : List Int × List Int) (e : Ending) (w' : World) : Prop := (∃ v, e = .returned v ∧ IntsAt lo w'.heap.size w' v R.1) ∧ CdAt N D w' R.2 ∧ Mv w.heap.size D w w'
theorem in64_b {x : Int} (h0 : 0 ≤ x) (h1 : x ≤ 255) : In64 x := by unfold In64; omega
theorem ints_2 (w : World) {a b : Int} (ha : In64 a) (hb : In64 b) : IntsAt w.heap.size (w.alloc (.cells #[.int .i64 a, .int .i64 b] 3)).heap.size (w.alloc (.cells #[.int .i64 a, .int .i64 b] 3)) (.slice (some ⟨w.heap.size, 0, none⟩) 2 2) [a, b] := by
  refine ⟨_, 2, rfl, by unfold maxLen; simp, fun i => ?_, fun _ => ⟨w.heap.size, 0, rfl, Nat.le_refl _, by rw [sz_alloc]; exact Nat.lt_succ_self _, fun i hi => ?_⟩⟩
  · match i with
    | 0 => exact ha
    | 1 => exact hb
    | i + 2 => simp [In64]
  · have hi' : i < 2 := hi
    match i, hi' with
    | 0, _ => exact (pushd_alloc w _).news 0 _ rfl
    | 1, _ => exact (pushd_alloc w _).news 1 _ rfl
theorem SlAt.ints {n : Nat} {w : World} {v : Value} {xs : List Int} (h : SlAt mI 0 0 n w v xs) (hr : ∀ i : Nat, In64 (xs[i]?.getD 0)) : IntsAt 0 n w v xs := by
  obtain ⟨a, cap, rfl, hl, hc⟩ := h
  exact ⟨a, cap, rfl, hl, hr, hc⟩
theorem SlW.ints {lo n : Nat} {w : World} {v : Value} {xs : List Int} (h : SlW mI 0 lo n w v xs) (hr : ∀ i : Nat, In64 (xs[i]?.getD 0)) : IntsAt lo n w v xs := by
  obtain ⟨a, cap, rfl, hl, hc⟩ := h
  refine ⟨a, cap, rfl, hl, hr, fun hp => ?_⟩
  obtain ⟨b, off, rfl, h1, h2, -, h3⟩ := hc hp
  exact ⟨b, off, rfl, h1, h2, h3⟩
set_option maxHeartbeats 1000000 in
theorem l1one_any (b : Int) (w : World) (hb : In64 b) : Calls Tryz.prog 61 #[.int .i64 b] w fun e w' => ∃ v, e = .returned v ∧ IntsAt w.heap.size w'.heap.size w' v [b, b] ∧ Below w.heap.size w w' := by
  go_enter Tryz.func61, Tryz.ntmps61
  go_wp2
  go_ret
  exact ⟨_, rfl, ints_2 w hb hb, below1 w _⟩
set_option maxHeartbeats 1000000 in
theorem l1all_i (w : World) : Calls Tryz.prog 131 #[] w fun e w' => ∃ v, e = .returned v ∧ IntsAt w.heap.size w'.heap.size w' v [0, 255] ∧ Below w.heap.size w w' := by
  go_enter Tryz.func131, Tryz.ntmps131
  go_wp2
  go_ret
  exact ⟨_, rfl, ints_2 w (in64_b (by omega) (by omega)) (in64_b (by omega) (by omega)), below1 w _⟩
set_option maxHeartbeats 1000000 in
theorem l1dot_i (w : World) : Calls Tryz.prog 130 #[] w fun e w' => ∃ v, e = .returned v ∧ IntsAt w.heap.size w'.heap.size w' v [0, 9, 11, 255] ∧ Below w.heap.size w w' := by
  go_enter Tryz.func130, Tryz.ntmps130
  go_wp2
  go_ret
  refine ⟨_, rfl, ⟨_, 4, rfl, by unfold maxLen; simp, fun i => ?_, fun _ => ⟨w.heap.size, 0, rfl, Nat.le_refl _, by rw [sz_alloc]; exact Nat.lt_succ_self _, fun i hi => ?_⟩⟩, below1 w _⟩
  · match i with
    | 0 => simp [In64]
    | 1 => simp [In64]
    | 2 => simp [In64]
    | 3 => simp [In64]
    | i + 4 => simp [In64]
  · have hi' : i < 4 := hi
    match i, hi' with
    | 0, _ => exact (pushd_alloc w _).news 0 _ rfl
    | 1, _ => exact (pushd_alloc w _).news 1 _ rfl
    | 2, _ => exact (pushd_alloc w _).news 2 _ rfl
    | 3, _ => exact (pushd_alloc w _).news 3 _ rfl
theorem els_1 {lo : Nat} {w : World} {sv : Value} {cs : List Int} (hs : IntsAt lo w.heap.size w sv cs) (hlo : lo ≤ w.heap.size) : ElsAt lo (w.alloc (.cells #[.int .i64 1, sv, .int .i64 0, .int .i64 0] 114)).heap.size (w.alloc (.cells #[.int .i64 1, sv, .int .i64 0, .int .i64 0] 114)) (.slice (some ⟨w.heap.size, 0, none⟩) 1 1) (sE cs) := by
  have h2 := hs.below (below1 w (.cells #[.int .i64 1, sv, .int .i64 0, .int .i64 0] 114)) (Nat.le_refl _)
  refine ⟨_, 1, rfl, ⟨Nat.le_refl _, by unfold maxLen; simp⟩, fun _ => ⟨w.heap.size, 0, rfl, hlo, by rw [sz_alloc]; exact Nat.lt_succ_self _, fun i hi => ?_⟩⟩
  have hi' : i < 1 := hi
  match i, hi' with
  | 0, _ => exact ⟨by simp [sE, In64], by simp [sE, In64], by simp [sE, In64], sv, (pushd_alloc w _).news 0 _ rfl, (pushd_alloc w _).news 1 _ rfl, (pushd_alloc w _).news 2 _ rfl, (pushd_alloc w _).news 3 _ rfl, h2⟩
set_option maxHeartbeats 1000000 in
theorem l1set_any (lo : Nat) (sv : Value) (cs : List Int) (w : World) (hs : IntsAt lo w.heap.size w sv cs) (hlo : lo ≤ w.heap.size) (hcs : cs.length ≤ 1048576) : Calls Tryz.prog 60 #[sv] w fun e w' => ∃ v, e = .returned v ∧ ElsAt lo w'.heap.size w' v (sE cs) ∧ Below w.heap.size w w' := by
  have HR : Hid (∀ i : Nat, In64 (cs[i]?.getD 0)) := by obtain ⟨_, _, _, _, hr, _⟩ := id hs; exact hr
  have HS := hide (ints_sl (hs.mono (Nat.zero_le _) (Nat.le_refl _)))
  obtain ⟨a, c, rfl, -, -, -⟩ := hs
  go_enter Tryz.func60, Tryz.ntmps60
  go_wp2_with (at_builtin; refine app_ints rfl _ _ rfl rfl _ rfl cs (unhide HS) hcs ?_)
  intro sv' w1 hb1 hsl h1c
  have HI := hide (hsl.ints (unhide HR))
  obtain ⟨sa', sc', rfl⟩ : ∃ a c, sv' = .slice a cs.length c := by obtain ⟨a, c, e, -⟩ := hsl; exact ⟨a, c, e⟩
  have hz1 := hb1.size
  clear hsl
  have H := hide (els_1 ((unhide HI).mono (lo' := lo) (by omega) (Nat.le_refl _)) (by omega))
  go_wp2
  go_ret
  exact ⟨_, rfl, unhide H, hb1.trans ((below1 w1 _).mono hz1)⟩
theorem cat_dt {n m lo : Nat} {vx vy : Value} {xs ys : List El} {w : World} (hx : ElsAt lo w.heap.size w vx xs) (hy : ElsAt lo w.heap.size w vy ys) (nx : NL n xs) (ny : NL m ys) (hn : n ≤ 2000) (hm : m ≤ 2000) (hlo : lo ≤ w.heap.size) :
    Calls Tryz.prog 62 #[vx, vy] w fun e w' => ∃ v', e = .returned v' ∧ ElsAt lo w'.heap.size w' v' (catT xs ys) ∧ Below w.heap.size w w' := by
  have h1 := nx.len
  have h2 := ny.len
  refine (l1cat_w vx vy xs ys w (hx.mono (Nat.zero_le _) (Nat.le_refl _)) (hy.mono (Nat.zero_le _) (Nat.le_refl _)) (by omega) (by omega) nx.nice.len ny.nice.len).mono ?_
  rintro e w' ⟨v', rfl, hg, hb⟩
  exact ⟨v', rfl, (hg.els2 (nx.cat ny).nice).mono hlo (Nat.le_refl _), hb⟩
theorem alt_dt {n m lo : Nat} {vx vy : Value} {xs ys : List El} {w : World} (hx : ElsAt lo w.heap.size w vx xs) (hy : ElsAt lo w.heap.size w vy ys) (nx : NL n xs) (ny : NL m ys) (hn : n ≤ 2000) (hm : m ≤ 2000) (hlo : lo ≤ w.heap.size) :
    Calls Tryz.prog 64 #[vx, vy] w fun e w' => ∃ v', e = .returned v' ∧ ElsAt lo w'.heap.size w' v' (altT xs ys) ∧ Below w.heap.size w w' := by
  have h1 := nx.len
  have h2 := ny.len
  refine (l1alt_w vx vy xs ys w (hx.mono (Nat.zero_le _) (Nat.le_refl _)) (hy.mono (Nat.zero_le _) (Nat.le_refl _)) (by omega) (by omega) nx.nice.len ny.nice.len).mono ?_
  rintro e w' ⟨v', rfl, hg, hb⟩
  exact ⟨v', rfl, (hg.els2 (nx.alt ny).nice).mono hlo (Nat.le_refl _), hb⟩
theorem rep_dt {n lo : Nat} {vx : Value} {xs : List El} {w : World} {p q : Int} (hx : ElsAt lo w.heap.size w vx xs) (nx : NL n xs) (hn : n ≤ 2000) (hlo : lo ≤ w.heap.size) (h1 : In64 p) (h2 : In64 q) :
    Calls Tryz.prog 63 #[vx, .int .i64 p, .int .i64 q] w fun e w' => ∃ v', e = .returned v' ∧ ElsAt lo w'.heap.size w' v' (repTr xs p q) ∧ Below w.heap.size w w' := by
  have h3 := nx.len
  refine (l1rep_w p q vx xs w (hx.mono (Nat.zero_le _) (Nat.le_refl _)) (by omega) nx.nice.len).mono ?_
  rintro e w' ⟨v', rfl, hg, hb⟩
  exact ⟨v', rfl, (hg.els2 (nx.rep h1 h2).nice).mono hlo (Nat.le_refl _), hb⟩
theorem e_dt (lo : Nat) (w : World) (hlo : lo ≤ w.heap.size) : Calls Tryz.prog 65 #[] w fun e w' => ∃ v', e = .returned v' ∧ ElsAt lo w'.heap.size w' v' eE ∧ Below w.heap.size w w' := by
  refine (l1empty_w w).mono ?_
  rintro e w' ⟨v', rfl, hg, hb⟩
  exact ⟨v', rfl, (hg.els2 DT.e.nice).mono hlo (Nat.le_refl _), hb⟩
set_option maxHeartbeats 4000000 in
set_option maxRecDepth 100000 in
theorem l1drawSet_A (N D lo : Nat) (xs : List Int) (w : World) (h : CdAt N D w xs) (hx : Cod xs) (hD : D < lo) (hlo : lo ≤ w.heap.size) (hk : xs.headD 0 % 24 < 16) :
    Calls Tryz.prog 95 #[.pointer (some ⟨D, 0, none⟩)] w (DrS N D lo w (dSet xs)) := by
  have H := hide h
  have HX := hide hx
  have hh := hx.head
  obtain ⟨y2, hy2⟩ : ∃ y, xs.tail.headD 0 = y := ⟨_, rfl⟩
  have HR : Hid (dSet xs = ([dB y2, dB y2], xs.tail.tail)) := by rw [← hy2]; exact if_pos hk
  rw [unhide HR]
  obtain ⟨y, hy⟩ : ∃ y, xs.headD 0 = y := ⟨_, rfl⟩
  rw [hy] at hh hk
  have HY := hide hy
  have HY2 := hide hy2
  have hb := dB_byte (y := y2)
  clear hy hx h hy2 HR
  go_enter Tryz.func95, Tryz.ntmps95
  go_wp2_with fail
  refine (next_any N D xs w (unhide H) (unhide HX)).mono ?_
  rintro e w1 ⟨he, hc1, ho1⟩
  rw [unhide HY] at he
  subst he
  go_wp2_with fail
  refine (l1drawByte_any N D xs.tail w1 hc1 (unhide HX).tail).mono ?_
  rintro e w2 ⟨he, hc2, ho2⟩
  rw [unhide HY2] at he
  subst he
  go_wp2_with fail
  refine (l1one_any (dB y2) w2 (in64_b hb.1 hb.2)).mono ?_
  rintro e w3 ⟨v, rfl, hv, hb3⟩
  have HV := hide hv
  obtain ⟨a, c, rfl, -⟩ := hv
  have hz3 := hb3.size
  go_wp2
  go_ret
  have hz1 : w1.heap.size = w.heap.size := ho1.size
  have hz2 : w2.heap.size = w1.heap.size := ho2.size
  exact ⟨⟨_, rfl, (unhide HV).mono (by omega) (Nat.le_refl _)⟩, hc2.keep hb3 (by omega), (ho1.mv _).trans ((ho2.mv _).trans (bmv hb3 D (by omega)))⟩
set_option maxHeartbeats 4000000 in
set_option maxRecDepth 100000 in
theorem l1drawSet_B16 (N D lo : Nat) (xs : List Int) (w : World) (h : CdAt N D w xs) (hx : Cod xs) (hD : D < lo) (hlo : lo ≤ w.heap.size) (hk : xs.headD 0 % 24 = 16) :
    Calls Tryz.prog 95 #[.pointer (some ⟨D, 0, none⟩)] w (DrS N D lo w (dSet xs)) := by
  have H := hide h
  have HX := hide hx
  have hh := hx.head
  have HR : Hid (dSet xs = ([97, 98], xs.tail)) := by
    show dSet xs = _
    unfold dSet
    rw [if_neg (by omega), if_pos hk]
  rw [unhide HR]
  obtain ⟨y, hy⟩ : ∃ y, xs.headD 0 = y := ⟨_, rfl⟩
  rw [hy] at hh hk
  have HY := hide hy
  have n0 : ¬ y % 24 < 16 := by omega
  clear hy hx h HR
  go_enter Tryz.func95, Tryz.ntmps95
  go_wp2_with fail
  refine (next_any N D xs w (unhide H) (unhide HX)).mono ?_
  rintro e w1 ⟨he, hc1, ho1⟩
  rw [unhide HY] at he
  subst he
  go_wp2
  go_ret
  have hz1 : w1.heap.size = w.heap.size := ho1.size
  exact ⟨⟨_, rfl, (ints_2 w1 (a := 97) (b := 98) (in64_b (by omega) (by omega)) (in64_b (by omega) (by omega))).mono (lo' := lo) (by omega) (Nat.le_refl _)⟩, hc1.keep (below1 w1 _) (by omega), (ho1.mv _).trans (bmv (below1 w1 _) D (by omega))⟩
set_option maxHeartbeats 4000000 in
set_option maxRecDepth 100000 in
theorem l1drawSet_B17 (N D lo : Nat) (xs : List Int) (w : World) (h : CdAt N D w xs) (hx : Cod xs) (hD : D < lo) (hlo : lo ≤ w.heap.size) (hk : xs.headD 0 % 24 = 17) :
    Calls Tryz.prog 95 #[.pointer (some ⟨D, 0, none⟩)] w (DrS N D lo w (dSet xs)) := by
  have H := hide h
  have HX := hide hx
  have hh := hx.head
  have HR : Hid (dSet xs = ([97, 99], xs.tail)) := by
    show dSet xs = _
    unfold dSet
    rw [if_neg (by omega), if_neg (by omega), if_pos hk]
  rw [unhide HR]
  obtain ⟨y, hy⟩ : ∃ y, xs.headD 0 = y := ⟨_, rfl⟩
  rw [hy] at hh hk
  have HY := hide hy
  have n0 : ¬ y % 24 < 16 := by omega
  have n16 : ¬ y % 24 = 16 := by omega
  clear hy hx h HR
  go_enter Tryz.func95, Tryz.ntmps95
  go_wp2_with fail
  refine (next_any N D xs w (unhide H) (unhide HX)).mono ?_
  rintro e w1 ⟨he, hc1, ho1⟩
  rw [unhide HY] at he
  subst he
  go_wp2
  go_ret
  have hz1 : w1.heap.size = w.heap.size := ho1.size
  exact ⟨⟨_, rfl, (ints_2 w1 (a := 97) (b := 99) (in64_b (by omega) (by omega)) (in64_b (by omega) (by omega))).mono (lo' := lo) (by omega) (Nat.le_refl _)⟩, hc1.keep (below1 w1 _) (by omega), (ho1.mv _).trans (bmv (below1 w1 _) D (by omega))⟩
set_option maxHeartbeats 4000000 in
set_option maxRecDepth 100000 in
theorem l1drawSet_B18 (N D lo : Nat) (xs : List Int) (w : World) (h : CdAt N D w xs) (hx : Cod xs) (hD : D < lo) (hlo : lo ≤ w.heap.size) (hk : xs.headD 0 % 24 = 18) :
    Calls Tryz.prog 95 #[.pointer (some ⟨D, 0, none⟩)] w (DrS N D lo w (dSet xs)) := by
  have H := hide h
  have HX := hide hx
  have hh := hx.head
  have HR : Hid (dSet xs = ([48, 57], xs.tail)) := by
    show dSet xs = _
    unfold dSet
    rw [if_neg (by omega), if_neg (by omega), if_neg (by omega), if_pos hk]
  rw [unhide HR]
  obtain ⟨y, hy⟩ : ∃ y, xs.headD 0 = y := ⟨_, rfl⟩
  rw [hy] at hh hk
  have HY := hide hy
  have n0 : ¬ y % 24 < 16 := by omega
  have n16 : ¬ y % 24 = 16 := by omega
  have n17 : ¬ y % 24 = 17 := by omega
  clear hy hx h HR
  go_enter Tryz.func95, Tryz.ntmps95
  go_wp2_with fail
  refine (next_any N D xs w (unhide H) (unhide HX)).mono ?_
  rintro e w1 ⟨he, hc1, ho1⟩
  rw [unhide HY] at he
  subst he
  go_wp2
  go_ret
  have hz1 : w1.heap.size = w.heap.size := ho1.size
  exact ⟨⟨_, rfl, (ints_2 w1 (a := 48) (b := 57) (in64_b (by omega) (by omega)) (in64_b (by omega) (by omega))).mono (lo' := lo) (by omega) (Nat.le_refl _)⟩, hc1.keep (below1 w1 _) (by omega), (ho1.mv _).trans (bmv (below1 w1 _) D (by omega))⟩
set_option maxHeartbeats 4000000 in
set_option maxRecDepth 100000 in
theorem l1drawSet_B19 (N D lo : Nat) (xs : List Int) (w : World) (h : CdAt N D w xs) (hx : Cod xs) (hD : D < lo) (hlo : lo ≤ w.heap.size) (hk : xs.headD 0 % 24 = 19) :
    Calls Tryz.prog 95 #[.pointer (some ⟨D, 0, none⟩)] w (DrS N D lo w (dSet xs)) := by
  have H := hide h
  have HX := hide hx
  have hh := hx.head
  have HR : Hid (dSet xs = ([0, 9, 11, 255], xs.tail)) := by
    show dSet xs = _
    unfold dSet
    rw [if_neg (by omega), if_neg (by omega), if_neg (by omega), if_neg (by omega), if_pos hk]
  rw [unhide HR]
  obtain ⟨y, hy⟩ : ∃ y, xs.headD 0 = y := ⟨_, rfl⟩
  rw [hy] at hh hk
  have HY := hide hy
  have n0 : ¬ y % 24 < 16 := by omega
  have n16 : ¬ y % 24 = 16 := by omega
  have n17 : ¬ y % 24 = 17 := by omega
  have n18 : ¬ y % 24 = 18 := by omega
  clear hy hx h HR
  go_enter Tryz.func95, Tryz.ntmps95
  go_wp2_with fail
  refine (next_any N D xs w (unhide H) (unhide HX)).mono ?_
  rintro e w1 ⟨he, hc1, ho1⟩
  rw [unhide HY] at he
  subst he
  go_wp2_with fail
  refine (l1dot_i w1).mono ?_
  rintro e w3 ⟨v, rfl, hv, hb3⟩
  have HV := hide hv
  obtain ⟨a, c, rfl, -⟩ := hv
  go_wp2
  go_ret
  have hz1 : w1.heap.size = w.heap.size := ho1.size
  exact ⟨⟨_, rfl, (unhide HV).mono (by omega) (Nat.le_refl _)⟩, hc1.keep hb3 (by omega), (ho1.mv _).trans (bmv hb3 D (by omega))⟩
set_option maxHeartbeats 4000000 in
set_option maxRecDepth 100000 in
theorem l1drawSet_C0 (N D lo : Nat) (xs : List Int) (w : World) (h : CdAt N D w xs) (hx : Cod xs) (_hD : D < lo) (_hlo : lo ≤ w.heap.size) (hk : xs.headD 0 % 24 = 20) (hk2 : xs.tail.headD 0 % 3 = 0) :
    Calls Tryz.prog 95 #[.pointer (some ⟨D, 0, none⟩)] w (DrS N D lo w (dSet xs)) := by
  have H := hide h
  have HX := hide hx
  have hh := hx.head
  have hh2 := hx.tail.head
  have HR : Hid (dSet xs = ([], xs.tail.tail)) := by
    show dSet xs = _
    unfold dSet
    rw [if_neg (by omega), if_neg (by omega), if_neg (by omega), if_neg (by omega), if_neg (by omega), if_pos hk, if_pos hk2]
  rw [unhide HR]
  obtain ⟨y, hy⟩ : ∃ y, xs.headD 0 = y := ⟨_, rfl⟩
  obtain ⟨y2, hy2⟩ : ∃ y, xs.tail.headD 0 = y := ⟨_, rfl⟩
  rw [hy] at hh hk
  rw [hy2] at hh2 hk2
  have HY := hide hy
  have HY2 := hide hy2
  have n0 : ¬ y % 24 < 16 := by omega
  have n16 : ¬ y % 24 = 16 := by omega
  have n17 : ¬ y % 24 = 17 := by omega
  have n18 : ¬ y % 24 = 18 := by omega
  have n19 : ¬ y % 24 = 19 := by omega
  clear hy hx h HR hy2
  go_enter Tryz.func95, Tryz.ntmps95
  go_wp2_with fail
  refine (next_any N D xs w (unhide H) (unhide HX)).mono ?_
  rintro e w1 ⟨he, hc1, ho1⟩
  rw [unhide HY] at he
  subst he
  go_wp2_with fail
  refine (next_any N D xs.tail w1 hc1 (unhide HX).tail).mono ?_
  rintro e w2 ⟨he, hc2, ho2⟩
  rw [unhide HY2] at he
  subst he
  go_wp2
  go_ret
  have hz1 : w1.heap.size = w.heap.size := ho1.size
  have hz2 : w2.heap.size = w1.heap.size := ho2.size
  exact ⟨⟨_, rfl, none, 0, rfl, Nat.zero_le _, fun i => by simp [In64], fun h0 => absurd h0 (by simp)⟩, hc2, (ho1.mv _).trans (ho2.mv _)⟩
set_option maxHeartbeats 4000000 in
set_option maxRecDepth 100000 in
theorem l1drawSet_C1 (N D lo : Nat) (xs : List Int) (w : World) (h : CdAt N D w xs) (hx : Cod xs) (hD : D < lo) (hlo : lo ≤ w.heap.size) (hk : xs.headD 0 % 24 = 20) (hk2 : xs.tail.headD 0 % 3 = 1) :
    Calls Tryz.prog 95 #[.pointer (some ⟨D, 0, none⟩)] w (DrS N D lo w (dSet xs)) := by
  have H := hide h
  have HX := hide hx
  have hh := hx.head
  have hh2 := hx.tail.head
  have HR : Hid (dSet xs = ([0, 255], xs.tail.tail)) := by
    show dSet xs = _
    unfold dSet
    rw [if_neg (by omega), if_neg (by omega), if_neg (by omega), if_neg (by omega), if_neg (by omega), if_pos hk, if_neg (by omega), if_pos hk2]
  rw [unhide HR]
  obtain ⟨y, hy⟩ : ∃ y, xs.headD 0 = y := ⟨_, rfl⟩
  obtain ⟨y2, hy2⟩ : ∃ y, xs.tail.headD 0 = y := ⟨_, rfl⟩
  rw [hy] at hh hk
  rw [hy2] at hh2 hk2
  have HY := hide hy
  have HY2 := hide hy2
  have n0 : ¬ y % 24 < 16 := by omega
  have n16 : ¬ y % 24 = 16 := by omega
  have n17 : ¬ y % 24 = 17 := by omega
  have n18 : ¬ y % 24 = 18 := by omega
  have n19 : ¬ y % 24 = 19 := by omega
  clear hy hx h HR hy2
  go_enter Tryz.func95, Tryz.ntmps95
  go_wp2_with fail
  refine (next_any N D xs w (unhide H) (unhide HX)).mono ?_
  rintro e w1 ⟨he, hc1, ho1⟩
  rw [unhide HY] at he
  subst he
  go_wp2_with fail
  refine (next_any N D xs.tail w1 hc1 (unhide HX).tail).mono ?_
  rintro e w2 ⟨he, hc2, ho2⟩
  rw [unhide HY2] at he
  subst he
  go_wp2_with fail
  refine (l1all_i w2).mono ?_
  rintro e w3 ⟨v, rfl, hv, hb3⟩
  have HV := hide hv
  obtain ⟨a, c, rfl, -⟩ := hv
  go_wp2
  go_ret
  have hz1 : w1.heap.size = w.heap.size := ho1.size
  have hz2 : w2.heap.size = w1.heap.size := ho2.size
  exact ⟨⟨_, rfl, (unhide HV).mono (by omega) (Nat.le_refl _)⟩, hc2.keep hb3 (by omega), (ho1.mv _).trans ((ho2.mv _).trans (bmv hb3 D (by omega)))⟩
set_option maxHeartbeats 4000000 in
set_option maxRecDepth 100000 in
theorem l1drawSet_C2 (N D lo : Nat) (xs : List Int) (w : World) (h : CdAt N D w xs) (hx : Cod xs) (hD : D < lo) (hlo : lo ≤ w.heap.size) (hk : xs.headD 0 % 24 = 20) (hk2 : xs.tail.headD 0 % 3 = 2) :
    Calls Tryz.prog 95 #[.pointer (some ⟨D, 0, none⟩)] w (DrS N D lo w (dSet xs)) := by
  have H := hide h
  have HX := hide hx
  have hh := hx.head
  have hh2 := hx.tail.head
  have HR : Hid (dSet xs = ([97, 104], xs.tail.tail)) := by
    show dSet xs = _
    unfold dSet
    rw [if_neg (by omega), if_neg (by omega), if_neg (by omega), if_neg (by omega), if_neg (by omega), if_pos hk, if_neg (by omega), if_neg (by omega)]
  rw [unhide HR]
  obtain ⟨y, hy⟩ : ∃ y, xs.headD 0 = y := ⟨_, rfl⟩
  obtain ⟨y2, hy2⟩ : ∃ y, xs.tail.headD 0 = y := ⟨_, rfl⟩
  rw [hy] at hh hk
  rw [hy2] at hh2 hk2
  have HY := hide hy
  have HY2 := hide hy2
  have n0 : ¬ y % 24 < 16 := by omega
  have n16 : ¬ y % 24 = 16 := by omega
  have n17 : ¬ y % 24 = 17 := by omega
  have n18 : ¬ y % 24 = 18 := by omega
  have n19 : ¬ y % 24 = 19 := by omega
  clear hy hx h HR hy2
  go_enter Tryz.func95, Tryz.ntmps95
  go_wp2_with fail
  refine (next_any N D xs w (unhide H) (unhide HX)).mono ?_
  rintro e w1 ⟨he, hc1, ho1⟩
  rw [unhide HY] at he
  subst he
  go_wp2_with fail
  refine (next_any N D xs.tail w1 hc1 (unhide HX).tail).mono ?_
  rintro e w2 ⟨he, hc2, ho2⟩
  rw [unhide HY2] at he
  subst he
  go_wp2
  go_ret
  have hz1 : w1.heap.size = w.heap.size := ho1.size
  have hz2 : w2.heap.size = w1.heap.size := ho2.size
  exact ⟨⟨_, rfl, (ints_2 w2 (a := 97) (b := 104) (in64_b (by omega) (by omega)) (in64_b (by omega) (by omega))).mono (lo' := lo) (by omega) (Nat.le_refl _)⟩, hc2.keep (below1 w2 _) (by omega), (ho1.mv _).trans ((ho2.mv _).trans (bmv (below1 w2 _) D (by omega)))⟩
end Go.Proofs.YtinhliecfjlocaaGreat
