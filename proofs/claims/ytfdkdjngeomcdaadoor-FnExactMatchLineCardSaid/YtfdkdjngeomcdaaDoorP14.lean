import Derived.Test.YtfdkdjngeomcdaaDoorP13
import Derived.Test.YtfdkdjngeomcdaaDoorP2
import Derived.Test.YtfdkdjngeomcdaaDoorP8
import Derived.Test.YtfdkdjngeomcdaaDoorP7
import Derived.Test.YtfdkdjngeomcdaaDoorP5
import Derived.Test.YtfdkdjngeomcdaaDoorP12
namespace Go.Proofs.YtfdkdjngeomcdaaDoor
open Go.RowKit

/-- A list of elements, its value and its blocks. -/
structure Pt where
  P : List El
  s : Value
  T : Nat → Prop
theorem Tryd.zinOpS : (Tryd.prog.info? 28).map (fun i => (i.zero, i.size, i.bytes)) = some (some (.slice none 0 0), 1, 24) := by kernel_rfl

/-- v is a slice of its own, from block base on, of these lists. -/
structure PGrow (base : Nat) (w : World) (v : Value) (ps : List Pt) : Prop where
  own : w.ownsRow base 28 1 v ps.length (ps.map Pt.s)
  els : ∀ p ∈ ps, ElsF p.T w p.s p.P
  blk : ∀ p ∈ ps, ∀ k, p.T k → k < w.heap.size ∧ v.ownBlock ≠ some k
theorem PGrow.nil (base : Nat) (w : World) : PGrow base w (.slice none 0 0) [] := ⟨World.ownsRow_nil _ _ _ _, by simp, by simp⟩
theorem PGrow.keep {base m : Nat} {w w' : World} {v : Value} {ps : List Pt} (h : PGrow base w v ps) (hb : Below m w w') (hm : w.heap.size ≤ m) : PGrow base w' v ps :=
  ⟨own_keep h.own hb hm, fun p hp => (h.els p hp).same (fun k hk => hb.block k (by have := (h.blk p hp k hk).1; omega)), fun p hp k hk => ⟨by have h1 := (h.blk p hp k hk).1; have h2 := hb.size; omega, (h.blk p hp k hk).2⟩⟩

theorem ElsF.one {S : Nat → Prop} {w : World} {v : Value} {xs : List El} (h : ElsF S w v xs) : v.oneCell' = true := by
  obtain ⟨a, cap, rfl, -⟩ := h
  rfl

/-- Parts, joined by cat, leftmost first. -/
def catE : El := ⟨2, [], 0, 0⟩
def jn : List (List El) → List El
  | [] => []
  | p :: r => r.foldl (fun acc q => acc ++ q ++ [catE]) p
theorem jn_one (p : List El) : jn [p] = p := rfl
theorem jn_snoc {ps : List (List El)} (h : ps ≠ []) (q : List El) : jn (ps ++ [q]) = jn ps ++ q ++ [catE] := by
  cases ps with
  | nil => exact absurd rfl h
  | cons p r => simp [jn, List.foldl_append]

def optE (X : List El) : List El := X ++ [⟨0, [], 0, 0⟩] ++ [⟨3, [], 0, 0⟩]
/-- The parts of a repetition that is written out. -/
def partsX (X : List El) (mn mx : Int) : List (List El) :=
  if mx = -1 then List.replicate (mn - 1).toNat X ++ [X ++ [⟨4, [], if 1 < mn then 1 else mn, -1⟩]]
  else List.replicate mn.toNat X ++ List.replicate (mx - mn).toNat (optE X)
def repX (X : List El) (mn mx : Int) : List El := if mx = 0 then [⟨0, [], 0, 0⟩] else jn (partsX X mn mx)

end Go.Proofs.YtfdkdjngeomcdaaDoor

namespace Go.Proofs.YtfdkdjngeomcdaaDoor
open Go.RowKit

/-- Relations on the places of a line: from here to there. -/
abbrev Rl := Nat → Nat → Prop
def rEps (n : Nat) : Rl := fun i j => i = j ∧ j ≤ n
/-- One byte of a set; hs p i: the place i has a byte of the set. -/
def rOne (n : Nat) (hs : Nat → Prop) : Rl := fun i j => j = i + 1 ∧ i < n ∧ hs i
def rCat (A B : Rl) : Rl := fun i j => ∃ m, A i m ∧ B m j
def rAlt (A B : Rl) : Rl := fun i j => A i j ∨ B i j
def rPow (n : Nat) (A : Rl) : Nat → Rl
  | 0 => rEps n
  | k + 1 => rCat (rPow n A k) A
def rRep (n : Nat) (A : Rl) (mn mx : Int) : Rl := fun i j => ∃ k : Nat, mn ≤ k ∧ (mx = -1 ∨ (k : Int) ≤ mx) ∧ rPow n A k i j
/-- Of places of the line alone, and onward. -/
def RB (n : Nat) (A : Rl) : Prop := ∀ i j, A i j → i ≤ j ∧ j ≤ n
theorem rb_eps (n : Nat) : RB n (rEps n) := fun _ _ h => ⟨Nat.le_of_eq h.1, h.2⟩
theorem rb_one (n : Nat) (hs : Nat → Prop) : RB n (rOne n hs) := fun _ _ h => by obtain ⟨rfl, h, -⟩ := h; omega
theorem RB.cat {n : Nat} {A B : Rl} (ha : RB n A) (hb : RB n B) : RB n (rCat A B) := fun _ _ ⟨_, h1, h2⟩ => by
  have := ha _ _ h1; have := hb _ _ h2; omega
theorem RB.alt {n : Nat} {A B : Rl} (ha : RB n A) (hb : RB n B) : RB n (rAlt A B) := fun _ _ h => h.elim (ha _ _) (hb _ _)
theorem RB.pow {n : Nat} {A : Rl} (ha : RB n A) : ∀ k, RB n (rPow n A k)
  | 0 => rb_eps n
  | k + 1 => (RB.pow ha k).cat ha
theorem RB.rep {n : Nat} {A : Rl} (ha : RB n A) (mn mx : Int) : RB n (rRep n A mn mx) := fun _ _ ⟨k, _, _, h⟩ => ha.pow k _ _ h
theorem rl_ext {A B : Rl} (h : ∀ i j, A i j ↔ B i j) : A = B := funext fun i => funext fun j => propext (h i j)
theorem cat_eps {n : Nat} {A : Rl} (ha : RB n A) : rCat A (rEps n) = A := rl_ext fun _ j => ⟨fun ⟨_, h1, h2, _⟩ => h2 ▸ h1, fun h => ⟨j, h, rfl, (ha _ _ h).2⟩⟩
theorem eps_cat {n : Nat} {A : Rl} (ha : RB n A) : rCat (rEps n) A = A := rl_ext fun i _ => ⟨fun ⟨_, ⟨h1, _⟩, h2⟩ => h1 ▸ h2, fun h => ⟨i, ⟨rfl, by have := ha _ _ h; omega⟩, h⟩⟩
theorem cat_assoc (A B C : Rl) : rCat (rCat A B) C = rCat A (rCat B C) := rl_ext fun _ _ => ⟨fun ⟨m, ⟨k, h1, h2⟩, h3⟩ => ⟨k, h1, m, h2, h3⟩, fun ⟨k, h1, m, h2, h3⟩ => ⟨m, ⟨k, h1, h2⟩, h3⟩⟩
theorem pow_front {n : Nat} {A : Rl} (ha : RB n A) : ∀ k, rPow n A (k + 1) = rCat A (rPow n A k)
  | 0 => by show rCat (rEps n) A = rCat A (rEps n); rw [eps_cat ha, cat_eps ha]
  | k + 1 => by show rCat (rPow n A (k + 1)) A = rCat A (rCat (rPow n A k) A); rw [pow_front ha k, cat_assoc]
theorem pow_add {n : Nat} {A : Rl} (ha : RB n A) (k : Nat) : ∀ m, rPow n A (k + m) = rCat (rPow n A k) (rPow n A m)
  | 0 => (cat_eps (ha.pow k)).symm
  | m + 1 => by show rCat (rPow n A (k + m)) A = rCat (rPow n A k) (rCat (rPow n A m) A); rw [pow_add ha k m, cat_assoc]
/-- The relations on the stack, top first, behind one element more. -/
def lPush (n : Nat) (hs : List Int → Nat → Prop) (st : List Rl) (x : El) : List Rl :=
  if x.kind = 0 then rEps n :: st else if x.kind = 1 then rOne n (hs x.set) :: st else
  match st with
  | [] => []
  | [o] => if x.kind = 4 then [rRep n o x.mn x.mx] else [o]
  | r :: l :: b => if x.kind = 4 then rRep n r x.mn x.mx :: l :: b else (if x.kind = 2 then rCat l r else rAlt l r) :: b
def lRun (n : Nat) (hs : List Int → Nat → Prop) (st : List Rl) : List El → List Rl
  | [] => st
  | x :: r => lRun n hs (lPush n hs st x) r
section
variable {n : Nat} {hs : List Int → Nat → Prop}
theorem lRun_append (st : List Rl) (a b : List El) : lRun n hs st (a ++ b) = lRun n hs (lRun n hs st a) b := by
  induction a generalizing st with
  | nil => rfl
  | cons x r ih => simp [lRun, ih]
/-- This list is of a tree of this relation. -/
def SegL (n : Nat) (hs : List Int → Nat → Prop) (seg : List El) (R : Rl) : Prop := (∀ st, lRun n hs st seg = R :: st) ∧ RB n R
theorem SegL.one {a : List El} {A B : Rl} (h : SegL n hs a A) (k : SegL n hs a B) : A = B := by
  have := (h.1 []).symm.trans (k.1 [])
  simpa using this
theorem SegL.e : SegL n hs [⟨0, [], 0, 0⟩] (rEps n) := ⟨fun st => by simp [lRun, lPush], rb_eps n⟩
theorem SegL.s (xs : List Int) : SegL n hs [⟨1, xs, 0, 0⟩] (rOne n (hs xs)) := ⟨fun st => by simp [lRun, lPush], rb_one n _⟩
theorem SegL.cat {a b : List El} {A B : Rl} (ha : SegL n hs a A) (hb : SegL n hs b B) : SegL n hs (a ++ b ++ [⟨2, [], 0, 0⟩]) (rCat A B) := ⟨fun st => by
  rw [lRun_append, lRun_append, ha.1, hb.1]
  simp [lRun, lPush], ha.2.cat hb.2⟩
theorem SegL.alt {a b : List El} {A B : Rl} (ha : SegL n hs a A) (hb : SegL n hs b B) : SegL n hs (a ++ b ++ [⟨3, [], 0, 0⟩]) (rAlt A B) := ⟨fun st => by
  rw [lRun_append, lRun_append, ha.1, hb.1]
  simp [lRun, lPush], ha.2.alt hb.2⟩
theorem SegL.rep {a : List El} {A : Rl} (ha : SegL n hs a A) (mn mx : Int) : SegL n hs (a ++ [⟨4, [], mn, mx⟩]) (rRep n A mn mx) := ⟨fun st => by
  rw [lRun_append, ha.1]
  cases st <;> simp [lRun, lPush], ha.2.rep mn mx⟩
/-- Parts that are joined. -/
theorem SegL.jn_rep {a p : List El} {A P : Rl} (ha : SegL n hs a A) (hp : SegL n hs p P) (ps : List (List El)) (hne : ps ≠ []) (hj : SegL n hs (jn ps) P) : ∀ k, SegL n hs (jn (ps ++ List.replicate k a)) (rCat P (rPow n A k))
  | 0 => by
    simp only [List.replicate_zero, List.append_nil]
    show SegL n hs (jn ps) (rCat P (rEps n))
    rw [cat_eps hp.2]; exact hj
  | k + 1 => by
    rw [List.replicate_succ', ← List.append_assoc, jn_snoc (by simp [hne])]
    have := (SegL.jn_rep ha hp ps hne hj k).cat ha
    rw [cat_assoc] at this
    exact this
theorem SegL.jn_pow {a : List El} {A : Rl} (ha : SegL n hs a A) (k : Nat) : SegL n hs (jn (List.replicate (k + 1) a)) (rPow n A (k + 1)) := by
  have h := SegL.jn_rep ha ha [a] (by simp) (by simpa [jn] using ha) k
  rw [← pow_front ha.2] at h
  rw [List.replicate_succ]; exact h
theorem pow_opt {A : Rl} (ha : RB n A) : ∀ (k : Nat) (i j : Nat), rPow n (rAlt A (rEps n)) k i j ↔ ∃ m, m ≤ k ∧ rPow n A m i j
  | 0, i, j => ⟨fun h => ⟨0, Nat.le_refl _, h⟩, fun ⟨m, h1, h2⟩ => by
    obtain rfl : m = 0 := (by omega)
    exact h2⟩
  | k + 1, i, j => by
    constructor
    · rintro ⟨q, h1, h2⟩
      obtain ⟨m, h3, h4⟩ := (pow_opt ha k i q).1 h1
      rcases h2 with h2 | ⟨rfl, -⟩
      · exact ⟨m + 1, by omega, q, h4, h2⟩
      · exact ⟨m, by omega, h4⟩
    · rintro ⟨m, h1, h2⟩
      by_cases e : m ≤ k
      · exact ⟨j, (pow_opt ha k i j).2 ⟨m, e, h2⟩, Or.inr ⟨rfl, ((ha.pow m) _ _ h2).2⟩⟩
      · obtain rfl : m = k + 1 := by omega
        obtain ⟨q, h3, h4⟩ := h2
        exact ⟨q, (pow_opt ha k i q).2 ⟨k, Nat.le_refl _, h3⟩, Or.inl h4⟩
theorem SegL.opt {a : List El} {A : Rl} (ha : SegL n hs a A) : SegL n hs (optE a) (rAlt A (rEps n)) := ha.alt SegL.e
/-- What a repetition is written out as has its relation. -/
theorem SegL.repx {a : List El} {A : Rl} (ha : SegL n hs a A) (mn mx : Int) (o2 : 0 ≤ mn) (o4 : mx = -1 ∨ (mn ≤ mx ∧ mx ≤ 250)) : SegL n hs (repX a mn mx) (rRep n A mn mx) := by
  unfold repX
  by_cases h0 : mx = 0
  · rw [if_pos h0]
    have e : rRep n A mn mx = rEps n := rl_ext fun i j => ⟨fun ⟨k, h1, h2, h3⟩ => by
      obtain rfl : k = 0 := by omega
      exact h3, fun h => ⟨0, by omega, by omega, h⟩⟩
    rw [e]; exact SegL.e
  · rw [if_neg h0]
    unfold partsX
    rcases o4 with rfl | ⟨o4, o5⟩
    · rw [if_pos rfl]
      obtain ⟨m, rfl⟩ := Int.eq_ofNat_of_zero_le o2
      match m with
      | 0 =>
        have := ha.rep 0 (-1)
        simpa [jn] using this
      | 1 =>
        have := ha.rep 1 (-1)
        simpa [jn] using this
      | m + 2 =>
        have e1 : (((m + 2 : Nat) : Int) - 1).toNat = m + 1 := by omega
        have e2 : (1 : Int) < ((m + 2 : Nat) : Int) := by omega
        rw [e1, if_pos e2, jn_snoc (by simp [List.replicate_succ])]
        have h := (ha.jn_pow m).cat (ha.rep 1 (-1))
        have e : rCat (rPow n A (m + 1)) (rRep n A 1 (-1)) = rRep n A ((m + 2 : Nat) : Int) (-1) := rl_ext fun i j => by
          constructor
          · rintro ⟨q, h1, k, h2, -, h3⟩
            refine ⟨m + 1 + k, by omega, Or.inl rfl, ?_⟩
            rw [pow_add ha.2]; exact ⟨q, h1, h3⟩
          · rintro ⟨k, h1, -, h2⟩
            obtain ⟨t, rfl⟩ : ∃ t, k = m + 1 + t := ⟨k - (m + 1), by omega⟩
            rw [pow_add ha.2] at h2
            obtain ⟨q, h3, h4⟩ := h2
            exact ⟨q, h3, t, by omega, Or.inl rfl, h4⟩
        rw [e] at h
        exact h
    · rw [if_neg (by omega)]
      obtain ⟨m, rfl⟩ := Int.eq_ofNat_of_zero_le o2
      obtain ⟨d, hd⟩ : ∃ d : Nat, mx = (m : Int) + d := ⟨(mx - m).toNat, by omega⟩
      subst hd
      rw [show ((m : Int)).toNat = m by omega, show ((m : Int) + d - m).toNat = d by omega]
      have key : rRep n A (m : Int) ((m : Int) + d) = rCat (rPow n A m) (rPow n (rAlt A (rEps n)) d) := rl_ext fun i j => by
        constructor
        · rintro ⟨k, h1, h2, h3⟩
          obtain ⟨t, rfl⟩ : ∃ t, k = m + t := ⟨k - m, by omega⟩
          rw [pow_add ha.2] at h3
          obtain ⟨q, h4, h5⟩ := h3
          exact ⟨q, h4, (pow_opt ha.2 d q j).2 ⟨t, by omega, h5⟩⟩
        · rintro ⟨q, h4, h5⟩
          obtain ⟨t, h6, h7⟩ := (pow_opt ha.2 d q j).1 h5
          refine ⟨m + t, by omega, by omega, ?_⟩
          rw [pow_add ha.2]; exact ⟨q, h4, h7⟩
      rw [key]
      clear key o2 o5 o4
      rcases Nat.eq_zero_or_pos m with e | e
      · subst e
        obtain ⟨d', rfl⟩ : ∃ d', d = d' + 1 := ⟨d - 1, by omega⟩
        have h := ha.opt.jn_pow d'
        have e : rCat (rPow n A 0) (rPow n (rAlt A (rEps n)) (d' + 1)) = rPow n (rAlt A (rEps n)) (d' + 1) := eps_cat h.2
        rw [e, List.replicate_zero, List.nil_append]
        exact h
      · obtain ⟨m', rfl⟩ : ∃ m', m = m' + 1 := ⟨m - 1, by omega⟩
        exact SegL.jn_rep ha.opt (ha.jn_pow m') (List.replicate (m' + 1) a) (by simp [List.replicate_succ]) (ha.jn_pow m') d
end

end Go.Proofs.YtfdkdjngeomcdaaDoor

namespace Go.Proofs.YtfdkdjngeomcdaaDoor
open Go.RowKit

/-- Whether b lies in one of the pairs. -/
def inPs (set : List Int) (b : Int) : Prop := ∃ i : Nat, 2 * i + 1 < set.length ∧ set[2 * i]?.getD 0 ≤ b ∧ b ≤ set[2 * i + 1]?.getD 0

set_option maxHeartbeats 4000000 in
set_option maxRecDepth 100000 in
theorem l1has_any (v : Value) (set : List Int) (b : Int) (w : World) (hv : SlAt mI 0 0 w.heap.size w v set) (hl : set.length ≤ 1048576) :
    Calls Tryd.prog 39 #[v, .int .i64 b] w fun e w' => RetB e (inPs set b) ∧ w' = w := by
  obtain ⟨a, cap, rfl, -, hc⟩ := hv
  go_enter Tryd.func39, Tryd.ntmps39
  go_wp2_with fail
  go_loop [5] (fun iv => ∃ k : Nat, 2 * k ≤ set.length + 1 ∧ iv = .int .i64 ((2 * k : Nat) : Int) ∧ ∀ j : Nat, j < k → ¬ (set[2 * j]?.getD 0 ≤ b ∧ b ≤ set[2 * j + 1]?.getD 0)) (fun iv => set.length + 2 - (intOf iv).toNat)
  case atStart => exact ⟨0, Nat.zero_le _, rfl, fun j hj => absurd hj (Nat.not_lt_zero _)⟩
  case round =>
    obtain ⟨k, hk, rfl, hno⟩ := hrel
    have Hno := hide hno
    clear hno
    by_cases hlt : 2 * k + 1 < set.length
    · have h1' : ((2 * k : Nat) : Int) + 1 < (set.length : Int) := by omega
      have h2' : ((2 * k : Nat) : Int) < (set.length : Int) := by omega
      have h3' : (0 : Int) ≤ ((2 * k : Nat) : Int) + 1 := by omega
      obtain ⟨g, off, rfl, -, -, hcell⟩ := hc (by omega)
      have hx : w.cell? ⟨g, off + 2 * k, none⟩ = some (.int .i64 (set[2 * k]?.getD 0)) := hcell _ (by omega)
      have hy : w.cell? ⟨g, off + (2 * k + 1), none⟩ = some (.int .i64 (set[2 * k + 1]?.getD 0)) := hcell _ (by omega)
      have Hyes : Hid (set[2 * k]?.getD 0 ≤ b → b ≤ set[2 * k + 1]?.getD 0 → inPs set b) := fun q1 q2 => ⟨k, hlt, q1, q2⟩
      have Hnx : Hid (¬ (set[2 * k]?.getD 0 ≤ b ∧ b ≤ set[2 * k + 1]?.getD 0) → ∀ j : Nat, j < k + 1 → ¬ (set[2 * j]?.getD 0 ≤ b ∧ b ≤ set[2 * j + 1]?.getD 0)) := fun h j hj => by
        by_cases e : j = k
        · subst e; exact h
        · exact unhide Hno j (by omega)
      clear hcell hc Hno
      generalize set[2 * k]?.getD 0 = x at *
      generalize set[2 * k + 1]?.getD 0 = y at *
      have hk2 : 2 * (k + 1) ≤ set.length + 1 := by omega
      have hkm : set.length + 2 - 2 * (k + 1) < set.length + 2 - 2 * k := by omega
      have ek : ((2 * (k + 1) : Nat) : Int) = ((2 * k : Nat) : Int) + 2 := by omega
      have EK := hide ek
      have hkb : 2 * k ≤ 1048576 := by omega
      clear ek hlt hk
      generalize hm : 2 * k = m at *
      have HM := hide hm
      clear hm
      by_cases g1 : x ≤ b
      · by_cases g2 : b ≤ y
        · have HQ := hide (unhide Hyes g1 g2)
          clear Hyes Hnx
          go_wp2
          go_ret
          exact ⟨RetB.yes (unhide HQ), rfl⟩
        · have HQ := hide (unhide Hnx (fun h => g2 h.2))
          clear Hyes Hnx
          go_wp2
          go_round
          case rel => exact ⟨k + 1, hk2, by rw [unhide EK], unhide HQ⟩
          case measure => simp [intOf]; omega
      · have HQ := hide (unhide Hnx (fun h => g1 h.1))
        clear Hyes Hnx
        go_wp2
        go_round
        case rel => exact ⟨k + 1, hk2, by rw [unhide EK], unhide HQ⟩
        case measure => simp [intOf]; omega
    · have h1' : ¬ ((2 * k : Nat) : Int) + 1 < (set.length : Int) := by omega
      have hkb : 2 * k ≤ 1048577 := by omega
      have HQ : Hid (¬ inPs set b) := fun ⟨i, hi, h2⟩ => unhide Hno i (by omega) h2
      generalize hm : 2 * k = m at *
      clear hm
      go_wp2
      go_ret
      exact ⟨RetB.no (unhide HQ), rfl⟩

theorem ints_slAt {N : Nat} {w : World} {v : Value} {xs : List Int} (h : IntsAt 0 N w v xs) : SlAt mI 0 0 N w v xs := by
  obtain ⟨a, c, e, h1, -, h2⟩ := h
  exact ⟨a, c, e, h1, h2⟩

end Go.Proofs.YtfdkdjngeomcdaaDoor

namespace Go.Proofs.YtfdkdjngeomcdaaDoor
open Go.RowKit

/-- The places where what begins at a marked place ends. -/
def EndsOf (n : Nat) (R : Rl) (F G : Nat → Bool) : Prop := ∀ j, j ≤ n → (G j = true ↔ ∃ i, F i = true ∧ R i j)
/-- The byte at this place is of the set. -/
def hsL (bs : List Int) : List Int → Nat → Prop := fun xs i => inPs xs (bs[i]?.getD 0)
def BytesOk (bs : List Int) : Prop := bs.length ≤ 20000 ∧ ∀ x ∈ bs, 0 ≤ x ∧ x ≤ 255
/-- What the model's l2ends answers. -/
def EndRet (n : Nat) (R : Rl) (F : Nat → Bool) (w w' : World) (e : Ending) : Prop := ∃ c G, e = .returned (vB c n) ∧ w.heap.size ≤ c ∧ BR w' n c G ∧ EndsOf n R F G ∧ Below w.heap.size w w'
/-- The model's answer where strings of this list of elements end. -/
def EnS (bs : List Int) (L : List El) (R : Rl) : Prop := ∀ (v lv : Value) (b : Nat) (F : Nat → Bool) (w : World), ElsAt 0 w.heap.size w v L → L.length ≤ 3000 → SlAt mB 0 0 w.heap.size w lv bs → BytesOk bs → BR w bs.length b F →
  Calls Tryd.prog 22 #[v, lv, vB b bs.length] w fun e w' => EndRet bs.length R F w w' e

set_option maxHeartbeats 4000000 in
set_option maxRecDepth 100000 in
theorem en_e (bs : List Int) : EnS bs [⟨0, [], 0, 0⟩] (rEps bs.length) := by
  intro v lv bq F w hv hlen hlv hbs hbr
  obtain ⟨a, cp, rfl, -, -⟩ := id hv
  obtain ⟨la, lc, rfl, -, -⟩ := id hlv
  obtain ⟨hlen2, hcap, b, off, rfl, hbn, hel⟩ := ElsAt.last (p := []) hv
  simp only [List.length_singleton, List.length_nil, Nat.zero_mul, Nat.add_zero] at hel hv ⊢
  obtain ⟨i1, i2, i3, sv, c0, c1, c2, c3, hints⟩ := hel
  obtain ⟨sa, sc, rfl, -, -, -⟩ := id hints
  obtain ⟨hn, -⟩ := hbs
  obtain ⟨n, hnn⟩ : ∃ n, n = bs.length := ⟨_, rfl⟩
  rw [← hnn] at hn hbr ⊢
  have hmk := run_make_row' (P := Tryd.prog) 56 4 (.bool false) 1 Tryd.underlying56 Tryd.zinBoolM rfl .i64 .i64 (n + 1) (by omega) (by omega)
  simp only [Int.natCast_add, Int.natCast_one] at hmk
  have hb2 := below2 w (.cells #[.int .i64 0, .slice sa 0 sc, .int .i64 0, .int .i64 0] 58) (.cells (madeCells #[.bool false] (n + 1)) 4)
  have h0 := br_made (w.alloc (.cells #[.int .i64 0, .slice sa 0 sc, .int .i64 0, .int .i64 0] 58)) n
  rw [sz_alloc] at h0
  obtain ⟨w3, hcp, hr3, hob⟩ := copy_bools _ n (w.heap.size + 1) bq _ F h0 (hbr.below hb2 (Nat.le_refl _))
  have HB : Hid (Below w.heap.size w w3) := hb2.trans (obk_bel hob (by omega))
  have HR := hide hr3
  clear hv hints i1 i2 i3 hlv hbr hb2 h0 hob hr3 hnn
  go_enter Tryd.func22, Tryd.ntmps22
  go_wp2
  go_ret
  exact ⟨_, F, rfl, by omega, unhide HR, fun j hj => ⟨fun h => ⟨j, h, rfl, hj⟩, fun ⟨i, h, e, _⟩ => e ▸ h⟩, unhide HB⟩


end Go.Proofs.YtfdkdjngeomcdaaDoor

namespace Go.Proofs.YtfdkdjngeomcdaaDoor
open Go.RowKit

/-- The pending set behind k bytes, by classes. -/
def stP (fs hs : Nat → Nat → Nat) (b : Bool) (f l : Nat → Nat) (C : Nat → Nat) : Nat → (Nat → Nat) × Bool
  | 0 => (f, b)
  | k + 1 => (orL fs (blN (andW (stP fs hs b f l C k).1 (hs (C k))) 512), !(eq8 (andW (andW (stP fs hs b f l C k).1 (hs (C k))) l)))
set_option maxRecDepth 100000 in
theorem fit_stP {fs hs : Nat → Nat → Nat} {b : Bool} {f l : Nat → Nat} {C : Nat → Nat} (hf : Fit f) (hfs : ∀ i, Fit (fs i)) (k : Nat) : Fit (stP fs hs b f l C k).1 := by
  cases k with
  | zero => exact hf
  | succ k => unfold stP; exact fit_orL hfs _
/-- The walker, ready to be read. -/
structure WkR (w : World) (B A N m gc : Nat) (hv fv : Value) (K : Nat → Nat) (hs fs : Nat → Nat → Nat) (b : Bool) (f l : Nat → Nat) : Prop where
  box : WkBox w B A (.slice (some ⟨gc, 0, none⟩) 256 256) hv
  aut : AutR w A N fv fs b f l
  cls : w.rowIs gc 3 256 (fun x => .int .i64 (K x : Nat))
  hol : RsP w hv m hs
  lt : ∀ x, x < 256 → K x < m
  fh : ∀ j, j < m → Fit (hs j)
  ff : Fit f
  fl : Fit l
  fs : ∀ i, Fit (fs i)
  inn : ∀ j, j < m → ∀ i, Bt (hs j) i = true → i < N
theorem WkR.keep {w w' : World} {B A N m gc n : Nat} {hv fv : Value} {K : Nat → Nat} {hs fs : Nat → Nat → Nat} {b : Bool} {f l : Nat → Nat} (h : WkR w B A N m gc hv fv K hs fs b f l) (hb : Below n w w') (hn : w.heap.size ≤ n) : WkR w' B A N m gc hv fv K hs fs b f l :=
  ⟨h.box.keep (hb.block B (Nat.lt_of_lt_of_le h.box.lt hn)), h.aut.keep hb hn, h.cls.of_block (hb.block gc (Nat.lt_of_lt_of_le h.cls.lt hn)), own_keep h.hol hb hn, h.lt, h.fh, h.ff, h.fl, h.fs, h.inn⟩

set_option maxHeartbeats 8000000 in
set_option maxRecDepth 100000 in
theorem accepts_any (B A N m gc : Nat) (hv fv lv : Value) (K : Nat → Nat) (hs fs : Nat → Nat → Nat) (b : Bool) (f l : Nat → Nat) (bs : List Int) (w : World) (hW : WkR w B A N m gc hv fv K hs fs b f l) (hlv : SlAt mB 0 0 w.heap.size w lv bs) (hbs : BytesOk bs) (htz : TZ w) (htl : Tryd.laysTZ_ren.g 1 < w.heap.size) :
    Calls Tryd.prog 18 #[.pointer (some ⟨B, 0, none⟩), lv] w fun e w' => e = .returned (.bool (stP fs hs b f l (fun k => K (bs[k]?.getD 0).toNat) bs.length).2) ∧ Below w.heap.size w w' := by
  obtain ⟨la, lc, rfl, -, -⟩ := id hlv
  obtain ⟨C, hC⟩ : ∃ C : Nat → Nat, C = fun k => K (bs[k]?.getD 0).toNat := ⟨_, rfl⟩
  rw [← hC]
  have HC := hide hC
  have HW := hide hW
  have Hlv := hide hlv
  have Hbs := hide hbs.2
  have hn := hbs.1
  have HTZ : Hid (∀ W, Below w.heap.size w W → TZ W) := fun W hW => htz.below hW htl
  have HS := hide (start_any B A N _ hv fv fs b f l w hW.box hW.aut)
  unfold pd at HS
  obtain ⟨x9, hx9⟩ : ∃ x9, x9 = (stP fs hs b f l C bs.length).2 := ⟨_, rfl⟩
  rw [← hx9]
  have HX9 := hide hx9
  clear hC hW hlv hbs htz hx9
  go_enter Tryd.func18, Tryd.ntmps18
  go_wp2_with fail
  refine (unhide HS).mono ?_
  rintro e w1 ⟨rfl, hb1⟩
  have hz1 := hb1.size
  have h0 : (w1.alloc (.cells (c9 f b) 90)).heap[w1.heap.size]? = some (.cells (c9 f b) 90 (0, 0)) := (pushd_alloc w1 _).new
  have hB1 : Below w.heap.size w (w1.alloc (.cells (c9 f b) 90)) := hb1.alloc hz1 _
  have H0 := hide h0
  have HB1 := hide hB1
  obtain ⟨D, hD⟩ : ∃ D, D = w1.heap.size := ⟨_, rfl⟩
  have hDw : w.heap.size ≤ D := by omega
  have HD := hide hD
  clear h0 hB1 hb1 HS hD
  go_wp2_with fail
  rw [← unhide HD] at H0 ⊢
  go_loopw [12] (fun iv wr => ∃ i : Nat, i ≤ bs.length ∧ iv = .int .i64 i ∧ wr.heap[D]? = some (.cells (c9 (stP fs hs b f l C i).1 (stP fs hs b f l C i).2) 90 (0, 0)) ∧ Below w.heap.size w wr) (fun iv _ => bs.length - (intOf iv).toNat)
  case atStart => exact ⟨0, by omega, rfl, unhide H0, unhide HB1⟩
  case round =>
    clear H0 HB1 HD hz1
    obtain ⟨i, hi, rfl, hbx, hb⟩ := hrel
    by_cases hlt : i < bs.length
    · have hlt' : (i : Int) < (bs.length : Int) := by omega
      obtain ⟨_, _, e, -, hc⟩ := (unhide Hlv).below hb (Nat.le_refl _)
      cases e
      obtain ⟨lb, lo, rfl, -, -, hcell⟩ := hc (by omega)
      have d3 := hcell i hlt
      obtain ⟨x, hx⟩ : ∃ x, x = bs[i]?.getD 0 := ⟨_, rfl⟩
      have hx2 : 0 ≤ x ∧ x ≤ 255 := unhide Hbs x (by rw [hx, List.getElem?_eq_getElem hlt]; exact List.getElem_mem hlt)
      rw [← hx] at d3
      unfold mB at d3
      obtain ⟨t, rfl⟩ := Int.eq_ofNat_of_zero_le hx2.1
      have ht : t < 256 := by omega
      have ht' : (t : Int) < 256 := by omega
      have hWr := (unhide HW).keep hb (Nat.le_refl _)
      obtain ⟨-, k1, -⟩ := hWr.box.cells
      have k3 := hWr.cls.cell ht
      have hCi : C i = K t := by
        rw [unhide HC]
        show K (bs[i]?.getD 0).toNat = K t
        rw [← hx]
        rfl
      obtain ⟨P, hP⟩ : ∃ P, P = (stP fs hs b f l C i).1 := ⟨_, rfl⟩
      obtain ⟨y, hy⟩ : ∃ y, y = (stP fs hs b f l C i).2 := ⟨_, rfl⟩
      rw [← hP, ← hy] at hbx
      have hPf : Fit P := by rw [hP]; exact fit_stP hWr.ff hWr.fs i
      have HST := hide (step_any B A N (K t) m _ hv fv hs fs b f l P y wr.drew (hWr.box.keep rfl) (hWr.aut.keep (Below.refl wr.heap.size wr).drew (Nat.le_refl _)) (own_keep hWr.hol (Below.refl wr.heap.size wr).drew (Nat.le_refl _)) (hWr.lt t ht) hPf (hWr.fh _ (hWr.lt t ht)) hWr.fl hWr.fs (hWr.inn _ (hWr.lt t ht)) ((unhide HTZ _ hb).same rfl) (by have := hb.size; show _ < wr.heap.size; omega))
      obtain ⟨P', hP'⟩ : ∃ P', P' = orL fs (blN (andW P (hs (K t))) 512) := ⟨_, rfl⟩
      obtain ⟨y', hy'⟩ : ∃ y', y' = !(eq8 (andW (andW P (hs (K t))) l)) := ⟨_, rfl⟩
      rw [← hP', ← hy'] at HST
      unfold pd at HST
      have HNX : Hid ((stP fs hs b f l C (i + 1)).1 = P' ∧ (stP fs hs b f l C (i + 1)).2 = y') := ⟨by show orL fs (blN (andW (stP fs hs b f l C i).1 (hs (C i))) 512) = P'; rw [← hP, hCi, hP'], by show (!(eq8 (andW (andW (stP fs hs b f l C i).1 (hs (C i))) l))) = y'; rw [← hP, hCi, hy']⟩
      have hrow := blk_row9 hbx
      have p0 := hrow.cell (i := 0) (by omega)
      have p1 := hrow.cell (i := 1) (by omega)
      have p2 := hrow.cell (i := 2) (by omega)
      have p3 := hrow.cell (i := 3) (by omega)
      have p4 := hrow.cell (i := 4) (by omega)
      have p5 := hrow.cell (i := 5) (by omega)
      have p6 := hrow.cell (i := 6) (by omega)
      have p7 := hrow.cell (i := 7) (by omega)
      have p8 := hrow.cell (i := 8) (by omega)
      simp only [pdF, wd, Nat.reduceLT, if_true, if_false, Nat.lt_irrefl] at p0 p1 p2 p3 p4 p5 p6 p7 p8
      have HBX := hide hbx
      have HB := hide hb
      have hDl : D < wr.heap.size := (Array.getElem?_eq_some_iff.1 hbx).1
      clear hc hcell hx hWr hCi hP hy hP' hy' hbx hb hrow
      go_wp2_with fail
      refine wp_region_quiet_tail 9 (by kernel_rfl) (by kernel_rfl) ?_
      simp only [List.take_succ_cons, List.take_zero, List.drop_succ_cons, List.drop_zero]
      repeat (first | go_big_quiet_skip | (go_big_quiet_want; go_big_quiet_op; go_big_quiet_on))
      refine wpQuiet_nil ?_
      go_wp2_with fail
      refine (unhide HST).mono ?_
      rintro e w2 ⟨rfl, hb2⟩
      have hblk2 : w2.heap[D]? = some (.cells (c9 P y) 90 (0, 0)) := (hb2.block D hDl).trans (unhide HBX)
      have HBK := hide hblk2
      have HB2 : Hid (Below w.heap.size w w2) := (unhide HB).trans ⟨hb2.os, hb2.tape, hb2.output, hb2.size, fun k hk => hb2.block k (by have := (unhide HB).size; show k < wr.heap.size; omega)⟩
      clear hblk2 hb2 HST p0 p1 p2 p3 p4 p5 p6 p7 p8
      go_wp2_with (first | (refine wpList_store_row rfl 90 (.tmp 5) (.tmp 25) rfl D #[.int .u64 (P' 0 : Nat), .int .u64 (P' 1 : Nat), .int .u64 (P' 2 : Nat), .int .u64 (P' 3 : Nat), .int .u64 (P' 4 : Nat), .int .u64 (P' 5 : Nat), .int .u64 (P' 6 : Nat), .int .u64 (P' 7 : Nat), .bool y'] (by first | rfl | (simp [Act.eval]; done)) (by first | rfl | (simp [Act.eval]; done)) 90 _ (unhide HBK) (by kernel_rfl) rfl (all9 _ _) ?_) | fail)
      go_roundw
      case rel =>
        refine ⟨i + 1, by omega, by go_num, ?_, (unhide HB2).trans (Obk.bel2 ⟨rfl, rfl, rfl, by simp [World.setRow], fun k hk => setRow_other _ _ k _ hk⟩ hDw)⟩
        rw [(unhide HNX).1, (unhide HNX).2]
        exact setRow_heap _ _ _ _ _ _ (unhide HBK)
      case measure => simp [intOf]; omega
    · obtain rfl : i = bs.length := by omega
      rw [← unhide HX9] at hbx
      have p8 := (blk_row9 hbx).cell (i := 8) (by omega)
      simp only [pdF, Nat.lt_irrefl, if_false] at p8
      have HB := hide hb
      clear hbx hb
      go_wp2
      go_ret
      exact ⟨rfl, unhide HB⟩

end Go.Proofs.YtfdkdjngeomcdaaDoor
