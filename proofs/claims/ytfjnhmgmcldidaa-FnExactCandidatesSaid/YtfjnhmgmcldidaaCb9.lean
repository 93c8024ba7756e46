import Derived.Test.YtfjnhmgmcldidaaCb8
namespace Go.Proofs.Ytfjnhmgmcldidaa
open Go.RowKit

/-- The bits of a that b has not. -/
def anb (a b : Nat) : Nat := a ^^^ (a &&& b)
theorem anb_bit (a b i : Nat) : (anb a b).testBit i = (a.testBit i && !b.testBit i) := by
  unfold anb
  rw [Nat.testBit_xor, Nat.testBit_and]
  cases a.testBit i <;> cases b.testBit i <;> rfl
theorem anb_lt {a : Nat} (b : Nat) (h : a < 18446744073709551616) : anb a b < 18446744073709551616 := by
  unfold anb
  exact Nat.xor_lt_two_pow (n := 64) h (Nat.lt_of_le_of_lt Nat.and_le_left h)
theorem ln_anb (a b : Nat) (ha : a < 18446744073709551616) (hb : b < 18446744073709551616) : bits .andNot .u64 (a : Int) (b : Int) = ((anb a b : Nat) : Int) := by
  have h1 : (BitVec.ofInt 64 (a : Int)).toNat = a := by
    rw [BitVec.ofInt_natCast, BitVec.toNat_ofNat]; exact Nat.mod_eq_of_lt (by omega)
  have h2 : (BitVec.ofInt 64 (b : Int)).toNat = b := by
    rw [BitVec.ofInt_natCast, BitVec.toNat_ofNat]; exact Nat.mod_eq_of_lt (by omega)
  have h3 : (BitVec.ofInt 64 (a : Int) &&& ~~~ BitVec.ofInt 64 (b : Int)).toNat = anb a b := by
    apply Nat.eq_of_testBit_eq
    intro i
    rw [anb_bit, BitVec.toNat_and, Nat.testBit_and, h1, BitVec.testBit_toNat, BitVec.getLsbD_not, ← BitVec.testBit_toNat, h2]
    by_cases e : i < 64
    · simp [e]
    · have : a.testBit i = false := Nat.testBit_lt_two_pow (Nat.lt_of_lt_of_le (show a < 2 ^ 64 from ha) (Nat.pow_le_pow_right (by decide) (by omega)))
      simp [this]
  show IntKind.u64.wrap ((BitVec.ofInt 64 (a : Int) &&& ~~~ BitVec.ofInt 64 (b : Int)).toNat : Int) = _
  rw [h3, IntKind.wrap_u64]
  have := anb_lt b ha
  omega
/-- A block's bits are taken out. -/
def lnX (g : Nat → Nat) (p : Nat × Nat) : Nat → Nat := fun j => if j = p.1 then anb (g j) p.2 else g j
theorem lnX_fit {g : Nat → Nat} (h : LnF g) (p : Nat × Nat) : LnF (lnX g p) := fun j => by
  unfold lnX
  split
  · exact anb_lt _ (h j)
  · exact h j
theorem fold_fit : ∀ (bs : List (Nat × Nat)) {g : Nat → Nat}, LnF g → LnF (bs.foldl lnX g)
  | [], _, h => h
  | p :: bs, _, h => fold_fit bs (lnX_fit h p)
theorem fold_bit : ∀ (bs : List (Nat × Nat)) (g : Nat → Nat) (j b : Nat), ((bs.foldl lnX g) j).testBit b = ((g j).testBit b && !(bs.any fun p => p.1 == j && p.2.testBit b))
  | [], g, j, b => by simp
  | p :: bs, g, j, b => by
    rw [List.foldl_cons, fold_bit bs, List.any_cons]
    unfold lnX
    by_cases e : j = p.1
    · rw [if_pos e, anb_bit]
      subst e
      cases (g p.1).testBit b <;> cases p.2.testBit b <;> simp
    · rw [if_neg e]
      have : (p.1 == j) = false := by simpa using fun q => e q.symm
      rw [this]
      simp
theorem fold_blk (M g : Nat → Nat) {i : Nat} (hi : i / 64 < 16) : LnB ((blkOf M 16).foldl lnX g) i = (LnB g i && !LnB M i) := by
  unfold LnB
  rw [fold_bit]
  congr 2
  rw [Bool.eq_iff_iff, List.any_eq_true]
  constructor
  · rintro ⟨p, hp, h⟩
    have h1 := blkOf_mem.1 hp
    simp at h
    rw [← h.1, ← h1.2.2]
    rw [← h.1] at h
    exact h.2
  · intro h
    refine ⟨(i / 64, M (i / 64)), blkOf_mem.2 ⟨hi, ?_, rfl⟩, by simpa using h⟩
    intro e
    simp [e] at h
theorem mAll_bit {hw : Int → Nat → Nat} : ∀ (ts : List Int) (f : Nat → Nat) (i : Nat), LnB (mAll hw f ts) i = (LnB f i && ts.all fun t => LnB (hw t) i)
  | [], f, i => by simp [mAll]
  | t :: ts, f, i => by
    show LnB (mAll hw (fun j => f j &&& hw t j) ts) i = _
    rw [mAll_bit ts, List.all_cons]
    unfold LnB
    rw [Nat.testBit_and, Bool.and_assoc]
/-- What a clause takes out. -/
theorem rest_step {base : Int} {n : Nat} {ks : List Int} {pss : List (List Int)} {ts : List Int} {g : Nat → Nat} {hw : Int → Nat → Nat} (hLn : ∀ t ∈ ts, LnD base n (hw t) (plD pss (jsOf ks t (min ks.length pss.length)))) (hg : ∀ i, LnB g i = true → i < n) (hn : n ≤ 1000) (i : Nat) : LnB ((blkOf (mAll hw g ts) 16).foldl lnX g) i = (LnB g i && !mkB base ks pss ts i) := by
  by_cases hi : i / 64 < 16
  · rw [fold_blk _ _ hi, mAll_bit]
    cases h : LnB g i with
    | false => simp
    | true =>
      have hin := hg i h
      have : (ts.all fun t => LnB (hw t) i) = mkB base ks pss ts i := by
        rw [Bool.eq_iff_iff, List.all_eq_true, mkB_iff]
        constructor
        · intro h9 t ht
          exact plD_lst.1 (((hLn t ht).2 i).1 (h9 t ht)).2
        · intro h9 t ht
          exact ((hLn t ht).2 i).2 ⟨hin, plD_lst.2 (h9 t ht)⟩
      rw [this]
      simp
  · have h1 : LnB g i = false := by
      cases h : LnB g i with
      | false => rfl
      | true => have := hg i h; omega
    unfold LnB at h1 ⊢
    rw [fold_bit, h1]
    simp
/-- A row of blocks, as the memory that is cut down. -/
theorem own_mts {base : Nat} {w : World} {lv : Value} {bs : List (Nat × Nat)} (h : w.ownsRow base 61 2 lv bs.length (flB bs)) : ∃ g cap a c, lv = .slice a bs.length c ∧ base ≤ g ∧ (0 < bs.length → a = some ⟨g, 0, none⟩ ∧ c = cap ∧ bs.length ≤ cap ∧ MtS w w g (cap * 2) bs [] 0) := by
  rcases h.2 with ⟨h1, h2⟩ | ⟨g, cap, cur, h1, h2, h3, h4, h5, h6, h7⟩
  · exact ⟨base, 0, none, 0, by rw [h1, h2], Nat.le_refl _, fun q => by omega⟩
  · refine ⟨g, cap, _, _, h1, h2, fun _ => ⟨rfl, rfl, h4, ⟨⟨fun i => cur[i]?.getD undef, ⟨cur, h3, h6, fun i hi => ?_⟩, fun k p hp => by simp at hp, fun k p _ hp => ?_⟩, FrO.refl _ _⟩⟩⟩
    · show cur[i]? = some (cur[i]?.getD undef)
      rw [Array.getElem?_eq_getElem (by omega)]; rfl
    · have hk := (List.getElem?_eq_some_iff.1 hp).1
      obtain ⟨f1, f2⟩ := flB_at bs hp
      rw [← h7, List.getElem?_take] at f1 f2
      rw [if_pos (by omega)] at f1 f2
      rw [Array.getElem?_toList] at f1 f2
      exact ⟨by simp [f1], by simp [f2]⟩
theorem own_blr {base g : Nat} {w : World} {v : Value} {h : Nat → Nat} (ho : w.ownsRow base 61 2 v (blkOf h 16).length (flB (blkOf h 16))) (hg : ∀ q, v.ownBlock = some q → q ≠ g) : BlR w v h g := by
  rcases ho.2 with ⟨h1, h2⟩ | ⟨b, cap, cur, h1, h2, h3, h4, h5, h6, h7⟩
  · refine ⟨g + 1, 0, ⟨none, 0, by rw [h1, h2], by omega, fun q => by omega⟩, by omega, fun q => by omega, fun k p hp => ?_⟩
    rw [List.eq_nil_of_length_eq_zero h2] at hp
    simp at hp
  · refine ⟨b, 0, ⟨_, cap, by rw [h1, Nat.sub_zero], by omega, fun _ => by simp⟩, hg b (by rw [h1]; rfl), fun _ => (Array.getElem?_eq_some_iff.1 h3).1, fun k p hp => ?_⟩
    have hk := (List.getElem?_eq_some_iff.1 hp).1
    obtain ⟨f1, f2⟩ := flB_at _ hp
    rw [← h7, List.getElem?_take] at f1 f2
    rw [if_pos (by omega)] at f1 f2
    rw [Array.getElem?_toList] at f1 f2
    rw [Nat.zero_add]
    exact ⟨by simp [World.cell?, h3, f1], by simp [World.cell?, h3, f2]⟩
/-- Which lines are left over behind c clauses. -/
def RsI (base : Int) (n : Nat) (ks : List Int) (pss qss : List (List Int)) (c : Nat) (g : Nat → Nat) : Prop := LnF g ∧ ∀ i, LnB g i = (decide (i < n) && !smB base ks pss qss c i)
theorem RsI.lt {base : Int} {n : Nat} {ks : List Int} {pss qss : List (List Int)} {c : Nat} {g : Nat → Nat} (h : RsI base n ks pss qss c g) (i : Nat) (hi : LnB g i = true) : i < n := by
  rw [h.2 i] at hi
  simp at hi
  exact hi.1
theorem RsI.next {base : Int} {n : Nat} {ks : List Int} {pss qss : List (List Int)} {c : Nat} {g : Nat → Nat} {hw : Int → Nat → Nat} (h : RsI base n ks pss qss c g) (hLn : ∀ t ∈ qss[c]?.getD [], LnD base n (hw t) (plD pss (jsOf ks t (min ks.length pss.length)))) (hn : n ≤ 1000) : RsI base n ks pss qss (c + 1) ((blkOf (mAll hw g (qss[c]?.getD [])) 16).foldl lnX g) := by
  refine ⟨fold_fit _ h.1, fun i => ?_⟩
  rw [rest_step hLn h.lt hn i, h.2 i, smB_succ]
  cases decide (i < n) <;> cases smB base ks pss qss c i <;> cases mkB base ks pss (qss[c]?.getD []) i <;> rfl
theorem RsI.fin {base : Int} {n : Nat} {ks : List Int} {pss qss : List (List Int)} {g : Nat → Nat} (h : RsI base n ks pss qss qss.length g) {i : Nat} (hi : i < n) : LnB g i = false ↔ Cnd base ks pss qss i := by
  rw [h.2 i]
  unfold Cnd
  rw [← smB_iff]
  simp [hi]
def LnU (n : Nat) (g : Nat → Nat) : Prop := LnF g ∧ ∀ i, LnB g i = decide (i < n)
theorem LnU.zero : LnU 0 (fun _ => 0) := ⟨fun j => by simp, fun i => by simp [LnB]⟩
theorem LnU.next {n : Nat} {g : Nat → Nat} (h : LnU n g) : LnU (n + 1) (lnP g n) := ⟨lnF_put h.1 n, fun i => by
  rw [lnB_put, h.2 i, Bool.eq_iff_iff]
  simp
  omega⟩
theorem LnU.rsI {n : Nat} {g : Nat → Nat} (h : LnU n g) (base : Int) (ks : List Int) (pss qss : List (List Int)) : RsI base n ks pss qss 0 g := ⟨h.1, fun i => by rw [h.2 i, smB_zero]; simp⟩

end Go.Proofs.Ytfjnhmgmcldidaa
