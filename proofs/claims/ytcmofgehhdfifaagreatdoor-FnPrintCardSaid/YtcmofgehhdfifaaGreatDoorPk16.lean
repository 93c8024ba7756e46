import Derived.Test.YtcmofgehhdfifaaGreatDoorPk10
import Derived.Test.YtcmofgehhdfifaaGreatDoorPk8
import Derived.Test.YtcmofgehhdfifaaGreatDoorC5
import Derived.Test.YtcmofgehhdfifaaGreatDoorPk11
import Derived.Test.YtcmofgehhdfifaaGreatDoorPk5
import Derived.Test.YtcmofgehhdfifaaGreatDoorPk15
namespace Go.Proofs.YtcmofgehhdfifaaGreatDoor
open Go.RowKit
/-! What the model draws of a code: sets and trees, as functions of the code. -/
def dW (y : Int) : Int := if 0 < y % 3 then 0 else y % 12
def mkR (p : Nat → Bool) (lo hi : Int) (n : Nat) : Nat → Bool := fun b => p b || (decide (lo ≤ (b : Int) ∧ (b : Int) ≤ hi) && decide (b < n))
def dMk : Nat → (Nat → Bool) → List Int → (Nat → Bool) × List Int
  | 0, p, zs => (p, zs)
  | n + 1, p, zs => dMk n (mkR p (dB (zs.headD 0)) (dB (zs.headD 0) + dW (zs.tail.headD 0)) 256) zs.tail.tail
theorem dMk_cod : ∀ (n : Nat) (p : Nat → Bool) (zs : List Int), Cod zs → Cod (dMk n p zs).2
  | 0, _, _, h => h
  | n + 1, _, _, h => dMk_cod n _ _ h.tail.tail
def dSet (xs : List Int) : List Int × List Int :=
  if xs.headD 0 % 24 < 16 then ([dB (xs.tail.headD 0), dB (xs.tail.headD 0)], xs.tail.tail)
  else if xs.headD 0 % 24 = 16 then ([97, 98], xs.tail) else if xs.headD 0 % 24 = 17 then ([97, 99], xs.tail)
  else if xs.headD 0 % 24 = 18 then ([48, 57], xs.tail) else if xs.headD 0 % 24 = 19 then ([0, 9, 11, 255], xs.tail)
  else if xs.headD 0 % 24 = 20 then (if xs.tail.headD 0 % 3 = 0 then [] else if xs.tail.headD 0 % 3 = 1 then [0, 255] else [97, 104], xs.tail.tail)
  else (cnn (if xs.headD 0 % 24 = 23 then fun b => !(dMk (1 + xs.tail.headD 0 % 4).toNat (fun _ => false) xs.tail.tail).1 b else (dMk (1 + xs.tail.headD 0 % 4).toNat (fun _ => false) xs.tail.tail).1), (dMk (1 + xs.tail.headD 0 % 4).toNat (fun _ => false) xs.tail.tail).2)
theorem dSet_cod {xs : List Int} (h : Cod xs) : Cod (dSet xs).2 := by
  unfold dSet
  repeat' split
  all_goals first | exact h.tail.tail | exact h.tail | exact dMk_cod _ _ _ h.tail.tail
def SetL (cs : List Int) : Prop := cs.length ≤ 512 ∧ ∀ x ∈ cs, 0 ≤ x ∧ x ≤ 255
theorem cnn_setL (p : Nat → Bool) : SetL (cnn p) := by
  have h := (cnn_ok p).1
  refine ⟨?_, fun x hx => ?_⟩
  · have := cnP_len p 256
    exact this
  · obtain ⟨i, hi, e⟩ := List.getElem_of_mem hx
    have := h.2.1 i hi
    rw [List.getElem?_eq_getElem hi, Option.getD_some, e] at this
    exact this
theorem dSet_setL (xs : List Int) : SetL (dSet xs).1 := by
  have hb := dB_byte (y := xs.tail.headD 0)
  unfold dSet
  repeat' split
  all_goals first | exact cnn_setL _ | (refine ⟨by simp, fun x hx => ?_⟩; simp only [List.mem_cons, List.not_mem_nil, or_false] at hx <;> omega)
theorem SetL.in64 {cs : List Int} (h : SetL cs) (i : Nat) : In64 (cs[i]?.getD 0) := by
  by_cases hi : i < cs.length
  · rw [List.getElem?_eq_getElem hi]
    have := h.2 _ (List.getElem_mem hi)
    simp only [Option.getD_some]
    unfold In64
    omega
  · rw [List.getElem?_eq_none (by omega)]
    exact ⟨by decide, by decide⟩
theorem SetL.nice {cs : List Int} (h : SetL cs) : Nice [⟨1, cs, 0, 0⟩] := by
  have hl := h.1
  refine ⟨fun i => ?_, fun i => ?_⟩
  · cases i with
    | zero => exact ⟨by simp [In64], by simp [In64], by simp [In64], fun j => h.in64 j⟩
    | succ i => simp [dE, In64]
  · cases i with
    | zero => show cs.length ≤ 1048576; omega
    | succ i => simp [dE]
def sE (cs : List Int) : List El := [⟨1, cs, 0, 0⟩]
def eE : List El := [⟨0, [], 0, 0⟩]
def catT (a b : List El) : List El := a ++ b ++ [⟨2, [], 0, 0⟩]
def altT (a b : List El) : List El := a ++ b ++ [⟨3, [], 0, 0⟩]
def repTr (a : List El) (lo hi : Int) : List El := a ++ [⟨4, [], lo, hi⟩]
def szL (L : List El) : Int := (szRun [] L).headD 0
structure DT (n : Nat) (L : List El) : Prop where
  len : L.length ≤ n
  nice : Nice L
  seg : ∃ c, SegM L c ∧ SzS L c
theorem DT.mono {n m : Nat} {L : List El} (h : DT n L) (hm : n ≤ m) : DT m L := ⟨Nat.le_trans h.len hm, h.nice, h.seg⟩
theorem DT.size {n : Nat} {L : List El} (h : DT n L) : SzS L (szL L) := by
  obtain ⟨c, h1, h2⟩ := h.seg
  have : szL L = c := by unfold szL; rw [h1.run []]; rfl
  rw [this]
  exact h2
theorem DT.szb {n : Nat} {L : List El} (h : DT n L) : 0 ≤ szL L ∧ szL L ≤ 501 := by
  obtain ⟨c, h1, h2⟩ := h.seg
  have : szL L = c := by unfold szL; rw [h1.run []]; rfl
  rw [this]
  exact h1.bd
theorem DT.e : DT 1 eE := ⟨Nat.le_refl _, Nice.op _ _ _ (by simp [In64]) (by simp [In64]) (by simp [In64]), 1, SegM.leaf (Or.inl rfl), fun v w hv _ => l1size_leaf 0 (Or.inl rfl) _ v w hv⟩
theorem DT.s {cs : List Int} (h : SetL cs) : DT 1 (sE cs) := ⟨Nat.le_refl _, h.nice, 1, SegM.leaf (Or.inr rfl), fun v w hv _ => l1size_leaf 1 (Or.inr rfl) _ v w hv⟩
theorem DT.bin {n m : Nat} {a b : List El} (ha : DT n a) (hb : DT m b) (k : Int) (hk : k = 2 ∨ k = 3) : DT (n + m + 1) (a ++ b ++ [⟨k, [], 0, 0⟩]) := by
  obtain ⟨ca, a1, a2⟩ := ha.seg
  obtain ⟨cb, b1, b2⟩ := hb.seg
  have hal := ha.len
  have hbl := hb.len
  refine ⟨by simp; omega, (ha.nice.app hb.nice).app (Nice.op _ _ _ ?_ (by simp [In64]) (by simp [In64])), _, SegM.bin a1 b1 hk, fun v w hv hl => l1size_bin k hk _ _ _ _ a1 b1 a2 b2 v w hv hl⟩
  rcases hk with rfl | rfl <;> simp [In64]
theorem DT.cat {n m : Nat} {a b : List El} (ha : DT n a) (hb : DT m b) : DT (n + m + 1) (catT a b) := ha.bin hb 2 (Or.inl rfl)
theorem DT.alt {n m : Nat} {a b : List El} (ha : DT n a) (hb : DT m b) : DT (n + m + 1) (altT a b) := ha.bin hb 3 (Or.inr rfl)
theorem DT.rep {n : Nat} {a : List El} (ha : DT n a) {lo hi : Int} (o2 : 0 ≤ lo) (o3 : lo ≤ 250) (o4 : hi = -1 ∨ (lo ≤ hi ∧ hi ≤ 250)) : DT (n + 1) (repTr a lo hi) := by
  obtain ⟨ca, a1, a2⟩ := ha.seg
  have hal := ha.len
  refine ⟨by simp [repTr]; omega, ha.nice.app (Nice.op _ _ _ (by simp [In64]) (by unfold In64; omega) (by unfold In64; omega)), _, SegM.rep a1 rfl o2 o4, fun v w hv hl => l1size_rep lo hi _ _ a1 o2 o3 o4 a2 v w hv hl⟩
def dWd : Nat → List El → List Int → List El × List Int
  | 0, t, zs => (t, zs)
  | n + 1, t, zs => dWd n (catT t (sE [dB (zs.headD 0), dB (zs.headD 0)])) zs.tail
def dWord (xs : List Int) : List El × List Int := dWd (1 + xs.headD 0 % 4).toNat (sE [dB (xs.tail.headD 0), dB (xs.tail.headD 0)]) xs.tail.tail
theorem one_setL (y : Int) : SetL [dB y, dB y] := by
  have := dB_byte (y := y)
  refine ⟨by simp, fun x hx => ?_⟩
  simp at hx
  omega
theorem dWd_dt : ∀ (n : Nat) {m : Nat} {t : List El} (zs : List Int), DT m t → DT (m + 2 * n) (dWd n t zs).1
  | 0, _, _, _, h => h
  | n + 1, m, t, zs, h => (dWd_dt n _ (h.cat (DT.s (one_setL _)))).mono (by omega)
theorem dWd_cod : ∀ (n : Nat) (t : List El) (zs : List Int), Cod zs → Cod (dWd n t zs).2
  | 0, _, _, h => h
  | n + 1, _, _, h => dWd_cod n _ _ h.tail
theorem dWord_dt (xs : List Int) : DT 9 (dWord xs).1 := (dWd_dt _ _ (DT.s (one_setL _))).mono (by omega)
theorem dWord_cod {xs : List Int} (h : Cod xs) : Cod (dWord xs).2 := dWd_cod _ _ _ h.tail.tail
def rpB (xs : List Int) : (Int × Int) × List Int :=
  if xs.headD 0 % 12 < 3 then ((0, -1), xs.tail) else if xs.headD 0 % 12 < 5 then ((1, -1), xs.tail) else if xs.headD 0 % 12 < 7 then ((0, 1), xs.tail)
  else ((xs.tail.headD 0 % 4, if xs.headD 0 % 12 = 11 then -1 else xs.tail.headD 0 % 4 + xs.tail.tail.headD 0 % 4), xs.tail.tail.tail)
def dRep (x : List El) (xs : List Int) : List El × List Int := (if 60 < szL (repTr x (rpB xs).1.1 (rpB xs).1.2) then x else repTr x (rpB xs).1.1 (rpB xs).1.2, (rpB xs).2)
theorem rpB_ok (xs : List Int) : 0 ≤ (rpB xs).1.1 ∧ (rpB xs).1.1 ≤ 3 ∧ ((rpB xs).1.2 = -1 ∨ ((rpB xs).1.1 ≤ (rpB xs).1.2 ∧ (rpB xs).1.2 ≤ 6)) := by
  unfold rpB
  repeat' split
  all_goals first
    | exact ⟨by decide, by decide, .inl rfl⟩
    | exact ⟨by decide, by decide, .inr ⟨by decide, by decide⟩⟩
    | exact ⟨by simp only; omega, by simp only; omega, .inl rfl⟩
    | exact ⟨by simp only; omega, by simp only; omega, .inr ⟨by simp only; omega, by simp only; omega⟩⟩
theorem rpB_cod {xs : List Int} (h : Cod xs) : Cod (rpB xs).2 := by
  unfold rpB
  repeat' split
  all_goals first | exact h.tail.tail.tail | exact h.tail
theorem dRep_t {n : Nat} {x : List El} (h : DT n x) (xs : List Int) : DT (n + 1) (repTr x (rpB xs).1.1 (rpB xs).1.2) := by
  obtain ⟨h1, h2, h3⟩ := rpB_ok xs
  exact h.rep h1 (by omega) (h3.imp id (fun q => ⟨q.1, by omega⟩))
theorem dRep_dt {n : Nat} {x : List El} (h : DT n x) (xs : List Int) : DT (n + 1) (dRep x xs).1 := by
  unfold dRep
  split
  · exact h.mono (by omega)
  · exact dRep_t h xs
def dTree : Nat → List Int → List El × List Int
  | 0, xs => (sE (dSet xs.tail).1, (dSet xs.tail).2)
  | d + 1, xs =>
    if xs.headD 0 % 16 < 4 ∨ xs.tail.length = 0 then (sE (dSet xs.tail).1, (dSet xs.tail).2)
    else if xs.headD 0 % 16 < 6 then dWord xs.tail else if xs.headD 0 % 16 = 6 then (eE, xs.tail)
    else if xs.headD 0 % 16 < 10 then (catT (dTree d xs.tail).1 (dTree d (dTree d xs.tail).2).1, (dTree d (dTree d xs.tail).2).2)
    else if xs.headD 0 % 16 < 13 then (altT (dTree d xs.tail).1 (dTree d (dTree d xs.tail).2).1, (dTree d (dTree d xs.tail).2).2)
    else dRep (dTree d xs.tail).1 (dTree d xs.tail).2
theorem dTree_cod : ∀ (d : Nat) (xs : List Int), Cod xs → Cod (dTree d xs).2
  | 0, _, h => dSet_cod h.tail
  | d + 1, xs, h => by
    have h1 := dTree_cod d _ h.tail
    have h2 := dTree_cod d _ h1
    unfold dTree
    repeat' split
    all_goals first | exact dSet_cod h.tail | exact dWord_cod h.tail | exact h.tail | exact h2 | exact rpB_cod h1
theorem dTree_dt : ∀ (d : Nat) (xs : List Int), DT (10 * 2 ^ d - 1) (dTree d xs).1
  | 0, xs => (DT.s (dSet_setL _)).mono (by omega)
  | d + 1, xs => by
    have h1 := dTree_dt d xs.tail
    have h2 := dTree_dt d (dTree d xs.tail).2
    have h3 : 1 ≤ 2 ^ d := Nat.one_le_two_pow
    have h4 : 2 ^ (d + 1) = 2 * 2 ^ d := by rw [Nat.pow_succ]; omega
    unfold dTree
    repeat' split
    · exact (DT.s (dSet_setL _)).mono (by omega)
    · exact (dWord_dt _).mono (by omega)
    · exact DT.e.mono (by omega)
    · exact (h1.cat h2).mono (by omega)
    · exact (h1.alt h2).mono (by omega)
    · exact (dRep_dt h1 _).mono (by omega)
def dGd : Nat → List El → List Int → List El × List Int
  | 0, t, zs => (t, zs)
  | n + 1, t, zs =>
    if zs.length = 0 then (t, zs) else if zs.headD 0 % 8 < 2 then (t, zs.tail)
    else if 90 < szL t + szL (dTree 3 zs.tail).1 then (t, (dTree 3 zs.tail).2)
    else dGd n (if zs.headD 0 % 8 < 6 then catT t (dTree 3 zs.tail).1 else altT t (dTree 3 zs.tail).1) (dTree 3 zs.tail).2
theorem dGd_dt : ∀ (n : Nat) {m : Nat} {t : List El} (zs : List Int), DT m t → DT (m + 80 * n) (dGd n t zs).1
  | 0, _, _, _, h => h
  | n + 1, m, t, zs, h => by
    have h1 := dTree_dt 3 zs.tail
    unfold dGd
    split
    · exact h.mono (by omega)
    split
    · exact h.mono (by omega)
    split
    · exact h.mono (by omega)
    refine (dGd_dt n (m := m + 80) _ ?_).mono (by omega)
    split
    · exact (h.cat h1).mono (by omega)
    · exact (h.alt h1).mono (by omega)
theorem dGd_cod : ∀ (n : Nat) (t : List El) (zs : List Int), Cod zs → Cod (dGd n t zs).2
  | 0, _, _, h => h
  | n + 1, t, zs, h => by
    have h1 := dTree_cod 3 _ h.tail
    unfold dGd
    repeat' split
    all_goals first | exact h | exact h.tail | exact h1 | exact dGd_cod n _ _ h1
def dGood (xs : List Int) : List El × List Int := dGd 6 (dTree 4 xs.tail).1 (dTree 4 xs.tail).2
theorem dGood_dt (xs : List Int) : DT 700 (dGood xs).1 := (dGd_dt 6 _ (dTree_dt 4 _)).mono (by omega)
theorem dGood_cod {xs : List Int} (h : Cod xs) : Cod (dGood xs).2 := dGd_cod _ _ _ (dTree_cod 4 _ h.tail)
/-! The rest of what is drawn: trees at a limit, spoiled trees, patterns. -/
structure NL (n : Nat) (L : List El) : Prop where
  len : L.length ≤ n
  nice : Nice L
theorem DT.nl {n : Nat} {L : List El} (h : DT n L) : NL n L := ⟨h.len, h.nice⟩
theorem NL.mono {n m : Nat} {L : List El} (h : NL n L) (hm : n ≤ m) : NL m L := ⟨Nat.le_trans h.len hm, h.nice⟩
theorem NL.cat {n m : Nat} {a b : List El} (ha : NL n a) (hb : NL m b) : NL (n + m + 1) (catT a b) := by
  have := ha.len
  have := hb.len
  exact ⟨by simp [catT]; omega, (ha.nice.app hb.nice).app (Nice.op _ _ _ (by simp [In64]) (by simp [In64]) (by simp [In64]))⟩
theorem NL.alt {n m : Nat} {a b : List El} (ha : NL n a) (hb : NL m b) : NL (n + m + 1) (altT a b) := by
  have := ha.len
  have := hb.len
  exact ⟨by simp [altT]; omega, (ha.nice.app hb.nice).app (Nice.op _ _ _ (by simp [In64]) (by simp [In64]) (by simp [In64]))⟩
theorem NL.rep {n : Nat} {a : List El} (ha : NL n a) {lo hi : Int} (h1 : In64 lo) (h2 : In64 hi) : NL (n + 1) (repTr a lo hi) := by
  have := ha.len
  exact ⟨by simp [repTr]; omega, ha.nice.app (Nice.op _ _ _ (by simp [In64]) h1 h2)⟩
theorem pair_setL {x : Int} (h0 : 0 ≤ x) (h1 : x ≤ 255) : SetL [x, x] := ⟨by simp, fun y hy => by simp only [List.mem_cons, List.not_mem_nil, or_false] at hy; omega⟩
def oneE (x : Int) : List El := sE [x, x]
theorem NL.one {x : Int} (h0 : 0 ≤ x) (h1 : x ≤ 255) : NL 1 (oneE x) := (DT.s (pair_setL h0 h1)).nl
def altN : Nat → List El → List El
  | 0, t => t
  | n + 1, t => altN n (altT t eE)
def repN : Nat → List El → List El
  | 0, t => t
  | n + 1, t => repN n (repTr t 1 1)
theorem altN_nl : ∀ (n : Nat) {m : Nat} {t : List El}, NL m t → NL (m + 2 * n) (altN n t)
  | 0, _, _, h => h
  | n + 1, _, _, h => (altN_nl n (h.alt DT.e.nl)).mono (by omega)
theorem repN_nl : ∀ (n : Nat) {m : Nat} {t : List El}, NL m t → NL (m + n) (repN n t)
  | 0, _, _, h => h
  | n + 1, _, _, h => (repN_nl n (h.rep (by simp [In64]) (by simp [In64]))).mono (by omega)
theorem altN_s : ∀ (n : Nat) (t : List El), altN (n + 1) t = altT (altN n t) eE
  | 0, _ => rfl
  | n + 1, t => altN_s n (altT t eE)
theorem repN_s : ∀ (n : Nat) (t : List El), repN (n + 1) t = repTr (repN n t) 1 1
  | 0, _ => rfl
  | n + 1, t => repN_s n (repTr t 1 1)
def limT (k d : Int) : List El :=
  if k = 0 then repTr (catT (oneE 97) (oneE 98)) (250 + d) (250 + d) else if k = 1 then repTr (oneE 97) 0 (250 + d)
  else if k = 2 then altN (d + 1).toNat (repTr (catT (oneE 97) (oneE 98)) 249 (-1))
  else if k = 3 then (if d = 1 then altT (repTr (repTr (catT (oneE 97) (oneE 98)) 5 5) 50 50) eE else repTr (repTr (catT (oneE 97) (oneE 98)) 5 5) 50 50)
  else if k = 4 then repTr eE 0 (250 + d)
  else repTr (catT (if 0 < d then repTr (repN 30 (oneE 97)) 0 0 else repN 30 (oneE 97)) (if 0 < d then repTr (repN 30 (oneE 97)) 0 0 else repN 30 (oneE 97))) (250 + d) (250 + d)
def dLim (xs : List Int) : List El × List Int := (limT (xs.headD 0 % 6) (xs.tail.headD 0 % 3 - 1), xs.tail.tail)
def putE (t : List El) (i : Nat) (x : El) : List El := t.set i x
def spE (k y : Int) (x : El) : El :=
  if k = 0 then ⟨5, x.set, x.mn, x.mx⟩ else if k = 1 then ⟨-1, x.set, x.mn, x.mx⟩ else if k = 2 then ⟨y % 5, x.set, x.mn, x.mx⟩
  else if k = 3 then ⟨x.kind, x.set, wrap64 (x.mn + 1), x.mx⟩ else if k = 4 then ⟨x.kind, x.set, x.mn, wrap64 (x.mx - 1)⟩ else if k = 5 then ⟨x.kind, x.set ++ [7], x.mn, x.mx⟩
  else if k = 6 then ⟨x.kind, [5, 4], x.mn, x.mx⟩ else if k = 7 then ⟨x.kind, [5, 6, 7, 9], x.mn, x.mx⟩ else ⟨x.kind, [0, 256], x.mn, x.mx⟩
def spT (t : List El) (k y : Int) (i : Nat) : List El :=
  if k < 9 then putE t i (spE k y (t[i]?.getD dE)) else if k = 9 then t.take (t.length - 1) else if k = 10 then t ++ [⟨2, [], 0, 0⟩] else t ++ [⟨0, [], 0, 0⟩]
def dSpoil (t : List El) (xs : List Int) : List El × List Int := (spT t (xs.headD 0 % 12) (xs.tail.tail.headD 0) (xs.tail.headD 0 % t.length).toNat, if xs.headD 0 % 12 = 2 then xs.tail.tail.tail else xs.tail.tail)
def dAny (xs : List Int) : (Bool × Bool) × List El :=
  if xs.headD 0 % 10 = 0 then ((decide (xs.tail.headD 0 % 2 = 0), decide (xs.tail.headD 0 % 3 = 0)), (dLim xs.tail.tail).1)
  else ((decide (xs.tail.headD 0 % 4 = 1), decide (5 < xs.tail.headD 0 % 8)), if xs.headD 0 % 10 < 3 then (dSpoil (dGood xs.tail).1 (dGood xs.tail).2).1 else (dGood xs.tail).1)
def strN : Nat → List El → List El
  | 0, t => t
  | n + 1, t => strN n (catT (oneE 98) t)
theorem strN_s : ∀ (n : Nat) (t : List El), strN (n + 1) t = catT (oneE 98) (strN n t)
  | 0, _ => rfl
  | n + 1, t => strN_s n (catT (oneE 98) t)
theorem strN_nl : ∀ (n : Nat) {m : Nat} {t : List El}, NL m t → NL (m + 2 * n) (strN n t)
  | 0, _, _, h => h
  | n + 1, _, _, h => (strN_nl n ((NL.one (x := 98) (by omega) (by omega)).cat h)).mono (by omega)
def twoB (b c : Int) : Nat → Bool := fun i => decide ((i : Int) = b) || decide ((i : Int) = c)
def dPrint (xs : List Int) : (Bool × Bool) × List El :=
  if xs.headD 0 % 20 = 0 then ((false, false), catT (oneE 99) (strN (99 + xs.tail.headD 0 % 3).toNat (oneE 97)))
  else if xs.headD 0 % 20 = 1 then ((false, true), catT (oneE (xs.tail.headD 0)) (sE (cnn (twoB (xs.tail.headD 0) (xs.tail.tail.headD 0)))))
  else dAny xs.tail
theorem wrap_in (x : Int) : In64 (wrap64 x) := by unfold In64 wrap64; omega
theorem GrowE.set1 {w w1 : World} {v1 : Value} {xs : List Int} (hb : Below w.heap.size w w1) (hs : SlW mI 0 w.heap.size w1.heap.size w1 v1 xs) : GrowE w.heap.size (w1.alloc (.cells #[.int .i64 1, v1, .int .i64 0, .int .i64 0] 67)) (.slice (some ⟨w1.heap.size, 0, none⟩) 1 1) [⟨1, xs, 0, 0⟩] := by
  refine ⟨[⟨⟨1, xs, 0, 0⟩, v1, Rng w.heap.size w1.heap.size⟩], rfl, World.ownsRow_lit w1 _ 1 hb.size (by unfold maxLen; omega) rfl, fun p hp => ?_, fun p hp k hk => ?_, List.pairwise_singleton _ _⟩
  · obtain rfl := List.mem_singleton.1 hp
    exact hs.foot.same (fun k hk => (below1 w1 _).block k hk.2)
  · obtain rfl := List.mem_singleton.1 hp
    have h2 := hk.2
    exact ⟨hk.1, by rw [sz_alloc]; omega, fun e => by have e2 : w1.heap.size = k := Option.some.inj e; omega⟩
set_option maxHeartbeats 2000000 in
theorem l1set_w (v : Value) (xs : List Int) (w : World) (hv : SlAt mI 0 0 w.heap.size w v xs) (hlen : xs.length ≤ 1048576) : Calls Tryz.prog 15 #[v] w fun e w' => ∃ v', e = .returned v' ∧ GrowE w.heap.size w' v' [⟨1, xs, 0, 0⟩] ∧ Below w.heap.size w w' := by
  obtain ⟨a, cp, rfl, -, -⟩ := id hv
  have Hv := hide hv
  clear hv
  go_enter Tryz.func15, Tryz.ntmps15
  go_wp2_with (at_builtin; refine app_ints rfl _ _ rfl rfl _ rfl xs (unhide Hv) hlen ?_; intro sv w1 hb1 hsl h1c; obtain ⟨sa, sc, rfl⟩ : ∃ a c, sv = .slice a xs.length c := (by obtain ⟨a, c, e, -⟩ := hsl; exact ⟨a, c, e⟩); have HG := hide (GrowE.set1 hb1 hsl); have HB := hide (hb1.trans ((below1 w1 (.cells #[.int .i64 1, .slice sa xs.length sc, .int .i64 0, .int .i64 0] 67)).mono hb1.size)); clear hsl h1c hb1)
  go_ret
  exact ⟨_, rfl, unhide HG, unhide HB⟩
set_option maxHeartbeats 2000000 in
theorem l1cat_w (vx vy : Value) (xs ys : List El) (w : World) (hx : ElsAt 0 w.heap.size w vx xs) (hy : ElsAt 0 w.heap.size w vy ys) (hlx : xs.length ≤ 1048576) (hly : ys.length ≤ 1048576) (hsx : ∀ i : Nat, (xs[i]?.getD dE).set.length ≤ 1048576) (hsy : ∀ i : Nat, (ys[i]?.getD dE).set.length ≤ 1048576) :
    Calls Tryz.prog 14 #[vx, vy] w fun e w' => ∃ v', e = .returned v' ∧ GrowE w.heap.size w' v' (xs ++ ys ++ [⟨2, [], 0, 0⟩]) ∧ Below w.heap.size w w' := by
  have H := hide (l1bin_w 2 vx vy xs ys w hx hy hlx hly hsx hsy)
  obtain ⟨a1, c1, rfl, -, -⟩ := id hx
  obtain ⟨a2, c2, rfl, -, -⟩ := id hy
  clear hx hy hsx hsy
  go_enter Tryz.func14, Tryz.ntmps14
  go_wp2_with fail
  refine (unhide H).mono ?_
  rintro e w1 ⟨v1, rfl, hg1, hb1⟩
  obtain ⟨Z, hZ⟩ : ∃ Z, Z = xs ++ ys ++ [⟨2, [], 0, 0⟩] := ⟨_, rfl⟩
  rw [← hZ] at hg1
  have HZ := hide hZ
  have HG := hide hg1
  obtain ⟨o1, d1, rfl⟩ := hg1.form
  clear hg1 hZ
  go_wp2
  go_ret
  exact ⟨_, rfl, by rw [← unhide HZ]; exact unhide HG, hb1⟩
/-! Drawn trees in memory. -/
theorem Mv.same {lo D n : Nat} {w w' : World} (h : Mv lo D w w') (hn : n ≤ lo) : Same (D + 1) n w w' := fun x o h1 h2 => World.cell?_of_block (h.block x (by omega) (by omega))
theorem ElsAt.mv {l lo D : Nat} {w w' : World} {v : Value} {xs : List El} (h : ElsAt l w.heap.size w v xs) (hm : Mv lo D w w') (hl : w.heap.size ≤ lo) (hD : D < l) : ElsAt l w'.heap.size w' v xs := (h.same ((hm.same hl).mono hD (Nat.le_refl _))).mono (Nat.le_refl _) hm.size
theorem bmv {lo lo' : Nat} {w w' : World} (h : Below lo w w') (D : Nat) (hl : lo' ≤ lo) : Mv lo' D w w' := (Below.mv h D).mono hl
theorem ElsF.at2 {lo n : Nat} {w : World} {v : Value} {xs : List El} (h : ElsF (Rng lo n) w v xs) (hr : Num xs) : ElsAt lo n w v xs := by
  obtain ⟨a, cap, rfl, hl, hc⟩ := h
  refine ⟨a, cap, rfl, hl, fun hp => ?_⟩
  obtain ⟨b, off, sv, T, e, h1, h2, h3, h4, h5, h6⟩ := hc hp
  refine ⟨b, off, e, h1.1, h1.2, fun i hi => ?_⟩
  obtain ⟨r1, r2, r3, r4⟩ := hr i
  obtain ⟨q0, q1, q2, q3⟩ := h3 i hi
  refine ⟨r1, r2, r3, sv i, q0, q1, q2, q3, ?_⟩
  obtain ⟨l0, n0, ⟨a', cap', e', hl', hc'⟩, hT⟩ := h4 i hi
  refine ⟨a', cap', e', hl', r4, fun hp' => ?_⟩
  obtain ⟨b', off', e2, k1, k2, -, k4⟩ := hc' hp'
  have := (h5 i hi b' (hT b' k1 k2)).1
  exact ⟨b', off', e2, this.1, this.2, k4⟩
theorem GrowE.els2 {base : Nat} {w : World} {v : Value} {xs : List El} (h : GrowE base w v xs) (hn : Nice xs) : ElsAt base w.heap.size w v xs := h.foot.at2 hn.num
def DrE (N D lo : Nat) (w : World) (R : List El × List Int) (e : Ending) (w' : World) : Prop := (∃ v, e = .returned v ∧ ElsAt lo w'.heap.size w' v R.1) ∧ CdAt N D w' R.2 ∧ Mv w.heap.size D w w'
def DrS (N D lo : Nat) (w : World) (R : List Int × List Int) (e : Ending) (w' : World) : Prop := (∃ v, e = .returned v ∧ IntsAt lo w'.heap.size w' v R.1) ∧ CdAt N D w' R.2 ∧ Mv w.heap.size D w w'
theorem in64_b {x : Int} (h0 : 0 ≤ x) (h1 : x ≤ 255) : In64 x := by unfold In64; omega
theorem ints_2 (w : World) {a b : Int} (ha : In64 a) (hb : In64 b) : IntsAt w.heap.size (w.alloc (.cells #[.int .i64 a, .int .i64 b] 3)).heap.size (w.alloc (.cells #[.int .i64 a, .int .i64 b] 3)) (.slice (some ⟨w.heap.size, 0, none⟩) 2 2) [a, b] := by
  refine ⟨_, 2, rfl, by unfold maxLen; simp, fun i => ?_, fun _ => ⟨w.heap.size, 0, rfl, Nat.le_refl _, by rw [sz_alloc]; exact Nat.lt_succ_self _, fun i hi => ?_⟩⟩
  · match i with
    | 0 => exact ha
    | 1 => exact hb
    | i + 2 => simp [In64]
  · have hi' : i < 2 := hi
    match i, hi' with
    | 0, _ => exact (pushd_alloc w _).news 0 _ rfl
    | 1, _ => exact (pushd_alloc w _).news 1 _ rfl
theorem SlAt.ints {n : Nat} {w : World} {v : Value} {xs : List Int} (h : SlAt mI 0 0 n w v xs) (hr : ∀ i : Nat, In64 (xs[i]?.getD 0)) : IntsAt 0 n w v xs := by
  obtain ⟨a, cap, rfl, hl, hc⟩ := h
  exact ⟨a, cap, rfl, hl, hr, hc⟩
theorem SlW.ints {lo n : Nat} {w : World} {v : Value} {xs : List Int} (h : SlW mI 0 lo n w v xs) (hr : ∀ i : Nat, In64 (xs[i]?.getD 0)) : IntsAt lo n w v xs := by
  obtain ⟨a, cap, rfl, hl, hc⟩ := h
  refine ⟨a, cap, rfl, hl, hr, fun hp => ?_⟩
  obtain ⟨b, off, rfl, h1, h2, -, h3⟩ := hc hp
  exact ⟨b, off, rfl, h1, h2, h3⟩
set_option maxHeartbeats 1000000 in
theorem l1one_any (b : Int) (w : World) (hb : In64 b) : Calls Tryz.prog 16 #[.int .i64 b] w fun e w' => ∃ v, e = .returned v ∧ IntsAt w.heap.size w'.heap.size w' v [b, b] ∧ Below w.heap.size w w' := by
  go_enter Tryz.func16, Tryz.ntmps16
  go_wp2
  go_ret
  exact ⟨_, rfl, ints_2 w hb hb, below1 w _⟩
set_option maxHeartbeats 1000000 in
theorem l1all_i (w : World) : Calls Tryz.prog 69 #[] w fun e w' => ∃ v, e = .returned v ∧ IntsAt w.heap.size w'.heap.size w' v [0, 255] ∧ Below w.heap.size w w' := by
  go_enter Tryz.func69, Tryz.ntmps69
  go_wp2
  go_ret
  exact ⟨_, rfl, ints_2 w (in64_b (by omega) (by omega)) (in64_b (by omega) (by omega)), below1 w _⟩
set_option maxHeartbeats 1000000 in
theorem l1dot_i (w : World) : Calls Tryz.prog 38 #[] w fun e w' => ∃ v, e = .returned v ∧ IntsAt w.heap.size w'.heap.size w' v [0, 9, 11, 255] ∧ Below w.heap.size w w' := by
  go_enter Tryz.func38, Tryz.ntmps38
  go_wp2
  go_ret
  refine ⟨_, rfl, ⟨_, 4, rfl, by unfold maxLen; simp, fun i => ?_, fun _ => ⟨w.heap.size, 0, rfl, Nat.le_refl _, by rw [sz_alloc]; exact Nat.lt_succ_self _, fun i hi => ?_⟩⟩, below1 w _⟩
  · match i with
    | 0 => simp [In64]
    | 1 => simp [In64]
    | 2 => simp [In64]
    | 3 => simp [In64]
    | i + 4 => simp [In64]
  · have hi' : i < 4 := hi
    match i, hi' with
    | 0, _ => exact (pushd_alloc w _).news 0 _ rfl
    | 1, _ => exact (pushd_alloc w _).news 1 _ rfl
    | 2, _ => exact (pushd_alloc w _).news 2 _ rfl
    | 3, _ => exact (pushd_alloc w _).news 3 _ rfl
theorem els_1 {lo : Nat} {w : World} {sv : Value} {cs : List Int} (hs : IntsAt lo w.heap.size w sv cs) (hlo : lo ≤ w.heap.size) : ElsAt lo (w.alloc (.cells #[.int .i64 1, sv, .int .i64 0, .int .i64 0] 67)).heap.size (w.alloc (.cells #[.int .i64 1, sv, .int .i64 0, .int .i64 0] 67)) (.slice (some ⟨w.heap.size, 0, none⟩) 1 1) (sE cs) := by
  have h2 := hs.below (below1 w (.cells #[.int .i64 1, sv, .int .i64 0, .int .i64 0] 67)) (Nat.le_refl _)
  refine ⟨_, 1, rfl, ⟨Nat.le_refl _, by unfold maxLen; simp⟩, fun _ => ⟨w.heap.size, 0, rfl, hlo, by rw [sz_alloc]; exact Nat.lt_succ_self _, fun i hi => ?_⟩⟩
  have hi' : i < 1 := hi
  match i, hi' with
  | 0, _ => exact ⟨by simp [sE, In64], by simp [sE, In64], by simp [sE, In64], sv, (pushd_alloc w _).news 0 _ rfl, (pushd_alloc w _).news 1 _ rfl, (pushd_alloc w _).news 2 _ rfl, (pushd_alloc w _).news 3 _ rfl, h2⟩
set_option maxHeartbeats 1000000 in
theorem l1set_any (lo : Nat) (sv : Value) (cs : List Int) (w : World) (hs : IntsAt lo w.heap.size w sv cs) (hlo : lo ≤ w.heap.size) (hcs : cs.length ≤ 1048576) : Calls Tryz.prog 15 #[sv] w fun e w' => ∃ v, e = .returned v ∧ ElsAt lo w'.heap.size w' v (sE cs) ∧ Below w.heap.size w w' := by
  have HR : Hid (∀ i : Nat, In64 (cs[i]?.getD 0)) := by obtain ⟨_, _, _, _, hr, _⟩ := id hs; exact hr
  have HS := hide (ints_sl (hs.mono (Nat.zero_le _) (Nat.le_refl _)))
  obtain ⟨a, c, rfl, -, -, -⟩ := hs
  go_enter Tryz.func15, Tryz.ntmps15
  go_wp2_with (at_builtin; refine app_ints rfl _ _ rfl rfl _ rfl cs (unhide HS) hcs ?_)
  intro sv' w1 hb1 hsl h1c
  have HI := hide (hsl.ints (unhide HR))
  obtain ⟨sa', sc', rfl⟩ : ∃ a c, sv' = .slice a cs.length c := by obtain ⟨a, c, e, -⟩ := hsl; exact ⟨a, c, e⟩
  have hz1 := hb1.size
  clear hsl
  have H := hide (els_1 ((unhide HI).mono (lo' := lo) (by omega) (Nat.le_refl _)) (by omega))
  go_wp2
  go_ret
  exact ⟨_, rfl, unhide H, hb1.trans ((below1 w1 _).mono hz1)⟩
theorem cat_dt {n m lo : Nat} {vx vy : Value} {xs ys : List El} {w : World} (hx : ElsAt lo w.heap.size w vx xs) (hy : ElsAt lo w.heap.size w vy ys) (nx : NL n xs) (ny : NL m ys) (hn : n ≤ 2000) (hm : m ≤ 2000) (hlo : lo ≤ w.heap.size) :
    Calls Tryz.prog 14 #[vx, vy] w fun e w' => ∃ v', e = .returned v' ∧ ElsAt lo w'.heap.size w' v' (catT xs ys) ∧ Below w.heap.size w w' := by
  have h1 := nx.len
  have h2 := ny.len
  refine (l1cat_w vx vy xs ys w (hx.mono (Nat.zero_le _) (Nat.le_refl _)) (hy.mono (Nat.zero_le _) (Nat.le_refl _)) (by omega) (by omega) nx.nice.len ny.nice.len).mono ?_
  rintro e w' ⟨v', rfl, hg, hb⟩
  exact ⟨v', rfl, (hg.els2 (nx.cat ny).nice).mono hlo (Nat.le_refl _), hb⟩
theorem alt_dt {n m lo : Nat} {vx vy : Value} {xs ys : List El} {w : World} (hx : ElsAt lo w.heap.size w vx xs) (hy : ElsAt lo w.heap.size w vy ys) (nx : NL n xs) (ny : NL m ys) (hn : n ≤ 2000) (hm : m ≤ 2000) (hlo : lo ≤ w.heap.size) :
    Calls Tryz.prog 43 #[vx, vy] w fun e w' => ∃ v', e = .returned v' ∧ ElsAt lo w'.heap.size w' v' (altT xs ys) ∧ Below w.heap.size w w' := by
  have h1 := nx.len
  have h2 := ny.len
  refine (l1alt_w vx vy xs ys w (hx.mono (Nat.zero_le _) (Nat.le_refl _)) (hy.mono (Nat.zero_le _) (Nat.le_refl _)) (by omega) (by omega) nx.nice.len ny.nice.len).mono ?_
  rintro e w' ⟨v', rfl, hg, hb⟩
  exact ⟨v', rfl, (hg.els2 (nx.alt ny).nice).mono hlo (Nat.le_refl _), hb⟩
theorem rep_dt {n lo : Nat} {vx : Value} {xs : List El} {w : World} {p q : Int} (hx : ElsAt lo w.heap.size w vx xs) (nx : NL n xs) (hn : n ≤ 2000) (hlo : lo ≤ w.heap.size) (h1 : In64 p) (h2 : In64 q) :
    Calls Tryz.prog 45 #[vx, .int .i64 p, .int .i64 q] w fun e w' => ∃ v', e = .returned v' ∧ ElsAt lo w'.heap.size w' v' (repTr xs p q) ∧ Below w.heap.size w w' := by
  have h3 := nx.len
  refine (l1rep_w p q vx xs w (hx.mono (Nat.zero_le _) (Nat.le_refl _)) (by omega) nx.nice.len).mono ?_
  rintro e w' ⟨v', rfl, hg, hb⟩
  exact ⟨v', rfl, (hg.els2 (nx.rep h1 h2).nice).mono hlo (Nat.le_refl _), hb⟩
theorem e_dt (lo : Nat) (w : World) (hlo : lo ≤ w.heap.size) : Calls Tryz.prog 44 #[] w fun e w' => ∃ v', e = .returned v' ∧ ElsAt lo w'.heap.size w' v' eE ∧ Below w.heap.size w w' := by
  refine (l1empty_w w).mono ?_
  rintro e w' ⟨v', rfl, hg, hb⟩
  exact ⟨v', rfl, (hg.els2 DT.e.nice).mono hlo (Nat.le_refl _), hb⟩
set_option maxHeartbeats 4000000 in
set_option maxRecDepth 100000 in
theorem l1drawSet_A (N D lo : Nat) (xs : List Int) (w : World) (h : CdAt N D w xs) (hx : Cod xs) (hD : D < lo) (hlo : lo ≤ w.heap.size) (hk : xs.headD 0 % 24 < 16) :
    Calls Tryz.prog 83 #[.pointer (some ⟨D, 0, none⟩)] w (DrS N D lo w (dSet xs)) := by
  have H := hide h
  have HX := hide hx
  have hh := hx.head
  obtain ⟨y2, hy2⟩ : ∃ y, xs.tail.headD 0 = y := ⟨_, rfl⟩
  have HR : Hid (dSet xs = ([dB y2, dB y2], xs.tail.tail)) := by rw [← hy2]; exact if_pos hk
  rw [unhide HR]
  obtain ⟨y, hy⟩ : ∃ y, xs.headD 0 = y := ⟨_, rfl⟩
  rw [hy] at hh hk
  have HY := hide hy
  have HY2 := hide hy2
  have hb := dB_byte (y := y2)
  clear hy hx h hy2 HR
  go_enter Tryz.func83, Tryz.ntmps83
  go_wp2_with fail
  refine (next_any N D xs w (unhide H) (unhide HX)).mono ?_
  rintro e w1 ⟨he, hc1, ho1⟩
  rw [unhide HY] at he
  subst he
  go_wp2_with fail
  refine (l1drawByte_any N D xs.tail w1 hc1 (unhide HX).tail).mono ?_
  rintro e w2 ⟨he, hc2, ho2⟩
  rw [unhide HY2] at he
  subst he
  go_wp2_with fail
  refine (l1one_any (dB y2) w2 (in64_b hb.1 hb.2)).mono ?_
  rintro e w3 ⟨v, rfl, hv, hb3⟩
  have HV := hide hv
  obtain ⟨a, c, rfl, -⟩ := hv
  have hz3 := hb3.size
  go_wp2
  go_ret
  have hz1 : w1.heap.size = w.heap.size := ho1.size
  have hz2 : w2.heap.size = w1.heap.size := ho2.size
  exact ⟨⟨_, rfl, (unhide HV).mono (by omega) (Nat.le_refl _)⟩, hc2.keep hb3 (by omega), (ho1.mv _).trans ((ho2.mv _).trans (bmv hb3 D (by omega)))⟩
set_option maxHeartbeats 4000000 in
set_option maxRecDepth 100000 in
theorem l1drawSet_B16 (N D lo : Nat) (xs : List Int) (w : World) (h : CdAt N D w xs) (hx : Cod xs) (hD : D < lo) (hlo : lo ≤ w.heap.size) (hk : xs.headD 0 % 24 = 16) :
    Calls Tryz.prog 83 #[.pointer (some ⟨D, 0, none⟩)] w (DrS N D lo w (dSet xs)) := by
  have H := hide h
  have HX := hide hx
  have hh := hx.head
  have HR : Hid (dSet xs = ([97, 98], xs.tail)) := by
    show dSet xs = _
    unfold dSet
    rw [if_neg (by omega), if_pos hk]
  rw [unhide HR]
  obtain ⟨y, hy⟩ : ∃ y, xs.headD 0 = y := ⟨_, rfl⟩
  rw [hy] at hh hk
  have HY := hide hy
  have n0 : ¬ y % 24 < 16 := by omega
  clear hy hx h HR
  go_enter Tryz.func83, Tryz.ntmps83
  go_wp2_with fail
  refine (next_any N D xs w (unhide H) (unhide HX)).mono ?_
  rintro e w1 ⟨he, hc1, ho1⟩
  rw [unhide HY] at he
  subst he
  go_wp2
  go_ret
  have hz1 : w1.heap.size = w.heap.size := ho1.size
  exact ⟨⟨_, rfl, (ints_2 w1 (a := 97) (b := 98) (in64_b (by omega) (by omega)) (in64_b (by omega) (by omega))).mono (lo' := lo) (by omega) (Nat.le_refl _)⟩, hc1.keep (below1 w1 _) (by omega), (ho1.mv _).trans (bmv (below1 w1 _) D (by omega))⟩
set_option maxHeartbeats 4000000 in
set_option maxRecDepth 100000 in
theorem l1drawSet_B17 (N D lo : Nat) (xs : List Int) (w : World) (h : CdAt N D w xs) (hx : Cod xs) (hD : D < lo) (hlo : lo ≤ w.heap.size) (hk : xs.headD 0 % 24 = 17) :
    Calls Tryz.prog 83 #[.pointer (some ⟨D, 0, none⟩)] w (DrS N D lo w (dSet xs)) := by
  have H := hide h
  have HX := hide hx
  have hh := hx.head
  have HR : Hid (dSet xs = ([97, 99], xs.tail)) := by
    show dSet xs = _
    unfold dSet
    rw [if_neg (by omega), if_neg (by omega), if_pos hk]
  rw [unhide HR]
  obtain ⟨y, hy⟩ : ∃ y, xs.headD 0 = y := ⟨_, rfl⟩
  rw [hy] at hh hk
  have HY := hide hy
  have n0 : ¬ y % 24 < 16 := by omega
  have n16 : ¬ y % 24 = 16 := by omega
  clear hy hx h HR
  go_enter Tryz.func83, Tryz.ntmps83
  go_wp2_with fail
  refine (next_any N D xs w (unhide H) (unhide HX)).mono ?_
  rintro e w1 ⟨he, hc1, ho1⟩
  rw [unhide HY] at he
  subst he
  go_wp2
  go_ret
  have hz1 : w1.heap.size = w.heap.size := ho1.size
  exact ⟨⟨_, rfl, (ints_2 w1 (a := 97) (b := 99) (in64_b (by omega) (by omega)) (in64_b (by omega) (by omega))).mono (lo' := lo) (by omega) (Nat.le_refl _)⟩, hc1.keep (below1 w1 _) (by omega), (ho1.mv _).trans (bmv (below1 w1 _) D (by omega))⟩
set_option maxHeartbeats 4000000 in
set_option maxRecDepth 100000 in
theorem l1drawSet_B18 (N D lo : Nat) (xs : List Int) (w : World) (h : CdAt N D w xs) (hx : Cod xs) (hD : D < lo) (hlo : lo ≤ w.heap.size) (hk : xs.headD 0 % 24 = 18) :
    Calls Tryz.prog 83 #[.pointer (some ⟨D, 0, none⟩)] w (DrS N D lo w (dSet xs)) := by
  have H := hide h
  have HX := hide hx
  have hh := hx.head
  have HR : Hid (dSet xs = ([48, 57], xs.tail)) := by
    show dSet xs = _
    unfold dSet
    rw [if_neg (by omega), if_neg (by omega), if_neg (by omega), if_pos hk]
  rw [unhide HR]
  obtain ⟨y, hy⟩ : ∃ y, xs.headD 0 = y := ⟨_, rfl⟩
  rw [hy] at hh hk
  have HY := hide hy
  have n0 : ¬ y % 24 < 16 := by omega
  have n16 : ¬ y % 24 = 16 := by omega
  have n17 : ¬ y % 24 = 17 := by omega
  clear hy hx h HR
  go_enter Tryz.func83, Tryz.ntmps83
  go_wp2_with fail
  refine (next_any N D xs w (unhide H) (unhide HX)).mono ?_
  rintro e w1 ⟨he, hc1, ho1⟩
  rw [unhide HY] at he
  subst he
  go_wp2
  go_ret
  have hz1 : w1.heap.size = w.heap.size := ho1.size
  exact ⟨⟨_, rfl, (ints_2 w1 (a := 48) (b := 57) (in64_b (by omega) (by omega)) (in64_b (by omega) (by omega))).mono (lo' := lo) (by omega) (Nat.le_refl _)⟩, hc1.keep (below1 w1 _) (by omega), (ho1.mv _).trans (bmv (below1 w1 _) D (by omega))⟩
set_option maxHeartbeats 4000000 in
set_option maxRecDepth 100000 in
theorem l1drawSet_B19 (N D lo : Nat) (xs : List Int) (w : World) (h : CdAt N D w xs) (hx : Cod xs) (hD : D < lo) (hlo : lo ≤ w.heap.size) (hk : xs.headD 0 % 24 = 19) :
    Calls Tryz.prog 83 #[.pointer (some ⟨D, 0, none⟩)] w (DrS N D lo w (dSet xs)) := by
  have H := hide h
  have HX := hide hx
  have hh := hx.head
  have HR : Hid (dSet xs = ([0, 9, 11, 255], xs.tail)) := by
    show dSet xs = _
    unfold dSet
    rw [if_neg (by omega), if_neg (by omega), if_neg (by omega), if_neg (by omega), if_pos hk]
  rw [unhide HR]
  obtain ⟨y, hy⟩ : ∃ y, xs.headD 0 = y := ⟨_, rfl⟩
  rw [hy] at hh hk
  have HY := hide hy
  have n0 : ¬ y % 24 < 16 := by omega
  have n16 : ¬ y % 24 = 16 := by omega
  have n17 : ¬ y % 24 = 17 := by omega
  have n18 : ¬ y % 24 = 18 := by omega
  clear hy hx h HR
  go_enter Tryz.func83, Tryz.ntmps83
  go_wp2_with fail
  refine (next_any N D xs w (unhide H) (unhide HX)).mono ?_
  rintro e w1 ⟨he, hc1, ho1⟩
  rw [unhide HY] at he
  subst he
  go_wp2_with fail
  refine (l1dot_i w1).mono ?_
  rintro e w3 ⟨v, rfl, hv, hb3⟩
  have HV := hide hv
  obtain ⟨a, c, rfl, -⟩ := hv
  go_wp2
  go_ret
  have hz1 : w1.heap.size = w.heap.size := ho1.size
  exact ⟨⟨_, rfl, (unhide HV).mono (by omega) (Nat.le_refl _)⟩, hc1.keep hb3 (by omega), (ho1.mv _).trans (bmv hb3 D (by omega))⟩
set_option maxHeartbeats 4000000 in
set_option maxRecDepth 100000 in
theorem l1drawSet_C0 (N D lo : Nat) (xs : List Int) (w : World) (h : CdAt N D w xs) (hx : Cod xs) (_hD : D < lo) (_hlo : lo ≤ w.heap.size) (hk : xs.headD 0 % 24 = 20) (hk2 : xs.tail.headD 0 % 3 = 0) :
    Calls Tryz.prog 83 #[.pointer (some ⟨D, 0, none⟩)] w (DrS N D lo w (dSet xs)) := by
  have H := hide h
  have HX := hide hx
  have hh := hx.head
  have hh2 := hx.tail.head
  have HR : Hid (dSet xs = ([], xs.tail.tail)) := by
    show dSet xs = _
    unfold dSet
    rw [if_neg (by omega), if_neg (by omega), if_neg (by omega), if_neg (by omega), if_neg (by omega), if_pos hk, if_pos hk2]
  rw [unhide HR]
  obtain ⟨y, hy⟩ : ∃ y, xs.headD 0 = y := ⟨_, rfl⟩
  obtain ⟨y2, hy2⟩ : ∃ y, xs.tail.headD 0 = y := ⟨_, rfl⟩
  rw [hy] at hh hk
  rw [hy2] at hh2 hk2
  have HY := hide hy
  have HY2 := hide hy2
  have n0 : ¬ y % 24 < 16 := by omega
  have n16 : ¬ y % 24 = 16 := by omega
  have n17 : ¬ y % 24 = 17 := by omega
  have n18 : ¬ y % 24 = 18 := by omega
  have n19 : ¬ y % 24 = 19 := by omega
  clear hy hx h HR hy2
  go_enter Tryz.func83, Tryz.ntmps83
  go_wp2_with fail
  refine (next_any N D xs w (unhide H) (unhide HX)).mono ?_
  rintro e w1 ⟨he, hc1, ho1⟩
  rw [unhide HY] at he
  subst he
  go_wp2_with fail
  refine (next_any N D xs.tail w1 hc1 (unhide HX).tail).mono ?_
  rintro e w2 ⟨he, hc2, ho2⟩
  rw [unhide HY2] at he
  subst he
  go_wp2
  go_ret
  have hz1 : w1.heap.size = w.heap.size := ho1.size
  have hz2 : w2.heap.size = w1.heap.size := ho2.size
  exact ⟨⟨_, rfl, none, 0, rfl, Nat.zero_le _, fun i => by simp [In64], fun h0 => absurd h0 (by simp)⟩, hc2, (ho1.mv _).trans (ho2.mv _)⟩
set_option maxHeartbeats 4000000 in
set_option maxRecDepth 100000 in
theorem l1drawSet_C1 (N D lo : Nat) (xs : List Int) (w : World) (h : CdAt N D w xs) (hx : Cod xs) (hD : D < lo) (hlo : lo ≤ w.heap.size) (hk : xs.headD 0 % 24 = 20) (hk2 : xs.tail.headD 0 % 3 = 1) :
    Calls Tryz.prog 83 #[.pointer (some ⟨D, 0, none⟩)] w (DrS N D lo w (dSet xs)) := by
  have H := hide h
  have HX := hide hx
  have hh := hx.head
  have hh2 := hx.tail.head
  have HR : Hid (dSet xs = ([0, 255], xs.tail.tail)) := by
    show dSet xs = _
    unfold dSet
    rw [if_neg (by omega), if_neg (by omega), if_neg (by omega), if_neg (by omega), if_neg (by omega), if_pos hk, if_neg (by omega), if_pos hk2]
  rw [unhide HR]
  obtain ⟨y, hy⟩ : ∃ y, xs.headD 0 = y := ⟨_, rfl⟩
  obtain ⟨y2, hy2⟩ : ∃ y, xs.tail.headD 0 = y := ⟨_, rfl⟩
  rw [hy] at hh hk
  rw [hy2] at hh2 hk2
  have HY := hide hy
  have HY2 := hide hy2
  have n0 : ¬ y % 24 < 16 := by omega
  have n16 : ¬ y % 24 = 16 := by omega
  have n17 : ¬ y % 24 = 17 := by omega
  have n18 : ¬ y % 24 = 18 := by omega
  have n19 : ¬ y % 24 = 19 := by omega
  clear hy hx h HR hy2
  go_enter Tryz.func83, Tryz.ntmps83
  go_wp2_with fail
  refine (next_any N D xs w (unhide H) (unhide HX)).mono ?_
  rintro e w1 ⟨he, hc1, ho1⟩
  rw [unhide HY] at he
  subst he
  go_wp2_with fail
  refine (next_any N D xs.tail w1 hc1 (unhide HX).tail).mono ?_
  rintro e w2 ⟨he, hc2, ho2⟩
  rw [unhide HY2] at he
  subst he
  go_wp2_with fail
  refine (l1all_i w2).mono ?_
  rintro e w3 ⟨v, rfl, hv, hb3⟩
  have HV := hide hv
  obtain ⟨a, c, rfl, -⟩ := hv
  go_wp2
  go_ret
  have hz1 : w1.heap.size = w.heap.size := ho1.size
  have hz2 : w2.heap.size = w1.heap.size := ho2.size
  exact ⟨⟨_, rfl, (unhide HV).mono (by omega) (Nat.le_refl _)⟩, hc2.keep hb3 (by omega), (ho1.mv _).trans ((ho2.mv _).trans (bmv hb3 D (by omega)))⟩
set_option maxHeartbeats 4000000 in
set_option maxRecDepth 100000 in
theorem l1drawSet_C2 (N D lo : Nat) (xs : List Int) (w : World) (h : CdAt N D w xs) (hx : Cod xs) (hD : D < lo) (hlo : lo ≤ w.heap.size) (hk : xs.headD 0 % 24 = 20) (hk2 : xs.tail.headD 0 % 3 = 2) :
    Calls Tryz.prog 83 #[.pointer (some ⟨D, 0, none⟩)] w (DrS N D lo w (dSet xs)) := by
  have H := hide h
  have HX := hide hx
  have hh := hx.head
  have hh2 := hx.tail.head
  have HR : Hid (dSet xs = ([97, 104], xs.tail.tail)) := by
    show dSet xs = _
    unfold dSet
    rw [if_neg (by omega), if_neg (by omega), if_neg (by omega), if_neg (by omega), if_neg (by omega), if_pos hk, if_neg (by omega), if_neg (by omega)]
  rw [unhide HR]
  obtain ⟨y, hy⟩ : ∃ y, xs.headD 0 = y := ⟨_, rfl⟩
  obtain ⟨y2, hy2⟩ : ∃ y, xs.tail.headD 0 = y := ⟨_, rfl⟩
  rw [hy] at hh hk
  rw [hy2] at hh2 hk2
  have HY := hide hy
  have HY2 := hide hy2
  have n0 : ¬ y % 24 < 16 := by omega
  have n16 : ¬ y % 24 = 16 := by omega
  have n17 : ¬ y % 24 = 17 := by omega
  have n18 : ¬ y % 24 = 18 := by omega
  have n19 : ¬ y % 24 = 19 := by omega
  clear hy hx h HR hy2
  go_enter Tryz.func83, Tryz.ntmps83
  go_wp2_with fail
  refine (next_any N D xs w (unhide H) (unhide HX)).mono ?_
  rintro e w1 ⟨he, hc1, ho1⟩
  rw [unhide HY] at he
  subst he
  go_wp2_with fail
  refine (next_any N D xs.tail w1 hc1 (unhide HX).tail).mono ?_
  rintro e w2 ⟨he, hc2, ho2⟩
  rw [unhide HY2] at he
  subst he
  go_wp2
  go_ret
  have hz1 : w1.heap.size = w.heap.size := ho1.size
  have hz2 : w2.heap.size = w1.heap.size := ho2.size
  exact ⟨⟨_, rfl, (ints_2 w2 (a := 97) (b := 104) (in64_b (by omega) (by omega)) (in64_b (by omega) (by omega))).mono (lo' := lo) (by omega) (Nat.le_refl _)⟩, hc2.keep (below1 w2 _) (by omega), (ho1.mv _).trans ((ho2.mv _).trans (bmv (below1 w2 _) D (by omega)))⟩
theorem StrB.size {a : ByteArray} {xs : List Int} (h : StrB a xs) : a.size = xs.length := by
  have := congrArg List.length h
  rw [Go.Lib.strCells_length, List.length_map] at this
  exact this
theorem StrB.app {a b : ByteArray} {xs ys : List Int} (h : StrB a xs) (k : StrB b ys) : StrB (a ++ b) (xs ++ ys) := by
  unfold StrB Go.Lib.strCells at *
  rw [List.map_append, ← h, ← k]
  simp
set_option maxHeartbeats 1000000 in
theorem l1group_any (p : Bool) (s : ByteArray) (xs : List Int) (w : World) (h : StrB s xs) (hl : xs.length ≤ 100000000) :
    Calls Tryz.prog 48 #[.string s, .bool p] w fun e w' => (∃ t, e = .returned (.string t) ∧ StrB t (grp (p = true) xs)) ∧ w' = w := by
  have hz := h.size
  have n1 : ¬ 9223372036854775807 < 1 + s.size := by omega
  have n2 : ¬ 9223372036854775807 < 1 + s.size + 1 := by omega
  have H := hide h
  clear h
  cases p with
  | true =>
    go_enter Tryz.func48, Tryz.ntmps48
    go_wp2
    go_ret
    refine ⟨⟨_, rfl, ?_⟩, rfl⟩
    unfold grp
    rw [if_pos trivial]
    exact (StrB.app (StrB.app (a := { data := #[40] }) (xs := [40]) rfl (unhide H)) (ys := [41]) rfl)
  | false =>
    go_enter Tryz.func48, Tryz.ntmps48
    go_wp2
    go_ret
    exact ⟨⟨_, rfl, by simpa [grp] using unhide H⟩, rfl⟩
set_option maxHeartbeats 1000000 in
theorem l1hex_any (v : Int) (w : World) (h0 : 0 ≤ v) (h1 : v < 16) :
    Calls Tryz.prog 86 #[.int .i64 v] w fun e w' => (∃ t, e = .returned (.string t) ∧ StrB t [hexd v]) ∧ w' = w := by
  have e : v = 0 ∨ v = 1 ∨ v = 2 ∨ v = 3 ∨ v = 4 ∨ v = 5 ∨ v = 6 ∨ v = 7 ∨ v = 8 ∨ v = 9 ∨ v = 10 ∨ v = 11 ∨ v = 12 ∨ v = 13 ∨ v = 14 ∨ v = 15 := by omega
  clear h0 h1
  rcases e with rfl | rfl | rfl | rfl | rfl | rfl | rfl | rfl | rfl | rfl | rfl | rfl | rfl | rfl | rfl | rfl
  all_goals
    go_enter Tryz.func86, Tryz.ntmps86
    go_wp2
    go_ret
    exact ⟨⟨_, rfl, rfl⟩, rfl⟩
theorem decT_s {v : Int} (h : v < 10) : decT v = [48 + v] := by unfold decT; rw [if_pos h]
theorem decT_step {v : Int} (h0 : 10 ≤ v) (h1 : v < 1000) : decT v = decT (v / 10) ++ decT (v % 10) := by
  rw [decT_s (show v % 10 < 10 by omega)]
  unfold decT
  rw [if_neg (by omega)]
  by_cases h : v < 100
  · rw [if_pos h, if_pos (by omega)]; rfl
  · rw [if_neg h, if_neg (by omega), if_pos (by omega)]
    simp only [List.cons_append, List.nil_append, List.cons.injEq, and_true]
    omega
set_option maxHeartbeats 1000000 in
theorem l1dec_s (v : Int) (w : World) (h0 : 0 ≤ v) (h1 : v < 10) :
    Calls Tryz.prog 71 #[.int .i64 v] w fun e w' => (∃ t, e = .returned (.string t) ∧ StrB t (decT v)) ∧ w' = w := by
  rw [decT_s h1]
  have e : v = 0 ∨ v = 1 ∨ v = 2 ∨ v = 3 ∨ v = 4 ∨ v = 5 ∨ v = 6 ∨ v = 7 ∨ v = 8 ∨ v = 9 := by omega
  clear h0 h1
  rcases e with rfl | rfl | rfl | rfl | rfl | rfl | rfl | rfl | rfl | rfl
  all_goals
    go_enter Tryz.func71, Tryz.ntmps71
    go_wp2
    go_ret
    exact ⟨⟨_, rfl, rfl⟩, rfl⟩
set_option maxHeartbeats 1000000 in
theorem l1dec_t (v : Int) (w : World) (h0 : 10 ≤ v) (h1 : v < 1000) (H : Calls Tryz.prog 71 #[.int .i64 (v / 10)] w fun e w' => (∃ t, e = .returned (.string t) ∧ StrB t (decT (v / 10))) ∧ w' = w) :
    Calls Tryz.prog 71 #[.int .i64 v] w fun e w' => (∃ t, e = .returned (.string t) ∧ StrB t (decT v)) ∧ w' = w := by
  have hd : v.tdiv 10 = v / 10 := Int.tdiv_eq_ediv_of_nonneg (by omega)
  have hm : v.tmod 10 = v % 10 := Int.tmod_eq_emod_of_nonneg (by omega)
  have n0 : ¬ v < 10 := by omega
  have HH := hide H
  have HE := hide (decT_step h0 h1)
  clear H
  go_enter Tryz.func71, Tryz.ntmps71
  go_wp2_with fail
  refine (unhide HH).mono ?_
  rintro e w1 ⟨⟨t, rfl, ht⟩, rfl⟩
  have hz := ht.size
  have hdl := decT_len (v / 10)
  have Ht := hide ht
  clear ht
  go_wp2_with fail
  refine (l1dec_s (v % 10) _ (by omega) (by omega)).mono ?_
  rintro e w1 ⟨⟨u, rfl, hu⟩, rfl⟩
  have hz2 := hu.size
  have hdl2 := decT_len (v % 10)
  have n1 : ¬ 9223372036854775807 < t.size + u.size := by omega
  have Hu := hide hu
  clear hu
  go_wp2
  go_ret
  exact ⟨⟨_, rfl, by rw [unhide HE]; exact (unhide Ht).app (unhide Hu)⟩, rfl⟩
theorem l1dec_any (v : Int) (w : World) (h0 : 0 ≤ v) (h1 : v < 1000) :
    Calls Tryz.prog 71 #[.int .i64 v] w fun e w' => (∃ t, e = .returned (.string t) ∧ StrB t (decT v)) ∧ w' = w := by
  by_cases h : v < 10
  · exact l1dec_s v w h0 h
  · refine l1dec_t v w (by omega) h1 ?_
    by_cases h2 : v < 100
    · exact l1dec_s _ w (by omega) (by omega)
    · exact l1dec_t _ w (by omega) (by omega) (l1dec_s _ w (by omega) (by omega))
set_option maxHeartbeats 4000000 in
theorem l1special_any (b : Int) (w : World) (h0 : 0 ≤ b) (h1 : b ≤ 255) :
    Calls Tryz.prog 42 #[.int .i64 b] w fun e w' => RetB e (b ∈ spcL) ∧ w' = w := by
  have v0 : wrap64 ((({ data := #[92, 46, 91, 93, 40, 41, 124, 42, 43, 63, 123, 125, 94, 36] } : ByteArray)[0].toNat : Nat) : Int) = 92 := by decide +kernel
  have v1 : wrap64 ((({ data := #[92, 46, 91, 93, 40, 41, 124, 42, 43, 63, 123, 125, 94, 36] } : ByteArray)[1].toNat : Nat) : Int) = 46 := by decide +kernel
  have v2 : wrap64 ((({ data := #[92, 46, 91, 93, 40, 41, 124, 42, 43, 63, 123, 125, 94, 36] } : ByteArray)[2].toNat : Nat) : Int) = 91 := by decide +kernel
  have v3 : wrap64 ((({ data := #[92, 46, 91, 93, 40, 41, 124, 42, 43, 63, 123, 125, 94, 36] } : ByteArray)[3].toNat : Nat) : Int) = 93 := by decide +kernel
  have v4 : wrap64 ((({ data := #[92, 46, 91, 93, 40, 41, 124, 42, 43, 63, 123, 125, 94, 36] } : ByteArray)[4].toNat : Nat) : Int) = 40 := by decide +kernel
  have v5 : wrap64 ((({ data := #[92, 46, 91, 93, 40, 41, 124, 42, 43, 63, 123, 125, 94, 36] } : ByteArray)[5].toNat : Nat) : Int) = 41 := by decide +kernel
  have v6 : wrap64 ((({ data := #[92, 46, 91, 93, 40, 41, 124, 42, 43, 63, 123, 125, 94, 36] } : ByteArray)[6].toNat : Nat) : Int) = 124 := by decide +kernel
  have v7 : wrap64 ((({ data := #[92, 46, 91, 93, 40, 41, 124, 42, 43, 63, 123, 125, 94, 36] } : ByteArray)[7].toNat : Nat) : Int) = 42 := by decide +kernel
  have v8 : wrap64 ((({ data := #[92, 46, 91, 93, 40, 41, 124, 42, 43, 63, 123, 125, 94, 36] } : ByteArray)[8].toNat : Nat) : Int) = 43 := by decide +kernel
  have v9 : wrap64 ((({ data := #[92, 46, 91, 93, 40, 41, 124, 42, 43, 63, 123, 125, 94, 36] } : ByteArray)[9].toNat : Nat) : Int) = 63 := by decide +kernel
  have v10 : wrap64 ((({ data := #[92, 46, 91, 93, 40, 41, 124, 42, 43, 63, 123, 125, 94, 36] } : ByteArray)[10].toNat : Nat) : Int) = 123 := by decide +kernel
  have v11 : wrap64 ((({ data := #[92, 46, 91, 93, 40, 41, 124, 42, 43, 63, 123, 125, 94, 36] } : ByteArray)[11].toNat : Nat) : Int) = 125 := by decide +kernel
  have v12 : wrap64 ((({ data := #[92, 46, 91, 93, 40, 41, 124, 42, 43, 63, 123, 125, 94, 36] } : ByteArray)[12].toNat : Nat) : Int) = 94 := by decide +kernel
  have v13 : wrap64 ((({ data := #[92, 46, 91, 93, 40, 41, 124, 42, 43, 63, 123, 125, 94, 36] } : ByteArray)[13].toNat : Nat) : Int) = 36 := by decide +kernel
  go_enter Tryz.func42, Tryz.ntmps42
  go_wp2_with fail
  go_loop [4] (fun iv => ∃ i : Nat, i ≤ 14 ∧ iv = .int .i64 i ∧ ∀ k : Nat, k < i → spcL[k]?.getD 0 ≠ b) (fun iv => 14 - (intOf iv).toNat)
  case atStart => exact ⟨0, by omega, rfl, fun k hk => absurd hk (Nat.not_lt_zero _)⟩
  case round =>
    obtain ⟨i, hi, rfl, hno⟩ := hrel
    have Hno := hide hno
    clear hno
    by_cases hlt : i < 14
    · have Hnx : Hid (spcL[i]?.getD 0 ≠ b → ∀ k : Nat, k < i + 1 → spcL[k]?.getD 0 ≠ b) := fun h k hk => by
        by_cases e : k = i
        · subst e; exact h
        · exact unhide Hno k (by omega)
      have Hin : Hid (spcL[i]?.getD 0 = b → b ∈ spcL) := fun h => by
        rw [← h, List.getElem?_eq_getElem (show i < spcL.length from hlt)]
        exact List.getElem_mem _
      obtain ⟨c, hc⟩ : ∃ c, spcL[i]?.getD 0 = c := ⟨_, rfl⟩
      rw [hc] at Hnx Hin
      have e : i = 0 ∨ i = 1 ∨ i = 2 ∨ i = 3 ∨ i = 4 ∨ i = 5 ∨ i = 6 ∨ i = 7 ∨ i = 8 ∨ i = 9 ∨ i = 10 ∨ i = 11 ∨ i = 12 ∨ i = 13 := by omega
      clear hi hlt Hno
      by_cases hb : c = b
      · have hin := hide (unhide Hin hb)
        clear Hnx Hin
        rcases e with rfl | rfl | rfl | rfl | rfl | rfl | rfl | rfl | rfl | rfl | rfl | rfl | rfl | rfl
        all_goals
          simp only [spcL, List.getElem?_cons_zero, List.getElem?_cons_succ, Option.getD_some] at hc
          subst hc
          subst hb
          go_wp2
          go_ret
          exact ⟨RetB.yes (unhide hin), rfl⟩
      · have hno := hide (unhide Hnx hb)
        clear Hnx Hin
        rcases e with rfl | rfl | rfl | rfl | rfl | rfl | rfl | rfl | rfl | rfl | rfl | rfl | rfl | rfl
        all_goals
          simp only [spcL, List.getElem?_cons_zero, List.getElem?_cons_succ, Option.getD_some] at hc
          subst hc
          go_wp2
          go_round
          case rel => exact ⟨_, by omega, by go_num, unhide hno⟩
          case measure => simp [intOf]
    · obtain rfl : i = 14 := by omega
      have hn : Hid (b ∉ spcL) := fun h => by
        obtain ⟨k, hk, e⟩ := List.mem_iff_getElem.1 h
        exact unhide Hno k hk (by rw [List.getElem?_eq_getElem hk]; exact e)
      clear Hno
      go_wp2
      go_ret
      exact ⟨RetB.no (unhide hn), rfl⟩
structure Pt where
  P : List El
  s : Value
  T : Nat → Prop
structure PGrow (base : Nat) (w : World) (v : Value) (ps : List Pt) : Prop where
  own : w.ownsRow base 23 1 v ps.length (ps.map Pt.s)
  els : ∀ p ∈ ps, ElsF p.T w p.s p.P
  blk : ∀ p ∈ ps, ∀ k, p.T k → k < w.heap.size ∧ v.ownBlock ≠ some k
theorem PGrow.nil (base : Nat) (w : World) : PGrow base w (.slice none 0 0) [] := ⟨World.ownsRow_nil _ _ _ _, by simp, by simp⟩
theorem PGrow.keep {base m : Nat} {w w' : World} {v : Value} {ps : List Pt} (h : PGrow base w v ps) (hb : Below m w w') (hm : w.heap.size ≤ m) : PGrow base w' v ps :=
  ⟨own_keep h.own hb hm, fun p hp => (h.els p hp).same (fun k hk => hb.block k (by have := (h.blk p hp k hk).1; omega)), fun p hp k hk => ⟨by have h1 := (h.blk p hp k hk).1; have h2 := hb.size; omega, (h.blk p hp k hk).2⟩⟩
theorem ElsF.one {S : Nat → Prop} {w : World} {v : Value} {xs : List El} (h : ElsF S w v xs) : v.oneCell' = true := by
  obtain ⟨a, cap, rfl, -⟩ := h
  rfl
def catE : El := ⟨2, [], 0, 0⟩
def jn : List (List El) → List El
  | [] => []
  | p :: r => r.foldl (fun acc q => acc ++ q ++ [catE]) p
def optE (X : List El) : List El := X ++ [⟨0, [], 0, 0⟩] ++ [⟨3, [], 0, 0⟩]
def partsX (X : List El) (mn mx : Int) : List (List El) :=
  if mx = -1 then List.replicate (mn - 1).toNat X ++ [X ++ [⟨4, [], if 1 < mn then 1 else mn, -1⟩]]
  else List.replicate mn.toNat X ++ List.replicate (mx - mn).toNat (optE X)
def repX (X : List El) (mn mx : Int) : List El := if mx = 0 then [⟨0, [], 0, 0⟩] else jn (partsX X mn mx)
theorem own_at_g {base n e : Nat} {w : World} {v : Value} {xs : List Value} (h : w.ownsRow base e 1 v n xs) (hp : 0 < n) : ∃ g cap, v = .slice (some ⟨g, 0, none⟩) n cap ∧ ∀ j : Nat, j < n → w.cell? ⟨g, j, none⟩ = xs[j]? := by
  rcases h.2 with ⟨rfl, hz⟩ | ⟨g, cap, cur, rfl, hbg, hg, hnc, hcm, hcs, htake⟩
  · omega
  · exact ⟨g, cap, rfl, fun j hj => h.cellAt j (by omega)⟩
def jV : List Value → Value
  | [] => undef
  | p :: r => r.foldl cV p
theorem foldV (r : List Value) : ∀ p : Value, (∃ T x, p = .iface T x) → ∃ T x, r.foldl cV p = .iface T x := by
  induction r with
  | nil => intro p h; exact h
  | cons q r ih => intro p _; exact ih (cV p q) ⟨_, _, rfl⟩
theorem foldV_next (r : List Value) (p : Value) (j : Nat) (h : j < r.length) : (r.take (j + 1)).foldl cV p = cV ((r.take j).foldl cV p) r[j] := by
  rw [List.take_succ_eq_append_getElem h, List.foldl_append]; rfl
set_option maxHeartbeats 1000000 in
theorem joinParts_any (base : Nat) (v p : Value) (r : List Value) (w : World) (hown : w.ownsRow base 59 1 v (r.length + 1) (p :: r)) (hif : ∀ u ∈ p :: r, ∃ T x, u = .iface T x) (hl : r.length ≤ 1000000) :
    Calls Tryz.prog 89 #[v] w fun e w' => e = .returned (jV (p :: r)) ∧ w' = w := by
  obtain ⟨g, cap, rfl, hcell⟩ := own_at_g hown (by omega)
  have hcap : r.length + 1 ≤ cap := by
    rcases hown.2 with ⟨e, -⟩ | ⟨g', cap', cur, e, -, -, hnc, -⟩
    · simp at e
    · simp only [Value.slice.injEq] at e
      rw [e.2.2]; exact hnc
  have hx0 : w.cell? ⟨g, 0, none⟩ = some p := hcell 0 (by omega)
  have hxs : Hid (∀ j : Nat, (h : j < r.length) → w.cell? ⟨g, 1 + j, none⟩ = some r[j]) := fun j h => by
    rw [hcell (1 + j) (by omega), Nat.add_comm 1 j, List.getElem?_cons_succ, List.getElem?_eq_getElem h]
  obtain ⟨T0, x0, rfl⟩ := hif p (by simp)
  have Hif := hide hif
  have hcI : ((r.length + 1 : Nat) : Int) ≤ (cap : Int) := by omega
  clear hcell hown hif
  by_cases hc1 : cap = 1
  · subst hc1
    obtain rfl : r = [] := List.eq_nil_of_length_eq_zero (by omega)
    go_enter Tryz.func89, Tryz.ntmps89
    go_wp2
    go_loop [3, 12] (fun q i => q = .iface T0 x0 ∧ i = .int .i64 0) (fun _ _ => 0)
    case atStart => exact ⟨rfl, rfl⟩
    case round =>
      obtain ⟨rfl, rfl⟩ := hrel
      go_wp2
      go_ret
      exact ⟨rfl, rfl⟩
  · go_enter Tryz.func89, Tryz.ntmps89
    go_wp2
    go_loop [3, 12] (fun q i => ∃ j : Nat, j ≤ r.length ∧ i = .int .i64 (j : Int) ∧ q = (r.take j).foldl cV (.iface T0 x0)) (fun _ i => r.length - (intOf i).toNat)
    case atStart => exact ⟨0, Nat.zero_le _, rfl, rfl⟩
    case round =>
      obtain ⟨j, hj, rfl, hq⟩ := hrel
      obtain ⟨T1, x1, e1⟩ := foldV (r.take j) _ ⟨T0, x0, rfl⟩
      by_cases hlt : j < r.length
      · have hx := unhide hxs j hlt
        obtain ⟨T2, x2, e2⟩ := unhide Hif r[j] (by simp)
        have Hn := hide (foldV_next r (.iface T0 x0) j hlt)
        rw [e1] at hq Hn
        rw [e2] at hx Hn
        subst hq
        have hlt' : (j : Int) < (r.length : Int) := by omega
        clear e1 e2
        go_wp2
        go_round
        case rel => exact ⟨j + 1, by omega, by go_num, by rw [unhide Hn]; rfl⟩
        case measure => simp [intOf]; omega
      · obtain rfl : j = r.length := by omega
        rw [List.take_length] at hq e1
        have He := hide e1
        rw [e1] at hq
        subst hq
        clear e1
        go_wp2
        go_ret
        exact ⟨by rw [← unhide He]; rfl, rfl⟩
end Go.Proofs.YtcmofgehhdfifaaGreatDoor
