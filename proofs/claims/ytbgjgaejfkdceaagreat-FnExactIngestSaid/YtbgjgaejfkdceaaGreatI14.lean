import Derived.Test.YtbgjgaejfkdceaaGreatI13
namespace Go.Proofs.YtbgjgaejfkdceaaGreat
open Go.RowKit

/-- A segment that can be read. -/
def SegRd (w : World) (v : Value) (base : Int) (xss : List (List Int)) (ks : List Int) (pss : List (List Int)) : Prop :=
  ∃ lv kv pv, v = .agg #[.int .i64 base, lv, kv, pv] ∧ SsAt mB 0 w.heap.size w lv xss ∧ SlAt mI 0 0 w.heap.size w kv ks ∧ SsAt mI 0 w.heap.size w pv pss
theorem SegRd.below {w w' : World} {v : Value} {base : Int} {xss pss : List (List Int)} {ks : List Int} {m : Nat} (h : SegRd w v base xss ks pss) (hb : Below m w w') (hm : w.heap.size ≤ m) : SegRd w' v base xss ks pss := by
  obtain ⟨lv, kv, pv, e, h1, h2, h3⟩ := h
  exact ⟨lv, kv, pv, e, h1.below hb hm, h2.below hb hm, h3.below hb hm⟩
theorem SegAt.rd {lo : Nat} {w : World} {v : Value} {base : Int} {xss pss : List (List Int)} {ks : List Int} (h : SegAt lo w v base xss ks pss) : SegRd w v base xss ks pss := by
  obtain ⟨lv, kv, pv, e, h1, h2, h3⟩ := h
  exact ⟨lv, kv, pv, e, h1.all (Nat.le_refl _), h2.all (Nat.le_refl _), h3.all (Nat.le_refl _)⟩
theorem SegF.rd {lo hi : Nat} {w : World} {v : Value} {base : Int} {xss pss : List (List Int)} {ks : List Int} (h : SegF lo hi w v base xss ks pss) (hh : hi ≤ w.heap.size) : SegRd w v base xss ks pss := by
  obtain ⟨lv, kv, pv, S1, S2, S3, e, h1, h2, h3, h4, h5, h6⟩ := h
  exact ⟨lv, kv, pv, e, h1.at (fun k hk => Nat.lt_of_lt_of_le (h4 k (Or.inl hk)).2 hh), h2.at (fun k hk => Nat.lt_of_lt_of_le (h4 k (Or.inr (Or.inl hk))).2 hh), h3.at (fun k hk => Nat.lt_of_lt_of_le (h4 k (Or.inr (Or.inr hk))).2 hh)⟩
theorem SegRd.zero (w : World) : SegRd w (.agg #[.int .i64 0, .slice none 0 0, .slice none 0 0, .slice none 0 0]) 0 [] [] [] :=
  ⟨_, _, _, rfl, ⟨none, 0, rfl, ⟨Nat.le_refl _, Nat.zero_le _⟩, fun h => absurd h (by simp)⟩, ⟨none, 0, rfl, Nat.zero_le _, fun h => absurd h (by simp)⟩, ⟨none, 0, rfl, ⟨Nat.le_refl _, Nat.zero_le _⟩, fun h => absurd h (by simp)⟩⟩
theorem SegAt.zero (lo : Nat) (w : World) : SegAt lo w (.agg #[.int .i64 0, .slice none 0 0, .slice none 0 0, .slice none 0 0]) 0 [] [] [] :=
  ⟨_, _, _, rfl, SsF.nil _ _ _ _ _ _ (Nat.zero_le _), ⟨none, 0, rfl, Nat.zero_le _, fun h => absurd h (by simp)⟩, SsF.nil _ _ _ _ _ _ (Nat.zero_le _)⟩
theorem SegF.zero (lo hi : Nat) (w : World) : SegF lo hi w (.agg #[.int .i64 0, .slice none 0 0, .slice none 0 0, .slice none 0 0]) 0 [] [] [] :=
  ⟨_, _, _, fun _ => False, fun _ => False, fun _ => False, rfl, SsF.nil _ _ _ _ _ _ (Nat.zero_le _), ⟨0, 0, ⟨none, 0, rfl, Nat.zero_le _, fun h => absurd h (by simp)⟩, fun k _ h => absurd h (by omega)⟩, SsF.nil _ _ _ _ _ _ (Nat.zero_le _), fun k h => by simp at h, fun k h => by simp at h, fun k h => by simp at h⟩

/-- How a segment's marks are counted. -/
def segN (xss : List (List Int)) (ks : List Int) (pss : List (List Int)) : Int := (tot xss : Int) + ks.length + tot pss
/-- A segment whose numbers are marks. -/
def SegMk (w : World) (v : Value) (base k : Int) (xss : List (List Int)) (ks : List Int) (pss : List (List Int)) : Prop :=
  SegRd w v base (marksL cntB k xss) (cnts (k + tot xss) ks.length) (marksL cnts (k + tot xss + ks.length) pss)

end Go.Proofs.YtbgjgaejfkdceaaGreat
