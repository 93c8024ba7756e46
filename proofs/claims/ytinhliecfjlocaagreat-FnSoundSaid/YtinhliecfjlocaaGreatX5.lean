import Derived.Test.YtinhliecfjlocaaGreatX4
namespace Go.Proofs.YtinhliecfjlocaaGreat
open Go.RowKit
structure Pt where
  P : List El
  s : Value
  T : Nat → Prop
structure PGrow (base : Nat) (w : World) (v : Value) (ps : List Pt) : Prop where
  own : w.ownsRow base 23 1 v ps.length (ps.map Pt.s)
  els : ∀ p ∈ ps, ElsF p.T w p.s p.P
  blk : ∀ p ∈ ps, ∀ k, p.T k → k < w.heap.size ∧ v.ownBlock ≠ some k
theorem PGrow.nil (base : Nat) (w : World) : PGrow base w (.slice none 0 0) [] := ⟨World.ownsRow_nil _ _ _ _, by simp, by simp⟩
theorem PGrow.keep {base m : Nat} {w w' : World} {v : Value} {ps : List Pt} (h : PGrow base w v ps) (hb : Below m w w') (hm : w.heap.size ≤ m) : PGrow base w' v ps :=
  ⟨own_keep h.own hb hm, fun p hp => (h.els p hp).same (fun k hk => hb.block k (by have := (h.blk p hp k hk).1; omega)), fun p hp k hk => ⟨by have h1 := (h.blk p hp k hk).1; have h2 := hb.size; omega, (h.blk p hp k hk).2⟩⟩
theorem ElsF.one {S : Nat → Prop} {w : World} {v : Value} {xs : List El} (h : ElsF S w v xs) : v.oneCell' = true := by
  obtain ⟨a, cap, rfl, -⟩ := h
  rfl
def catE : El := ⟨2, [], 0, 0⟩
def jn : List (List El) → List El
  | [] => []
  | p :: r => r.foldl (fun acc q => acc ++ q ++ [catE]) p
theorem jn_snoc {ps : List (List El)} (h : ps ≠ []) (q : List El) : jn (ps ++ [q]) = jn ps ++ q ++ [catE] := by
  cases ps with
  | nil => exact absurd rfl h
  | cons p r => simp [jn, List.foldl_append]
def optE (X : List El) : List El := X ++ [⟨0, [], 0, 0⟩] ++ [⟨3, [], 0, 0⟩]
def partsX (X : List El) (mn mx : Int) : List (List El) :=
  if mx = -1 then List.replicate (mn - 1).toNat X ++ [X ++ [⟨4, [], if 1 < mn then 1 else mn, -1⟩]]
  else List.replicate mn.toNat X ++ List.replicate (mx - mn).toNat (optE X)
def repX (X : List El) (mn mx : Int) : List El := if mx = 0 then [⟨0, [], 0, 0⟩] else jn (partsX X mn mx)
end Go.Proofs.YtinhliecfjlocaaGreat
