import Derived.Test.YtbgjgaejfkdceaaGreatL6
namespace Go.Proofs.YtbgjgaejfkdceaaGreat
open Go.RowKit

def MrgWant (e : Ending) (lo : Nat) (w' : World) (J : Prop) (base : Int) (zss : List (List Int)) : Prop := ∃ v b xs ks pss c, e = .returned (.tuple #[v, .int .i64 c]) ∧ MrgIs J base zss b xs ks pss c ∧ SegAt lo w' v b xs ks pss
theorem MrgWant.no {lo : Nat} {w' : World} {J : Prop} {base : Int} {zss : List (List Int)} (h : ¬ J) : MrgWant (.returned (.tuple #[.agg #[.int .i64 0, .slice none 0 0, .slice none 0 0, .slice none 0 0], .int .i64 4])) lo w' J base zss :=
  ⟨_, 0, [], [], [], 4, rfl, Or.inr ⟨h, rfl, rfl, rfl, rfl, rfl⟩, SegAt.zero _ _⟩
theorem MrgWant.unfit {lo : Nat} {w' : World} {J : Prop} {base : Int} {zss : List (List Int)} (h : J) (hf : ¬ Fits base zss) : MrgWant (.returned (.tuple #[.agg #[.int .i64 0, .slice none 0 0, .slice none 0 0, .slice none 0 0], .int .i64 4])) lo w' J base zss :=
  ⟨_, 0, [], [], [], 4, rfl, Or.inl ⟨h, Or.inr ⟨hf, rfl, rfl, rfl, rfl, rfl⟩⟩, SegAt.zero _ _⟩

end Go.Proofs.YtbgjgaejfkdceaaGreat
