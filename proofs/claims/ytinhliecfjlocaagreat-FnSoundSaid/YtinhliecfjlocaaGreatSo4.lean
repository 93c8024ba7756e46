import Derived.Test.YtinhliecfjlocaaGreatPk25
import Derived.Test.YtinhliecfjlocaaGreatPy
import Derived.Test.YtinhliecfjlocaaGreatPk21
import Derived.Test.YtinhliecfjlocaaGreatPk26
import Derived.Test.YtinhliecfjlocaaGreatPk9
namespace Go.Proofs.YtinhliecfjlocaaGreat
open Go.RowKit
def SnQ (bs : List Int) (_ : Value) (L : List El) : Prop := Simple L → ∃ S R, SegK L S ∧ SegL bs.length (hsL bs) L R ∧ SkQ bs S R
theorem closSn {bs : List Int} (hb : ∀ x ∈ bs, 0 ≤ x ∧ x ≤ 255) : ClosX (SnQ bs) := by
  refine ⟨?_, ?_, ?_, ?_, ?_⟩
  · exact fun _ => ⟨_, _, SegK.e, SegL.e, SkQ.e bs _⟩
  · intro xs g hc hw _
    exact ⟨_, _, SegK.s xs, SegL.s xs, SkQ.s hb xs⟩
  · intro u v L R hu hv hS
    obtain ⟨A, P, a1, a2, a3⟩ := hu hS.left.left
    obtain ⟨B, Q, b1, b2, b3⟩ := hv hS.left.right
    exact ⟨_, _, a1.cat b1, a2.cat b2, (a3.cat b3).cut (a2.cat b2).2 (cutf_ok _)⟩
  · intro u v L R hu hv hS
    obtain ⟨A, P, a1, a2, a3⟩ := hu hS.left.left
    obtain ⟨B, Q, b1, b2, b3⟩ := hv hS.left.right
    exact ⟨_, _, a1.alt b1, a2.alt b2, (a3.alt b3).cut (a2.alt b2).2 (cutf_ok _)⟩
  · intro u L mn mx hu o2 o3 o4 hS
    obtain ⟨A, P, a1, a2, a3⟩ := hu hS.left
    obtain ⟨e1, e2, e3⟩ := hS.right ⟨4, [], mn, mx⟩ (List.mem_singleton.2 rfl) rfl
    simp only at e1 e2 e3
    exact ⟨_, _, a1.rep mn mx, a2.rep mn mx, a3.rep a2.2 mn mx (by omega) (a2.rep mn mx).2⟩
theorem sound_any {l r : Bool} {xs : List El} {rs : List (List Int)} {bs ts : List Int} (hm : MatchA l r xs bs) (hq : QAns xs rs) (ho : Ord (tris bs (bs.length - 2)) ts) (hb : ∀ x ∈ bs, 0 ≤ x ∧ x ≤ 255) : EvalP rs ts := by
  obtain ⟨hv, -, R, hR, i, j, -, hij, -⟩ := hm
  obtain ⟨S, hS, hN⟩ := hq
  obtain ⟨L, hx, hk⟩ : ∃ L, SegX xs L ∧ SegK L S := by
    rcases hS with ⟨-, L, a, b, -⟩ | ⟨hn, -⟩
    · exact ⟨L, a, b⟩
    · exact absurd hv hn
  obtain ⟨R', r1, r2, hsim⟩ := exL_valid (n := bs.length) (hs := hsL bs) hv hx
  obtain rfl := SegL.one hR r1
  obtain ⟨L', -, hx', ⟨U, hU⟩, -⟩ := valid_r (closSn hb) hv
  obtain rfl := SegX.one hx hx'
  obtain ⟨S', R2, k1, k2, k3⟩ := hU hsim
  obtain rfl := SegK.one hk k1
  obtain rfl := SegL.one r2 k2
  obtain ⟨s, hs, sa⟩ := k3 i j hij
  obtain ⟨c, hc, ht⟩ := norm_true (T := ts) hN (List.mem_map.2 ⟨s, hs, rfl⟩) (fun z hz => (ho.mem z).2 (sa.tris z hz))
  obtain ⟨k, hkl, e⟩ := List.getElem_of_mem hc
  exact ⟨k, hkl, by rw [List.getElem?_eq_getElem hkl, Option.getD_some, e]; exact ht⟩
end Go.Proofs.YtinhliecfjlocaaGreat
