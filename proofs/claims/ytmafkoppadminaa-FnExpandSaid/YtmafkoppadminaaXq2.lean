import Derived.Test.YtmafkoppadminaaPy
import Derived.Test.YtmafkoppadminaaPk13
namespace Go.Proofs.Ytmafkoppadminaa
open Go.RowKit
theorem closOps : ClosX OpsAs := ⟨OpsAs.e, fun hc hw => OpsAs.s hw hc, fun a b => a.cat b, fun a b => a.alt b, fun a _ _ _ => a.rep _ _⟩
def AnsR (xs L : List El) : Prop := (ValidT xs ∧ SegX xs L ∧ L.length ≤ 1000) ∨ (¬ ValidT xs ∧ L = [])
def XRetR (w : World) (xs : List El) (e : Ending) (w' : World) : Prop := ∃ v L, e = .returned v ∧ AnsR xs L ∧ ElsF (Rng w.heap.size w'.heap.size) w' v L ∧ Below w.heap.size w w'
set_option maxHeartbeats 1000000 in
theorem implX_r (v : Value) (xs : List El) (w : World) (hv : ElsAt 0 w.heap.size w v xs) : Calls Try.prog 6 #[v] w fun e w' => XRetR w xs e w' := by
  obtain ⟨a, cp, rfl, -, -⟩ := id hv
  have Hv := hide hv
  clear hv
  go_enter Try.func6, Try.ntmps6
  go_wp2_with fail
  refine (gnodeOf_any (closR closOps) _ xs _ (unhide Hv)).mono ?_
  rintro e w1 ⟨⟨u, c, rfl, hok, hgx, hc5, -⟩ | ⟨rfl, hbad⟩, hb1⟩
  · obtain ⟨L, hl, hsx, -, hU⟩ := valid_r closOps hok
    obtain ⟨U, hE, hO⟩ := hU u c hgx hc5
    obtain ⟨T0, x0, rfl⟩ := hgx.1.iface
    obtain ⟨T, x, F, rfl, hm, hcf, hF⟩ := hO
    have HE := hide hE.2
    have HF := hide hF
    have Hans : Hid (AnsR xs L) := Or.inl ⟨hok, hsx, hl⟩
    clear hE hF hok hgx hsx
    go_wp2_with fail
    refine (unhide HE _).mono ?_
    rintro e w2 ⟨rfl, hb2⟩
    have hB2 := hb1.trans (hb2.mono hb1.size)
    clear hb2
    have hz2 := hB2.size
    go_wp2_with (with_reducible refine (unhide HF w2.heap.size _ [] _ ?_ ?_ ?_).mono ?_)
    · exact Nat.le_refl _
    · exact ⟨World.ownsRow_nil _ _ _ _, by simp, by simp, List.Pairwise.nil⟩
    · simp; omega
    rintro e w3 ⟨v3, qs, rfl, g1, g2, g3, -⟩
    have Hf : Hid (ElsF (Rng w.heap.size w3.heap.size) w3 v3 L) := by
      have := g1.foot.mono (S' := Rng w.heap.size w3.heap.size) (fun k hk => ⟨Nat.le_trans hz2 hk.1, hk.2⟩)
      rw [List.nil_append, g2] at this
      exact this
    have hB3 : Below w.heap.size w w3 := hB2.trans ((Below.refl _ _).grown g3 hz2 (fun k hk => by cases hk))
    clear g1 g2 g3
    go_wp2
    go_ret
    exact ⟨_, L, rfl, unhide Hans, unhide Hf, hB3⟩
  · have Hans : Hid (AnsR xs []) := Or.inr ⟨hbad, rfl⟩
    clear hbad
    go_wp2
    go_ret
    exact ⟨_, [], rfl, unhide Hans, ⟨none, 0, rfl, ⟨Nat.le_refl _, by unfold maxLen; omega⟩, fun h => absurd h (by simp)⟩, hb1⟩
end Go.Proofs.Ytmafkoppadminaa
