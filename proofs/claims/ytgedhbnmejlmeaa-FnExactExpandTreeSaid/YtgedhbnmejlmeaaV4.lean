import Derived.Test.YtgedhbnmejlmeaaV3
namespace Go.Proofs.Ytgedhbnmejlmeaa
open Go.RowKit

/-- The answer to a list. -/
def AnsX (xs L : List El) : Prop := (ValidT xs ∧ SegX xs L ∧ Nice L ∧ L.length ≤ 1000) ∨ (¬ ValidT xs ∧ L = [])
theorem AnsX.one {xs A B : List El} (h : AnsX xs A) (k : AnsX xs B) : A = B := by
  rcases h with ⟨h1, h2, -⟩ | ⟨h1, rfl⟩ <;> rcases k with ⟨k1, k2, -⟩ | ⟨k1, rfl⟩
  · exact h2.one k2
  · exact absurd h1 k1
  · exact absurd k1 h1
  · rfl
/-- What ExpandTree leaves. -/
def XRet (w : World) (xs : List El) (e : Ending) (w' : World) : Prop := ∃ v L, e = .returned v ∧ AnsX xs L ∧ ElsF (Rng w.heap.size w'.heap.size) w' v L ∧ Below w.heap.size w w'
theorem ElsF.nil (S : Nat → Prop) (w : World) : ElsF S w (.slice none 0 0) [] := ⟨none, 0, rfl, ⟨Nat.le_refl _, by unfold maxLen; omega⟩, fun h => absurd h (by simp)⟩

set_option maxHeartbeats 1000000 in
theorem specX_any (v : Value) (xs : List El) (w : World) (hv : ElsAt 0 w.heap.size w v xs) : Calls Try.prog 12 #[v] w fun e w' => XRet w xs e w' := by
  obtain ⟨a, cp, rfl, -, -⟩ := id hv
  have Hv := hide hv
  clear hv
  go_enter Try.func12, Try.ntmps12
  go_wp2_with fail
  refine (l1treeOK_any _ xs _ (unhide Hv)).mono ?_
  rintro e w1 ⟨hret, hb1⟩
  rcases hret.cases with ⟨rfl, hok⟩ | ⟨rfl, hbad⟩
  · obtain ⟨L, hx, hn, hl, hsx, -⟩ := valid_xp hok
    have HX := hide hx
    have Hans : Hid (AnsX xs L) := Or.inl ⟨hok, hsx, hn, hl⟩
    have hlen := hok.1.2
    clear hret hok hx hn hl hsx
    go_wp2_with fail
    refine (unhide HX _ _ ((unhide Hv).below hb1 (Nat.le_refl _)) hlen).mono ?_
    rintro e w2 ⟨v2, rfl, hg, hb2⟩
    have Hf := hide (hg.foot.mono (fun k hk => show Rng w.heap.size w2.heap.size k from ⟨Nat.le_trans hb1.size hk.1, hk.2⟩))
    have hB := hb1.trans (hb2.mono hb1.size)
    clear hg hb2
    go_wp2
    go_ret
    exact ⟨_, L, rfl, unhide Hans, unhide Hf, hB⟩
  · have Hans : Hid (AnsX xs []) := Or.inr ⟨hbad, rfl⟩
    clear hret hbad
    go_wp2
    go_ret
    exact ⟨_, [], rfl, unhide Hans, ElsF.nil _ _, hb1⟩

set_option maxHeartbeats 1000000 in
theorem implX_any (v : Value) (xs : List El) (w : World) (hv : ElsAt 0 w.heap.size w v xs) : Calls Try.prog 14 #[v] w fun e w' => XRet w xs e w' := by
  obtain ⟨a, cp, rfl, -, -⟩ := id hv
  have Hv := hide hv
  clear hv
  go_enter Try.func14, Try.ntmps14
  go_wp2_with fail
  refine (gnodeOf_any closX _ xs _ (unhide Hv)).mono ?_
  rintro e w1 ⟨⟨u, c, rfl, hok, hgx, hc5, -⟩ | ⟨rfl, hbad⟩, hb1⟩
  · obtain ⟨L, -, hn, hl, hsx, hU⟩ := valid_xp hok
    obtain ⟨U, hE, hO⟩ := hU u c hgx hc5
    obtain ⟨T0, x0, rfl⟩ := hgx.1.iface
    obtain ⟨T, x, F, rfl, hm, hcf, hF⟩ := hO
    have HE := hide hE.2
    have HF := hide hF
    have Hans : Hid (AnsX xs L) := Or.inl ⟨hok, hsx, hn, hl⟩
    clear hE hF hok hgx hsx hn
    go_wp2_with fail
    refine (unhide HE _).mono ?_
    rintro e w2 ⟨rfl, hb2⟩
    have hB2 := hb1.trans (hb2.mono hb1.size)
    clear hb2
    have hz2 := hB2.size
    go_wp2_with (with_reducible refine (unhide HF w2.heap.size _ [] _ ?_ ?_ ?_).mono ?_)
    · exact Nat.le_refl _
    · exact ⟨World.ownsRow_nil _ _ _ _, by simp, by simp, List.Pairwise.nil⟩
    · simp; omega
    rintro e w3 ⟨v3, qs, rfl, g1, g2, g3, -⟩
    have Hf : Hid (ElsF (Rng w.heap.size w3.heap.size) w3 v3 L) := by
      have := g1.foot.mono (S' := Rng w.heap.size w3.heap.size) (fun k hk => ⟨Nat.le_trans hz2 hk.1, hk.2⟩)
      rw [List.nil_append, g2] at this
      exact this
    have hB3 : Below w.heap.size w w3 := hB2.trans ((Below.refl _ _).grown g3 hz2 (fun k hk => by cases hk))
    clear g1 g2 g3
    go_wp2
    go_ret
    exact ⟨_, L, rfl, unhide Hans, unhide Hf, hB3⟩
  · have Hans : Hid (AnsX xs []) := Or.inr ⟨hbad, rfl⟩
    clear hbad
    go_wp2
    go_ret
    exact ⟨_, [], rfl, unhide Hans, ElsF.nil _ _, hb1⟩

end Go.Proofs.Ytgedhbnmejlmeaa
