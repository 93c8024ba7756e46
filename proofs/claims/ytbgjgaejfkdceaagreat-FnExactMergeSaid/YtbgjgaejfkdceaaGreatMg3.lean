import Derived.Test.YtbgjgaejfkdceaaGreatMg2
import Derived.Test.YtbgjgaejfkdceaaGreatCp3
import Derived.Test.YtbgjgaejfkdceaaGreatL7
namespace Go.Proofs.YtbgjgaejfkdceaaGreat
open Go.RowKit

theorem LL.keepHi {α : Type} {mk : α → Value} {d : α} {e te : TypeId} {base : Nat} {w w' : World} {v : Value} {ps : List (Cl α)} (h : LL mk d e te base w v ps) (hs : ∀ k, base ≤ k → k < w.heap.size → w'.heap[k]? = w.heap[k]?) : LL mk d e te base w' v ps := by
  refine ⟨⟨h.own.1, ?_⟩, fun p hp => (h.ok p hp).same (fun h0 => hs _ (h.lo p hp h0) ((h.ok p hp).lt h0)), h.lo, h.apart⟩
  rcases h.own.2 with h2 | ⟨g, cap, cur, h1, h2, h3, h4⟩
  · exact Or.inl h2
  · exact Or.inr ⟨g, cap, cur, h1, h2, (hs g h2 (Array.getElem?_eq_some_iff.1 h3).1).trans h3, h4⟩

theorem implMerge_fit (u v : Value) (base base' : Int) (xss pss yss pss' : List (List Int)) (ks ks' : List Int) (w : World) (hu : SegRd w u base xss ks pss) (hv : SegRd w v base' yss ks' pss') (hi : SegIn base xss ks pss) (hi' : SegIn base' yss ks' pss') (hT : tot xss + tot yss ≤ 1048576) (hL : xss.length + yss.length ≤ 1048576) (hJ : Joins base xss ks pss base' yss ks' pss') (hF : Fits base (xss ++ yss)) :
    Calls Tryz.prog 48 #[u, v] w fun e w' => (∃ vv kz pz, e = .returned (.tuple #[vv, .int .i64 0]) ∧ SegR base (xss ++ yss) kz pz ∧ (kz.length ≤ 1048576 ∧ tot pz ≤ 1048576) ∧ SegF w.heap.size w'.heap.size w' vv base (xss ++ yss) kz pz) ∧ Below w.heap.size w w' :=
  (implMerge_any u v base base' xss pss yss pss' ks ks' w hu hv hi hi' hT hL).mono (fun e w' ⟨h1, h2⟩ => ⟨by
    obtain ⟨vv, b, xs, kz, pz, c, rfl, his, hbd, hsf⟩ := h1
    rcases his with ⟨-, his⟩ | ⟨hn, -⟩
    · rcases his with ⟨-, q⟩ | ⟨hn, -⟩
      · obtain ⟨rfl, rfl, q3, rfl⟩ : b = base ∧ xs = xss ++ yss ∧ SegR base (xss ++ yss) kz pz ∧ c = 0 := by
          first
            | exact ⟨q.1, q.2.1, q.2.2.1, q.2.2.2⟩
            | exact ⟨q.2.1, q.2.2.1, q.1, q.2.2.2⟩
            | exact ⟨q.1, q.2.1, q.2.2.2, q.2.2.1⟩
            | (obtain ⟨q1, q2, q3, q4⟩ := q; exact ⟨by assumption, by assumption, by assumption, by assumption⟩)
        exact ⟨vv, kz, pz, rfl, q3, ⟨hbd.2.1, hbd.2.2⟩, hsf⟩
      · exact absurd hF hn
    · exact absurd hJ hn, h2⟩)

def MrgBx (bx c : Value) (w wx : World) (gb : Int) (X : List (List Int)) : Prop :=
  ∃ (N : Nat) (ks : List Int) (pss : List (List Int)) (a1 : Option Addr) (c1 : Nat) (a2 : Option Addr) (c2 : Nat) (a3 : Option Addr) (c3 : Nat) (l h : Nat), bx = .pointer (some ⟨N, 0, none⟩) ∧ c = .int .i64 0 ∧ SegR gb X ks pss ∧ (ks.length ≤ 1048576 ∧ tot pss ≤ 1048576) ∧ Row4 wx N 56 (.int .i64 gb) (.slice a1 X.length c1) (.slice a2 ks.length c2) (.slice a3 pss.length c3) ∧
    SegA l h wx (.agg #[.int .i64 gb, .slice a1 X.length c1, .slice a2 ks.length c2, .slice a3 pss.length c3]) ⟨gb, X, ks, pss⟩ ∧ w.heap.size ≤ l ∧ h ≤ wx.heap.size ∧ w.heap.size ≤ N ∧ N < wx.heap.size ∧ Below w.heap.size w wx
theorem SegA.putq {l h b : Nat} {w : World} {v : Value} {g : Sg} (H : SegA l h w v g) (hb : b < l) (d0 d1 d2 d3 : Value) : SegA l h ((((w.setCell ⟨b, 0, none⟩ d0).setCell ⟨b, 1, none⟩ d1).setCell ⟨b, 2, none⟩ d2).setCell ⟨b, 3, none⟩ d3) v g := by
  have q : ∀ (W : World) (o : Nat) (u : Value), SegA l h W v g → SegA l h (W.setCell ⟨b, o, none⟩ u) v g := fun W o u hW => hW.same (fun k k1 _ => Below.heap_setCell _ _ _ _ (by show k ≠ b; omega))
  exact q _ _ _ (q _ _ _ (q _ _ _ (q _ _ _ H)))
theorem run_replace (x1 x2 x3 x4 : Value) (w : World) : Sem.run Tryz.prog (callFunc 49 #[x1, x2, x3, x4]) w = .ok (.enter 49 #[x1, x2, x3, x4]) w := by kernel_rfl

set_option maxHeartbeats 16000000 in
set_option maxRecDepth 100000 in
theorem mergeOut_any (BX H : Nat) (ss : List Sv) (oss : List (List Int)) (lr br : Int) (k : Int) (w : World) (hst : StoreAt BX H w ss oss lr br) (hss : ss.length ≤ 1000) (hk1 : -9223372036854775808 ≤ k) (hk2 : k ≤ 9223372036854775807) (hr : ¬ (0 ≤ k ∧ k + 1 < ss.length)) :
    Calls Tryz.prog 34 #[.pointer (some ⟨BX, 0, none⟩), .int .i64 k] w fun e w' => e = .returned (.int .i64 7) ∧ Below BX w w' ∧ StoreRd BX w' ss oss := by
  have HST := hide hst
  obtain ⟨sg, op, ps, hbox, hrow, hll, hps, hgb, hsh, hBH, hHw⟩ := hst
  obtain ⟨ga, gc, rfl⟩ := hrow.form
  obtain ⟨f0, f1, -⟩ := hbox.facts
  clear hbox hrow hll hps hgb hsh
  by_cases h0 : k < 0
  · go_enter Tryz.func34, Tryz.ntmps34
    go_wp2
    go_ret
    exact ⟨rfl, Below.refl _ _, (unhide HST).rd⟩
  · have h3 : (ss.length : Int) - 1 ≤ k := by omega
    have hw : IntKind.i64.wrap ((ss.length : Int) - 1) = (ss.length : Int) - 1 := k64i (by omega) (by omega)
    clear hr
    go_enter Tryz.func34, Tryz.ntmps34
    go_wp2
    go_ret
    exact ⟨rfl, Below.refl _ _, (unhide HST).rd⟩

end Go.Proofs.YtbgjgaejfkdceaaGreat
