import Derived.Test.YtbgjgaejfkdceaaGreatSt13
namespace Go.Proofs.YtbgjgaejfkdceaaGreat
open Go.RowKit

/-- Every list of lines has keys and posting lists. -/
theorem segR_ex (base : Int) (xss : List (List Int)) (hn : xss.length ≤ 1000) : ∃ ks pss, SegR base xss ks pss := by
  obtain ⟨zs, ho, -⟩ := ord_ex (plcs xss xss.length)
  obtain ⟨ks, pss, hk⟩ := kinv_ex base zs ho.asc zs.length (Nat.le_refl _)
  exact ⟨ks, pss, hk.done ho hn⟩

/-- A slice of segments whose lines can be read. -/
def FlatAt (N : Nat) (w : World) (v : Value) (gs : List Sg) : Prop :=
  ∃ a cap, v = .slice a gs.length cap ∧ (0 < gs.length → ∃ q off, a = some ⟨q, off, none⟩ ∧ ∀ i g, gs[i]? = some g → ∃ lv, w.cell? ⟨q, off + i * 4 + 1, none⟩ = some lv ∧ q < N ∧ SsAt mB 0 N w lv g.xs)
theorem SgRow.flatAt {base : Nat} {w : World} {v : Value} {ss : List Sv} (h : SgRow base w v ss) : FlatAt w.heap.size w v (ss.map Sv.g) := by
  obtain ⟨a, c, rfl⟩ := h.form
  refine ⟨a, c, by rw [List.length_map], fun hp => ?_⟩
  rw [List.length_map] at hp
  obtain ⟨q, cap, e, h1, h2, -⟩ := h.at 0 ss[0] (by simp [hp])
  simp only [Value.slice.injEq] at e
  obtain ⟨rfl, -, rfl⟩ := e
  refine ⟨q, 0, rfl, fun i g hg => ?_⟩
  rw [List.getElem?_map] at hg
  obtain ⟨s, hs, rfl⟩ := Option.map_eq_some_iff.1 hg
  obtain ⟨q', cap', e', -, -, -, c1, -⟩ := h.at i s hs
  simp only [Value.slice.injEq, Option.some.injEq, Addr.mk.injEq, and_true, true_and] at e'
  obtain ⟨rfl, -⟩ := e'
  have hm := List.mem_of_getElem? hs
  obtain ⟨lv, kv, pv, e2, g1, -⟩ := h.seg s hm
  unfold Sv.v at e2
  simp only [Value.agg.injEq, Array.mk.injEq, List.cons.injEq, and_true] at e2
  obtain ⟨-, rfl, -⟩ := e2
  exact ⟨_, by rw [Nat.zero_add]; exact c1, h2, g1.at (fun j hj => Nat.lt_of_lt_of_le hj.2 (h.blk s hm).2.1)⟩
/-- Two of them. -/
theorem FlatAt.two {N k n cap q : Nat} {w : World} {gs : List Sg} (h : FlatAt N w (.slice (some ⟨q, 0, none⟩) n cap) gs) (hk : k + 2 ≤ gs.length) (c : Nat) : FlatAt N w (.slice (some ⟨q, k * 4, none⟩) 2 c) ((gs.drop k).take 2) := by
  obtain ⟨a, cap', e, hc⟩ := h
  simp only [Value.slice.injEq] at e
  obtain ⟨rfl, -, -⟩ := e
  obtain ⟨q', off, e, hh⟩ := hc (by omega)
  simp only [Option.some.injEq, Addr.mk.injEq, and_true] at e
  obtain ⟨rfl, rfl⟩ := e
  have hl : ((gs.drop k).take 2).length = 2 := by simp; omega
  refine ⟨_, c, by rw [hl], fun _ => ⟨q, k * 4, rfl, fun i g hg => ?_⟩⟩
  have hi : i < 2 := by have := (List.getElem?_eq_some_iff.1 hg).1; omega
  rw [List.getElem?_take, if_pos hi, List.getElem?_drop] at hg
  obtain ⟨lv, h1, h2⟩ := hh (k + i) g hg
  refine ⟨lv, ?_, h2⟩
  rw [show k * 4 + i * 4 + 1 = 0 + (k + i) * 4 + 1 by omega]
  exact h1
theorem FlatAt.below {N m : Nat} {w w' : World} {v : Value} {gs : List Sg} (h : FlatAt N w v gs) (hb : Below m w w') (hm : N ≤ m) : FlatAt N w' v gs := by
  obtain ⟨a, cap, e, hc⟩ := h
  refine ⟨a, cap, e, fun hp => ?_⟩
  obtain ⟨q, off, e1, hh⟩ := hc hp
  refine ⟨q, off, e1, fun i g hg => ?_⟩
  obtain ⟨lv, h1, h2, h3⟩ := hh i g hg
  exact ⟨lv, by rw [hb.cell (p := ⟨q, off + i * 4 + 1, none⟩) (by show q < m; omega)]; exact h1, h2, h3.under hb hm⟩
theorem FlatAt.up {N N' : Nat} {w : World} {v : Value} {gs : List Sg} (h : FlatAt N w v gs) (hN : N ≤ N') : FlatAt N' w v gs := by
  obtain ⟨a, cap, e, hc⟩ := h
  refine ⟨a, cap, e, fun hp => ?_⟩
  obtain ⟨q, off, e1, hh⟩ := hc hp
  refine ⟨q, off, e1, fun i g hg => ?_⟩
  obtain ⟨lv, h1, h2, a', cap', rfl, hl, hc'⟩ := hh i g hg
  refine ⟨_, h1, by omega, a', cap', rfl, hl, fun hp' => ?_⟩
  obtain ⟨b, off', rfl, k1, k2⟩ := hc' hp'
  refine ⟨b, off', rfl, by omega, fun j hj => ?_⟩
  obtain ⟨s, k3, k4, k5⟩ := k2 j hj
  exact ⟨s, k3, k4.mono (Nat.le_refl _) hN, k5⟩

def flatG (gs : List Sg) (k : Nat) : List (List Int) := flat (gs.take k)

set_option maxHeartbeats 4000000 in
set_option maxRecDepth 100000 in
theorem l5flatA_any (v : Value) (gs : List Sg) (w : World) (hv : FlatAt w.heap.size w v gs) (hn : nL gs ≤ 1000) (hl : gs.length ≤ 1000) :
    Calls Tryz.prog 20 #[v] w fun e w' => FlatR e w w' (flat gs) ∧ Below w.heap.size w w' := by
  have HF := hide hv
  obtain ⟨ga, gc, rfl, hc⟩ := hv
  clear hc
  go_enter Tryz.func20, Tryz.ntmps20
  go_wp2_with fail
  go_loopw [3, 4] (fun ov iv wr => ∃ (k : Nat) (vs : List Value), k ≤ gs.length ∧ iv = .int .i64 k ∧ wr.ownsRow w.heap.size 25 1 ov vs.length vs ∧ LnV w.heap.size wr vs (flatG gs k) ∧ Below w.heap.size w wr) (fun _ iv _ => gs.length - (intOf iv).toNat)
  case atStart => exact ⟨0, [], Nat.zero_le _, rfl, World.ownsRow_nil _ _ _ _, ⟨rfl, fun i hi => absurd hi (by simp [flatG, flat])⟩, Below.refl _ _⟩
  case round =>
    obtain ⟨k, vs, hk, rfl, hown, hln, hb⟩ := hrel
    have hszr := hb.size
    have Hown := hide hown
    have Hln := hide hln
    obtain ⟨oa, oc, rfl⟩ := own_is hown
    have hsum : ∀ j : Nat, nL (gs.take j) ≤ 1000 := fun j => by
      have e := congrArg nL (List.take_append_drop j gs)
      rw [nL_app] at e
      omega
    have hvn : vs.length ≤ 1000 := by
      rw [hln.1]
      unfold flatG
      rw [flat_len]
      exact hsum k
    clear hown hln
    by_cases hlt : k < gs.length
    · have hlt' : (k : Int) < (gs.length : Int) := by omega
      obtain ⟨g, hgk⟩ : ∃ g, gs[k]? = some g := ⟨gs[k], by simp [hlt]⟩
      obtain ⟨_, _, e1, hc⟩ := (unhide HF).below hb (Nat.le_refl _)
      cases e1
      obtain ⟨q, off, rfl, hh⟩ := hc (by omega)
      obtain ⟨lv, c1, hq, hrd⟩ := hh k g hgk
      have Hsn : Hid (flatG gs (k + 1) = flatG gs k ++ g.xs) := by
        show flat _ = flat _ ++ _
        rw [List.take_add_one, hgk, flat_app]
        simp [flat]
      have hsl : g.xs.length ≤ 1000 := by
        have e3 := congrArg List.length (unhide Hsn)
        rw [List.length_append] at e3
        unfold flatG at e3
        rw [flat_len, flat_len] at e3
        have := hsum (k + 1)
        omega
      have HRD := hide hrd
      obtain ⟨a1, k1, rfl, -⟩ := id hrd
      clear hgk hh hc hrd hsum
      generalize g.xs = xs at *
      go_wp2_with (at_builtin; refine app_lines w.heap.size w.heap.size rfl _ _ rfl _ vs _ rfl (unhide Hown) (unhide Hln) _ xs rfl (unhide HRD) (by omega) hszr (Nat.le_refl _) ?_)
      intro v' w' vs' r1 r2 r3
      have R1 := hide r1
      have R2 := hide r2
      obtain ⟨oa', oc', rfl⟩ := own_is r1
      clear r1 r2
      go_wp2
      go_roundw
      case rel => exact ⟨k + 1, _, by omega, by go_num, unhide R1, by rw [unhide Hsn]; exact unhide R2, hb.trans r3⟩
      case measure => simp [intOf]; omega
    · obtain rfl : k = gs.length := by omega
      have hlt' : ¬ (gs.length : Int) < (gs.length : Int) := by omega
      have H2 : Hid (LnV w.heap.size wr vs (flat gs)) := by
        have := unhide Hln
        unfold flatG at this
        rwa [List.take_length] at this
      clear hsum
      go_wp2
      go_ret
      exact ⟨⟨_, vs, rfl, unhide Hown, unhide H2⟩, hb⟩

/-- What one segment adds to the answer of a merge. -/
def emit (k : Nat) (x : List Int) (bss : List (List Int)) (i : Nat) : List (List Int) := if i = k then [x] else if i = k + 1 then [] else [bss[i]?.getD []]
def outK (k : Nat) (x : List Int) (bss : List (List Int)) : Nat → List (List Int)
  | 0 => []
  | i + 1 => outK k x bss i ++ emit k x bss i
theorem outK_all (k : Nat) (x : List Int) (bss : List (List Int)) (hk : k + 1 < bss.length) : outK k x bss bss.length = bss.take k ++ ([x] ++ bss.drop (k + 2)) := by
  have h1 : ∀ i, i ≤ k → outK k x bss i = bss.take i := fun i => by
    induction i with
    | zero => intro _; simp [outK]
    | succ i ih =>
      intro h
      rw [outK, ih (by omega), emit, if_neg (by omega), if_neg (by omega), List.take_add_one, List.getElem?_eq_getElem (by omega)]
      rfl
  have h2 : ∀ j, k + 2 + j ≤ bss.length → outK k x bss (k + 2 + j) = bss.take k ++ ([x] ++ (bss.drop (k + 2)).take j) := fun j => by
    induction j with
    | zero =>
      intro _
      show outK k x bss (k + 1) ++ emit k x bss (k + 1) = _
      rw [outK, h1 k (Nat.le_refl _), emit, emit, if_pos rfl, if_neg (by omega), if_pos rfl]
      simp
    | succ j ih =>
      intro h
      show outK k x bss (k + 2 + j) ++ emit k x bss (k + 2 + j) = _
      rw [ih (by omega), emit, if_neg (by omega), if_neg (by omega), List.take_add_one, List.getElem?_drop, List.getElem?_eq_getElem (by omega)]
      simp
  have h3 := h2 (bss.length - (k + 2)) (by omega)
  rw [show k + 2 + (bss.length - (k + 2)) = bss.length by omega] at h3
  have h4 : (bss.drop (k + 2)).take (bss.length - (k + 2)) = bss.drop (k + 2) := List.take_of_length_le (by rw [List.length_drop]; exact Nat.le_refl _)
  rw [h3, h4]
theorem outK_len (k : Nat) (x : List Int) (bss : List (List Int)) (i : Nat) : (outK k x bss i).length ≤ i := by
  induction i with
  | zero => simp [outK]
  | succ i ih =>
    rw [outK, List.length_append]
    have : (emit k x bss i).length ≤ 1 := by unfold emit; split; simp; split <;> simp
    omega

/-- What merging answers, as data. -/
def MergeIs (bss oss : List (List Int)) (k : Int) (b o : List (List Int)) (c : Int) : Prop :=
  (StN bss oss ∧ b = [] ∧ o = [] ∧ c = 4) ∨ (∃ gs, StS bss oss gs ∧ ¬ (0 ≤ k ∧ k + 1 < gs.length) ∧ b = bss ∧ o = oss ∧ c = 7) ∨
  (∃ gs g g' ks pss, StS bss oss gs ∧ (0 ≤ k ∧ k + 1 < gs.length) ∧ gs[k.toNat]? = some g ∧ gs[k.toNat + 1]? = some g' ∧ SegR g.b (g.xs ++ g'.xs) ks pss ∧ b = outK k.toNat (encL g.b (g.xs ++ g'.xs) ks pss) bss bss.length ∧ o = oss ∧ c = 0)
theorem MergeIs.uniq {bss oss b1 o1 b2 o2 : List (List Int)} {k c1 c2 : Int} (h : MergeIs bss oss k b1 o1 c1) (h' : MergeIs bss oss k b2 o2 c2) : b1 = b2 ∧ o1 = o2 ∧ c1 = c2 := by
  rcases h with ⟨h0, rfl, rfl, rfl⟩ | ⟨gs, h0, h1, rfl, rfl, rfl⟩ | ⟨gs, g, g', ks, pss, h0, h1, h2, h3, h4, rfl, rfl, rfl⟩
  · rcases h' with ⟨g0, rfl, rfl, rfl⟩ | ⟨gs', g0, -⟩ | ⟨gs', -, -, -, -, g0, -⟩
    · exact ⟨rfl, rfl, rfl⟩
    · first | exact (h0 _ g0).elim | exact (g0 _ h0).elim
    · first | exact (h0 _ g0).elim | exact (g0 _ h0).elim
  · rcases h' with ⟨g0, -⟩ | ⟨gs', g0, g1, rfl, rfl, rfl⟩ | ⟨gs', -, -, -, -, g0, g1, -⟩
    · first | exact (h0 _ g0).elim | exact (g0 _ h0).elim
    · exact ⟨rfl, rfl, rfl⟩
    · obtain rfl := h0.one g0; exact absurd g1 h1
  · rcases h' with ⟨g0, -⟩ | ⟨gs', g0, g1, -⟩ | ⟨gs', q, q', ks', pss', g0, g1, g2, g3, g4, rfl, rfl, rfl⟩
    · first | exact (h0 _ g0).elim | exact (g0 _ h0).elim
    · obtain rfl := h0.one g0; exact absurd h1 g1
    · obtain rfl := h0.one g0
      rw [h2] at g2
      rw [h3] at g3
      cases g2
      cases g3
      obtain ⟨rfl, rfl⟩ := h4.uniq g4
      exact ⟨rfl, rfl, rfl⟩

end Go.Proofs.YtbgjgaejfkdceaaGreat
