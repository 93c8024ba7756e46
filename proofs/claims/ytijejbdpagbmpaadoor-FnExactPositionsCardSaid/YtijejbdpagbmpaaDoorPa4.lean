import Derived.Test.YtijejbdpagbmpaaDoorPa3
namespace Go.Proofs.YtijejbdpagbmpaaDoor
open Go.RowKit

/-- The words of a set of positions. -/
def BitsOf (f : Nat → Nat) (xs : List Nat) : Prop := Fit f ∧ ∀ b, Bt f b = xs.contains b
/-- The automaton in the making: N positions, their sets, the links. -/
def AuAt (O : Nat → Prop) (A : Nat) (w : World) (N : Nat) (S : List (List Int)) (K : List Lk) : Prop :=
  ∃ sv fv gs hs, AuM O A w sv fv N N gs hs ∧ S.length = N ∧ (∀ i, i < N → Canon (S[i]?.getD []) ∧ WordsOf (S[i]?.getD []) (gs i)) ∧ (∀ i, Fit (hs i)) ∧ (∀ i j, Bt (hs i) j = mkd K i j) ∧ ∀ i, N ≤ i → hs i = fun _ => 0
/-- The table is there, and is not of the blocks that are written. -/
def TzO (O : Nat → Prop) (w : World) : Prop := TZ w ∧ Tryd.laysTZ_ren.g 1 < w.heap.size ∧ ¬ O (Tryd.laysTZ_ren.g 1)
section
variable {O O' : Nat → Prop} {A N : Nat} {w w' : World} {S : List (List Int)} {K K' : List Lk}
theorem AuAt.mono (h : AuAt O A w N S K) (e : ∀ k, O k → O' k) : AuAt O' A w N S K := by
  obtain ⟨sv, fv, gs, hs, h1, h2⟩ := h
  exact ⟨sv, fv, gs, hs, h1.mono e, h2⟩
theorem AuAt.keep (h : AuAt O A w N S K) (e : ∀ k, O k → k < w.heap.size → w'.heap[k]? = w.heap[k]?) : AuAt O A w' N S K := by
  obtain ⟨sv, fv, gs, hs, h1, h2⟩ := h
  exact ⟨sv, fv, gs, hs, h1.keep e, h2⟩
theorem AuAt.skip (h : AuAt O A w N S K) (hb : Below w.heap.size w w') : AuAt (Sk O w.heap.size w'.heap.size) A w' N S K := by
  obtain ⟨sv, fv, gs, hs, h1, h2⟩ := h
  exact ⟨sv, fv, gs, hs, h1.skip hb, h2⟩
theorem AuAt.same (h : AuAt O A w N S K) (e : ∀ i j, mkd K i j = mkd K' i j) : AuAt O A w N S K' := by
  obtain ⟨sv, fv, gs, hs, h1, h2, h3, h4, h5, h6⟩ := h
  exact ⟨sv, fv, gs, hs, h1, h2, h3, h4, fun i j => (h5 i j).trans (e i j), h6⟩
theorem TzO.fr (h : TzO O w) (hf : FrO O w w') : TzO O w' := ⟨h.1.same (hf.block _ h.2.2), Nat.lt_of_lt_of_le h.2.1 hf.size, h.2.2⟩
theorem TzO.less (h : TzO O w) (e : ∀ k, O' k → O k) : TzO O' w := ⟨h.1, h.2.1, fun q => h.2.2 (e _ q)⟩
theorem TzO.below (h : TzO O w) (hb : Below w.heap.size w w') : TzO O w' := ⟨h.1.below hb h.2.1, Nat.lt_of_lt_of_le h.2.1 hb.size, h.2.2⟩
theorem Sk.sub {a b : Nat} : ∀ k, Sk O a b k → O k := fun _ h => h.1
theorem Sk.top {a b m : Nat} (hO : ∀ k, a ≤ k → O k) (h : a ≤ m) (h2 : b ≤ m) : ∀ k, m ≤ k → Sk O a b k := fun k hk => ⟨hO k (by omega), Or.inr (by omega)⟩
theorem AuAt.n (h : AuAt O A w N S K) : S.length = N := by obtain ⟨_, _, _, _, -, h, -⟩ := h; exact h
theorem AuAt.lt (h : AuAt O A w N S K) : A < w.heap.size := by obtain ⟨_, _, _, _, h, -⟩ := h; exact h.lt
end
theorem mem_bl {f : Nat → Nat} {xs : List Nat} (h : BitsOf f xs) (hx : ∀ x ∈ xs, x < 512) (i : Nat) : (blN f 512).contains i = xs.contains i := by
  rw [Bool.eq_iff_iff, List.contains_iff_mem, List.contains_iff_mem]
  unfold blN
  rw [List.mem_filter, List.mem_range, h.2 i, List.contains_iff_mem]
  exact ⟨fun q => q.2, fun q => ⟨hx i q, q⟩⟩
theorem eight_row (w : World) (t : TypeId) (g : Nat → Nat) : (w.alloc (.cells #[.int .u64 (g 0 : Nat), .int .u64 (g 1 : Nat), .int .u64 (g 2 : Nat), .int .u64 (g 3 : Nat), .int .u64 (g 4 : Nat), .int .u64 (g 5 : Nat), .int .u64 (g 6 : Nat), .int .u64 (g 7 : Nat)] t)).rowIs w.heap.size t 8 (wd g) := by
  refine World.rowIs_alloc w #[.int .u64 (g 0 : Nat), .int .u64 (g 1 : Nat), .int .u64 (g 2 : Nat), .int .u64 (g 3 : Nat), .int .u64 (g 4 : Nat), .int .u64 (g 5 : Nat), .int .u64 (g 6 : Nat), .int .u64 (g 7 : Nat)] t (wd g) ?_
  intro i hi
  match i, hi with
  | 0, _ => rfl
  | 1, _ => rfl
  | 2, _ => rfl
  | 3, _ => rfl
  | 4, _ => rfl
  | 5, _ => rfl
  | 6, _ => rfl
  | 7, _ => rfl
abbrev o8 (g : Nat → Nat) : Obj := .cells #[.int .u64 (g 0 : Nat), .int .u64 (g 1 : Nat), .int .u64 (g 2 : Nat), .int .u64 (g 3 : Nat), .int .u64 (g 4 : Nat), .int .u64 (g 5 : Nat), .int .u64 (g 6 : Nat), .int .u64 (g 7 : Nat)] 59

set_option maxHeartbeats 4000000 in
set_option maxRecDepth 100000 in
theorem link_any (O : Nat → Prop) (A N : Nat) (S : List (List Int)) (K : List Lk) (f g : Nat → Nat) (xs ys : List Nat) (w : World) (h : AuAt O A w N S K) (hO : ∀ k, w.heap.size ≤ k → O k) (htz : TzO O w) (hf : BitsOf f xs) (hg : BitsOf g ys) (hx : ∀ x ∈ xs, x < N) (hN : N ≤ 512) :
    Calls Tryd.prog 66 #[.pointer (some ⟨A, 0, none⟩), ps8 f, ps8 g] w fun e w' => e = .returned (.tuple #[]) ∧ AuAt O A w' N S (K ++ [(xs, ys)]) ∧ FrO O w w' := by
  have HC := hide (mem_bl hf (fun x h => Nat.lt_of_lt_of_le (hx x h) hN))
  have hlf := blN_len f 512
  have HF := hide hf
  have HG := hide hg
  have HX := hide hx
  have hR2 : ((w.alloc (o8 f)).alloc (o8 g)).rowIs (w.heap.size + 1) 59 8 (wd g) := by
    have := eight_row (w.alloc (o8 f)) 59 g
    rwa [sz_alloc] at this
  have hB1 : Below w.heap.size w ((w.alloc (o8 f)).alloc (o8 g)) := below2 w _ _
  have hL := list_any f hf.1 ((w.alloc (o8 f)).alloc (o8 g)) (htz.below hB1).1 (htz.below hB1).2.1
  have HL := hide hL
  have hz1 : ((w.alloc (o8 f)).alloc (o8 g)).heap.size = w.heap.size + 2 := by rw [sz_alloc, sz_alloc]
  have HH := hide h
  have HO := hide hO
  have HR := hide hR2
  unfold ps8
  clear hf hg hx h hO hR2 hL htz
  go_enter Tryd.func66, Tryd.ntmps66
  go_wp2_with fail
  refine (unhide HL).mono ?_
  rintro e w2 ⟨lv, rfl, ho, hb2⟩
  obtain ⟨X, hX⟩ : ∃ X, X = blN f 512 := ⟨_, rfl⟩
  rw [← hX] at ho HC hlf
  have hB2 : Below w.heap.size w w2 := hB1.trans (hb2.mono (by omega))
  have HR2 := hide ((unhide HR).of_block (hb2.block _ (by omega)))
  obtain ⟨la, lc, rfl, hrd⟩ := own_far ho rfl (by omega)
  have HRD := hide hrd
  have HA2 := hide ((unhide HH).skip hB2)
  have hz2 := hb2.size
  clear ho hrd hb2 HL HR hX HH hB1
  go_wp2_with fail
  go_loopw [11] (fun iv wr => ∃ x : Nat, x ≤ X.length ∧ iv = .int .i64 x ∧ AuAt (Sk O w.heap.size w2.heap.size) A wr N S (K ++ [(X.take x, ys)]) ∧ FrO (Sk O w.heap.size w2.heap.size) w2 wr) (fun iv _ => X.length - (intOf iv).toNat)
  case atStart => exact ⟨0, Nat.zero_le _, rfl, (unhide HA2).same (fun i j => by rw [List.take_zero, mkd_none]), FrO.refl _ _⟩
  case round =>
    clear HA2
    obtain ⟨x, hx, rfl, hA, hfr⟩ := hrel
    by_cases hlt : x < X.length
    · have hlt' : (x : Int) < (X.length : Int) := by omega
      obtain ⟨q, o, rfl, hq1, hq2, hcell⟩ := unhide HRD (by omega)
      have hnO : ∀ k, w.heap.size ≤ k → k < w2.heap.size → wr.heap[k]? = w2.heap[k]? := fun k h1 h2 => hfr.block k (fun e => by rcases e.2 with e | e <;> omega)
      have c0 := hcell wr (hnO q (by omega) hq2) x hlt
      have hi : X[x] < N := unhide HX _ (by
        have h1 : X.contains X[x] = true := List.contains_iff_mem.2 (List.getElem_mem hlt)
        rw [unhide HC] at h1
        exact List.contains_iff_mem.1 h1)
      obtain ⟨i, hiX⟩ : ∃ i, i = X[x] := ⟨_, rfl⟩
      rw [← hiX] at c0 hi
      have HIX := hide hiX
      obtain ⟨sv, fv, gs, hs, hM, hn, hset, hfit, hbt, hzero⟩ := hA
      obtain ⟨g2, cap, M, F, rfl, hOg, hglt, hrow, hMi, hFi, hback⟩ := hM.folRow hi
      obtain ⟨-, c1, -, -⟩ := hM.facts
      have hi' : (i : Int) < (N : Int) := by omega
      have hne : g2 ≠ w.heap.size + 1 := fun e => by rcases hOg.2 with q | q <;> omega
      have hJ := join_any g2 (i * 8) M (w.heap.size + 1) 0 8 _ _ F (wd g) (hs i) g wr (hfit i) (unhide HG).1 hne hrow hFi hMi ((unhide HR2).of_block (hnO _ (by omega) (by omega))) (fun j hj => by rw [Nat.zero_add]) (by omega)
      have HJ := hide hJ
      have HSET := hide hset
      have HFIT := hide hfit
      have HBT := hide hbt
      have HZ := hide hzero
      have HBK := hide hback
      have HFR := hide hfr
      clear hJ hM hset hfit hbt hzero hrow hFi hback hfr hcell hiX hnO
      go_wp2_with fail
      refine (unhide HJ).mono ?_
      rintro e w3 ⟨rfl, hr3, hob⟩
      have hM3 := unhide HBK w3 _ hr3 hob
      have HA3 : Hid (AuAt (Sk O w.heap.size w2.heap.size) A w3 N S (K ++ [(X.take (x + 1), ys)])) := by
        refine ⟨_, _, gs, _, hM3, hn, unhide HSET, fun a => ?_, fun a b => ?_, fun a ha => ?_⟩
        · (try dsimp only)
          split
          · exact fit_or (unhide HFIT i) (unhide HG).1
          · exact unhide HFIT a
        · have e1 : mkd (K ++ [(X.take (x + 1), ys)]) a b = (mkd (K ++ [(X.take x, ys)]) a b || (decide (a = i) && ys.contains b)) := by
            rw [mkd_app, mkd_app, mkd_one, mkd_one, Bool.or_assoc]
            congr 1
            rw [List.take_add_one, List.getElem?_eq_getElem hlt, unhide HIX]
            simp only [Option.toList_some, List.contains_append]
            rw [Bool.and_or_distrib_right]
            congr 1
            simp
          rw [e1]
          (try dsimp only)
          by_cases ea : a = i
          · subst ea
            rw [if_pos rfl, bt_or, unhide HBT, (unhide HG).2]
            simp
          · rw [if_neg ea, unhide HBT]
            simp [ea]
        · (try dsimp only)
          rw [if_neg (by omega)]
          exact unhide HZ a ha
      have HF3 := hide ((unhide HFR).trans (hob.fro hOg))
      clear hr3 hob hM3 HJ HBK HFR HBT HFIT HSET HZ
      go_wp2
      go_roundw
      case rel => exact ⟨x + 1, by omega, by go_num, unhide HA3, unhide HF3⟩
      case measure => simp [intOf]; omega
    · have ex : x = X.length := by omega
      subst ex
      rw [List.take_length] at hA
      have HA3 : Hid (AuAt O A wr N S (K ++ [(xs, ys)])) := (hA.mono Sk.sub).same (fun i j => by rw [mkd_app, mkd_app, mkd_one, mkd_one, unhide HC])
      have HF3 : Hid (FrO O w wr) := (fro_of hB2 (unhide HO)).trans (hfr.mono Sk.sub)
      clear hA hfr
      go_wp2
      first | (refine bodyPost_ret (results_none rfl _ _ _) rfl ?_) | (refine bodyPost_end (results_none rfl _ _ _) rfl ?_)
      exact ⟨rfl, unhide HA3, unhide HF3⟩

end Go.Proofs.YtijejbdpagbmpaaDoor
