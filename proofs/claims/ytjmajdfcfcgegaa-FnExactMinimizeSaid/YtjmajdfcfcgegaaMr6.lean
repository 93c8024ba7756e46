import Derived.Test.YtjmajdfcfcgegaaPk5
import Derived.Test.YtjmajdfcfcgegaaPk4
import Derived.Test.YtjmajdfcfcgegaaMr3
namespace Go.Proofs.Ytjmajdfcfcgegaa
open Go.RowKit

/-- Behind i of the states: those are marked; T the blocks with marks. -/
structure MkI (n N : Nat) (S : List Nat) (i : Nat) (bs fr tt ms ps mk : Nat → Nat) (T : List Nat) : Prop where
  pi : PInv n N ms ps bs fr mk tt
  mq : ∀ t, t < n → (ps t < mk (bs t) ↔ t ∈ S.take i)
  nd : T.Nodup
  tm : ∀ b, b ∈ T ↔ b < N ∧ mk b ≠ fr b
theorem MkI.start {n N : Nat} {S : List Nat} {bs fr tt ms ps mk : Nat → Nat} (h : PInv n N ms ps bs fr mk tt) (hm : ∀ b, b < N → mk b = fr b) : MkI n N S 0 bs fr tt ms ps mk [] where
  pi := h
  mq := fun t ht => by
    obtain ⟨a1, a2, -⟩ := h.s1 t ht
    rw [hm _ a1]
    simp
    omega
  nd := List.nodup_nil
  tm := fun b => by
    simp
    exact hm b
theorem MkI.un {n N : Nat} {S : List Nat} {i : Nat} {bs fr tt ms ps mk : Nat → Nat} {T : List Nat} (h : MkI n N S i bs fr tt ms ps mk T) (hS : S.Nodup) {s : Nat} (hs : S[i]? = some s) (hn : s < n) : mk (bs s) ≤ ps s := by
  apply Nat.le_of_not_lt
  intro hlt
  have := (h.mq s hn).1 hlt
  obtain ⟨j, hj⟩ := List.getElem?_of_mem this
  rw [List.getElem?_take] at hj
  split at hj
  · have := (List.getElem?_inj (by have := (List.getElem?_eq_some_iff.1 hj).1; omega) hS).1 (hj.trans hs.symm)
    omega
  · cases hj
theorem MkI.next {n N : Nat} {S : List Nat} {i : Nat} {bs fr tt ms ps mk : Nat → Nat} {T : List Nat} (h : MkI n N S i bs fr tt ms ps mk T) (hS : S.Nodup) {s : Nat} (hs : S[i]? = some s) (hn : s < n) :
    MkI n N S (i + 1) bs fr tt (upd (upd ms (ps s) (ms (mk (bs s)))) (mk (bs s)) s) (upd (upd ps (ms (mk (bs s))) (ps s)) s (mk (bs s))) (upd mk (bs s) (mk (bs s) + 1)) (if mk (bs s) = fr (bs s) then T ++ [bs s] else T) := by
  obtain ⟨k1, k2⟩ := h.pi.mark hn (h.un hS hs hn)
  have hb := (h.pi.s1 s hn).1
  have hb1 := h.pi.b1 _ hb
  refine ⟨k1, fun t ht => ?_, ?_, fun b => ?_⟩
  · rw [k2 t ht, h.mq t ht, List.take_add_one, hs]
    simp
  · split
    · rename_i e
      rw [List.nodup_append]
      refine ⟨h.nd, by simp, fun x hx y hy => ?_⟩
      rw [List.mem_singleton] at hy
      subst hy
      intro e2
      subst e2
      exact ((h.tm _).1 hx).2 e
    · exact h.nd
  · by_cases e : b = bs s
    · subst e
      rw [upd_at]
      split
      · simp [hb]; omega
      · rename_i e2
        have := (h.tm (bs s)).2 ⟨hb, e2⟩
        simp [this, hb]; omega
    · rw [upd_ne _ e]
      split
      · simp [e, h.tm b]
      · exact h.tm b

/-- What a split leaves. -/
def SplitRet (O : Nat → Prop) (g mb mc pb pc bb bc : Nat) (w : World) (n N : Nat) (bs fr tt : Nat → Nat) (qs : List Int) (tk : Nat) (S : List Nat) : Prop :=
  ∃ (N' : Nat) (ms' ps' bs' fr' mk' tt' : Nat → Nat) (kb kc : Nat) (qv : Value) (l : List Int), PtAt O g mb mc pb pc bb bc w n N' ms' ps' bs' fr' mk' tt' kb kc qv (qs ++ l) tk ∧ PInv n N' ms' ps' bs' fr' mk' tt' ∧ (∀ b, b < N' → mk' b = fr' b) ∧ (qs ++ l).length + 1 = N' ∧ (∀ y ∈ l, ∃ x : Nat, y = (x : Nat) ∧ x < N') ∧
    Cut n (fun t => t ∈ S) bs bs' (fun x => ((x : Nat) : Int) ∈ qs.drop tk) (fun x => ((x : Nat) : Int) ∈ (qs ++ l).drop tk) ∧ (∀ t, t < n → fr (bs t) ≤ ps' t ∧ ps' t < tt (bs t)) ∧ N ≤ N'

set_option maxHeartbeats 4000000 in
set_option maxRecDepth 100000 in
/-- Every block is cut by a set of states. -/
theorem split_any (O : Nat → Prop) (g mb mc pb pc bb bc : Nat) (w : World) (n N : Nat) (ms ps bs fr mk tt : Nat → Nat) (kb kc : Nat) (qv : Value) (qs : List Int) (tk : Nat) (sv : Value) (S : List Nat)
    (h : PtAt O g mb mc pb pc bb bc w n N ms ps bs fr mk tt kb kc qv qs tk) (hI : PInv n N ms ps bs fr mk tt) (hm : ∀ b, b < N → mk b = fr b) (hO : ∀ k, w.heap.size ≤ k → O k) (hn : n ≤ 1024) (hq : qs.length + 1 = N) (htk : tk ≤ qs.length)
    (hs : ∃ a c, sv = .slice a S.length c ∧ (0 < S.length → ∃ b o, a = some ⟨b, o, none⟩ ∧ b < w.heap.size ∧ ¬ O b ∧ ∀ i s, S[i]? = some s → w.cell? ⟨b, o + i, none⟩ = some (.int .i64 (s : Nat)))) (hS : S.Nodup) (hl : ∀ s ∈ S, s < n) :
    Calls Try.prog 42 #[.pointer (some ⟨g, 0, none⟩), sv] w fun e w' => e = .returned (.tuple #[]) ∧ FrO O w w' ∧ SplitRet O g mb mc pb pc bb bc w' n N bs fr tt qs tk S := by
  obtain ⟨i0, hi0, hz0, hz1, hz2⟩ := info_parts Try.zinInt
  obtain ⟨sa, sc, rfl, hsc⟩ := hs
  obtain ⟨Ol, hOl⟩ : ∃ Ol : Nat → Prop, Ol = fun k => O k ∧ k < w.heap.size := ⟨_, rfl⟩
  have hL : PtAt Ol g mb mc pb pc bb bc w n N ms ps bs fr mk tt kb kc qv qs tk := by
    rw [hOl]
    obtain ⟨o1, o2, o3, o4, o5⟩ := h.oo
    exact ⟨h.box, h.cap, h.rm, h.rp, h.rb, h.rk, h.rq, h.ng, h.ne, ⟨⟨o1, h.lt⟩, ⟨o2, h.rm.lt⟩, ⟨o3, h.rp.lt⟩, ⟨o4, h.rb.lt⟩, ⟨o5, h.ltk⟩⟩, fun q hq => ⟨⟨(h.oq q hq).1, own_lt h.rq q hq⟩, (h.oq q hq).2⟩⟩
  have hlO : ∀ k, Ol k → O k ∧ k < w.heap.size := by rw [hOl]; exact fun k hk => hk
  have hM := MkI.start (S := S) hI hm
  have hNn := hI.few
  have hSl : S.length ≤ n := nodup_le n S hS hl
  have HL := hide hL
  have HM := hide hM
  have HSC := hide hsc
  have HLO := hide hlO
  have HO := hide hO
  have HS := hide hS
  have HLL := hide hl
  have HMM := hide hm
  clear hOl h hL hM hlO hsc hO hI hm
  go_enter Try.func42, Try.ntmps42
  go_wp2_with fail
  go_loopw [4, 13] (fun tv iv wr => ∃ (i : Nat) (ms' ps' mk' : Nat → Nat) (T : List Nat), i ≤ S.length ∧ iv = .int .i64 (i : Nat) ∧ MkI n N S i bs fr tt ms' ps' mk' T ∧ PtAt Ol g mb mc pb pc bb bc wr n N ms' ps' bs fr mk' tt kb kc qv qs tk ∧ wr.ownsRow w.heap.size 3 1 tv T.length ((T.map Int.ofNat).map mI) ∧ FrO (fun k => Ol k ∨ w.heap.size ≤ k) w wr) (fun _ iv _ => S.length - (intOf iv).toNat)
  case atStart => exact ⟨0, _, _, _, [], by omega, rfl, unhide HM, unhide HL, World.ownsRow_nil _ _ _ _, FrO.refl _ _⟩
  case round =>
    obtain ⟨i, ms', ps', mk', T, hi, rfl, hMk, hP, hown, hF⟩ := hrel
    clear HL HM
    by_cases hlt : i < S.length
    · have hlt' : (i : Int) < (S.length : Int) := by omega
      obtain ⟨sb, so, rfl, hsb, hsO, hsx⟩ := unhide HSC (by omega)
      obtain ⟨s, hs⟩ : ∃ s, S[i]? = some s := ⟨_, List.getElem?_eq_getElem hlt⟩
      have hsn := hl s (List.mem_of_getElem? hs)
      have e0 : wr.cell? ⟨sb, so + i, none⟩ = some (.int .i64 (s : Nat)) := by
        rw [World.cell?_of_block (a := ⟨sb, so + i, none⟩) (hF.block sb (fun k => by rcases k with k | k; exact hsO (unhide HLO _ k).1; omega))]
        exact hsx i s hs
      obtain ⟨c0, c1, c2, c3, -⟩ := hP.facts
      have c6 := hP.rb.cell hsn
      have c7 := hP.rp.cell hsn
      obtain ⟨hbN, -, -⟩ := hMk.pi.s1 s hsn
      have hb1 := hMk.pi.b1 _ hbN
      obtain ⟨b0, b1, b2, fk⟩ := hP.blk hbN
      have hsn' : (s : Int) < (n : Int) := by omega
      have hbN' : ((bs s : Nat) : Int) < (N : Int) := by omega
      have hun := hMk.un (unhide HS) hs hsn
      have HMK := hide (hMk.next (unhide HS) hs hsn)
      have HPI := hide hMk.pi
      have HP := hide hP
      have HOW := hide hown
      have HF := hide hF
      have hTl : T.length ≤ N := nodup_le N T hMk.nd (fun b hb => ((hMk.tm b).1 hb).1)
      obtain ⟨ta, tc, rfl⟩ := own_is hown
      clear hMk hP hown hF hsx
      go_wp2_with fail
      go_quiet (fail)
      by_cases heq : mk' (bs s) = fr (bs s)
      · have heq' : ((mk' (bs s) : Nat) : Int) = (fr (bs s) : Nat) := by omega
        go_wp2_with (at_builtin; refine wpList_append_own_at _ rfl _ _ 22 rfl w.heap.size 3 i0 (.int .i64 0) 1 8 Try.underlying22 hi0 hz0 hz1 hz2 rfl (by decide) _ _ _ rfl ((unhide HOW).alloc _) ⟨wr.heap.size, 0, none⟩ 1 1 [.int .i64 (bs s : Nat)] rfl rfl ?_ ?_ ?_ ?_ ?_ ?_)
        · exact cell_1 (cell_new _ _ _)
        · intro u hu; simp at hu; subst hu; rfl
        · unfold maxLen; omega
        · omega
        · rw [sz_alloc]; have := (unhide HF).size; show _ ≤ wr.heap.size + 1; omega
        intro v' w2 r1 r2 _ r3
        have HEQ := hide heq
        clear heq heq'
        have hzr := (unhide HF).size
        have hz2' := r2.size
        rw [sz_alloc] at hz2'
        have hkeep : ∀ k, k < w.heap.size → w2.heap[k]? = wr.heap[k]? := fun k hk => (r2.block k (by rw [sz_alloc]; show k < wr.heap.size + 1; omega) (fun e => by have := ((unhide HOW).lt k e.symm).1; omega)).trans ((below1 (wr.drewN nq) _).block k (by show k < wr.heap.size; omega))
        have hPV := (unhide HP).keep (w' := w2) (fun k hk _ => hkeep k (unhide HLO k hk).2)
        have hFV : FrO (fun k => Ol k ∨ w.heap.size ≤ k) wr w2 := ⟨r2.os, r2.tape, r2.output, by show wr.heap.size ≤ _; have : (wr.drewN nq).heap.size = wr.heap.size := rfl; omega, fun k hk => hkeep k (by apply Nat.lt_of_not_le; intro e; exact hk (.inr e))⟩
        obtain ⟨ua, uc, rfl⟩ := own_is r1
        have HV := hide r1
        have HFV := hide hFV
        have HSW := hide (swap_pt (hPV.keep (w' := w2.drew) (fun _ _ _ => rfl)) (unhide HPI) hsn hun)
        obtain ⟨c0, c1, c2, c3, -⟩ := hPV.facts
        have c6 := hPV.rb.cell hsn
        have c7 := hPV.rp.cell hsn
        obtain ⟨b0, b1, b2, fk⟩ := hPV.blk hbN
        clear r1 r2 r3 hkeep hPV hFV
        go_wp2_with fail
        refine wp_region_quiet_tail 12 (by kernel_rfl) (by kernel_rfl) ?_
        simp only [List.take_succ_cons, List.take_zero, List.drop_succ_cons, List.drop_zero]
        repeat (first | go_big_quiet_skip | (go_big_quiet_want; go_big_quiet_op; go_big_quiet_on))
        refine wpQuiet_nil ?_
        go_wp2_with fail
        refine (unhide HSW).mono ?_
        rintro e w5 ⟨rfl, hP5, hF5, hz5⟩
        obtain ⟨-, d1, -, fk5⟩ := hP5.blk hbN
        have f5 := fk5 (bs s * 3 + 1)
        have hP6 := hP5.setMk hbN (mk' (bs s) + 1)
        have hF6 := hP5.fro (bs s * 3 + 1) (.int .i64 ((mk' (bs s) + 1 : Nat) : Int))
        have hcast : ((mk' (bs s) + 1 : Nat) : Int) = (mk' (bs s) : Nat) + 1 := by omega
        rw [hcast] at hP6 hF6
        have HP6 := hide hP6
        have HF6 := hide hF6
        have HF5 := hide hF5
        clear hP5 hF5 hP6 hF6 fk5 c0 c1 c2 c3 c6 c7 b0 b1 b2 fk e0
        have hc5 : IntKind.i64.wrap (((mk' (bs s) : Nat) : Int) + 1) = (mk' (bs s) : Nat) + 1 := k64i (by omega) (by omega)
        go_wp2
        go_roundw
        case rel =>
          have hT := unhide HMK
          rw [if_pos (unhide HEQ)] at hT
          refine ⟨i + 1, _, _, _, T ++ [bs s], by omega, by go_num, hT, unhide HP6, ?_, (unhide HF).trans ((unhide HFV).trans (FrO.trans (b := w2.drew) (FrO.drew (FrO.refl _ _)) (FrO.mono (O := Ol) ((unhide HF5).trans (unhide HF6)) (fun k hk => Or.inl hk))))⟩
          have e9 : ((T ++ [bs s]).map Int.ofNat).map mI = List.map (mI ∘ Int.ofNat) T ++ [Value.int .i64 (bs s : Nat)] := by simp [mI]
          rw [e9, List.length_append]
          refine own_blk (w := w2) (unhide HV) (fun q hq => ?_)
          have hlo := ((unhide HV).lt q hq).1
          have hno : ¬ Ol q := fun k => by have := (unhide HLO q k).2; omega
          exact (((unhide HF5).trans (unhide HF6)).block q hno).trans rfl
        case measure => simp [intOf]; omega
      · have heq' : ¬ ((mk' (bs s) : Nat) : Int) = (fr (bs s) : Nat) := by omega
        have HSW := hide (swap_pt ((unhide HP).keep (w' := (wr.drewN nq).drew) (fun _ _ _ => rfl)) (unhide HPI) hsn hun)
        go_wp2_with fail
        refine wp_region_quiet_tail 12 (by kernel_rfl) (by kernel_rfl) ?_
        simp only [List.take_succ_cons, List.take_zero, List.drop_succ_cons, List.drop_zero]
        repeat (first | go_big_quiet_skip | (go_big_quiet_want; go_big_quiet_op; go_big_quiet_on))
        refine wpQuiet_nil ?_
        go_wp2_with fail
        refine (unhide HSW).mono ?_
        rintro e w5 ⟨rfl, hP5, hF5, hz5⟩
        obtain ⟨-, d1, -, fk5⟩ := hP5.blk hbN
        have f5 := fk5 (bs s * 3 + 1)
        have hP6 := hP5.setMk hbN (mk' (bs s) + 1)
        have hF6 := hP5.fro (bs s * 3 + 1) (.int .i64 ((mk' (bs s) + 1 : Nat) : Int))
        have hcast : ((mk' (bs s) + 1 : Nat) : Int) = (mk' (bs s) : Nat) + 1 := by omega
        rw [hcast] at hP6 hF6
        have HP6 := hide hP6
        have HF6 := hide hF6
        have HF5 := hide hF5
        clear hP5 hF5 hP6 hF6 fk5 c0 c1 c2 c3 c6 c7 b0 b1 b2 fk e0
        have hc5 : IntKind.i64.wrap (((mk' (bs s) : Nat) : Int) + 1) = (mk' (bs s) : Nat) + 1 := k64i (by omega) (by omega)
        go_wp2
        go_roundw
        case rel =>
          have hT := unhide HMK
          rw [if_neg heq] at hT
          refine ⟨i + 1, _, _, _, T, by omega, by go_num, hT, unhide HP6, ?_, (unhide HF).trans (((fro_drewN wr nq).trans (FrO.drew (FrO.refl _ _))).trans (FrO.mono (O := Ol) ((unhide HF5).trans (unhide HF6)) (fun k hk => Or.inl hk)))⟩
          refine own_blk (w := wr) (unhide HOW) (fun q hq => ?_)
          have hlo := ((unhide HOW).lt q hq).1
          have hno : ¬ Ol q := fun k => by have := (unhide HLO q k).2; omega
          exact (((unhide HF5).trans (unhide HF6)).block q hno).trans rfl
        case measure => simp [intOf]; omega
    · have hlt' : ¬ (i : Int) < (S.length : Int) := by omega
      obtain rfl : i = S.length := by omega
      obtain ⟨w1, rfl⟩ : ∃ w1, w1 = wr := ⟨_, rfl⟩
      have hSm : ∀ t, t < n → (ps' t < mk' (bs t) ↔ t ∈ S) := fun t ht => by rw [hMk.mq t ht, List.take_length]
      have hTl : T.length ≤ N := nodup_le N T hMk.nd (fun b hb => ((hMk.tm b).1 hb).1)
      obtain ⟨O2, hO2⟩ : ∃ O2, O2 = Sk O w.heap.size w1.heap.size := ⟨_, rfl⟩
      have hP2 : PtAt O2 g mb mc pb pc bb bc w1 n N ms' ps' bs fr mk' tt kb kc qv qs tk := hP.mono (fun k hk => by rw [hO2]; exact ⟨(unhide HLO k hk).1, .inl (unhide HLO k hk).2⟩)
      have hT2 : ∀ k, w1.heap.size ≤ k → O2 k := fun k hk => by rw [hO2]; exact ⟨unhide HO k (by have := hF.size; omega), .inr hk⟩
      have hS2 : ∀ k, O2 k → O k := by rw [hO2]; exact Sk.sub
      have hN2 : ∀ k, w.heap.size ≤ k → k < w1.heap.size → ¬ O2 k := fun k h1 h2 => by rw [hO2]; rintro ⟨-, h3⟩; omega
      have hSp : SpI n N (fun t => t ∈ S) bs fr mk' tt (fun b => b ∈ T.drop 0) N bs fr mk' tt := by
        have e : (fun b => b < N ∧ mk' b ≠ fr b) = (fun b => b ∈ T.drop 0) := funext fun b => propext (by rw [List.drop_zero]; exact (hMk.tm b).symm)
        rw [← e]
        exact SpI.start hMk.pi hSm
      have hFO : FrO O w w1 := hF.mono (fun k hk => by rcases hk with hk | hk; exact (unhide HLO k hk).1; exact unhide HO k hk)
      obtain ⟨ta, tc, rfl⟩ := own_is hown
      have HMK := hide hMk
      have HSM := hide hSm
      have HP2 := hide hP2
      have T2 := hide hT2
      have S2 := hide hS2
      have N2 := hide hN2
      have HSP := hide hSp
      have HOW := hide hown
      have HFO := hide hFO
      clear hMk hSm hP2 hT2 hS2 hN2 hSp hown hFO hP hF hO2 HSC
      go_wp2_with fail
      go_loopw [66] (fun iv wq => ∃ (j N' : Nat) (bs' fr' mk2 tt' : Nat → Nat) (kb' kc' : Nat) (qv' : Value) (l : List Int), j ≤ T.length ∧ iv = .int .i64 (j : Nat) ∧ PtAt O2 g mb mc pb pc bb bc wq n N' ms' ps' bs' fr' mk2 tt' kb' kc' qv' (qs ++ l) tk ∧ PInv n N' ms' ps' bs' fr' mk2 tt' ∧ SpI n N (fun t => t ∈ S) bs fr mk' tt (fun b => b ∈ T.drop j) N' bs' fr' mk2 tt' ∧ (qs ++ l).length + 1 = N' ∧ (∀ x, N ≤ x → x < N' → ((x : Nat) : Int) ∈ l) ∧ (∀ y ∈ l, ∃ x : Nat, y = (x : Nat) ∧ x < N') ∧ FrO O2 w1 wq) (fun iv _ => T.length - (intOf iv).toNat)
      case atStart => exact ⟨0, N, bs, fr, mk', tt, kb, kc, qv, [], by omega, rfl, by rw [List.append_nil]; exact unhide HP2, (unhide HMK).pi, unhide HSP, by rw [List.append_nil]; exact hq, fun x h1 h2 => by omega, (fun y hy => by cases hy), FrO.refl _ _⟩
      case round =>
        clear HSP HP2
        obtain ⟨j, N', bs', fr', mk2, tt', kb', kc', qv', l, hj, rfl, hPt, hPi, hSp, hql, hln, hly, hFq⟩ := hrel
        by_cases hlt : j < T.length
        · have hlt' : (j : Int) < (T.length : Int) := by omega
          obtain ⟨b, hb⟩ : ∃ b, T[j]? = some b := ⟨_, List.getElem?_eq_getElem hlt⟩
          have hdrop : T.drop j = b :: T.drop (j + 1) := by
            rw [List.drop_eq_getElem_cons hlt]
            rw [List.getElem?_eq_getElem hlt] at hb
            rw [Option.some.inj hb]
          have hUb : b ∈ T.drop j := by rw [hdrop]; exact .head _
          have hnd : b ∉ T.drop (j + 1) := by
            have := ((unhide HMK).nd.sublist (List.drop_sublist j T))
            rw [hdrop, List.nodup_cons] at this
            exact this.1
          have hUe : (fun x => x ∈ T.drop j ∧ x ≠ b) = (fun x => x ∈ T.drop (j + 1)) := funext fun x => propext ⟨fun ⟨k1, k2⟩ => by
            rw [hdrop] at k1
            rcases List.mem_cons.1 k1 with k | k
            · exact absurd k k2
            · exact k, fun k => ⟨by rw [hdrop]; exact .tail _ k, fun e => hnd (e ▸ k)⟩⟩
          have hbN := (hSp.un b hUb).1
          have hle := hSp.le
          have hfew := hPi.few
          obtain ⟨tb, tcap, e9, hcell⟩ := own_at (unhide HOW) (by omega)
          cases e9
          have htb := (unhide HOW).lt tb rfl
          have x0 : wr.cell? ⟨tb, j, none⟩ = some (.int .i64 (b : Nat)) := by
            rw [World.cell?_of_block (a := ⟨tb, j, none⟩) (hFq.block tb (unhide N2 tb htb.1 htb.2)), hcell j hlt, List.getElem?_map, List.getElem?_map, hb]
            rfl
          have hsz := hFq.size
          have HCA := hide (cut_any O2 g mb mc pb pc bb bc wr n N' ms' ps' bs' fr' mk2 tt' kb' kc' qv' (qs ++ l) tk b hPt hPi (fun k hk => unhide T2 k (by omega)) (by omega) hn (by omega) (by omega))
          have HB := hide hPi
          have HC := hide hSp
          have HD := hide hln
          have HE := hide hly
          have HG := hide hFq
          have HUE := hide hUe
          clear hPt hPi hSp hln hly hFq hcell hUe hdrop
          go_wp2_with fail
          refine (unhide HCA).mono ?_
          rintro e w3 ⟨rfl, hF3, hR3⟩
          have HF3 := hide hF3
          have HR3 := hide hR3
          clear hF3 hR3 HCA x0
          go_wp2
          go_roundw
          case rel =>
            rcases unhide HR3 with ⟨kb2, kc2, qv2, hw2, hP3⟩ | ⟨kb2, kc2, qv2, o1, o2, r1, r2, g1, g2, hcs, hP3⟩
            · refine ⟨j + 1, N', bs', fr', _, tt', kb2, kc2, qv2, l, by omega, by go_num, hP3, (unhide HB).unmark (by omega), ?_, hql, unhide HD, unhide HE, (unhide HG).trans (unhide HF3)⟩
              rw [← unhide HUE]
              exact (unhide HC).unmark (unhide HB) (unhide HSM) hUb hw2
            · have ho : (o1 = fr' b ∧ o2 = mk2 b ∧ r1 = mk2 b ∧ r2 = tt' b) ∨ (o1 = mk2 b ∧ o2 = tt' b ∧ r1 = fr' b ∧ r2 = mk2 b) := by
                rcases hcs with ⟨k1, k2, k3, k4, -⟩ | ⟨k1, k2, k3, k4, -⟩
                · exact .inl ⟨k1, k2, k3, k4⟩
                · exact .inr ⟨k1, k2, k3, k4⟩
              obtain ⟨z1, z2, z3, z4⟩ := (unhide HB).cut (b := b) (by omega) g1 g2 ho (bs' := fun t => if o1 ≤ ps' t ∧ ps' t < o2 then N' else bs' t) (fun t _ => rfl)
              refine ⟨j + 1, N' + 1, _, _, _, _, kb2, kc2, qv2, l ++ [(N' : Int)], by omega, by go_num, by rw [← List.append_assoc]; exact hP3, z1, ?_, by rw [← List.append_assoc, List.length_append]; simp only [List.length_singleton]; omega, fun x h1 h2 => ?_, fun y hy => ?_, (unhide HG).trans (unhide HF3)⟩
              · rw [← unhide HUE]
                exact (unhide HC).cut (unhide HB) (unhide HSM) hUb z2 z3 z4
              · by_cases e : x = N'
                · subst e; exact List.mem_append_right _ (.head _)
                · exact List.mem_append_left _ (unhide HD x h1 (by omega))
              · rcases List.mem_append.1 hy with k | k
                · obtain ⟨x, k1, k2⟩ := unhide HE y k
                  exact ⟨x, k1, by omega⟩
                · rw [List.mem_singleton] at k
                  exact ⟨N', k, by omega⟩
          case measure => simp [intOf]; omega
        · have hlt' : ¬ (j : Int) < (T.length : Int) := by omega
          obtain rfl : j = T.length := by omega
          have HA := hide hPt
          have HB := hide hPi
          have HC := hide hSp
          have HD := hide hln
          have HE := hide hly
          have HG := hide hFq
          clear hPt hPi hSp hln hly hFq
          go_wp2_with fail
          first | (refine bodyPost_ret (results_none rfl _ _ _) rfl ?_) | (refine bodyPost_end (results_none rfl _ _ _) rfl ?_)
          have hU : ∀ b, ¬ b ∈ T.drop T.length := fun b hb => by rw [List.drop_length] at hb; cases hb
          refine ⟨rfl, (unhide HFO).trans ((unhide HG).mono (unhide S2)), N', ms', ps', bs', fr', mk2, tt', kb', kc', qv', l, (unhide HA).mono (unhide S2), unhide HB, fun b hb => (unhide HC).um b hb (hU b), hql, unhide HE, (unhide HC).fin hU (fun x hx => ?_) (fun x h1 h2 => ?_) (fun p hp => ((unhide HB).s1 p hp).1), fun t ht => ?_, (unhide HC).le⟩
          · rw [List.drop_append_of_le_length htk]; exact List.mem_append_left _ hx
          · rw [List.drop_append_of_le_length htk]; exact List.mem_append_right _ (unhide HD x h1 h2)
          · exact ((unhide HMK).pi.s1 t ht).2

end Go.Proofs.Ytjmajdfcfcgegaa
