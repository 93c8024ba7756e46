import Derived.Test.YtpkghafpelilfaaI9
import Derived.Test.YtpkghafpelilfaaO5
import Derived.Maps.OwnIn
namespace Go.Proofs.Ytpkghafpelilfaa
open Go.RowKit Go.Shelf

attribute [local go_sem] Oper.semAt_some

/-- One number for each trigram of line i. -/
def plc (i : Nat) (bs : List Int) (n : Nat) : List Int := (tris bs n).map (fun t => t * 1000 + (i : Int))
def plcs (xss : List (List Int)) : Nat → List Int
  | 0 => []
  | n + 1 => plcs xss n ++ plc n (xss[n]?.getD []) ((xss[n]?.getD []).length - 2)

theorem plc_len (i : Nat) (bs : List Int) (n : Nat) : (plc i bs n).length = n := by simp [plc, tris_len]
theorem plcs_len (xss : List (List Int)) (k : Nat) (hk : k ≤ xss.length) : (plcs xss k).length ≤ tot (xss.take k) := by
  induction k with
  | zero => simp [plcs]
  | succ k ih =>
    rw [plcs, List.length_append, plc_len, tot_step xss k (by omega)]
    have := ih (by omega)
    omega
theorem plc_wrap (k : Nat) (hk : k < 1000) (bs : List Int) (hb : Bytes bs) (n : Nat) : (tris bs n).map (fun t => wrap64 (wrap64 (t * 1000) + k)) = plc k bs n := by
  unfold plc tris
  rw [List.map_map, List.map_map]
  refine List.map_congr_left (fun i _ => ?_)
  show wrap64 (wrap64 (tri3 bs i * 1000) + k) = tri3 bs i * 1000 + k
  have h0 := hb i
  have h1 := hb (i + 1)
  have h2 := hb (i + 2)
  have e : tri3 bs i = bs[i]?.getD 0 * 65536 + bs[i + 1]?.getD 0 * 256 + bs[i + 2]?.getD 0 := rfl
  have q1 : 0 ≤ tri3 bs i := by omega
  have q2 : tri3 bs i ≤ 16777215 := by omega
  rw [w64i (n := tri3 bs i * 1000) (by omega) (by omega), w64i (by omega) (by omega)]

def mrk (D : Nat) : Deferred := { target := .collected D, args := #[] }
/-- The marks of the loops that are over. -/
structure Mks (w W : World) (Ds : List Nat) : Prop where
  nd : Ds.Nodup
  lo : ∀ D ∈ Ds, w.heap.size < D
  at' : ∀ D ∈ Ds, W.heap[D]? = some (.deferred (some []))
theorem leaves_marks {fn : Func} {t : Tmp} (hres : fn.results = #[.tmp t]) (tmps : Array Value) (R : Ending → World → Prop) (n : Nat) : ∀ (Ds : List Nat) (W : World), Ds.Nodup → (∀ D ∈ Ds, W.heap[D]? = some (.deferred (some []))) →
    (∀ W' : World, W'.os = W.os → W'.tape = W.tape → W'.output = W.output → W'.heap.size = W.heap.size → (∀ k, (∀ D ∈ Ds, k ≠ D) → W'.heap[k]? = W.heap[k]?) → R (.returned (tmps.getD t undef)) W') → LeavesInM Fence.wide n Try.prog fn tmps R (Ds.map mrk) .returning W := by
  intro Ds
  induction Ds with
  | nil =>
    intro W _ _ hR
    exact ⟨_, results_tmp hres _ _ _, hR W rfl rfl rfl rfl (fun _ _ => rfl)⟩
  | cons D Ds ih =>
    intro W hnd hat hR
    have hnd' := List.nodup_cons.1 hnd
    refine ⟨by simp, .inl ⟨D, _, rfl, run_takeDeferred (hat D (by simp)), ih _ hnd'.2 (fun D' hD' => ?_) (fun W' e1 e2 e3 e4 e5 => hR W' e1 e2 e3 ?_ (fun k hk => ?_))⟩⟩
    · rw [World.putObj_heap_other (fun e => by subst e; exact hnd'.1 hD')]
      exact hat D' (by simp [hD'])
    · rw [e4]; simp
    · rw [e5 k (fun D' hD' => hk D' (by simp [hD'])), World.putObj_heap_other (hk D (by simp))]

/-- While the places of line i are put behind those of the lines before. -/
def IPl (w : World) (Bi : Nat) (k : Nat) (ys : List Int) (Ds : List Nat) (f : Int → Int) (pre : List Int) (W : World) : Prop :=
  (∃ v, Boxed W w.heap.size 23 v ∧ W.ownsRow w.heap.size 3 1 v (ys ++ pre.map f).length ((ys ++ pre.map f).map mI) ∧ v.ownBlock ≠ some Bi) ∧ Below w.heap.size w W ∧ Boxed W Bi 3 (.int .i64 k) ∧ Mks w W Ds
theorem IPl.own {w V : World} {Bi k : Nat} {ys : List Int} {Ds : List Nat} {f : Int → Int} (hV : w.heap.size ≤ V.heap.size) (hD : ∀ D ∈ Ds, D < V.heap.size) : OwnFrom V.heap.size (IPl w Bi k ys Ds f) := by
  rintro s W W' row ⟨⟨v, hv, hr, hn⟩, hb, hbi, hm⟩ hg hrow
  have hb' : ∀ (B : Nat) (t : TypeId) (u : Value), Boxed W B t u → Boxed W' B t u := fun B t u h => h.kept hg (fun e' => by
    obtain ⟨-, o, ho, hc⟩ := hrow B e'.symm
    rw [show W.heap[B]? = _ from h] at ho; cases ho; cases hc)
  refine ⟨⟨v, hb' _ _ _ hv, hr.kept hg ?_, hn⟩, ?_, hb' _ _ _ hbi, hm.nd, hm.lo, fun D hDm => ?_⟩
  · rcases hr.2 with ⟨rfl, _⟩ | ⟨g, cap, cur, rfl, _, hgb, _⟩
    · exact .inl rfl
    · refine .inr fun e' => ?_
      obtain ⟨-, o, ho, hc⟩ := hrow g (by simpa [Value.ownBlock] using e'.symm)
      rw [hgb] at ho; cases ho; cases hc
  · refine hb.trans ⟨hg.os, hg.tape, hg.output, hg.size, fun j hj => hg.block j (by have := hb.size; omega) (fun e => ?_)⟩
    have := (hrow j e.symm).1
    omega
  · rw [hg.block D (by have := Array.getElem?_eq_some_iff.1 (hm.at' D hDm); exact this.1) (fun e => ?_)]
    · exact hm.at' D hDm
    · have h1 := (hrow D e.symm).1
      have h2 := hD D hDm
      omega

set_option maxRecDepth 100000 in
set_option maxHeartbeats 4000000 in
theorem trigramPlaces_any (v : Value) (xss : List (List Int)) (w : World) (hv : SsAt mB 0 w.heap.size w v xss) (hbb : ∀ x ∈ xss, Bytes x) (hT : tot xss ≤ 1048576) (hL : xss.length ≤ 1000) :
    Calls Try.prog 73 #[v] w fun e w' => OrdOwn e w w' (plcs xss xss.length) ∧ Below w.heap.size w w' := by
  have Hv := hide hv
  have HB := hide hbb
  obtain ⟨a, cap, rfl, hl, hc⟩ := hv
  obtain ⟨i0, hi, hz0, hz1, hz2⟩ := info_parts Try.zinInt
  clear hbb
  refine (callsIn_wide (n := 5)).1 ?_
  refine callsIn_of_wp_marks Try.func73 rfl trivial ?_ rfl
  simp only [Try.ntmps73, List.size_toArray, List.length_cons, List.length_nil, Nat.reduceAdd, Nat.reduceSub, Array.replicate_succ, Array.replicate_zero, List.push_toArray, List.append_toArray, List.nil_append, List.cons_append]
  gi_wp2_with fail
  have bO := Boxed.new w 23 (.slice none 0 0)
  refine wpIn_loop (fun A W => ∃ (k : Nat) (Ds : List Nat) (t4 t5 t6 t10 t11 t12 t13 t14 t15 t16 t17 t18 t19 t20 t21 t22 t23 t24 t25 t26 : Value), A = { tmps := #[.slice a xss.length cap, undef, .slice none 0 0, .pointer (some ⟨w.heap.size, 0, none⟩), t4, t5, t6, .slice a xss.length cap, .int .i64 xss.length, .int .i64 k, t10, t11, t12, t13, t14, t15, t16, t17, t18, t19, t20, t21, t22, t23, t24, t25, t26], defers := Ds.map mrk } ∧ k ≤ xss.length ∧ (∃ v, Boxed W w.heap.size 23 v ∧ W.ownsRow w.heap.size 3 1 v (plcs xss k).length ((plcs xss k).map mI)) ∧ Below w.heap.size w W ∧ Mks w W Ds) (fun A _ => xss.length - (intOf (A.tmps.getD 9 undef)).toNat) ?start ?round
  case start => exact ⟨0, [], _, _, _, _, _, _, _, _, _, _, _, _, _, _, _, _, _, _, _, _, rfl, Nat.zero_le _, ⟨_, bO, World.ownsRow_nil _ _ _ _⟩, below1 w _, ⟨List.nodup_nil, by simp, by simp⟩⟩
  case round =>
    rintro A W ⟨k, Ds, t4, t5, t6, t10, t11, t12, t13, t14, t15, t16, t17, t18, t19, t20, t21, t22, t23, t24, t25, t26, rfl, hk, ⟨v, hbx, hown⟩, hB, hM⟩
    by_cases hlt : k < xss.length
    · have hlt' : (k : Int) < (xss.length : Int) := by omega
      obtain ⟨b, off, rfl, hbn, hcell⟩ := hc (by omega)
      obtain ⟨s, hx0, hs, -⟩ := hcell k hlt
      have hx : W.cell? ⟨b, off + k, none⟩ = some s := by rw [hB.cell (p := ⟨b, off + k, none⟩) hbn]; exact hx0
      have Hs := hide hs
      have ht := tot_get xss k
      have Hb := hide (unhide HB (xss[k]?.getD []) (by rw [List.getElem?_eq_getElem hlt]; exact List.getElem_mem _))
      have Hpl : Hid (plcs xss (k + 1) = plcs xss k ++ plc k (xss[k]?.getD []) ((xss[k]?.getD []).length - 2)) := rfl
      obtain ⟨sa, sc, rfl, -, hsc⟩ := hs
      clear hcell hc hx0
      generalize xss[k]?.getD [] = x at *
      generalize hys : plcs xss k = ys at *
      gi_wp2_with (refine ⟨trivial, ?_⟩; gi_at_call 76; refine (pieces_in _ _ rfl _).mono ?_; rintro e w' ⟨rfl, rfl⟩)
      have hszW := hB.size
      have hMlt : ∀ D ∈ Ds, D < W.heap.size := fun D hD => (Array.getElem?_eq_some_iff.1 (hM.at' D hD)).1
      have hG : W.grownBy ((W.alloc (.cells #[.int .i64 k] 3)).alloc (.cells #[.slice sa x.length sc] 28)) none := ⟨rfl, rfl, rfl, by simp; omega, fun j hj _ => by rw [(pushd_alloc _ _).old (by rw [sz_alloc]; omega), (pushd_alloc W _).old hj]⟩
      have bN := Boxed.new (W.alloc (.cells #[.int .i64 k] 3)) 28 (.slice sa x.length sc)
      rw [World.size_alloc] at bN
      have bI : Boxed ((W.alloc (.cells #[.int .i64 k] 3)).alloc (.cells #[.slice sa x.length sc] 28)) W.heap.size 3 (.int .i64 k) := (Boxed.new W 3 (.int .i64 k)).alloc _
      have hBV : Below w.heap.size w ((W.alloc (.cells #[.int .i64 k] 3)).alloc (.cells #[.slice sa x.length sc] 28)) := (hB.alloc hszW _).alloc (by simp; omega) _
      have h0 : IPl w W.heap.size k ys Ds (fun t => wrap64 (wrap64 (t * 1000) + k)) [] ((W.alloc (.cells #[.int .i64 k] 3)).alloc (.cells #[.slice sa x.length sc] 28)) := by
        refine ⟨⟨v, (hbx.alloc _).alloc _, ?_, ?_⟩, hBV, bI, hM.nd, hM.lo, fun D hD => ?_⟩
        · rw [List.map_nil, List.append_nil]; exact (hown.alloc _).alloc _
        · intro e
          have := (hown.lt _ e).2
          omega
        · rw [hG.block D (hMlt D hD) (by simp)]; exact hM.at' D hD
      have hVz : ((W.alloc (.cells #[.int .i64 k] 3)).alloc (.cells #[.slice sa x.length sc] 28)).heap.size = W.heap.size + 2 := by simp
      refine wpIn_rangeFunc_ownG rfl (by omega) (gf := 79) (lb := #[.pointer (some ⟨W.heap.size + 1, 0, none⟩)]) rfl trivial (enters_of Try.func79 (by kernel_rfl) rfl)
        (pieces_stops 4 (by omega) (W.heap.size + 1) w.heap.size sc sa x (by omega) (unhide Hb) _ bN (by rw [hVz]; omega) (fun hp => by
          obtain ⟨b', off', e, -, h1, h2⟩ := hsc hp
          exact ⟨b', off', e, h1, fun i hi => (hBV.cell (p := ⟨b', off' + i, none⟩) h1).trans (h2 i hi)⟩)) KpX.trans (KpX.putObj (by rw [hVz]; omega)) (Below.refl _ _) (fun _ => rfl)
        (IPl w W.heap.size k ys Ds (fun t => wrap64 (wrap64 (t * 1000) + k)))
        (fun _ _ _ => False)
        (IPl.own (by rw [hVz]; omega) (fun D hD => by have := hMlt D hD; rw [hVz]; omega))
        (fun _ _ _ _ _ hs _ _ => hs)
        h0
        (fun u => { tmps := #[.slice (some ⟨b, off, none⟩) xss.length cap, undef, .slice none 0 0, .pointer (some ⟨w.heap.size, 0, none⟩), .pointer (some ⟨W.heap.size, 0, none⟩), .slice sa x.length sc, .int .i64 u, .slice (some ⟨b, off, none⟩) xss.length cap, .int .i64 xss.length, .int .i64 k, .bool true, .int .i64 k, .pointer (some ⟨b, off + k, none⟩), .slice sa x.length sc, .slice sa x.length sc, .func (.func 79) #[] #[.pointer (some ⟨W.heap.size + 1, 0, none⟩)], .int .i64 u, t17, t18, t19, t20, t21, t22, t23, t24, t25, t26], defers := [] }) ?assign ?body ?done ?stop
      case assign =>
        intro l u W' K hK
        gi_wp2
        exact hK
      case body =>
        rintro l pre u W' ⟨⟨v', hv', hrow, hne⟩, hB', hbi, hM'⟩ hlt2
        have hcv := hv'.cell
        have hci := hbi.cell
        have hszB := hB'.size
        have hyl : ys.length ≤ 1048576 := by
          rw [← hys]
          exact Nat.le_trans (plcs_len xss k hk) (Nat.le_trans (tot_take xss k) hT)
        have hlb : w.heap.size < W.heap.size := hbx.lt
        have hpl : (ys ++ pre.map (fun t => wrap64 (wrap64 (t * 1000) + k))).length ≤ 2097152 := by simp; omega
        have HL : Hid (ys ++ (pre ++ [u]).map (fun t => wrap64 (wrap64 (t * 1000) + k)) = (ys ++ pre.map (fun t => wrap64 (wrap64 (t * 1000) + k))) ++ [wrap64 (wrap64 (u * 1000) + k)]) := by
          show _ = _
          rw [List.map_append, List.append_assoc]
          rfl
        generalize ys ++ pre.map (fun t => wrap64 (wrap64 (t * 1000) + k)) = L at *
        have hil := hbi.lt
        gi_wp2_with (gi_at_builtin; refine wpListIn_append_own_at _ rfl _ _ 23 rfl w.heap.size 3 i0 (.int .i64 0) 1 8 Try.underlying23 hi hz0 hz1 hz2 rfl (by decide) _ _ _ rfl (hrow.alloc _) ⟨W'.heap.size, 0, none⟩ 1 1 [.int .i64 (wrap64 (wrap64 (u * 1000) + k))] rfl rfl (cell_one_new _ _ _) (by simp [Value.oneCell']) (by unfold maxLen; omega) (by omega) (by simp; omega) ?_; intro v2 w1 hown' hgrow _ hbl2; obtain ⟨g', cap', rfl⟩ := ownsRow_succ hown'; obtain ⟨hv1, hv2, hr2, hk2, hb2⟩ := hv'.appended (by decide) hrow hB'.size (Nat.le_refl _) hown' hgrow; have hc1 := hv1.cell; have hf1 := hv1.frozen)
        refine ⟨hk2.from _, ⟨hb2, fun u' hu => (Below.heap_setCell _ _ _ _ (by show W.heap.size + 1 ≠ w.heap.size; omega)).trans ((hu.alloc _).kept hgrow (hu.not_row (by decide) hrow))⟩, ⟨_, hv2, ?_, ?_⟩, hB'.trans hb2, ?_, hM'.nd, hM'.lo, fun D hD => hk2.same D _ (hM'.at' D hD) rfl⟩
        · rw [unhide HL, List.length_append, List.map_append]
          exact hr2
        · rcases hbl2 with e | e
          · rw [e]; exact hne
          · rw [e]
            intro e2
            have := Option.some.inj e2
            simp at this
            omega
        · exact (Below.heap_setCell _ _ _ _ (by show W.heap.size ≠ w.heap.size; omega)).trans ((hbi.alloc _).kept hgrow (fun e => hne e.symm))
      case done =>
        rintro D zs W' hD hzs ⟨⟨v', hv', hrow, hne⟩, hB', hbi, hM'⟩ hK
        have e1 := plc_wrap k (by omega) x (unhide Hb) (x.length - 2)
        rw [hzs, e1] at hrow
        have HR := hide hrow
        rw [← unhide Hpl] at HR
        gi_wp2_with fail
        refine ⟨⟨k + 1, D :: Ds, _, _, _, _, _, _, _, _, _, _, _, _, _, _, _, _, _, _, _, _, rfl, by omega, ⟨v', hv', unhide HR⟩, hB', ⟨List.nodup_cons.2 ⟨fun hm => ?_, hM'.nd⟩, fun D' hD' => ?_, fun D' hD' => ?_⟩⟩, by simp [intOf]; omega⟩
        · have := hMlt D hm
          rw [hVz] at hD
          omega
        · rcases List.mem_cons.1 hD' with rfl | h
          · rw [hVz] at hD; omega
          · exact hM'.lo D' h
        · rcases List.mem_cons.1 hD' with rfl | h
          · exact hK
          · exact hM'.at' D' h
      case stop =>
        rintro D c pre W' _ _ h _
        exact h.elim
    · obtain rfl : k = xss.length := by omega
      have hyl : (plcs xss xss.length).length ≤ 1048576 := Nat.le_trans (plcs_len xss xss.length hk) (Nat.le_trans (tot_take xss _) hT)
      have hcv := hbx.cell
      have Hown := hide hown
      have Hbx := hide hbx
      generalize hys : plcs xss xss.length = ys at *
      have Hys := hide hys.symm
      clear hys
      obtain ⟨oa, oc, rfl⟩ := own_is hown
      have hnD : Hid (∀ D ∈ Ds, some D ≠ (Value.slice oa ys.length oc).ownBlock) := fun D hD e => by
        rcases (unhide Hown).2 with ⟨e1, _⟩ | ⟨g, cap', cur, e1, _, hgb, _⟩
        · rw [e1] at e; cases e
        · rw [e1] at e
          obtain rfl : D = g := by simpa [Value.ownBlock] using e
          have := hM.at' D hD
          rw [hgb] at this
          cases this
      clear hown hc hbx
      gi_wp2_with fail
      refine ⟨trivial, ?_⟩
      refine (callsIn_wide.2 (ascending_any w.heap.size _ _ _ (unhide Hown) hB.size (by omega))).mono ?_
      rintro e w2 ⟨v2, zs, rfl, ho, hle, hown2, hb2, hg2⟩
      have hM2 : Mks w w2 Ds := ⟨hM.nd, hM.lo, fun D hD => (hg2.block D ((Array.getElem?_eq_some_iff.1 (hM.at' D hD)).1) (unhide hnD D hD)).trans (hM.at' D hD)⟩
      have Hown2 := hide hown2
      obtain ⟨pa, pc, rfl⟩ := own_is hown2
      clear hown2
      gi_wp2
      refine leaves_marks rfl _ _ 5 Ds w2 hM2.nd hM2.at' (fun W' e1 e2 e3 e4 e5 => ?_)
      have hz2 := hb2.size
      have hBB : Below w.heap.size w W' := (hB.trans hb2).trans ⟨e1, e2, e3, by rw [e4]; exact Nat.le_refl _, fun k hk => e5 k (fun D hD => by have := hM.lo D hD; omega)⟩
      refine ⟨⟨_, zs, rfl, unhide Hys ▸ ho, unhide Hys ▸ hle, ?_⟩, hBB⟩
      refine ⟨(unhide Hown2).1, ?_⟩
      rcases (unhide Hown2).2 with h | ⟨g, cap', cur, q1, q2, q3, q4⟩
      · exact Or.inl h
      · refine Or.inr ⟨g, cap', cur, q1, q2, (e5 g (fun D hD e => ?_)).trans q3, q4⟩
        have := hM2.at' D hD
        rw [← e, q3] at this
        cases this

end Go.Proofs.Ytpkghafpelilfaa
