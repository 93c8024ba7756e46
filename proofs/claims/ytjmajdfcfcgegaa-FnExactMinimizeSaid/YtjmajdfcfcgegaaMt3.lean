import Derived.Test.YtjmajdfcfcgegaaMt2a
namespace Go.Proofs.Ytjmajdfcfcgegaa
open Go.RowKit

def okOf2 : Value → Nat
  | .bool true => 1
  | _ => 0
def tkOf2 (g : Nat) (w : World) : Nat := (intOf ((w.cell? ⟨g, 1, none⟩).getD undef)).toNat
/-- The head of the search: what was met, and what is looked at. -/
def RcH (A : Tb) (w0 w : World) (b0 : Nat) (cl nx ac : Value) (sv ov : Value) : Prop :=
  ∃ (o : List Nat) (tk : Nat) (ys : List Nat) (zs : List Bool) (qv nv av : Value), RcAt w0 w b0 cl nx ac A.k o o tk ys zs qv nv av ∧ Bfs A.k A.nx 0 o ys ∧ (∀ x ∈ o, x < A.n) ∧
    ((ov = .bool false ∧ tk = o.length ∧ ys.length = tk * A.k ∧ zs = o.map A.ac) ∨
     (ov = .bool true ∧ ∃ t s, tk = t + 1 ∧ o[t]? = some s ∧ sv = .int .i64 (s : Nat) ∧ ys.length = t * A.k ∧ zs = (o.take t).map A.ac))
theorem Bfs.few {A : Tb} {o ys : List Nat} (h : Bfs A.k A.nx 0 o ys) (ho : ∀ x ∈ o, x < A.n) : o.length ≤ A.n := by
  refine nodup_le A.n o ?_ ho
  rw [List.nodup_iff_pairwise_ne, List.pairwise_iff_getElem]
  intro i j hi hj hij e
  have := h.nd i j hi hj (by rw [List.getElem?_eq_getElem hi, List.getElem?_eq_getElem hj, e])
  omega

theorem dfa_ret {w : World} {B : Nat} {c0 c1 c2 c3 : Value} (h : Row4 w B 27 c0 c1 c2 c3) {fn : Func} {p : Tmp} (hr : fn.results = #[.cell p 27]) (tmps : Array Value) (hp : tmps.getD p undef = .pointer (some ⟨B, 0, none⟩)) : (results fn tmps).run Try.prog w = .ok (.agg #[c0, c1, c2, c3]) w := by
  obtain ⟨c, hb, hs, hc⟩ := h
  have e : c = #[c0, c1, c2, c3] := by
    apply Array.ext_getElem?
    intro i
    by_cases hi : i < 4
    · rw [hc i hi]
      match i, hi with
      | 0, _ => rfl
      | 1, _ => rfl
      | 2, _ => rfl
      | 3, _ => rfl
    · rw [Array.getElem?_eq_none (by omega), Array.getElem?_eq_none (by simp; omega)]
  subst e
  exact results_cell_row hr tmps w B _ _ _ _ hp hb Try.underlying27 rfl (by kernel_rfl)

set_option maxHeartbeats 4000000 in
set_option maxRecDepth 100000 in
/-- The states that are reached, breadth first. -/
theorem reached_any (A : Tb) (cl : Value) (b off cN ab ao ca : Nat) (w : World) (hw : A.Wf) (hn : A.n ≤ 1024) (hk : 1 ≤ A.k ∧ A.k ≤ 256) (hcN : A.n * A.k ≤ cN) (hb : b < w.heap.size) (hx : NxAt w b off A.n A.k A.nx)
    (hab : ab < w.heap.size) (hac : ∀ q, q < A.n → w.cell? ⟨ab, ao + q, none⟩ = some (.bool (A.ac q))) (hcl : ∃ a n c, cl = .slice a n c) :
    Calls Try.prog 29 #[.agg #[cl, .int .i64 (A.k : Nat), .slice (some ⟨b, off, none⟩) (A.n * A.k) cN, .slice (some ⟨ab, ao, none⟩) A.n ca]] w fun e w' => ∃ nv av, e = .returned (.agg #[cl, .int .i64 (A.k : Nat), nv, av]) ∧ Below w.heap.size w w' ∧
      ∃ o ys, Bfs A.k A.nx 0 o ys ∧ ys.length = o.length * A.k ∧ o.length ≤ A.n ∧ w'.ownsRow w.heap.size 3 1 nv ys.length (ys.map mN) ∧ w'.ownsRow w.heap.size 4 1 av o.length ((o.map A.ac).map mT) ∧ ∀ r, nv.ownBlock = some r → av.ownBlock ≠ some r := by
  obtain ⟨i0, hi0, hz0, hz1, hz2⟩ := info_parts Try.zinInt
  obtain ⟨ca0, cl0, cc0, rfl⟩ := hcl
  have hn1 : 1 ≤ A.n := hw.pos
  have hLn : A.n * A.k ≤ 1024 * 256 := Nat.mul_le_mul hn hk.2
  obtain ⟨L, hL⟩ : ∃ L, L = A.n * A.k := ⟨_, rfl⟩
  rw [← hL] at hcN hLn ⊢
  obtain ⟨W3, hW3⟩ : ∃ W3, W3 = ((w.alloc (.cells #[.slice ca0 cl0 cc0, .int .i64 (A.k : Nat), .slice (some ⟨b, off, none⟩) L cN, .slice (some ⟨ab, ao, none⟩) A.n ca] 27)).alloc (.cells #[.slice none 0 0, .int .i64 0, .slice none 0 0, .slice none 0 0] 27)).alloc (.cells #[.slice ca0 cl0 cc0, .int .i64 (A.k : Nat), .slice none 0 0, .slice none 0 0] 27) := ⟨_, rfl⟩
  have hz3 : W3.heap.size = w.heap.size + 3 := by rw [hW3, sz_alloc, sz_alloc, sz_alloc]
  have hB3 : Below w.heap.size w W3 := by rw [hW3]; exact (below2 w _ _).trans ((below1 _ _).mono (by rw [sz_alloc, sz_alloc]; omega))
  have hD3 : Row4 W3 w.heap.size 27 (.slice ca0 cl0 cc0) (.int .i64 (A.k : Nat)) (.slice (some ⟨b, off, none⟩) L cN) (.slice (some ⟨ab, ao, none⟩) A.n ca) := by rw [hW3]; exact ((Row4.new w _ _ _ _ _).alloc _).alloc _
  have hE3 : Row4 W3 (w.heap.size + 1) 27 (.slice none 0 0) (.int .i64 0) (.slice none 0 0) (.slice none 0 0) := by
    have := Row4.new (w.alloc (.cells #[.slice ca0 cl0 cc0, .int .i64 (A.k : Nat), .slice (some ⟨b, off, none⟩) L cN, .slice (some ⟨ab, ao, none⟩) A.n ca] 27)) 27 (.slice none 0 0) (.int .i64 0) (.slice none 0 0) (.slice none 0 0)
    rw [sz_alloc] at this
    rw [hW3]
    exact this.alloc _
  have hO3 : Row4 W3 (w.heap.size + 2) 27 (.slice ca0 cl0 cc0) (.int .i64 (A.k : Nat)) (.slice none 0 0) (.slice none 0 0) := by
    have := Row4.new ((w.alloc (.cells #[.slice ca0 cl0 cc0, .int .i64 (A.k : Nat), .slice (some ⟨b, off, none⟩) L cN, .slice (some ⟨ab, ao, none⟩) A.n ca] 27)).alloc (.cells #[.slice none 0 0, .int .i64 0, .slice none 0 0, .slice none 0 0] 27)) 27 (.slice ca0 cl0 cc0) (.int .i64 (A.k : Nat)) (.slice none 0 0) (.slice none 0 0)
    rw [sz_alloc, sz_alloc] at this
    rw [hW3]
    exact this
  have HN := hide (newI_any W3)
  have HL := hide hL
  have HX := hide hx
  have HAC := hide hac
  have HW3 := hide hW3
  have HB3 := hide hB3
  have HD3 := hide hD3
  have HE3 := hide hE3
  have HO3 := hide hO3
  clear hL hx hac hW3 hB3 hD3 hE3 hO3
  go_enter Try.func29, Try.ntmps29
  go_wp2_with fail
  rw [← unhide HW3]
  refine (unhide HN).mono ?_
  rintro e w4 ⟨rfl, hN4, hz4, hB4⟩
  rw [hz3] at hN4 hz4 ⊢
  obtain ⟨W6, hW6⟩ : ∃ W6, W6 = (w4.alloc (.cells #[.map (some (w.heap.size + 3 + 1))] 54)).alloc (.cells #[.slice none 0 0, .int .i64 0] 58) := ⟨_, rfl⟩
  have hR6 : RcAt w W6 w.heap.size (.slice ca0 cl0 cc0) (.slice (some ⟨b, off, none⟩) L cN) (.slice (some ⟨ab, ao, none⟩) A.n ca) A.k [] [] 0 [] [] (.slice none 0 0) (.slice none 0 0) (.slice none 0 0) := by
    have hb6 : Below w4.heap.size w4 W6 := by rw [hW6]; exact below2 w4 _ _
    have hb36 : Below W3.heap.size W3 W6 := hB4.trans (hb6.mono (by omega))
    refine ⟨rfl, (unhide HD3).below hb36 (by omega), ⟨_, World.rowIs.of_block (unhide HE3) (hb36.block _ (by omega))⟩, (unhide HO3).below hb36 (by omega), hN4.keep (hb6.block _ (by omega)), ?_, ?_, World.ownsRow_nil _ _ _ _, World.ownsRow_nil _ _ _ _, World.ownsRow_nil _ _ _ _, (fun r hr => by cases hr), (fun r hr => by cases hr), (unhide HB3).trans (hb36.mono (by omega)), by rw [hW6, sz_alloc, sz_alloc]; omega⟩
    · have := World.rowIs_alloc w4 #[.map (some (w.heap.size + 3 + 1))] 54 (fun _ => .map (some (w.heap.size + 3 + 1))) (fun j hj => by
        match j, hj with
        | 0, _ => rfl)
      rw [hz4] at this
      rw [hW6]
      exact this.alloc _
    · have := World.rowIs_alloc (w4.alloc (.cells #[.map (some (w.heap.size + 3 + 1))] 54)) #[.slice none 0 0, .int .i64 0] 58 (fun j => [Value.slice none 0 0, .int .i64 ((0 : Nat) : Int)].getD j undef) (fun j hj => by
        match j, hj with
        | 0, _ => rfl
        | 1, _ => rfl)
      rw [sz_alloc, hz4] at this
      rw [hW6]
      exact this
  have u0 : W6.cell? ⟨w.heap.size + 5, 0, none⟩ = some (.map (some (w.heap.size + 4))) := hR6.kb.cell (by omega)
  have HOF := hide (of_rc hR6 0 (by omega) (by decide))
  have HW6 := hide hW6
  clear hR6 hW6 HN HW3 hB4 hN4 HD3 HE3 HO3
  go_wp2_with fail
  rw [← unhide HW6]
  clear HW6
  simp only [Nat.add_assoc, Nat.reduceAdd]
  refine (unhide HOF).mono ?_
  rintro e w7 ⟨i7, f7, rfl, ⟨-, h7, -⟩ | ⟨rfl, -, rfl, hR7⟩⟩
  · cases h7
  have HPU := hide (push_rc hR7 0 (by decide))
  clear hR7 HOF u0
  go_wp2_with fail
  refine (unhide HPU).mono ?_
  rintro e w8 ⟨rfl, qv8, hR8⟩
  rw [List.nil_append] at hR8
  have HPO := hide (pop_rc hR8 (by decide) (by decide))
  clear hR8 HPU
  go_wp2_with fail
  refine (unhide HPO).mono ?_
  rintro e w9 hcs
  have hH9 : ∃ nv ov, e = .returned (.tuple #[nv, .bool ov]) ∧ RcH A w w9 w.heap.size (.slice ca0 cl0 cc0) (.slice (some ⟨b, off, none⟩) L cN) (.slice (some ⟨ab, ao, none⟩) A.n ca) nv (.bool ov) := by
    rcases hcs with ⟨h1, -⟩ | ⟨s, h1, rfl, h2⟩
    · cases h1
    · exact ⟨_, _, rfl, [0], 1, [], [], _, _, _, h2, Bfs.start _ _ _, (fun x hx => by rw [List.mem_singleton] at hx; omega), .inr ⟨rfl, 0, s, rfl, h1, rfl, by simp, by simp⟩⟩
  obtain ⟨nv9, ov9, rfl, hH9⟩ := hH9
  have HH9 := hide hH9
  clear hcs hH9 HPO
  go_wp2_with fail
  go_loopw [6, 7] (fun sv ov wr => RcH A w wr w.heap.size (.slice ca0 cl0 cc0) (.slice (some ⟨b, off, none⟩) L cN) (.slice (some ⟨ab, ao, none⟩) A.n ca) sv ov) (fun _ ov wr => 2 * (A.n - tkOf2 (w.heap.size + 6) wr) + okOf2 ov)
  case atStart => exact unhide HH9
  case round =>
    clear HH9
    obtain ⟨o, tk, ys, zs, qv, nv, av, hR, hBf, hon, ⟨rfl, htk, hyl, rfl⟩ | ⟨rfl, t, s, rfl, hs, rfl, hyl, rfl⟩⟩ := hrel
    · have hfew := hBf.few hon
      obtain ⟨g0, g1, g2, g3, -⟩ := hR.out.facts
      obtain ⟨F, hF⟩ := hR.res
      have x0 := hF.cell (i := 0) (by omega)
      have x1 := hF.cell (i := 1) (by omega)
      have x2 := hF.cell (i := 2) (by omega)
      have x3 := hF.cell (i := 3) (by omega)
      have z0 := hF.frozen 0
      have z1 := hF.frozen 1
      have z2 := hF.frozen 2
      have z3 := hF.frozen 3
      obtain ⟨na, nc, e1⟩ := own_is hR.on
      obtain ⟨va, vc, e2⟩ := own_is hR.oa
      rw [List.length_map] at e2
      have HR := hide hR
      have HBF := hide hBf
      have HF := hide hF
      rw [e1] at g2
      rw [e2] at g3
      have HE1 := hide e1
      have HE2 := hide e2
      have HYL := hide hyl
      have HTK := hide htk
      clear hR hBf hF e1 e2 hyl htk
      go_wp2
      have hrow := (World.rowIs.congr ((((unhide HF).set 0 (.slice ca0 cl0 cc0)).set 1 (.int .i64 (A.k : Nat))).set 2 (.slice na ys.length nc)) (g := fun j => if j = 2 then Value.slice na ys.length nc else if j = 1 then .int .i64 (A.k : Nat) else if j = 0 then .slice ca0 cl0 cc0 else F j) (fun j _ => rfl)).set 3 (.slice va o.length vc)
      have hR4 := (World.rowIs.congr hrow (g := fun j => [Value.slice ca0 cl0 cc0, .int .i64 (A.k : Nat), .slice na ys.length nc, .slice va o.length vc].getD j undef) (fun j hj => by
        match j, hj with
        | 0, _ => rfl
        | 1, _ => rfl
        | 2, _ => rfl
        | 3, _ => rfl))
      have hob : Obk (w.heap.size + 1) wr ((((wr.setCell ⟨w.heap.size + 1, 0, none⟩ (.slice ca0 cl0 cc0)).setCell ⟨w.heap.size + 1, 1, none⟩ (.int .i64 (A.k : Nat))).setCell ⟨w.heap.size + 1, 2, none⟩ (.slice na ys.length nc)).setCell ⟨w.heap.size + 1, 3, none⟩ (.slice va o.length vc)) := (((obk_put _ _).trans (obk_put _ _)).trans (obk_put _ _)).trans (obk_put _ _)
      refine bodyPost_ret (dfa_ret hR4 rfl _ rfl) rfl ?_
      have hR := unhide HR
      have hoa := hR.oa
      rw [unhide HE1, unhide HE2] at hR
      rw [unhide HE2, List.length_map] at hoa
      refine ⟨_, _, rfl, ⟨hob.os.trans hR.bl.os, hob.tape.trans hR.bl.tape, hob.output.trans hR.bl.output, by rw [hob.size]; exact hR.bl.size, fun k hk => (hob.block k (by omega)).trans (hR.bl.block k hk)⟩, o, ys, unhide HBF, by rw [unhide HYL, unhide HTK], hfew, own_low (own_blk hR.on (fun r hr => hob.block r (by have := (hR.on.lt r hr).1; omega))) (by omega), own_low (own_blk hoa (fun r hr => hob.block r (by have := (hoa.lt r hr).1; omega))) (by omega), hR.na⟩
    · have hlt : t < o.length := (List.getElem?_eq_some_iff.1 hs).1
      have hsn := hon s (List.mem_of_getElem? hs)
      have hfew := hBf.few hon
      have hsn' : (s : Int) < (A.n : Int) := by omega
      obtain ⟨g0, g1, g2, g3, -⟩ := hR.out.facts
      obtain ⟨d0, d1, d2, d3, -⟩ := hR.d.facts
      have hmeas : tkOf2 (w.heap.size + 6) wr = t + 1 := by
        rw [tkOf2, hR.q.cell (by omega)]
        simp [intOf]
      have HME := hide hmeas
      clear hmeas
      have y0 : wr.cell? ⟨ab, ao + s, none⟩ = some (.bool (A.ac s)) := by rw [hR.bl.cell (p := ⟨ab, ao + s, none⟩) hab]; exact unhide HAC s hsn
      have HR := hide hR
      have HBF := hide hBf
      have HYL := hide hyl
      clear hR hBf hyl
      go_wp2_with fail
      obtain ⟨va, vc, e2⟩ := own_is (unhide HR).oa
      have hzl : (List.map A.ac (o.take t)).length = t := by rw [List.length_map, List.length_take]; omega
      rw [hzl] at e2
      have hoa := (unhide HR).oa
      rw [hzl, e2] at hoa
      rw [e2] at g3
      have hz7 := (unhide HR).sz
      refine reached_acc wr w.heap.size (w.heap.size + 2) ab ao A.n ca s t vc (w.heap.size + 7) va (A.ac s) _ hsn (by omega) hz7 (by omega) g3 d3 y0 hoa (fun WA w8 gg cap r1 r2 r3 hP => ?_)
      have hA := (unhide HR).pushA (x := A.ac s) (v' := .slice (some ⟨gg, 0, none⟩) (t + 1) cap) hP.below (by rw [List.length_append, hzl, List.map_append]; exact r1) (by rw [e2]; exact r2) (fun q hq => by
        rw [e2]
        have hq' : gg = q := Option.some.inj hq
        subst hq'
        rcases r3 with e | e
        · exact .inl e
        · exact .inr (by omega))
      rw [e2] at hA
      refine ⟨hA.1, hA.2.1, ?_⟩
      have hA3 := hA.2.2
      obtain ⟨w9', hw9'⟩ : ∃ w9', w9' = w8.setCell ⟨w.heap.size + 2, 3, none⟩ (.slice (some ⟨gg, 0, none⟩) (t + 1) cap) := ⟨_, rfl⟩
      rw [← hw9'] at hA3 ⊢
      have hzt : List.map A.ac (o.take t) ++ [A.ac s] = (o.take (t + 1)).map A.ac := by rw [List.take_add_one, hs, List.map_append]; rfl
      rw [hzt] at hA3
      clear hA hw9' r1 r2 r3 hP g0 g1 g2 g3 d0 d1 d2 d3 y0 hoa e2 hzt
      obtain ⟨d0, d1, d2, d3, -⟩ := hA3.d.facts
      have hsL : (s + 1) * A.k ≤ L := by rw [unhide HL]; exact Nat.mul_le_mul_right _ hsn
      have hrw := row_any (.slice ca0 cl0 cc0) (.slice (some ⟨ab, ao, none⟩) A.n ca) b off L cN A.k s w9' hsL (by omega) hcN (by omega) hk
      obtain ⟨rq, hrq⟩ : ∃ rq, rq = s * A.k := ⟨_, rfl⟩
      rw [← hrq] at hrw
      have HRW := hide hrw
      have HRQ := hide hrq
      have HA3 := hide hA3
      clear hrw hrq hsL hA3
      go_wp2_with fail
      refine (unhide HRW).mono ?_
      rintro e w10 ⟨rfl, hb10⟩
      have HR10 := hide ((unhide HA3).keep hb10)
      have HO := hide hon
      clear HA3 hb10 d0 d1 d2 d3 HR HRW hon
      go_wp2_with fail
      go_loopw [44] (fun cv wx => ∃ (c : Nat) (o ys : List Nat) (zs : List Bool) (qv nv av : Value), c ≤ A.k ∧ cv = .int .i64 (c : Nat) ∧ RcAt w wx w.heap.size (.slice ca0 cl0 cc0) (.slice (some ⟨b, off, none⟩) L cN) (.slice (some ⟨ab, ao, none⟩) A.n ca) A.k o o (t + 1) ys zs qv nv av ∧ Bfs A.k A.nx 0 o ys ∧ (∀ x ∈ o, x < A.n) ∧ o[t]? = some s ∧ ys.length = t * A.k + c ∧ zs = (o.take (t + 1)).map A.ac) (fun cv _ => A.k - (intOf cv).toNat)
      case atStart => exact ⟨0, o, ys, _, _, _, _, by omega, rfl, unhide HR10, unhide HBF, unhide HO, hs, unhide HYL, rfl⟩
      case round =>
        clear HR10 HBF HO HYL hlt hfew hs hzl
        obtain ⟨c, o, ys, zs, qv, nv, av, hc, rfl, hR, hBf, hon, hs, hyl, hzs⟩ := hrel
        have hfew := hBf.few hon
        have hto : t < o.length := (List.getElem?_eq_some_iff.1 hs).1
        by_cases hcl : c < A.k
        · have hcl' : (c : Int) < (A.k : Int) := by omega
          obtain ⟨x1, x2⟩ := unhide HX s c hsn hcl
          have y0 : wr.cell? ⟨b, off + rq + c, none⟩ = some (.int .i64 (A.nx s c : Nat)) := by rw [unhide HRQ, Nat.add_assoc, hR.bl.cell (p := ⟨b, off + (s * A.k + c), none⟩) hb]; exact x2
          have u0 : wr.cell? ⟨w.heap.size + 5, 0, none⟩ = some (.map (some (w.heap.size + 4))) := hR.kb.cell (by omega)
          have hyl2 : ys.length ≤ 262144 := by
            rw [hyl]
            have := row_in (k := A.k) (Nat.lt_of_lt_of_le hto hfew) hcl
            rw [← unhide HL] at this
            omega
          have hdv : ys.length / A.k = t ∧ ys.length % A.k = c := by rw [hyl]; exact row_at hcl
          obtain ⟨nxt, hnxt⟩ : ∃ y, y = A.nx s c := ⟨_, rfl⟩
          rw [← hnxt] at y0 x1
          have HOF := hide (of_rc hR nxt (by omega) (by omega))
          have HNX := hide hnxt
          have HBF := hide hBf
          have HO := hide hon
          have HS := hide hs
          have HDV := hide hdv
          have HYL := hide hyl
          have HZS := hide hzs
          clear hR hBf hon hs hdv hyl hzs x2 hnxt
          go_wp2_with fail
          refine (unhide HOF).mono ?_
          rintro e w11 ⟨num, f, rfl, ⟨rfl, hks, hR11⟩ | ⟨rfl, hnk, rfl, hR11⟩⟩
          · have hnum : num < o.length := (List.getElem?_eq_some_iff.1 hks).1
            obtain ⟨-, -, g2, -⟩ := hR11.out.facts
            obtain ⟨na, nc, e1⟩ := own_is hR11.on
            have hon11 := hR11.on
            obtain ⟨yn, hyn⟩ : ∃ yn, yn = ys.length := ⟨_, rfl⟩
            rw [← hyn] at e1
            rw [e1] at g2
            rw [← hyn, e1] at hon11
            have hyb : yn ≤ 262144 := by rw [hyn]; exact hyl2
            have HON := hide hon11
            have HE1 := hide e1
            have HYN := hide hyn.symm
            have HR11 := hide hR11
            have HKS := hide hks
            clear hR11 hks hon11 e1 hyn hyl2 HOF y0 u0
            go_wp2_with (at_builtin; refine wpList_append_own_at _ rfl _ _ 22 rfl (w.heap.size + 7) 3 i0 (.int .i64 0) 1 8 Try.underlying22 hi0 hz0 hz1 hz2 rfl (by decide) _ _ _ rfl ((unhide HON).alloc _) ⟨w11.heap.size, 0, none⟩ 1 1 [.int .i64 (num : Nat)] rfl rfl ?_ ?_ ?_ ?_ ?_ ?_)
            · exact cell_1 (cell_new _ _ _)
            · intro u hu; simp at hu; subst hu; rfl
            · unfold maxLen; omega
            · omega
            · rw [sz_alloc]; have := (unhide HR11).sz; omega
            intro v' w12 r1 r2 _ r3
            have h12 := (unhide HR11).pushN (x := num) (below1 w11 _) (by rw [List.length_append, List.map_append, unhide HYN]; exact r1) (by rw [unhide HE1]; exact r2) (fun q hq => by
              rw [unhide HE1]
              rcases r3 with e | e
              · rw [e] at hq; exact .inl hq
              · rw [e] at hq; have := Option.some.inj hq; exact .inr (by omega))
            rw [unhide HE1] at h12
            obtain ⟨pa, pc, e8⟩ := own_is r1
            subst e8
            have z1 := h12.1
            have z2 := h12.2.1
            have H12 := hide h12.2.2
            clear h12 r1 r2 r3 HON g2
            go_wp2
            go_roundw
            case rel =>
              refine ⟨c + 1, o, ys ++ [num], zs, _, _, _, by omega, by go_num, unhide H12, (unhide HBF).old (x := s) (by rw [(unhide HDV).1]; exact unhide HS) (by rw [(unhide HDV).2, ← unhide HNX]; exact unhide HKS), unhide HO, unhide HS, by rw [List.length_append, unhide HYL]; simp only [List.length_singleton]; omega, unhide HZS⟩
            case measure => simp [intOf]; omega
          · have HPU := hide (push_rc hR11 nxt (by omega))
            have HNK := hide hnk
            clear hR11 hnk HOF y0 u0
            go_wp2_with fail
            refine (unhide HPU).mono ?_
            rintro e w11' ⟨rfl, qv', hR11⟩
            obtain ⟨-, -, g2, -⟩ := hR11.out.facts
            obtain ⟨na, nc, e1⟩ := own_is hR11.on
            have hon11 := hR11.on
            obtain ⟨yn, hyn⟩ : ∃ yn, yn = ys.length := ⟨_, rfl⟩
            rw [← hyn] at e1
            rw [e1] at g2
            rw [← hyn, e1] at hon11
            have hyb : yn ≤ 262144 := by rw [hyn]; exact hyl2
            have HON := hide hon11
            have HE1 := hide e1
            have HYN := hide hyn.symm
            have HR11 := hide hR11
            clear hR11 hon11 e1 hyn hyl2 HPU
            go_wp2_with (at_builtin; refine wpList_append_own_at _ rfl _ _ 22 rfl (w.heap.size + 7) 3 i0 (.int .i64 0) 1 8 Try.underlying22 hi0 hz0 hz1 hz2 rfl (by decide) _ _ _ rfl ((unhide HON).alloc _) ⟨w11'.heap.size, 0, none⟩ 1 1 [.int .i64 (o.length : Nat)] rfl rfl ?_ ?_ ?_ ?_ ?_ ?_)
            · exact cell_1 (cell_new _ _ _)
            · intro u hu; simp at hu; subst hu; rfl
            · unfold maxLen; omega
            · omega
            · rw [sz_alloc]; have := (unhide HR11).sz; omega
            intro v' w12 r1 r2 _ r3
            have h12 := (unhide HR11).pushN (x := o.length) (below1 w11' _) (by rw [List.length_append, List.map_append, unhide HYN]; exact r1) (by rw [unhide HE1]; exact r2) (fun q hq => by
              rw [unhide HE1]
              rcases r3 with e | e
              · rw [e] at hq; exact .inl hq
              · rw [e] at hq; have := Option.some.inj hq; exact .inr (by omega))
            rw [unhide HE1] at h12
            obtain ⟨pa, pc, e8⟩ := own_is r1
            subst e8
            have z1 := h12.1
            have z2 := h12.2.1
            have H12 := hide h12.2.2
            clear h12 r1 r2 r3 HON g2
            go_wp2
            go_roundw
            case rel =>
              refine ⟨c + 1, o ++ [nxt], ys ++ [o.length], zs, _, _, _, by omega, by go_num, unhide H12, ?_, fun x hx => ?_, ?_, by rw [List.length_append, unhide HYL]; simp only [List.length_singleton]; omega, ?_⟩
              · have := (unhide HBF).new (x := s) (by rw [(unhide HDV).1]; exact unhide HS) (fun i hi e => by
                  rw [(unhide HDV).2, ← unhide HNX] at e
                  exact unhide HNK (List.mem_of_getElem? e))
                rw [(unhide HDV).2, ← unhide HNX] at this
                exact this
              · rcases List.mem_append.1 hx with h | h
                · exact unhide HO x h
                · rw [List.mem_singleton] at h; rw [h]; exact x1
              · rw [List.getElem?_append_left hto]; exact unhide HS
              · rw [unhide HZS, List.take_append_of_le_length hto]
            case measure => simp [intOf]; omega
        · have hcl' : ¬ (c : Int) < (A.k : Int) := by omega
          obtain rfl : c = A.k := by omega
          have hmt : tkOf2 (w.heap.size + 6) wr = t + 1 := by
            rw [tkOf2, hR.q.cell (by omega)]
            simp [intOf]
          have HPO := hide (pop_rc hR (by omega) (by omega))
          have HBF := hide hBf
          have HO := hide hon
          have HS := hide hs
          have HYL := hide hyl
          have HZS := hide hzs
          clear hR hBf hon hs hyl hzs
          go_wp2_with fail
          refine (unhide HPO).mono ?_
          rintro e w11 hcs
          have hH11 : ∃ nv ov, e = .returned (.tuple #[nv, .bool ov]) ∧ RcH A w w11 w.heap.size (.slice ca0 cl0 cc0) (.slice (some ⟨b, off, none⟩) L cN) (.slice (some ⟨ab, ao, none⟩) A.n ca) nv (.bool ov) ∧ 2 * (A.n - tkOf2 (w.heap.size + 6) w11) + okOf2 (.bool ov) < 2 * (A.n - (t + 1)) + 1 := by
            have hlk : ys.length = (t + 1) * A.k := by rw [unhide HYL, Nat.add_mul, Nat.one_mul]
            rcases hcs with ⟨h1, rfl, h2⟩ | ⟨s', h1, rfl, h2⟩
            · refine ⟨_, _, rfl, ⟨o, _, ys, zs, _, _, _, h2, unhide HBF, unhide HO, .inl ⟨rfl, h1, hlk, ?_⟩⟩, ?_⟩
              · rw [unhide HZS, h1, List.take_length]
              · rw [show tkOf2 (w.heap.size + 6) w11 = t + 1 by rw [tkOf2, h2.q.cell (by omega)]; simp [intOf]]
                show 2 * (A.n - (t + 1)) + 0 < _
                omega
            · have hlt2 : t + 1 < o.length := (List.getElem?_eq_some_iff.1 h1).1
              refine ⟨_, _, rfl, ⟨o, _, ys, zs, _, _, _, h2, unhide HBF, unhide HO, .inr ⟨rfl, t + 1, s', rfl, h1, rfl, hlk, unhide HZS⟩⟩, ?_⟩
              rw [show tkOf2 (w.heap.size + 6) w11 = t + 1 + 1 by rw [tkOf2, h2.q.cell (by omega)]; simp [intOf]; omega]
              show 2 * (A.n - (t + 1 + 1)) + 1 < _
              omega
          obtain ⟨nv11, ov11, rfl, hH11, hm11⟩ := hH11
          have HH11 := hide hH11
          have HM11 := hide hm11
          clear hcs hH11 hm11 HPO
          go_wp2
          go_roundw
          case rel => exact unhide HH11
          case measure =>
            have hm := unhide HM11
            rw [unhide HME]
            exact hm

end Go.Proofs.Ytjmajdfcfcgegaa
