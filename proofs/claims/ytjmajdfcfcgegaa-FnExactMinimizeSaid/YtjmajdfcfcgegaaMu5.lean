import Derived.Test.YtjmajdfcfcgegaaMu4
import Derived.Test.YtjmajdfcfcgegaaPk9
namespace Go.Proofs.Ytjmajdfcfcgegaa
open Go.RowKit

/-- What Minimize answers. -/
def MinRet (e : Ending) (w w' : World) (xs ys : List Int) (zs : List Bool) (nc : Int) : Prop :=
  (¬ TabOk xs ys zs nc ∧ e = .returned (.agg #[.slice none 0 0, .int .i64 0, .slice none 0 0, .slice none 0 0])) ∨
  (TabOk xs ys zs nc ∧ ∃ (xv nv av : Value) (k : Nat), e = .returned (.agg #[xv, .int .i64 (k : Nat), nv, av]) ∧
    ∃ (o ys' : List Nat) (m : Nat) (num F mg G : Nat → Nat), ProgT (tb xs ys zs nc) o ys' m num F k mg G ∧ m ≤ 1024 ∧ k ≤ 256 ∧ w'.ownsRow w.heap.size 3 1 xv 256 ((clL (ProgT.out (tb xs ys zs nc) o ys' m num F k mg G)).map mI) ∧ w'.ownsRow w.heap.size 3 1 nv (m * k) ((nxL (ProgT.out (tb xs ys zs nc) o ys' m num F k mg G)).map mI) ∧ w'.ownsRow w.heap.size 4 1 av m ((acL (ProgT.out (tb xs ys zs nc) o ys' m num F k mg G)).map mT) ∧
        (∀ r, xv.ownBlock = some r → nv.ownBlock ≠ some r ∧ av.ownBlock ≠ some r) ∧ ∀ r, nv.ownBlock = some r → av.ownBlock ≠ some r)

set_option maxHeartbeats 4000000 in
set_option maxRecDepth 100000 in
/-- The program's Minimize, whole. -/
theorem implMin_any (cl nx ac : Value) (xs ys : List Int) (zs : List Bool) (nc : Int) (w : World) (h1 : SlAt mI 0 0 w.heap.size w cl xs) (h2 : SlAt mI 0 0 w.heap.size w nx ys) (h3 : SlAt mT false 0 w.heap.size w ac zs) (hcap : CapOk nx) :
    Calls Try.prog 7 #[.agg #[cl, .int .i64 nc, nx, ac]] w fun e w' => MinRet e w w' xs ys zs nc ∧ Below w.heap.size w w' := by
  obtain ⟨a1, c1, rfl, l1, hc1⟩ := id h1
  obtain ⟨a2, c2, rfl, l2, hc2⟩ := id h2
  obtain ⟨a3, c3, rfl, l3, hc3⟩ := id h3
  have hcap2 := hcap.le.1
  obtain ⟨W2, hW2⟩ : ∃ W2, W2 = (w.alloc (.cells #[.slice a1 xs.length c1, .int .i64 nc, .slice a2 ys.length c2, .slice a3 zs.length c3] 27)).alloc (.cells #[.slice none 0 0, .int .i64 0, .slice none 0 0, .slice none 0 0] 27) := ⟨_, rfl⟩
  have hB2 : Below w.heap.size w W2 := by rw [hW2]; exact below2 w _ _
  have hsz2 : W2.heap.size = w.heap.size + 2 := by rw [hW2, sz_alloc, sz_alloc]
  have hD2 : Row4 W2 w.heap.size 27 (.slice a1 xs.length c1) (.int .i64 nc) (.slice a2 ys.length c2) (.slice a3 zs.length c3) := by rw [hW2]; exact (Row4.new w _ _ _ _ _).alloc _
  have hE2 : Row4 W2 (w.heap.size + 1) 27 (.slice none 0 0) (.int .i64 0) (.slice none 0 0) (.slice none 0 0) := by
    have := Row4.new (w.alloc (.cells #[.slice a1 xs.length c1, .int .i64 nc, .slice a2 ys.length c2, .slice a3 zs.length c3] 27)) 27 (.slice none 0 0) (.int .i64 0) (.slice none 0 0) (.slice none 0 0)
    rw [sz_alloc] at this
    rw [hW2]
    exact this
  have HVT := hide (validTable_any _ _ _ xs ys zs nc W2 (h1.below hB2 (Nat.le_refl _)) (h2.below hB2 (Nat.le_refl _)) (h3.below hB2 (Nat.le_refl _)))
  obtain ⟨f0, f1, f2, f3, -⟩ := hD2.facts
  have HW2 := hide hW2
  have HB2 := hide hB2
  have HD2 := hide hD2
  have HE2 := hide hE2
  clear hW2 hB2 hD2 hE2 h1 h2 h3 hcap
  go_enter Try.func7, Try.ntmps7
  go_wp2_with fail
  rw [← unhide HW2]
  refine (unhide HVT).mono ?_
  rintro e w3 ⟨hret, hB3⟩
  have hz3 := hB3.size
  have hBw3 : Below w.heap.size w w3 := (unhide HB2).trans (hB3.mono (by omega))
  have hE3 := (unhide HE2).below hB3 (by omega)
  obtain ⟨x0, x1, x2, x3, z0, z1, z2, z3⟩ := hE3.facts
  obtain ⟨f0, f1, f2, f3, -⟩ := ((unhide HD2).below hB3 (by omega)).facts
  rcases hret.cases with ⟨rfl, hok⟩ | ⟨rfl, hbad⟩
  · have hlen := hok.len
    have hwf := hok.wf
    have hst := hok.st
    have hnn := hok.hn
    have hxl := hok.cl
    obtain ⟨k, hkk⟩ : ∃ k : Nat, nc = (k : Nat) := ⟨nc.toNat, by omega⟩
    subst hkk
    have ek : (k : Int).toNat = k := by omega
    rw [ek] at hlen
    obtain ⟨xb, xo, rfl, -, hxb, hxc⟩ := hc1 (by omega)
    obtain ⟨nb, no, rfl, -, hnb, hncell⟩ := hc2 (by rw [hlen]; exact Nat.mul_pos (by omega) (by omega))
    obtain ⟨ab, ao, rfl, -, hab, hacell⟩ := hc3 (by omega)
    have hsm := (smallest_any (tb xs ys zs (k : Int)) xb xo c1 nb no c2 ab ao c3 w3 hwf hok.clUp hok.full hst.2 (by show 1 ≤ (k : Int).toNat ∧ (k : Int).toNat ≤ 256; omega) (by show zs.length * (k : Int).toNat ≤ c2; rw [ek, ← hlen]; exact hcap2) (by omega) (fun q c hq hc => ⟨hwf.nxt q c hq hc, by
        have hc' : c < k := by have : c < (k : Int).toNat := hc; omega
        have hq' : q < zs.length := hq
        show w3.cell? ⟨nb, no + (q * (k : Int).toNat + c), none⟩ = some (.int .i64 (((ys[q * (k : Int).toNat + c]?.getD 0).toNat : Nat) : Int))
        rw [ek]
        have hil : q * k + c < ys.length := by rw [hlen]; exact idx_lt hq' hc'
        rw [hBw3.cell (p := ⟨nb, no + (q * k + c), none⟩) hnb, hncell _ hil]
        have := hok.to _ hil
        rw [Int.toNat_of_nonneg this.1]
        rfl⟩) (by omega) (fun q hq => by
        rw [hBw3.cell (p := ⟨xb, xo + q, none⟩) hxb, hxc q (by omega)]
        have := hok.cls hq
        show some (mI _) = some (.int .i64 (((xs[q]?.getD 0).toNat : Nat) : Int))
        rw [Int.toNat_of_nonneg this.1]
        rfl) (by omega) (fun q hq => by
        rw [hBw3.cell (p := ⟨ab, ao + q, none⟩) hab, hacell q hq]
        rfl))
    rw [show (tb xs ys zs (k : Int)).k = k from ek, show (tb xs ys zs (k : Int)).n = zs.length from rfl, ← hlen] at hsm
    rw [hxl] at f0 ⊢
    have HSM := hide hsm
    have HBW := hide hBw3
    have HOK := hide hok
    have HE3 := hide hE3
    clear hsm hok hwf hBw3 hE3 hlen hncell hxc hacell hc1 hc2 hc3 hxl x0 x1 x2 x3 z0 z1 z2 z3 hret hB3 HVT
    go_wp2_with fail
    refine (unhide HSM).mono ?_
    rintro e w4 ⟨xv, nv, av, k2, rfl, hB4, o, ys', m, num, F, mg, G, hP, hm, hk2, hox, hon, hoa, hd1, hd2⟩
    have hz4 := hB4.size
    have hE4 := (unhide HE3).below hB4 (by omega)
    obtain ⟨x0, x1, x2, x3, z0, z1, z2, z3⟩ := hE4.facts
    obtain ⟨oa, oc, e1⟩ := own_is hox
    obtain ⟨na, nc', e2⟩ := own_is hon
    obtain ⟨va, vc, e3⟩ := own_is hoa
    subst e1
    subst e2
    subst e3
    obtain ⟨yl, hyl2⟩ : ∃ yl, yl = m * k2 := ⟨_, rfl⟩
    rw [← hyl2] at hon hd1 hd2 ⊢
    have hR4 := (((hE4.put0 (u := .slice oa 256 oc)).put1 (u := .int .i64 (k2 : Nat))).put2 (u := .slice na yl nc')).put3' (u := .slice va m vc)
    have hob : Obk (w.heap.size + 1) w4 ((((w4.setCell ⟨w.heap.size + 1, 0, none⟩ (.slice oa 256 oc)).setCell ⟨w.heap.size + 1, 1, none⟩ (.int .i64 (k2 : Nat))).setCell ⟨w.heap.size + 1, 2, none⟩ (.slice na yl nc')).setCell ⟨w.heap.size + 1, 3, none⟩ (.slice va m vc)) := (((obk_put _ _).trans (obk_put _ _)).trans (obk_put _ _)).trans (obk_put _ _)
    have HR4 := hide hR4
    have HOB := hide hob
    have HP := hide hP
    have HOX := hide hox
    have HON := hide hon
    have HOA := hide hoa
    have HD1 := hide hd1
    have HD2' := hide hd2
    have HB4 := hide hB4
    have HY2 := hide hyl2
    clear hR4 hob hP hox hon hoa hd1 hd2 hB4 hE4 hyl2 HSM
    go_wp2
    refine bodyPost_ret (dfa_ret (unhide HR4) rfl _ rfl) rfl ?_
    have hob := unhide HOB
    have hbw := (unhide HBW).trans ((unhide HB4).mono (by omega))
    refine ⟨.inr ⟨unhide HOK, _, _, _, k2, rfl, o, ys', m, num, F, mg, G, unhide HP, hm, hk2, own_low (own_blk (unhide HOX) (fun r hr => hob.block r (by have := ((unhide HOX).lt r hr).1; omega))) (by omega), ?_, own_low (own_blk (unhide HOA) (fun r hr => hob.block r (by have := ((unhide HOA).lt r hr).1; omega))) (by omega), unhide HD1, unhide HD2'⟩, ⟨hob.os.trans hbw.os, hob.tape.trans hbw.tape, hob.output.trans hbw.output, Nat.le_trans hbw.size (Nat.le_of_eq hob.size.symm), fun k hk => (hob.block k (by omega)).trans (hbw.block k hk)⟩⟩
    rw [← unhide HY2]
    exact own_low (own_blk (unhide HON) (fun r hr => hob.block r (by have := ((unhide HON).lt r hr).1; omega))) (by omega)
  · have HBW := hide hBw3
    have HBAD := hide hbad
    have hR4 := (((hE3.put0 (u := .slice none 0 0)).put1 (u := .int .i64 0)).put2 (u := .slice none 0 0)).put3' (u := .slice none 0 0)
    have hob : Obk (w.heap.size + 1) w3 ((((w3.setCell ⟨w.heap.size + 1, 0, none⟩ (.slice none 0 0)).setCell ⟨w.heap.size + 1, 1, none⟩ (.int .i64 0)).setCell ⟨w.heap.size + 1, 2, none⟩ (.slice none 0 0)).setCell ⟨w.heap.size + 1, 3, none⟩ (.slice none 0 0)) := (((obk_put _ _).trans (obk_put _ _)).trans (obk_put _ _)).trans (obk_put _ _)
    have HR4 := hide hR4
    have HOB := hide hob
    clear hBw3 hbad hR4 hob hE3 hret hB3
    go_wp2
    refine bodyPost_ret (dfa_ret (unhide HR4) rfl _ rfl) rfl ?_
    have hob := unhide HOB
    have hbw := unhide HBW
    exact ⟨.inl ⟨unhide HBAD, rfl⟩, ⟨hob.os.trans hbw.os, hob.tape.trans hbw.tape, hob.output.trans hbw.output, Nat.le_trans hbw.size (Nat.le_of_eq hob.size.symm), fun k hk => (hob.block k (by omega)).trans (hbw.block k hk)⟩⟩

end Go.Proofs.Ytjmajdfcfcgegaa
