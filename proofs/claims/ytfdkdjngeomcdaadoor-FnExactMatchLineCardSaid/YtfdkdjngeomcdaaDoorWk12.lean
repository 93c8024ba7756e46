import Derived.Test.YtfdkdjngeomcdaaDoorWk11
import Derived.Test.YtfdkdjngeomcdaaDoorPb3
namespace Go.Proofs.YtfdkdjngeomcdaaDoor
open Go.RowKit

/-- The walker, as walkerOf leaves it, in a box. -/
theorem wkR_of {w w' W : World} {A N : Nat} {fv : Value} {fs gs : Nat → Nat → Nat} {b : Bool} {f l : Nat → Nat} {gc mm : Nat} {K : Nat → Nat} {hs H : Nat → Nat → Nat} {hv : Value} {ks : List Value} (hA : AutR w A N fv fs b f l) (hb : Below w.heap.size w w') (hW : W = w'.alloc (.cells #[.pointer (some ⟨A, 0, none⟩), .slice (some ⟨gc, 0, none⟩) 256 256, hv] 47))
    (hrow : w'.rowIs gc 3 256 (fun x => .int .i64 (K x : Nat))) (hhol : RsP w' hv mm hs) (hcl : Cls H 256 mm K hs ks) (hH : ∀ x, x < 256 → Fit (H x) ∧ ∀ i, Bt (H x) i = true ↔ (i < N ∧ Bt (gs i) x = true)) (hf : Fit f) (hl : Fit l) (hfs : ∀ i, Fit (fs i)) : WkR W w'.heap.size A N mm gc hv fv K hs fs b f l := by
  subst hW
  have hbA := below1 w' (.cells #[.pointer (some ⟨A, 0, none⟩), .slice (some ⟨gc, 0, none⟩) 256 256, hv] 47)
  refine ⟨(pushd_alloc w' _).new, (hA.keep hb (Nat.le_refl _)).keep hbA (Nat.le_refl _), hrow.alloc _, own_keep hhol hbA (Nat.le_refl _), fun x hx => (hcl.cl x hx).1, fun j hj => ?_, hf, hl, hfs, fun j hj i hi => ?_⟩
  · obtain ⟨x, h1, h2⟩ := hcl.src j hj
    rw [h2]; exact (hH x h1).1
  · obtain ⟨x, h1, h2⟩ := hcl.src j hj
    rw [h2] at hi
    exact (((hH x h1).2 i).1 hi).1

set_option maxHeartbeats 8000000 in
set_option maxRecDepth 100000 in
theorem implMatch_any (l r : Bool) (v lv : Value) (xs : List El) (bs : List Int) (w : World) (hv : ElsAt 0 w.heap.size w v xs) (hlv : SlAt mB 0 0 w.heap.size w lv bs) (hb : ∀ x ∈ bs, 0 ≤ x ∧ x ≤ 255) (hl : bs.length ≤ 1048576) (htz : TZ w) (htl : Tryd.laysTZ_ren.g 1 < w.heap.size) :
    Calls Tryd.prog 8 #[.agg #[.bool l, .bool r, v], lv] w fun e w' => RetB e (MatchA l r xs bs) ∧ Below w.heap.size w w' := by
  obtain ⟨a, cp, rfl, -, -⟩ := id hv
  obtain ⟨la, lc, rfl, -, -⟩ := id hlv
  have Hv := hide hv
  have Hlv := hide hlv
  have Hb := hide hb
  have HTZ : Hid (∀ W, Below w.heap.size w W → TZ W) := fun W hW => htz.below hW htl
  have hb0 := below1 w (.cells #[.bool l, .bool r, .slice a xs.length cp] 30)
  have hz0 : (w.alloc (.cells #[.bool l, .bool r, .slice a xs.length cp] 30)).heap.size = w.heap.size + 1 := sz_alloc _ _
  clear hv hlv hb htz
  go_enter Tryd.func8, Tryd.ntmps8
  go_wp2_with fail
  refine (wholeTree_any (closPosT.and (closGl (n := bs.length) (hs := hsL bs))) l r _ xs _ ((unhide Hv).below hb0 (Nat.le_refl _))).mono ?_
  rintro e w1 ⟨hret, hb1⟩
  have HB1 : Hid (Below w.heap.size w w1) := hb0.trans (hb1.mono (by omega))
  clear hb1 hb0 hz0
  rcases hret with ⟨U, L, rfl, ⟨T, x, rfl⟩, hok, hsx, hL, hQ⟩ | ⟨rfl, hbad⟩
  · by_cases hle : bs.length ≤ 20000
    · obtain ⟨⟨A, ln, ss, c, hadd, hso, hbdd, hsm⟩, hgl⟩ := hQ
      have hlen := whL_len l r L
      have hfew := lvs_half (whL l r L)
      rw [hsm.ws] at hfew
      have hn512 : lvs (whL l r L) ≤ 512 := by omega
      have hwl := (unhide HB1).size
      have HAU := hide (automatonOf_any hadd hn512 w1 (unhide HTZ _ (unhide HB1)) (by omega))
      have HME := hide (match_end (unhide Hb) hle hok hsx hgl hso)
      have HLK := hide hso.lkb
      have HBDD := hide hbdd
      have HSL := hide hso.len
      have hle' : (bs.length : Int) ≤ 20000 := by omega
      have hle2 : ¬ (20000 : Int) < (bs.length : Int) := by omega
      obtain ⟨N, hNN⟩ : ∃ N, N = lvs (whL l r L) := ⟨_, rfl⟩
      rw [← hNN] at HAU HLK HBDD hn512 HSL
      clear hadd hso hbdd hsm hgl hok hsx hL hlen hfew hNN
      go_wp2_with fail
      refine (unhide HAU).mono ?_
      rintro e w2 ⟨f, l2, rfl, hAut, hf, hl2, hb2⟩
      obtain ⟨sv, gs, fv, fs, c0, hSB, hSlen, hWo, hAR, hFfs, hBfs⟩ := hAut.rd
      have hAl : w1.heap.size < w2.heap.size := by obtain ⟨⟨F, h1, -⟩, -⟩ := hAR; exact h1.lt
      have HWO := hide (walkerOf_any w1.heap.size N sv gs w2 c0 hAl hSB (fun i hi => (hWo i hi).1) hn512)
      have HB2 : Hid (Below w.heap.size w w2) := (unhide HB1).trans (hb2.mono hwl)
      have HAR := hide hAR
      have HF := hide hf
      have HL2 := hide hl2
      have HFFS := hide hFfs
      have HBFS := hide hBfs
      have HWRD := hide hWo
      clear hAut hf hl2 hb2 c0 hSB hSlen hWo hAR hFfs hBfs HAU
      go_wp2_with fail
      refine (unhide HWO).mono ?_
      rintro e w3 ⟨⟨gc, mm, K, hs, hv, ks, H, rfl, hrow, hhol, hcl, hH⟩, hb3⟩
      have hz3 := hb3.size
      obtain ⟨ha9, hc9, rfl⟩ := own_is hhol
      obtain ⟨W, hW⟩ : ∃ W, W = w3.alloc (.cells #[.pointer (some ⟨w1.heap.size, 0, none⟩), .slice (some ⟨gc, 0, none⟩) 256 256, .slice ha9 mm hc9] 47) := ⟨_, rfl⟩
      have hWk := wkR_of (unhide HAR) hb3 hW hrow hhol hcl hH (unhide HF).1 (unhide HL2).1 (unhide HFFS)
      have hB3 : Below w.heap.size w w3 := (unhide HB2).trans (hb3.mono (unhide HB2).size)
      have hBW : Below w.heap.size w W := by rw [hW]; exact hB3.alloc hB3.size _
      have HAC := hide (accepts_any w3.heap.size w1.heap.size N mm gc (.slice ha9 mm hc9) fv (.slice la bs.length lc) K hs fs A.nl f l2 bs W hWk ((unhide Hlv).below hBW (Nat.le_refl _)) ⟨hle, unhide Hb⟩ (unhide HTZ _ hBW) (by have := hBW.size; omega))
      have hst := stP_is (fs := fs) (hs := hs) (nl := A.nl) (f := f) (l := l2) (C := fun k => K (bs[k]?.getD 0).toNat) (S := SetP (hsL bs) ss) (M := fun x y => mkd ln x y = true) (a := A) (N := N) hn512 (unhide HF).1 (unhide HFFS) rfl (fun i => by rw [(unhide HF).2, List.contains_iff_mem]) (fun i => by rw [(unhide HL2).2, List.contains_iff_mem]) (fun i j => by rw [unhide HBFS]) bs.length (fun k hk i => by
        have hbk := unhide Hb (bs[k]?.getD 0) (by rw [List.getElem?_eq_getElem hk]; exact List.getElem_mem hk)
        have hx : (bs[k]?.getD 0).toNat < 256 := by omega
        have hc := hcl.cl _ hx
        have hin := hWk.inn _ hc.1 i
        by_cases e : i < 512
        · rw [← ps_bt hc.2 i e, (hH _ hx).2 i]
          constructor
          · rintro ⟨q1, q2⟩
            refine ⟨q1, ?_⟩
            rw [words_in (unhide HWRD i q1)] at q2
            rw [show ((bs[k]?.getD 0).toNat : Int) = bs[k]?.getD 0 by omega] at q2
            exact q2
          · rintro ⟨q1, q2⟩
            refine ⟨q1, ?_⟩
            rw [words_in (unhide HWRD i q1), show ((bs[k]?.getD 0).toNat : Int) = bs[k]?.getD 0 by omega]
            exact q2
        · constructor
          · intro q; have := hin q; omega
          · rintro ⟨q, -⟩; omega) (unhide HBDD).1 (fun i j h => (mkd_lt (unhide HLK) h).2) bs.length (Nat.le_refl _)
      have HFIN : Hid ((stP fs hs A.nl f l2 (fun k => K (bs[k]?.getD 0).toNat) bs.length).2 = true ↔ MatchA l r xs bs) := hst.2.2.trans (unhide HME).symm
      obtain ⟨y, hy⟩ : ∃ y, y = (stP fs hs A.nl f l2 (fun k => K (bs[k]?.getD 0).toNat) bs.length).2 := ⟨_, rfl⟩
      rw [← hy] at HFIN HAC
      have HBW := hide hBW
      have HW := hide hW
      clear hst hy hWk hrow hhol hcl hH hb3 hB3 hBW hW HWO
      go_wp2_with fail
      rw [← unhide HW]
      refine (unhide HAC).mono ?_
      rintro e w4 ⟨rfl, hb4⟩
      have HX : Hid (RetB (.returned (.bool y)) (MatchA l r xs bs) ∧ Below w.heap.size w w4) := ⟨⟨y, rfl, unhide HFIN⟩, (unhide HBW).trans (hb4.mono (unhide HBW).size)⟩
      clear hb4 HAC
      go_wp2
      go_ret
      exact unhide HX
    · have hgt : (20000 : Int) < (bs.length : Int) := by omega
      have HX : Hid (RetB (.returned (.bool false)) (MatchA l r xs bs) ∧ Below w.heap.size w w1) := ⟨RetB.no (fun h => hle h.2.1), unhide HB1⟩
      clear hok hsx hL hQ
      go_wp2
      go_ret
      exact unhide HX
  · have HX : Hid (RetB (.returned (.bool false)) (MatchA l r xs bs) ∧ Below w.heap.size w w1) := ⟨RetB.no (fun h => hbad h.1), unhide HB1⟩
    clear hbad
    go_wp2
    go_ret
    exact unhide HX

end Go.Proofs.YtfdkdjngeomcdaaDoor
