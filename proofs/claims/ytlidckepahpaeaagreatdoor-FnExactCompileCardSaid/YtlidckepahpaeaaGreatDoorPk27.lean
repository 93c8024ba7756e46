import Derived.Test.YtlidckepahpaeaaGreatDoorPk20
import Derived.Test.YtlidckepahpaeaaGreatDoorMr3
import Derived.Test.YtlidckepahpaeaaGreatDoorPk21
import Derived.Test.YtlidckepahpaeaaGreatDoorPk22
import Derived.BigRegion
namespace Go.Proofs.YtlidckepahpaeaaGreatDoor
open Go.RowKit
structure MkI (n N:Nat) (S:List Nat) (i:Nat) (bs fr tt ms ps mk:Nat→Nat) (T:List Nat):Prop where
 pi:PInv n N ms ps bs fr mk tt
 mq:∀ t,t<n→(ps t<mk (bs t)↔t ∈ S.take i)
 nd:T.Nodup
 tm:∀ b,b ∈ T↔b<N∧mk b ≠ fr b
theorem MkI.start {n N:Nat} {S:List Nat} {bs fr tt ms ps mk:Nat→Nat} (h:PInv n N ms ps bs fr mk tt) (hm:∀ b,b<N→mk b=fr b):MkI n N S 0 bs fr tt ms ps mk [] where
 pi:=h
 mq:=fun t ht => by
  obtain ⟨a1,a2,-⟩ := h.s1 t ht
  rw [hm _ a1]
  simp
  omega
 nd:=List.nodup_nil
 tm:=fun b => by
  simp
  exact hm b
theorem MkI.un {n N:Nat} {S:List Nat} {i:Nat} {bs fr tt ms ps mk:Nat→Nat} {T:List Nat} (h:MkI n N S i bs fr tt ms ps mk T) (hS:S.Nodup) {s:Nat} (hs:S[i]? = some s) (hn:s<n):mk (bs s)≤ps s:=by
 apply Nat.le_of_not_lt
 intro hlt
 have:=(h.mq s hn).1 hlt
 obtain ⟨j,hj⟩ := List.getElem?_of_mem this
 rw [List.getElem?_take] at hj
 split at hj
 ·have:=(List.getElem?_inj (by have:=(List.getElem?_eq_some_iff.1 hj).1; omega) hS).1 (hj.trans hs.symm)
  omega
 ·cases hj
theorem MkI.next {n N:Nat} {S:List Nat} {i:Nat} {bs fr tt ms ps mk:Nat→Nat} {T:List Nat} (h:MkI n N S i bs fr tt ms ps mk T) (hS:S.Nodup) {s:Nat} (hs:S[i]? = some s) (hn:s<n) :
  MkI n N S (i+1) bs fr tt (upd (upd ms (ps s) (ms (mk (bs s)))) (mk (bs s)) s) (upd (upd ps (ms (mk (bs s))) (ps s)) s (mk (bs s))) (upd mk (bs s) (mk (bs s)+1)) (if mk (bs s)=fr (bs s) then T ++ [bs s] else T):=by
 obtain ⟨k1,k2⟩ := h.pi.mark hn (h.un hS hs hn)
 have hb:=(h.pi.s1 s hn).1
 have hb1:=h.pi.b1 _ hb
 refine ⟨k1,fun t ht => ?_,?_,fun b => ?_⟩
 ·rw [k2 t ht,h.mq t ht,List.take_add_one,hs]
  simp
 ·split
  ·rename_i e
   rw [List.nodup_append]
   refine ⟨h.nd,by simp,fun x hx y hy => ?_⟩
   rw [List.mem_singleton] at hy
   subst hy
   intro e2
   subst e2
   exact ((h.tm _).1 hx).2 e
  ·exact h.nd
 ·by_cases e:b=bs s
  ·subst e
   rw [upd_at]
   split
   ·simp [hb]; omega
   ·rename_i e2
    have:=(h.tm (bs s)).2 ⟨hb,e2⟩
    simp [this,hb]; omega
  ·rw [upd_ne _ e]
   split
   ·simp [e,h.tm b]
   ·exact h.tm b
def SplitRet (O:Nat→Prop) (g mb mc pb pc bb bc:Nat) (w:World) (n N:Nat) (bs fr tt:Nat→Nat) (qs:List Int) (tk:Nat) (S:List Nat):Prop :=
 ∃ (N':Nat) (ms' ps' bs' fr' mk' tt':Nat→Nat) (kb kc:Nat) (qv:Value) (l:List Int),PtAt O g mb mc pb pc bb bc w n N' ms' ps' bs' fr' mk' tt' kb kc qv (qs ++ l) tk∧PInv n N' ms' ps' bs' fr' mk' tt'∧(∀ b,b<N'→mk' b=fr' b)∧(qs ++ l).length+1=N'∧(∀ y ∈ l,∃ x:Nat,y=(x:Nat)∧x<N') ∧
  CutH n (fun t => t ∈ S) bs bs' (fun x => ((x:Nat):Int) ∈ qs.drop tk) (fun x => ((x:Nat):Int) ∈ (qs ++ l).drop tk)∧(∀ t,t<n→fr (bs t)≤ps' t∧ps' t<tt (bs t))∧N≤N'
set_option maxHeartbeats 4000000 in
set_option maxRecDepth 100000 in
theorem split_any (O:Nat→Prop) (g mb mc pb pc bb bc:Nat) (w:World) (n N:Nat) (ms ps bs fr mk tt:Nat→Nat) (kb kc:Nat) (qv:Value) (qs:List Int) (tk:Nat) (sv:Value) (S:List Nat)
  (h:PtAt O g mb mc pb pc bb bc w n N ms ps bs fr mk tt kb kc qv qs tk) (hI:PInv n N ms ps bs fr mk tt) (hm:∀ b,b<N→mk b=fr b) (hO:∀ k,w.heap.size≤k→O k) (hn:n≤1024) (hq:qs.length+1=N) (htk:tk≤qs.length)
  (hs:∃ a c,sv = .slice a S.length c∧(0<S.length→∃ b o,a=some ⟨b,o,none⟩∧b<w.heap.size∧¬ O b∧∀ i s,S[i]? = some s→w.cell? ⟨b,o+i,none⟩ = some (.int .i64 (s:Nat)))) (hS:S.Nodup) (hl:∀ s ∈ S,s<n) :
  Calls Tryz.prog 113 #[.pointer (some ⟨g,0,none⟩),sv] w fun e w' => e = .returned (.tuple #[])∧FrO O w w'∧SplitRet O g mb mc pb pc bb bc w' n N bs fr tt qs tk S:=by
 obtain ⟨i0,hi0,hz0,hz1,hz2⟩ := info_parts Tryz.zinInt
 obtain ⟨sa,sc,rfl,hsc⟩ := hs
 obtain ⟨Ol,hOl⟩ : ∃ Ol:Nat→Prop,Ol=fun k => O k∧k<w.heap.size:=⟨_,rfl⟩
 have hL:PtAt Ol g mb mc pb pc bb bc w n N ms ps bs fr mk tt kb kc qv qs tk:=by
  rw [hOl]
  obtain ⟨o1,o2,o3,o4,o5⟩ := h.oo
  exact ⟨h.box,h.cap,h.rm,h.rp,h.rb,h.rk,h.rq,h.ng,h.ne,⟨⟨o1,h.lt⟩,⟨o2,h.rm.lt⟩,⟨o3,h.rp.lt⟩,⟨o4,h.rb.lt⟩,⟨o5,h.ltk⟩⟩,fun q hq => ⟨⟨(h.oq q hq).1,own_lt h.rq q hq⟩,(h.oq q hq).2⟩⟩
 have hlO:∀ k,Ol k→O k∧k<w.heap.size:=by rw [hOl]; exact fun k hk => hk
 have hM:=MkI.start (S:=S) hI hm
 have hNn:=hI.few
 have hSl:S.length≤n:=nodup_le n S hS hl
 have HL:=hide hL
 have HM:=hide hM
 have HSC:=hide hsc
 have HLO:=hide hlO
 have HO:=hide hO
 have HS:=hide hS
 have HLL:=hide hl
 have HMM:=hide hm
 clear hOl h hL hM hlO hsc hO hI hm
 go_enter Tryz.func113,Tryz.ntmps113
 go_wp2_with fail
 go_loopw [4,13] (fun tv iv wr => ∃ (i:Nat) (ms' ps' mk':Nat→Nat) (T:List Nat),i≤S.length∧iv = .int .i64 (i:Nat)∧MkI n N S i bs fr tt ms' ps' mk' T∧PtAt Ol g mb mc pb pc bb bc wr n N ms' ps' bs fr mk' tt kb kc qv qs tk∧wr.ownsRow w.heap.size 3 1 tv T.length ((T.map Int.ofNat).map mI)∧FrO (fun k => Ol k∨w.heap.size≤k) w wr) (fun _ iv _ => S.length - (intOf iv).toNat)
 case atStart => exact ⟨0,_,_,_,[],by omega,rfl,unhide HM,unhide HL,World.ownsRow_nil _ _ _ _,FrO.refl _ _⟩
 case round =>
  obtain ⟨i,ms',ps',mk',T,hi,rfl,hMk,hP,hown,hF⟩ := hrel
  clear HL HM
  by_cases hlt:i<S.length
  ·have hlt':(i:Int)<(S.length:Int):=by omega
   obtain ⟨sb,so,rfl,hsb,hsO,hsx⟩ := unhide HSC (by omega)
   obtain ⟨s,hs⟩ : ∃ s,S[i]? = some s:=⟨_,List.getElem?_eq_getElem hlt⟩
   have hsn:=hl s (List.mem_of_getElem? hs)
   have e0:wr.cell? ⟨sb,so+i,none⟩ = some (.int .i64 (s:Nat)):=by
    rw [World.cell?_of_block (a:=⟨sb,so+i,none⟩) (hF.block sb (fun k => by rcases k with k | k; exact hsO (unhide HLO _ k).1; omega))]
    exact hsx i s hs
   obtain ⟨c0,c1,c2,c3,-⟩ := hP.facts
   have c6:=hP.rb.cell hsn
   have c7:=hP.rp.cell hsn
   obtain ⟨hbN,-,-⟩ := hMk.pi.s1 s hsn
   have hb1:=hMk.pi.b1 _ hbN
   obtain ⟨b0,b1,b2,fk⟩ := hP.blk hbN
   have hsn':(s:Int)<(n:Int):=by omega
   have hbN':((bs s:Nat):Int)<(N:Int):=by omega
   have hun:=hMk.un (unhide HS) hs hsn
   have HMK:=hide (hMk.next (unhide HS) hs hsn)
   have HPI:=hide hMk.pi
   have HP:=hide hP
   have HOW:=hide hown
   have HF:=hide hF
   have hTl:T.length≤N:=nodup_le N T hMk.nd (fun b hb => ((hMk.tm b).1 hb).1)
   obtain ⟨ta,tc,rfl⟩ := own_is hown
   clear hMk hP hown hF hsx
   go_wp2_with fail
   go_quiet (fail)
   by_cases heq:mk' (bs s)=fr (bs s)
   ·have heq':((mk' (bs s):Nat):Int)=(fr (bs s):Nat):=by omega
    go_wp2_with (at_builtin; refine wpList_append_own_at _ rfl _ _ 26 rfl w.heap.size 3 i0 (.int .i64 0) 1 8 Tryz.underlying26 hi0 hz0 hz1 hz2 rfl (by decide) _ _ _ rfl ((unhide HOW).alloc _) ⟨wr.heap.size,0,none⟩ 1 1 [.int .i64 (bs s:Nat)] rfl rfl ?_ ?_ ?_ ?_ ?_ ?_)
    ·exact cell_1 (cell_new _ _ _)
    ·intro u hu; simp at hu; subst hu; rfl
    ·unfold maxLen; omega
    ·omega
    ·rw [sz_alloc]; have:=(unhide HF).size; show _≤wr.heap.size+1; omega
    intro v' w2 r1 r2 _ r3
    have HEQ:=hide heq
    clear heq heq'
    have hzr:=(unhide HF).size
    have hz2':=r2.size
    rw [sz_alloc] at hz2'
    have hkeep:∀ k,k<w.heap.size→w2.heap[k]? = wr.heap[k]? := fun k hk => (r2.block k (by rw [sz_alloc]; show k<wr.heap.size+1; omega) (fun e => by have:=((unhide HOW).lt k e.symm).1; omega)).trans ((below1 (wr.drewN nq) _).block k (by show k<wr.heap.size; omega))
    have hPV:=(unhide HP).keep (w':=w2) (fun k hk _ => hkeep k (unhide HLO k hk).2)
    have hFV:FrO (fun k => Ol k∨w.heap.size≤k) wr w2:=⟨r2.os,r2.tape,r2.output,by show wr.heap.size≤_; have:(wr.drewN nq).heap.size=wr.heap.size:=rfl; omega,fun k hk => hkeep k (by apply Nat.lt_of_not_le; intro e; exact hk (.inr e))⟩
    obtain ⟨ua,uc,rfl⟩ := own_is r1
    have HV:=hide r1
    have HFV:=hide hFV
    have HSW:=hide (swap_pt (hPV.keep (w':=w2.drew) (fun _ _ _ => rfl)) (unhide HPI) hsn hun)
    obtain ⟨c0,c1,c2,c3,-⟩ := hPV.facts
    have c6:=hPV.rb.cell hsn
    have c7:=hPV.rp.cell hsn
    obtain ⟨b0,b1,b2,fk⟩ := hPV.blk hbN
    clear r1 r2 r3 hkeep hPV hFV
    go_wp2_with fail
    refine wp_region_quiet_tail 12 (by kernel_rfl) (by kernel_rfl) ?_
    simp only [List.take_succ_cons,List.take_zero,List.drop_succ_cons,List.drop_zero]
    repeat (first | go_big_quiet_skip | (go_big_quiet_want; go_big_quiet_op; go_big_quiet_on))
    refine wpQuiet_nil ?_
    go_wp2_with fail
    refine (unhide HSW).mono ?_
    rintro e w5 ⟨rfl,hP5,hF5,hz5⟩
    obtain ⟨-,d1,-,fk5⟩ := hP5.blk hbN
    have f5:=fk5 (bs s * 3+1)
    have hP6:=hP5.setMk hbN (mk' (bs s)+1)
    have hF6:=hP5.fro (bs s * 3+1) (.int .i64 ((mk' (bs s)+1:Nat):Int))
    have hcast:((mk' (bs s)+1:Nat):Int)=(mk' (bs s):Nat)+1:=by omega
    rw [hcast] at hP6 hF6
    have HP6:=hide hP6
    have HF6:=hide hF6
    have HF5:=hide hF5
    clear hP5 hF5 hP6 hF6 fk5 c0 c1 c2 c3 c6 c7 b0 b1 b2 fk e0
    have hc5:IntKind.i64.wrap (((mk' (bs s):Nat):Int)+1)=(mk' (bs s):Nat)+1:=k64i (by omega) (by omega)
    go_wp2
    go_roundw
    case rel =>
     have hT:=unhide HMK
     rw [if_pos (unhide HEQ)] at hT
     refine ⟨i+1,_,_,_,T ++ [bs s],by omega,by go_num,hT,unhide HP6,?_,(unhide HF).trans ((unhide HFV).trans (FrO.trans (b:=w2.drew) (FrO.drew (FrO.refl _ _)) (FrO.mono (O:=Ol) ((unhide HF5).trans (unhide HF6)) (fun k hk => Or.inl hk))))⟩
     have e9:((T ++ [bs s]).map Int.ofNat).map mI=List.map (mI ∘ Int.ofNat) T ++ [Value.int .i64 (bs s:Nat)]:=by simp [mI]
     rw [e9,List.length_append]
     refine own_blk (w:=w2) (unhide HV) (fun q hq => ?_)
     have hlo:=((unhide HV).lt q hq).1
     have hno:¬ Ol q:=fun k => by have:=(unhide HLO q k).2; omega
     exact (((unhide HF5).trans (unhide HF6)).block q hno).trans rfl
    case measure => simp [intOf]; omega
   ·have heq':¬ ((mk' (bs s):Nat):Int)=(fr (bs s):Nat):=by omega
    have HSW:=hide (swap_pt ((unhide HP).keep (w':=(wr.drewN nq).drew) (fun _ _ _ => rfl)) (unhide HPI) hsn hun)
    go_wp2_with fail
    refine wp_region_quiet_tail 12 (by kernel_rfl) (by kernel_rfl) ?_
    simp only [List.take_succ_cons,List.take_zero,List.drop_succ_cons,List.drop_zero]
    repeat (first | go_big_quiet_skip | (go_big_quiet_want; go_big_quiet_op; go_big_quiet_on))
    refine wpQuiet_nil ?_
    go_wp2_with fail
    refine (unhide HSW).mono ?_
    rintro e w5 ⟨rfl,hP5,hF5,hz5⟩
    obtain ⟨-,d1,-,fk5⟩ := hP5.blk hbN
    have f5:=fk5 (bs s * 3+1)
    have hP6:=hP5.setMk hbN (mk' (bs s)+1)
    have hF6:=hP5.fro (bs s * 3+1) (.int .i64 ((mk' (bs s)+1:Nat):Int))
    have hcast:((mk' (bs s)+1:Nat):Int)=(mk' (bs s):Nat)+1:=by omega
    rw [hcast] at hP6 hF6
    have HP6:=hide hP6
    have HF6:=hide hF6
    have HF5:=hide hF5
    clear hP5 hF5 hP6 hF6 fk5 c0 c1 c2 c3 c6 c7 b0 b1 b2 fk e0
    have hc5:IntKind.i64.wrap (((mk' (bs s):Nat):Int)+1)=(mk' (bs s):Nat)+1:=k64i (by omega) (by omega)
    go_wp2
    go_roundw
    case rel =>
     have hT:=unhide HMK
     rw [if_neg heq] at hT
     refine ⟨i+1,_,_,_,T,by omega,by go_num,hT,unhide HP6,?_,(unhide HF).trans (((fro_drewN wr nq).trans (FrO.drew (FrO.refl _ _))).trans (FrO.mono (O:=Ol) ((unhide HF5).trans (unhide HF6)) (fun k hk => Or.inl hk)))⟩
     refine own_blk (w:=wr) (unhide HOW) (fun q hq => ?_)
     have hlo:=((unhide HOW).lt q hq).1
     have hno:¬ Ol q:=fun k => by have:=(unhide HLO q k).2; omega
     exact (((unhide HF5).trans (unhide HF6)).block q hno).trans rfl
    case measure => simp [intOf]; omega
  ·have hlt':¬ (i:Int)<(S.length:Int):=by omega
   obtain rfl:i=S.length:=by omega
   obtain ⟨w1,rfl⟩ : ∃ w1,w1=wr:=⟨_,rfl⟩
   have hSm:∀ t,t<n→(ps' t<mk' (bs t)↔t ∈ S):=fun t ht => by rw [hMk.mq t ht,List.take_length]
   have hTl:T.length≤N:=nodup_le N T hMk.nd (fun b hb => ((hMk.tm b).1 hb).1)
   obtain ⟨O2,hO2⟩ : ∃ O2,O2=Sk O w.heap.size w1.heap.size:=⟨_,rfl⟩
   have hP2:PtAt O2 g mb mc pb pc bb bc w1 n N ms' ps' bs fr mk' tt kb kc qv qs tk:=hP.mono (fun k hk => by rw [hO2]; exact ⟨(unhide HLO k hk).1,.inl (unhide HLO k hk).2⟩)
   have hT2:∀ k,w1.heap.size≤k→O2 k:=fun k hk => by rw [hO2]; exact ⟨unhide HO k (by have:=hF.size; omega),.inr hk⟩
   have hS2:∀ k,O2 k→O k:=by rw [hO2]; exact Sk.sub
   have hN2:∀ k,w.heap.size≤k→k<w1.heap.size→¬ O2 k:=fun k h1 h2 => by rw [hO2]; rintro ⟨-,h3⟩; omega
   have hSp:SpI n N (fun t => t ∈ S) bs fr mk' tt (fun b => b ∈ T.drop 0) N bs fr mk' tt:=by
    have e:(fun b => b<N∧mk' b ≠ fr b)=(fun b => b ∈ T.drop 0):=funext fun b => propext (by rw [List.drop_zero]; exact (hMk.tm b).symm)
    rw [← e]
    exact SpI.start hMk.pi hSm
   have hFO:FrO O w w1:=hF.mono (fun k hk => by rcases hk with hk | hk; exact (unhide HLO k hk).1; exact unhide HO k hk)
   obtain ⟨ta,tc,rfl⟩ := own_is hown
   have HMK:=hide hMk
   have HSM:=hide hSm
   have HP2:=hide hP2
   have T2:=hide hT2
   have S2:=hide hS2
   have N2:=hide hN2
   have HSP:=hide hSp
   have HOW:=hide hown
   have HFO:=hide hFO
   clear hMk hSm hP2 hT2 hS2 hN2 hSp hown hFO hP hF hO2 HSC
   go_wp2_with fail
   go_loopw [66] (fun iv wq => ∃ (j N':Nat) (bs' fr' mk2 tt':Nat→Nat) (kb' kc':Nat) (qv':Value) (l:List Int),j≤T.length∧iv = .int .i64 (j:Nat)∧PtAt O2 g mb mc pb pc bb bc wq n N' ms' ps' bs' fr' mk2 tt' kb' kc' qv' (qs ++ l) tk∧PInv n N' ms' ps' bs' fr' mk2 tt'∧SpI n N (fun t => t ∈ S) bs fr mk' tt (fun b => b ∈ T.drop j) N' bs' fr' mk2 tt'∧(qs ++ l).length+1=N'∧(∀ x,N≤x→x<N'→((x:Nat):Int) ∈ l)∧(∀ y ∈ l,∃ x:Nat,y=(x:Nat)∧x<N')∧FrO O2 w1 wq) (fun iv _ => T.length - (intOf iv).toNat)
   case atStart => exact ⟨0,N,bs,fr,mk',tt,kb,kc,qv,[],by omega,rfl,by rw [List.append_nil]; exact unhide HP2,(unhide HMK).pi,unhide HSP,by rw [List.append_nil]; exact hq,fun x h1 h2 => by omega,(fun y hy => by cases hy),FrO.refl _ _⟩
   case round =>
    clear HSP HP2
    obtain ⟨j,N',bs',fr',mk2,tt',kb',kc',qv',l,hj,rfl,hPt,hPi,hSp,hql,hln,hly,hFq⟩ := hrel
    by_cases hlt:j<T.length
    ·have hlt':(j:Int)<(T.length:Int):=by omega
     obtain ⟨b,hb⟩ : ∃ b,T[j]? = some b:=⟨_,List.getElem?_eq_getElem hlt⟩
     have hdrop:T.drop j=b :: T.drop (j+1):=by
      rw [List.drop_eq_getElem_cons hlt]
      rw [List.getElem?_eq_getElem hlt] at hb
      rw [Option.some.inj hb]
     have hUb:b ∈ T.drop j:=by rw [hdrop]; exact .head _
     have hnd:b ∉ T.drop (j+1):=by
      have:=((unhide HMK).nd.sublist (List.drop_sublist j T))
      rw [hdrop,List.nodup_cons] at this
      exact this.1
     have hUe:(fun x => x ∈ T.drop j∧x ≠ b)=(fun x => x ∈ T.drop (j+1)):=funext fun x => propext ⟨fun ⟨k1,k2⟩ => by
      rw [hdrop] at k1
      rcases List.mem_cons.1 k1 with k | k
      ·exact absurd k k2
      ·exact k,fun k => ⟨by rw [hdrop]; exact .tail _ k,fun e => hnd (e ▸ k)⟩⟩
     have hbN:=(hSp.un b hUb).1
     have hle:=hSp.le
     have hfew:=hPi.few
     obtain ⟨tb,tcap,e9,hcell⟩ := own_at (unhide HOW) (by omega)
     cases e9
     have htb:=(unhide HOW).lt tb rfl
     have x0:wr.cell? ⟨tb,j,none⟩ = some (.int .i64 (b:Nat)):=by
      rw [World.cell?_of_block (a:=⟨tb,j,none⟩) (hFq.block tb (unhide N2 tb htb.1 htb.2)),hcell j hlt,List.getElem?_map,List.getElem?_map,hb]
      rfl
     have hsz:=hFq.size
     have HCA:=hide (cut_any O2 g mb mc pb pc bb bc wr n N' ms' ps' bs' fr' mk2 tt' kb' kc' qv' (qs ++ l) tk b hPt hPi (fun k hk => unhide T2 k (by omega)) (by omega) hn (by omega) (by omega))
     have HB:=hide hPi
     have HC:=hide hSp
     have HD:=hide hln
     have HE:=hide hly
     have HG:=hide hFq
     have HUE:=hide hUe
     clear hPt hPi hSp hln hly hFq hcell hUe hdrop
     go_wp2_with fail
     refine (unhide HCA).mono ?_
     rintro e w3 ⟨rfl,hF3,hR3⟩
     have HF3:=hide hF3
     have HR3:=hide hR3
     clear hF3 hR3 HCA x0
     go_wp2
     go_roundw
     case rel =>
      rcases unhide HR3 with ⟨kb2,kc2,qv2,hw2,hP3⟩ | ⟨kb2,kc2,qv2,o1,o2,r1,r2,g1,g2,hcs,hP3⟩
      ·refine ⟨j+1,N',bs',fr',_,tt',kb2,kc2,qv2,l,by omega,by go_num,hP3,(unhide HB).unmark (by omega),?_,hql,unhide HD,unhide HE,(unhide HG).trans (unhide HF3)⟩
       rw [← unhide HUE]
       exact (unhide HC).unmark (unhide HB) (unhide HSM) hUb hw2
      ·have ho:(o1=fr' b∧o2=mk2 b∧r1=mk2 b∧r2=tt' b)∨(o1=mk2 b∧o2=tt' b∧r1=fr' b∧r2=mk2 b):=by
        rcases hcs with ⟨k1,k2,k3,k4,-⟩ | ⟨k1,k2,k3,k4,-⟩
        ·exact .inl ⟨k1,k2,k3,k4⟩
        ·exact .inr ⟨k1,k2,k3,k4⟩
       obtain ⟨z1,z2,z3,z4⟩ := (unhide HB).cut (b:=b) (by omega) g1 g2 ho (bs':=fun t => if o1≤ps' t∧ps' t<o2 then N' else bs' t) (fun t _ => rfl)
       refine ⟨j+1,N'+1,_,_,_,_,kb2,kc2,qv2,l ++ [(N':Int)],by omega,by go_num,by rw [← List.append_assoc]; exact hP3,z1,?_,by rw [← List.append_assoc,List.length_append]; simp only [List.length_singleton]; omega,fun x h1 h2 => ?_,fun y hy => ?_,(unhide HG).trans (unhide HF3)⟩
       ·rw [← unhide HUE]
        exact (unhide HC).cut (unhide HB) (unhide HSM) hUb z2 z3 z4
       ·by_cases e:x=N'
        ·subst e; exact List.mem_append_right _ (.head _)
        ·exact List.mem_append_left _ (unhide HD x h1 (by omega))
       ·rcases List.mem_append.1 hy with k | k
        ·obtain ⟨x,k1,k2⟩ := unhide HE y k
         exact ⟨x,k1,by omega⟩
        ·rw [List.mem_singleton] at k
         exact ⟨N',k,by omega⟩
     case measure => simp [intOf]; omega
    ·have hlt':¬ (j:Int)<(T.length:Int):=by omega
     obtain rfl:j=T.length:=by omega
     have HA:=hide hPt
     have HB:=hide hPi
     have HC:=hide hSp
     have HD:=hide hln
     have HE:=hide hly
     have HG:=hide hFq
     clear hPt hPi hSp hln hly hFq
     go_wp2_with fail
     first | (refine bodyPost_ret (results_none rfl _ _ _) rfl ?_) | (refine bodyPost_end (results_none rfl _ _ _) rfl ?_)
     have hU:∀ b,¬ b ∈ T.drop T.length:=fun b hb => by rw [List.drop_length] at hb; cases hb
     refine ⟨rfl,(unhide HFO).trans ((unhide HG).mono (unhide S2)),N',ms',ps',bs',fr',mk2,tt',kb',kc',qv',l,(unhide HA).mono (unhide S2),unhide HB,fun b hb => (unhide HC).um b hb (hU b),hql,unhide HE,(unhide HC).fin hU (fun x hx => ?_) (fun x h1 h2 => ?_) (fun p hp => ((unhide HB).s1 p hp).1),fun t ht => ?_,(unhide HC).le⟩
     ·rw [List.drop_append_of_le_length htk]; exact List.mem_append_left _ hx
     ·rw [List.drop_append_of_le_length htk]; exact List.mem_append_right _ (unhide HD x h1 h2)
     ·exact ((unhide HMK).pi.s1 t ht).2
theorem app_rows {w:World} {ops:Array Oper} {rest:List Oper} {o:Oper} {a:Act} {Q:Exit→Act→World→Prop} (hgd:o.guard=none) (s x:Operand)
  (ho:o.op = .call { callee:=.builtin .append,args:=#[s,x],argTypes:=#[26,26] }) (base lo:Nat) (v1 v2:Value) (hs:a.eval s=v1) (hx:a.eval x=v2) (xs ys:List Nat)
  (h1:w.ownsRow base 3 1 v1 xs.length (xs.map mN)) (h2:w.ownsRow lo 3 1 v2 ys.length (ys.map mN)) (hb:base≤w.heap.size) (hl:xs.length+ys.length≤1000000)
  (h:∀ v' w',w'.ownsRow base 3 1 v' (xs ++ ys).length ((xs ++ ys).map mN)→w.grownBy w' v1.ownBlock→(v'.ownBlock=v1.ownBlock∨v'.ownBlock=some w.heap.size)→wpList Tryz.prog ops Q rest (a.put o.dst v') w'):wpList Tryz.prog ops Q (o :: rest) a w:=by
 obtain ⟨i0,hi,hz0,hz1,hz2⟩ := info_parts Tryz.zinInt
 rcases Nat.eq_zero_or_pos ys.length with h0 | hp
 ·obtain ⟨sa,sc,rfl⟩ := own_is h2
  have e:ys = []:=List.eq_nil_of_length_eq_zero h0
  subst e
  rcases h2.2 with ⟨e2,-⟩ | ⟨g,cap,cur,e2,-⟩
  ·rw [e2] at hx
   refine wpList_append_none_c hgd s x 26 ho base 3 i0 1 Tryz.underlying26 hi v1 xs.length (xs.map mN) hs h1 0 hx (h v1 w (by rw [List.append_nil]; exact h1) ⟨rfl,rfl,rfl,Nat.le_refl _,fun _ _ _ => rfl⟩ (.inl rfl))
  ·rw [e2] at hx
   refine wpList_append_own_at w hgd s x 26 ho base 3 i0 (.int .i64 0) 1 8 Tryz.underlying26 hi hz0 hz1 hz2 rfl (by decide) v1 xs.length (xs.map mN) hs h1 ⟨g,0,none⟩ 0 cap [] hx rfl (fun j u hu => by simp at hu) (fun u hu => by cases hu) (by unfold maxLen; omega) (by omega) hb ?_
   intro v' w' r1 r2 _ r3
   exact h v' w' (by rw [List.append_nil]; simpa using r1) r2 r3
 ·obtain ⟨g,cap,e2,hc⟩ := own_at h2 hp
  subst e2
  refine wpList_append_own_at w hgd s x 26 ho base 3 i0 (.int .i64 0) 1 8 Tryz.underlying26 hi hz0 hz1 hz2 rfl (by decide) v1 xs.length (xs.map mN) hs h1 ⟨g,0,none⟩ ys.length cap (ys.map mN) hx (by simp) (fun j u hu => ?_) (fun u hu => ?_) (by unfold maxLen; omega) (by omega) hb ?_
  ·have hj:j<ys.length:=by
    have:=(List.getElem?_eq_some_iff.1 hu).1
    simpa using this
   have e3:(⟨g,0,none⟩ : Addr).add j=⟨g,0+j,none⟩ := by cases j <;> rfl
   rw [e3,Nat.zero_add,hc j hj]
   exact hu
  ·obtain ⟨y,-,rfl⟩ := List.mem_map.1 hu
   rfl
  ·intro v' w' r1 r2 _ r3
   refine h v' w' ?_ r2 r3
   rw [List.length_append,List.map_append]
   exact r1
structure TaS (O:Nat→Prop) (g mb mc pb pc bb bc:Nat) (A:Tb) (w:World) (N:Nat) (ms ps bs fr mk tt:Nat→Nat) (kb kc:Nat) (qv:Value) (qs:List Int) (tk:Nat) (T:Nat→Prop) (c:Nat):Prop where
 pt:PtAt O g mb mc pb pc bb bc w A.n N ms ps bs fr mk tt kb kc qv qs tk
 pi:PInv A.n N ms ps bs fr mk tt
 um:∀ b,b<N→mk b=fr b
 ql:qs.length+1=N
 tl:tk≤qs.length
 qn:∀ y ∈ qs,∃ x:Nat,y=(x:Nat)∧x<N
 hop:Hop A bs (fun x => ((x:Nat):Int) ∈ qs.drop tk) T c
structure Stc (n:Nat) (ps bs:Nat→Nat) (T:Nat→Prop) (lo hi:Nat):Prop where
 le:lo<hi∧hi≤n
 mem:∀ t,t<n→(lo≤ps t∧ps t<hi↔T t)
 cl:∀ p q,p<n→q<n→bs p=bs q→(T p↔T q)
theorem split_ta {O:Nat→Prop} {g mb mc pb pc bb bc:Nat} {A:Tb} {w:World} {N:Nat} {ms ps bs fr mk tt:Nat→Nat} {kb kc:Nat} {qv:Value} {qs:List Int} {tk:Nat} {T:Nat→Prop} {c lo hi:Nat} (h:TaS O g mb mc pb pc bb bc A w N ms ps bs fr mk tt kb kc qv qs tk T c) (hst:Stc A.n ps bs T lo hi)
  (hw:A.Wf) (hf:A.Full) (hn:A.n≤1024) (hc:c<A.k) (hO:∀ k,w.heap.size≤k→O k) (sv:Value) (S:List Nat) (hS:S.Nodup) (hm:∀ p,p ∈ S↔p<A.n∧T (A.nx p c))
  (hs:∃ a c,sv = .slice a S.length c∧(0<S.length→∃ b o,a=some ⟨b,o,none⟩∧b<w.heap.size∧¬ O b∧∀ i s,S[i]? = some s→w.cell? ⟨b,o+i,none⟩ = some (.int .i64 (s:Nat)))) :
  Calls Tryz.prog 113 #[.pointer (some ⟨g,0,none⟩),sv] w fun e w' => e = .returned (.tuple #[])∧FrO O w w'∧∃ (N':Nat) (ms' ps' bs' fr' mk' tt':Nat→Nat) (kb' kc':Nat) (qv':Value) (qs':List Int),TaS O g mb mc pb pc bb bc A w' N' ms' ps' bs' fr' mk' tt' kb' kc' qv' qs' tk T (c+1)∧Stc A.n ps' bs' T lo hi:=by
 refine (split_any O g mb mc pb pc bb bc w A.n N ms ps bs fr mk tt kb kc qv qs tk sv S h.pt h.pi h.um hO hn h.ql h.tl hs hS (fun s k => ((hm s).1 k).1)).mono ?_
 rintro e w' ⟨rfl,hF,N',ms',ps',bs',fr',mk',tt',kb',kc',qv',l,p1,p2,p3,p4,p5,p6,p7,p8⟩
 have p6':CutH A.n (fun p => T (A.nx p c)) bs bs' (fun x => ((x:Nat):Int) ∈ qs.drop tk) (fun x => ((x:Nat):Int) ∈ (qs ++ l).drop tk):=by
  refine ⟨fun p q hp hq => ?_,p6.keep,p6.new⟩
  rw [p6.same p q hp hq,hm p,hm q]
  simp [hp,hq]
 refine ⟨rfl,hF,N',ms',ps',bs',fr',mk',tt',kb',kc',qv',qs ++ l,⟨p1,p2,p3,p4,?_,fun y hy => ?_,h.hop.cut hw hf hc p6'⟩,⟨hst.le,fun t ht => ?_,fun p q hp hq e => hst.cl p q hp hq ((p6.same p q hp hq).1 e).1⟩⟩
 ·rw [List.length_append]; have:=h.tl; omega
 ·rcases List.mem_append.1 hy with k | k
  ·obtain ⟨x,e,hx⟩ := h.qn y k
   exact ⟨x,e,by omega⟩
  ·exact p5 y k
 ·-- the place now,within the block it had
  obtain ⟨k1,k2⟩ := p7 t ht
  have hb:=h.pi.s1 t ht
  have hb1:=h.pi.b1 _ hb.1
  obtain ⟨m1,m2⟩ := h.pi.m1 (ps' t) (by omega)
  have e:=h.pi.s2 (ms (ps' t)) (bs t) m1 hb.1 (by omega) (by omega)
  rw [← hst.cl _ _ m1 ht e,← hst.mem _ m1,m2]
theorem pop_ta {O:Nat→Prop} {g mb mc pb pc bb bc:Nat} {A:Tb} {w:World} {N:Nat} {ms ps bs fr mk tt:Nat→Nat} {kb kc:Nat} {qv:Value} {qs:List Int} {tk:Nat} {T:Nat→Prop} (h:TaS O g mb mc pb pc bb bc A w N ms ps bs fr mk tt kb kc qv qs tk T A.k) (hn:A.n≤1024) :
  Calls Tryz.prog 94 #[.pointer (some ⟨g,4,none⟩)] w fun e w' => FrO O w w' ∧
   ((tk=qs.length∧e = .returned (.tuple #[.int .i64 0,.bool false])∧TaS O g mb mc pb pc bb bc A w' N ms ps bs fr mk tt kb kc qv qs tk T A.k) ∨
    (tk<qs.length∧∃ b:Nat,b<N∧e = .returned (.tuple #[.int .i64 (b:Nat),.bool true])∧TaS O g mb mc pb pc bb bc A w' N ms ps bs fr mk tt kb kc qv qs (tk+1) (fun q => bs q=b) 0)):=by
 obtain ⟨-,-,-,-,c4,c5,fz⟩ := h.pt.facts
 obtain ⟨oa,oc,rfl⟩ := own_is h.pt.rq
 have hq:=h.ql
 have hfew:=h.pi.few
 by_cases e:tk=qs.length
 ·refine (pop_none g 4 oa qs.length oc w c4 (by rw [← e]; exact c5)).mono ?_
  rintro x w' ⟨rfl,q,rfl⟩
  exact ⟨fro_drewN w q,.inl ⟨e,rfl,⟨h.pt.drewN q,h.pi,h.um,h.ql,h.tl,h.qn,h.hop⟩⟩⟩
 ·have hlt:tk<qs.length:=by have:=h.tl; omega
  obtain ⟨qb,qc,e2,hcell⟩ := own_at h.pt.rq (by omega)
  cases e2
  obtain ⟨y,hy⟩ : ∃ y,qs[tk]? = some y:=⟨_,List.getElem?_eq_getElem hlt⟩
  obtain ⟨b,rfl,hb⟩ := h.qn y (List.mem_of_getElem? hy)
  refine (pop_some g 4 qb 0 tk (b:Nat) qs.length oc w (by omega) hlt c4 c5 (by rw [Nat.zero_add,hcell tk hlt,List.getElem?_map,hy]; rfl) (fz 5)).mono ?_
  rintro x w' ⟨rfl,q,rfl⟩
  have k1:=(h.pt.drewN q).setT (tk+1)
  have ec:(((tk+1:Nat)):Int)=(tk:Int)+1:=by omega
  rw [ec] at k1
  have hdrop:qs.drop tk=(b:Int) :: qs.drop (tk+1):=by
   rw [List.drop_eq_getElem_cons hlt]
   rw [List.getElem?_eq_getElem hlt] at hy
   rw [Option.some.inj hy]
  refine ⟨(fro_drewN w q).trans ((obk_put _ _).fro h.pt.oo.1),.inr ⟨hlt,b,hb,rfl,⟨k1,h.pi,h.um,h.ql,by omega,h.qn,h.hop.pop (fun x hx => ?_)⟩⟩⟩
  rw [hdrop] at hx
  rcases List.mem_cons.1 hx with k | k
  ·exact .inl (by omega)
  ·exact .inr k
structure RcAt (w0 w:World) (b0:Nat) (cl nx ac:Value) (k:Nat) (ks o:List Nat) (tk:Nat) (ys:List Nat) (zs:List Bool) (qv nv av:Value):Prop where
 eb:b0=w0.heap.size
 d:Row4 w b0 29 cl (.int .i64 (k:Nat)) nx ac
 res:∃ F,w.rowIs (b0+1) 29 4 F
 out:Row4 w (b0+2) 29 cl (.int .i64 (k:Nat)) nv av
 num:NumAt 3 w (b0+4) (ks.map mN)
 kb:w.rowIs (b0+5) 165 1 (fun _ => .map (some (b0+4)))
 q:w.rowIs (b0+6) 169 2 (fun j => [qv,.int .i64 (tk:Nat)].getD j undef)
 oq:w.ownsRow (b0+7) 3 1 qv o.length (o.map mN)
 on:w.ownsRow (b0+7) 3 1 nv ys.length (ys.map mN)
 oa:w.ownsRow (b0+7) 4 1 av zs.length (zs.map mT)
 qn:∀ r,qv.ownBlock=some r→nv.ownBlock ≠ some r∧av.ownBlock ≠ some r
 na:∀ r,nv.ownBlock=some r→av.ownBlock ≠ some r
 bl:Below b0 w0 w
 sz:b0+7≤w.heap.size
section
variable {w0 w w':World} {b0:Nat} {cl nx ac:Value} {k:Nat} {ks o:List Nat} {tk:Nat} {ys:List Nat} {zs:List Bool} {qv nv av:Value}
theorem Row4.put3' {w:World} {b:Nat} {t:TypeId} {c0 c1 c2 c3 u:Value} (h:Row4 w b t c0 c1 c2 c3):Row4 (w.setCell ⟨b,3,none⟩ u) b t c0 c1 c2 u:=(World.rowIs.set h 3 u).congr (fun j hj => by
 match j,hj with
 | 0,_ => rfl
 | 1,_ => rfl
 | 2,_ => rfl
 | 3,_ => rfl)
theorem row2_put1 {W:World} {b:Nat} {t:TypeId} {x y u:Value} (h:W.rowIs b t 2 (fun j => [x,y].getD j undef)):(W.setCell ⟨b,1,none⟩ u).rowIs b t 2 (fun j => [x,u].getD j undef):=(h.set 1 u).congr (fun j hj => by
 match j,hj with
 | 0,_ => rfl
 | 1,_ => rfl)
theorem row2_put0 {W:World} {b:Nat} {t:TypeId} {x y u:Value} (h:W.rowIs b t 2 (fun j => [x,y].getD j undef)):(W.setCell ⟨b,0,none⟩ u).rowIs b t 2 (fun j => [u,y].getD j undef):=(h.set 0 u).congr (fun j hj => by
 match j,hj with
 | 0,_ => rfl
 | 1,_ => rfl)
theorem RcAt.keep (h:RcAt w0 w b0 cl nx ac k ks o tk ys zs qv nv av) (hb:Below w.heap.size w w'):RcAt w0 w' b0 cl nx ac k ks o tk ys zs qv nv av:=by
 have hz:=h.sz
 have e:∀ k,k<w.heap.size→w'.heap[k]? = w.heap[k]? := fun k hk => hb.block k hk
 obtain ⟨F,hF⟩ := h.res
 exact ⟨h.eb,World.rowIs.of_block h.d (e _ (by omega)),⟨F,hF.of_block (e _ (by omega))⟩,World.rowIs.of_block h.out (e _ (by omega)),h.num.keep (e _ (by omega)),h.kb.of_block (e _ (by omega)),h.q.of_block (e _ (by omega)),own_blk h.oq (fun r hr => e r (own_lt h.oq r hr)),own_blk h.on (fun r hr => e r (own_lt h.on r hr)),own_blk h.oa (fun r hr => e r (own_lt h.oa r hr)),h.qn,h.na,h.bl.trans (hb.mono (by omega)),by have:=hb.size; omega⟩
theorem RcAt.looked {ks':List Nat} (h:RcAt w0 w b0 cl nx ac k ks o tk ys zs qv nv av) (hf:FrO (OneB w (b0+4)) w w') (hn:NumAt 3 w' (b0+4) (ks'.map mN)):RcAt w0 w' b0 cl nx ac k ks' o tk ys zs qv nv av:=by
 have hz:=h.sz
 have e:∀ k,k<w.heap.size→k ≠ b0+4→w'.heap[k]? = w.heap[k]? := fun k hk hne => hf.block k (by rintro (h1 | h1) <;> omega)
 obtain ⟨F,hF⟩ := h.res
 exact ⟨h.eb,World.rowIs.of_block h.d (e _ (by omega) (by omega)),⟨F,hF.of_block (e _ (by omega) (by omega))⟩,World.rowIs.of_block h.out (e _ (by omega) (by omega)),hn,h.kb.of_block (e _ (by omega) (by omega)),h.q.of_block (e _ (by omega) (by omega)),own_blk h.oq (fun r hr => e r (own_lt h.oq r hr) (by have:=(h.oq.lt r hr).1; omega)),own_blk h.on (fun r hr => e r (own_lt h.on r hr) (by have:=(h.on.lt r hr).1; omega)),own_blk h.oa (fun r hr => e r (own_lt h.oa r hr) (by have:=(h.oa.lt r hr).1; omega)),h.qn,h.na,⟨hf.os.trans h.bl.os,hf.tape.trans h.bl.tape,hf.output.trans h.bl.output,Nat.le_trans h.bl.size hf.size,fun k hk => (e k (by have:=h.bl.size; have:=h.eb; omega) (by omega)).trans (h.bl.block k hk)⟩,by have:=hf.size; omega⟩
theorem RcAt.popd (h:RcAt w0 w b0 cl nx ac k ks o tk ys zs qv nv av) (q:Nat):RcAt w0 ((w.drewN q).setCell ⟨b0+6,1,none⟩ (.int .i64 ((tk:Int)+1))) b0 cl nx ac k ks o (tk+1) ys zs qv nv av:=by
 have hz:=h.sz
 have e:∀ k,k ≠ b0+6→((w.drewN q).setCell ⟨b0+6,1,none⟩ (.int .i64 ((tk:Int)+1))).heap[k]? = w.heap[k]? := fun k hk => Below.heap_setCell _ _ _ _ (by show k ≠ b0+6; exact hk)
 obtain ⟨F,hF⟩ := h.res
 refine ⟨h.eb,World.rowIs.of_block h.d (e _ (by omega)),⟨F,hF.of_block (e _ (by omega))⟩,World.rowIs.of_block h.out (e _ (by omega)),h.num.keep (e _ (by omega)),h.kb.of_block (e _ (by omega)),?_,own_blk h.oq (fun r hr => e r (by have:=(h.oq.lt r hr).1; omega)),own_blk h.on (fun r hr => e r (by have:=(h.on.lt r hr).1; omega)),own_blk h.oa (fun r hr => e r (by have:=(h.oa.lt r hr).1; omega)),h.qn,h.na,⟨h.bl.os,h.bl.tape,h.bl.output,by rw [sz_put]; exact h.bl.size,fun k hk => (e k (by omega)).trans (h.bl.block k hk)⟩,by rw [sz_put]; exact hz⟩
 exact row2_put1 (W:=w.drewN q) (h.q.of_block rfl)
theorem grown_old {W w2:World} {v:Value} (hW:Below w.heap.size w W) (r2:W.grownBy w2 v.ownBlock):∀ k,k<w.heap.size→v.ownBlock ≠ some k→w2.heap[k]? = w.heap[k]? := fun k hk hne => (r2.block k (by have:=hW.size; omega) (fun e => hne e.symm)).trans (hW.block k hk)
theorem RcAt.pushQ {W w2:World} {v':Value} {x:Nat} (h:RcAt w0 w b0 cl nx ac k ks o tk ys zs qv nv av) (hW:Below w.heap.size w W) (r1:w2.ownsRow (b0+7) 3 1 v' (o ++ [x]).length ((o ++ [x]).map mN)) (r2:W.grownBy w2 qv.ownBlock) (r3:∀ q,v'.ownBlock=some q→qv.ownBlock=some q∨w.heap.size≤q) :
  RcAt w0 (w2.setCell ⟨b0+6,0,none⟩ v') b0 cl nx ac k ks (o ++ [x]) tk ys zs v' nv av:=by
 have hz:=h.sz
 have hz2:=r2.size
 have hzW:=hW.size
 have k2:=grown_old hW r2
 have nq:∀ k,k<b0+7→qv.ownBlock ≠ some k:=fun k hk e => by have:=(h.oq.lt k e).1; omega
 have e:∀ k,k<w.heap.size→k ≠ b0+6→qv.ownBlock ≠ some k→(w2.setCell ⟨b0+6,0,none⟩ v').heap[k]? = w.heap[k]? := fun k hk hne hq => (Below.heap_setCell _ _ _ _ (by show k ≠ b0+6; exact hne)).trans (k2 k hk hq)
 have lo:∀ k,k<b0+7→k ≠ b0+6→(w2.setCell ⟨b0+6,0,none⟩ v').heap[k]? = w.heap[k]? := fun k hk hne => e k (by omega) hne (nq k hk)
 obtain ⟨F,hF⟩ := h.res
 refine ⟨h.eb,World.rowIs.of_block h.d (lo _ (by omega) (by omega)),⟨F,hF.of_block (lo _ (by omega) (by omega))⟩,World.rowIs.of_block h.out (lo _ (by omega) (by omega)),h.num.keep (lo _ (by omega) (by omega)),h.kb.of_block (lo _ (by omega) (by omega)),row2_put0 (h.q.of_block (k2 _ (by omega) (nq _ (by omega)))),own_blk r1 (fun r hr => Below.heap_setCell _ _ _ _ (by show r ≠ b0+6; have:=(r1.lt r hr).1; omega)),own_blk h.on (fun r hr => e r (own_lt h.on r hr) (by have:=(h.on.lt r hr).1; omega) (fun e2 => (h.qn r e2).1 hr)),own_blk h.oa (fun r hr => e r (own_lt h.oa r hr) (by have:=(h.oa.lt r hr).1; omega) (fun e2 => (h.qn r e2).2 hr)),fun r hr => ?_,h.na,⟨r2.os.trans (hW.os.trans h.bl.os),r2.tape.trans (hW.tape.trans h.bl.tape),r2.output.trans (hW.output.trans h.bl.output),by rw [sz_put]; have:=h.bl.size; omega,fun k hk => (lo k (by omega) (by omega)).trans (h.bl.block k hk)⟩,by rw [sz_put]; omega⟩
 rcases r3 r hr with e2 | e2
 ·exact h.qn r e2
 ·exact ⟨fun e3 => by have:=own_lt h.on r e3; omega,fun e3 => by have:=own_lt h.oa r e3; omega⟩
theorem RcAt.pushN {W w2:World} {v':Value} {x:Nat} (h:RcAt w0 w b0 cl nx ac k ks o tk ys zs qv nv av) (hW:Below w.heap.size w W) (r1:w2.ownsRow (b0+7) 3 1 v' (ys ++ [x]).length ((ys ++ [x]).map mN)) (r2:W.grownBy w2 nv.ownBlock) (r3:∀ q,v'.ownBlock=some q→nv.ownBlock=some q∨w.heap.size≤q) :
  w2.cell? ⟨b0+2,2,none⟩ = some nv∧w2.frozen? ⟨b0+2,2,none⟩ = false∧RcAt w0 (w2.setCell ⟨b0+2,2,none⟩ v') b0 cl nx ac k ks o tk (ys ++ [x]) zs qv v' av:=by
 have hz:=h.sz
 have hz2:=r2.size
 have hzW:=hW.size
 have k2:=grown_old hW r2
 have nq:∀ k,k<b0+7→nv.ownBlock ≠ some k:=fun k hk e => by have:=(h.on.lt k e).1; omega
 have e:∀ k,k<w.heap.size→k ≠ b0+2→nv.ownBlock ≠ some k→(w2.setCell ⟨b0+2,2,none⟩ v').heap[k]? = w.heap[k]? := fun k hk hne hq => (Below.heap_setCell _ _ _ _ (by show k ≠ b0+2; exact hne)).trans (k2 k hk hq)
 have lo:∀ k,k<b0+7→k ≠ b0+2→(w2.setCell ⟨b0+2,2,none⟩ v').heap[k]? = w.heap[k]? := fun k hk hne => e k (by omega) hne (nq k hk)
 obtain ⟨F,hF⟩ := h.res
 have ho2:Row4 w2 (b0+2) 29 cl (.int .i64 (k:Nat)) nv av:=World.rowIs.of_block h.out (k2 _ (by omega) (nq _ (by omega)))
 refine ⟨ho2.facts.2.2.1,World.rowIs.frozen ho2 2,h.eb,World.rowIs.of_block h.d (lo _ (by omega) (by omega)),⟨F,hF.of_block (lo _ (by omega) (by omega))⟩,ho2.put2,h.num.keep (lo _ (by omega) (by omega)),h.kb.of_block (lo _ (by omega) (by omega)),h.q.of_block (lo _ (by omega) (by omega)),own_blk h.oq (fun r hr => e r (own_lt h.oq r hr) (by have:=(h.oq.lt r hr).1; omega) (fun e2 => (h.qn r hr).1 e2)),own_blk r1 (fun r hr => Below.heap_setCell _ _ _ _ (by show r ≠ b0+2; have:=(r1.lt r hr).1; omega)),own_blk h.oa (fun r hr => e r (own_lt h.oa r hr) (by have:=(h.oa.lt r hr).1; omega) (fun e2 => h.na r e2 hr)),fun r hr => ⟨fun e3 => ?_,(h.qn r hr).2⟩,fun r hr => ?_,⟨r2.os.trans (hW.os.trans h.bl.os),r2.tape.trans (hW.tape.trans h.bl.tape),r2.output.trans (hW.output.trans h.bl.output),by rw [sz_put]; have:=h.bl.size; omega,fun k hk => (lo k (by omega) (by omega)).trans (h.bl.block k hk)⟩,by rw [sz_put]; omega⟩
 ·rcases r3 r e3 with e2 | e2
  ·exact (h.qn r hr).1 e2
  ·have:=own_lt h.oq r hr; omega
 ·rcases r3 r hr with e2 | e2
  ·exact h.na r e2
  ·exact fun e3 => by have:=own_lt h.oa r e3; omega
theorem RcAt.pushA {W w2:World} {v':Value} {x:Bool} (h:RcAt w0 w b0 cl nx ac k ks o tk ys zs qv nv av) (hW:Below w.heap.size w W) (r1:w2.ownsRow (b0+7) 4 1 v' (zs ++ [x]).length ((zs ++ [x]).map mT)) (r2:W.grownBy w2 av.ownBlock) (r3:∀ q,v'.ownBlock=some q→av.ownBlock=some q∨w.heap.size≤q) :
  w2.cell? ⟨b0+2,3,none⟩ = some av∧w2.frozen? ⟨b0+2,3,none⟩ = false∧RcAt w0 (w2.setCell ⟨b0+2,3,none⟩ v') b0 cl nx ac k ks o tk ys (zs ++ [x]) qv nv v':=by
 have hz:=h.sz
 have hz2:=r2.size
 have hzW:=hW.size
 have k2:=grown_old hW r2
 have nq:∀ k,k<b0+7→av.ownBlock ≠ some k:=fun k hk e => by have:=(h.oa.lt k e).1; omega
 have e:∀ k,k<w.heap.size→k ≠ b0+2→av.ownBlock ≠ some k→(w2.setCell ⟨b0+2,3,none⟩ v').heap[k]? = w.heap[k]? := fun k hk hne hq => (Below.heap_setCell _ _ _ _ (by show k ≠ b0+2; exact hne)).trans (k2 k hk hq)
 have lo:∀ k,k<b0+7→k ≠ b0+2→(w2.setCell ⟨b0+2,3,none⟩ v').heap[k]? = w.heap[k]? := fun k hk hne => e k (by omega) hne (nq k hk)
 obtain ⟨F,hF⟩ := h.res
 have ho2:Row4 w2 (b0+2) 29 cl (.int .i64 (k:Nat)) nv av:=World.rowIs.of_block h.out (k2 _ (by omega) (nq _ (by omega)))
 refine ⟨ho2.facts.2.2.2.1,World.rowIs.frozen ho2 3,h.eb,World.rowIs.of_block h.d (lo _ (by omega) (by omega)),⟨F,hF.of_block (lo _ (by omega) (by omega))⟩,ho2.put3',h.num.keep (lo _ (by omega) (by omega)),h.kb.of_block (lo _ (by omega) (by omega)),h.q.of_block (lo _ (by omega) (by omega)),own_blk h.oq (fun r hr => e r (own_lt h.oq r hr) (by have:=(h.oq.lt r hr).1; omega) (fun e2 => (h.qn r hr).2 e2)),own_blk h.on (fun r hr => e r (own_lt h.on r hr) (by have:=(h.on.lt r hr).1; omega) (fun e2 => h.na r hr e2)),own_blk r1 (fun r hr => Below.heap_setCell _ _ _ _ (by show r ≠ b0+2; have:=(r1.lt r hr).1; omega)),fun r hr => ⟨(h.qn r hr).1,fun e3 => ?_⟩,fun r hr e3 => ?_,⟨r2.os.trans (hW.os.trans h.bl.os),r2.tape.trans (hW.tape.trans h.bl.tape),r2.output.trans (hW.output.trans h.bl.output),by rw [sz_put]; have:=h.bl.size; omega,fun k hk => (lo k (by omega) (by omega)).trans (h.bl.block k hk)⟩,by rw [sz_put]; omega⟩
 ·rcases r3 r e3 with e2 | e2
  ·exact (h.qn r hr).2 e2
  ·have:=own_lt h.oq r hr; omega
 ·rcases r3 r e3 with e2 | e2
  ·exact h.na r hr e2
  ·have:=own_lt h.on r hr; omega
end
theorem own_raise {b0 base e sz n:Nat} {w:World} {v:Value} {xs:List Value} (h:w.ownsRow b0 e sz v n xs) (hb:∀ q,v.ownBlock=some q→base≤q):w.ownsRow base e sz v n xs:=by
 refine ⟨h.1,?_⟩
 rcases h.2 with hn | ⟨g,cap,cur,rfl,-,rest⟩
 ·exact .inl hn
 ·exact .inr ⟨g,cap,cur,rfl,hb g rfl,rest⟩
theorem map_mN (o:List Nat):(o.map (fun x:Nat => (x:Int))).map mI=o.map mN:=by simp [mN]
theorem mN_get {o:List Nat} {i x:Nat} (h:(o.map mN)[i]? = some (.int .i64 (x:Nat))):o[i]? = some x:=by
 rw [List.getElem?_map] at h
 cases e:o[i]? with
 | none => rw [e] at h; cases h
 | some y =>
  rw [e] at h
  simp only [Option.map_some,mN,mI,Option.some.injEq,Value.int.injEq,true_and] at h
  rw [show y=x by omega]
theorem mN_mem {o:List Nat} {x:Nat}:(Value.int .i64 (x:Nat)) ∈ o.map mN↔x ∈ o:=by
 constructor
 ·intro h
  obtain ⟨i,hi⟩ := List.getElem?_of_mem h
  exact List.mem_of_getElem? (mN_get hi)
 ·intro h
  exact List.mem_map.2 ⟨x,h,rfl⟩
section
variable {w0 w:World} {b0:Nat} {cl nx ac:Value} {k:Nat} {ks o:List Nat} {tk:Nat} {ys:List Nat} {zs:List Bool} {qv nv av:Value}
theorem push_rc (h:RcAt w0 w b0 cl nx ac k ks o tk ys zs qv nv av) (x:Nat) (hl:o.length≤1000000) :
  Calls Tryz.prog 93 #[.pointer (some ⟨b0+6,0,none⟩),.int .i64 (x:Nat)] w fun e w' => e = .returned (.tuple #[])∧∃ qv',RcAt w0 w' b0 cl nx ac k ks (o ++ [x]) tk ys zs qv' nv av:=by
 have hz:=h.sz
 have nq:qv.ownBlock ≠ some (b0+6):=fun e => by have:=(h.oq.lt _ e).1; omega
 refine (push_any (b0+6) 0 qv (o.map (fun x:Nat => (x:Int))) (x:Nat) w (by omega) nq (by simpa using hl) ?_ (h.q.frozen 0) ?_).mono ?_
 ·rw [h.q.cell (by omega)]; rfl
 ·rw [List.length_map,map_mN]; exact own_low h.oq (Nat.zero_le _)
 rintro e w' ⟨rfl,v',w2,rfl,r1,r2,r3⟩
 refine ⟨rfl,v',h.pushQ (below1 w _) (own_raise (b0:=0) ?_ (fun q hq => ?_)) r2 r3⟩
 ·have e:(o.map (fun x:Nat => (x:Int)) ++ [(x:Int)])=(o ++ [x]).map (fun x:Nat => (x:Int)):=by simp
  rw [e,List.length_map,map_mN] at r1
  exact r1
 ·rcases r3 q hq with e | e
  ·exact (h.oq.lt q e).1
  ·omega
theorem of_rc (h:RcAt w0 w b0 cl nx ac k ks o tk ys zs qv nv av) (x:Nat) (hx:x≤1000000) (hl:ks.length<100000) :
  Calls Tryz.prog 92 #[.agg #[.map (some (b0+4))],.int .i64 (x:Nat)] w fun e w' => ∃ (i:Nat) (f:Bool),e = .returned (.tuple #[.int .i64 (i:Nat),.bool f]) ∧
   ((f=false∧ks[i]? = some x∧RcAt w0 w' b0 cl nx ac k ks o tk ys zs qv nv av)∨(f=true∧x ∉ ks∧i=ks.length∧RcAt w0 w' b0 cl nx ac k (ks ++ [x]) o tk ys zs qv nv av)):=by
 refine (ofI_any (b0+4) (x:Nat) (ks.map mN) w h.num (by omega) (by omega) (by simpa using hl)).mono ?_
 rintro e w' ⟨i,ks',f,rfl,hR,hN,hF⟩
 refine ⟨i,f,rfl,?_⟩
 rcases hR with ⟨h1,rfl,h2,rfl⟩ | ⟨h1,rfl,rfl,rfl⟩
 ·exact .inl ⟨rfl,mN_get h2,h.looked hF hN⟩
 ·refine .inr ⟨rfl,fun hm => h1 (mN_mem.2 hm),by simp,h.looked hF ?_⟩
  rw [List.map_append]
  exact hN
theorem pop_rc (h:RcAt w0 w b0 cl nx ac k ks o tk ys zs qv nv av) (ht:tk≤o.length) (hl:o.length≤1000000) :
  Calls Tryz.prog 94 #[.pointer (some ⟨b0+6,0,none⟩)] w fun e w' => (tk=o.length∧e = .returned (.tuple #[.int .i64 0,.bool false])∧RcAt w0 w' b0 cl nx ac k ks o tk ys zs qv nv av) ∨
   (∃ s,o[tk]? = some s∧e = .returned (.tuple #[.int .i64 (s:Nat),.bool true])∧RcAt w0 w' b0 cl nx ac k ks o (tk+1) ys zs qv nv av):=by
 have c0:w.cell? ⟨b0+6,0,none⟩ = some qv:=by rw [h.q.cell (by omega)]; rfl
 have c1:w.cell? ⟨b0+6,0+1,none⟩ = some (.int .i64 (tk:Nat)):=by rw [h.q.cell (by omega)]; rfl
 obtain ⟨oa,oc,rfl⟩ := own_is h.oq
 by_cases e:tk=o.length
 ·refine (pop_none (b0+6) 0 oa o.length oc w c0 (by rw [← e]; exact c1)).mono ?_
  rintro x w' ⟨rfl,q,rfl⟩
  exact .inl ⟨e,rfl,h.keep ⟨rfl,rfl,rfl,Nat.le_refl _,fun _ _ => rfl⟩⟩
 ·have hlt:tk<o.length:=by omega
  obtain ⟨qb,qc,e2,hcell⟩ := own_at h.oq (by omega)
  cases e2
  obtain ⟨y,hy⟩ : ∃ y,o[tk]? = some y:=⟨_,List.getElem?_eq_getElem hlt⟩
  refine (pop_some (b0+6) 0 qb 0 tk (y:Nat) o.length oc w hl hlt c0 c1 (by rw [Nat.zero_add,hcell tk hlt,List.getElem?_map,hy]; rfl) (h.q.frozen 1)).mono ?_
  rintro x w' ⟨rfl,q,rfl⟩
  exact .inr ⟨y,hy,rfl,h.popd q⟩
end
theorem Tryz.zinBoo:(Tryz.prog.info? 4).map (fun i => (i.zero,i.size,i.bytes))=some (some (.bool false),1,1):=by kernel_rfl
set_option maxHeartbeats 4000000 in
set_option maxRecDepth 100000 in
theorem reached_acc {u0 u2 u4 u5 u7 u8 u9 u10 u11 u12 u13 u14 u15 u16 u17 u18 u19 u20 u21 u22 u23 u24 u25 u26 u27 u28 u29 u30 u31 u32 u33 u34 u35 u36 u37 u38 u39 u40 u41 u42 u43 u44 u45 u46 u47 u48 u49 u50 u51 u52 u53 u54 u55 u56 u57 u58 u59 u60 u61 u62 u63 u64:Value} {K K1 K2 K3:Act→World→Prop} {n1 n2:Nat} {R:Ending→World→Prop} (w7:World) (db ob ab ao n ca s N oc lo:Nat) (oa:Option Addr) (x:Bool) (xs:List Value) (hs:s<n) (hob:ob<w7.heap.size) (hlo:lo≤w7.heap.size) (hN:N≤1000000)
  (y3:w7.cell? ⟨ob,3,none⟩ = some (.slice oa N oc)) (k3:w7.cell? ⟨db,3,none⟩ = some (.slice (some ⟨ab,ao,none⟩) n ca)) (k0:w7.cell? ⟨ab,ao+s,none⟩ = some (.bool x))
  (hrk:w7.ownsRow lo 4 1 (.slice oa N oc) N xs)
  (hps:∀ (WA w8:World) (gg cap:Nat),w8.ownsRow lo 4 1 (.slice (some ⟨gg,0,none⟩) (N+1) cap) (N+1) (xs ++ [.bool x])→WA.grownBy w8 (Value.slice oa N oc).ownBlock→((Value.slice oa N oc).ownBlock=some gg∨gg=w7.heap.size+1)→Pushd w7 WA (.cells #[.bool x] 4) →
   w8.cell? ⟨ob,3,none⟩ = some (.slice oa N oc)∧w8.frozen? ⟨ob,3,none⟩ = false∧K { tmps:=#[u0,.pointer (some ⟨db,0,none⟩),u2,.pointer (some ⟨ob,0,none⟩),u4,u5,.int .i64 (s:Nat),u7,u8,u9,u10,u11,u12,u13,u14,u15,u16,u17,u18,u19,u20,u21,u22,u23,u24,u25,u26,u27,u28,u29,.pointer (some ⟨ob,3,none⟩),.slice oa N oc,.pointer (some ⟨db,3,none⟩),.slice (some ⟨ab,ao,none⟩) n ca,.int .i64 (s:Nat),.pointer (some ⟨ab,ao+s,none⟩),.bool x,.slice (some ⟨w7.heap.size,0,none⟩) 1 1,.slice (some ⟨gg,0,none⟩) (N+1) cap,.pointer (some ⟨ob,3,none⟩),u40,u41,u42,u43,u44,u45,u46,u47,u48,u49,u50,u51,u52,u53,u54,u55,u56,u57,u58,u59,u60,u61,u62,u63,u64],defers := [] } (w8.setCell ⟨ob,3,none⟩ (.slice (some ⟨gg,0,none⟩) (N+1) cap))) :
  Code.wp Tryz.prog (Code.region 9 #[{ dst:=some 30,op:=Op.fieldAddr 29 (Operand.tmp 3) 3,type:=0,pos := "l2_dfa.go:433",after:=#[],guard:=none },{ dst:=some 31,op:=Op.load 27 (Operand.tmp 30),type:=27,pos := "l2_dfa.go:433",after:=#[{ on:=0,ground:=Ground.data }],guard:=none },{ dst:=some 32,op:=Op.fieldAddr 29 (Operand.tmp 1) 3,type:=0,pos := "l2_dfa.go:433",after:=#[],guard:=none },{ dst:=some 33,op:=Op.load 27 (Operand.tmp 32),type:=27,pos := "l2_dfa.go:433",after:=#[{ on:=2,ground:=Ground.data }],guard:=none },{ dst:=some 34,op:=Op.move (Operand.tmp 6),type:=3,pos := "l2_dfa.go:433",after:=#[],guard:=none },{ dst:=some 35,op:=Op.indexAddr 27 (Operand.tmp 33) (Operand.tmp 34),type:=0,pos := "l2_dfa.go:433",after:=#[{ on:=3,ground:=Ground.data },{ on:=4,ground:=Ground.data }],guard:=none },{ dst:=some 36,op:=Op.load 4 (Operand.tmp 35),type:=4,pos := "l2_dfa.go:433",after:=#[{ on:=5,ground:=Ground.data }],guard:=none },{ dst:=some 37,op:=Op.buildSlice 27 1 #[(0,Operand.tmp 36)],type:=27,pos := "l2_dfa.go:433",after:=#[{ on:=6,ground:=Ground.data }],guard:=none },{ dst:=some 38,op:=Op.call { callee:=Callee.builtin Builtin.append,args:=#[Operand.tmp 31,Operand.tmp 37],argTypes:=#[27,27] },type:=27,pos := "l2_dfa.go:433",after:=#[{ on:=1,ground:=Ground.data },{ on:=7,ground:=Ground.data }],guard:=none },{ dst:=some 39,op:=Op.fieldAddr 29 (Operand.tmp 3) 3,type:=0,pos := "l2_dfa.go:433",after:=#[{ on:=0,ground:=Ground.phase },{ on:=1,ground:=Ground.phase },{ on:=2,ground:=Ground.phase },{ on:=3,ground:=Ground.phase },{ on:=4,ground:=Ground.phase },{ on:=5,ground:=Ground.phase },{ on:=6,ground:=Ground.phase },{ on:=7,ground:=Ground.phase },{ on:=8,ground:=Ground.phase }],guard:=none },{ dst:=none,op:=Op.store 27 (Operand.tmp 39) (Operand.tmp 38),type:=0,pos := "l2_dfa.go:433",after:=#[{ on:=9,ground:=Ground.data },{ on:=8,ground:=Ground.data },{ on:=8,ground:=Ground.chain },{ on:=0,ground:=Ground.phase },{ on:=1,ground:=Ground.phase },{ on:=2,ground:=Ground.phase },{ on:=3,ground:=Ground.phase },{ on:=4,ground:=Ground.phase },{ on:=5,ground:=Ground.phase },{ on:=6,ground:=Ground.phase },{ on:=7,ground:=Ground.phase },{ on:=8,ground:=Ground.phase }],guard:=none }] true) (Exit.then K (Exit.inBlock n1 (Exit.then K1 (Exit.then K2 (Exit.inBlock n2 (Exit.then K3 (bodyPost Tryz.prog Tryz.f56 R))))))) { tmps:=#[u0,.pointer (some ⟨db,0,none⟩),u2,.pointer (some ⟨ob,0,none⟩),u4,u5,.int .i64 (s:Nat),u7,u8,u9,u10,u11,u12,u13,u14,u15,u16,u17,u18,u19,u20,u21,u22,u23,u24,u25,u26,u27,u28,u29,u30,u31,u32,u33,u34,u35,u36,u37,u38,u39,u40,u41,u42,u43,u44,u45,u46,u47,u48,u49,u50,u51,u52,u53,u54,u55,u56,u57,u58,u59,u60,u61,u62,u63,u64],defers := [] } w7:=by
 obtain ⟨j0,hj0,hy0,hy1,hy2⟩ := info_parts Tryz.zinBoo
 have y3':=(below1 w7 (.cells #[.bool x] 4)).cell (p:=⟨ob,3,none⟩) hob
 rw [y3] at y3'
 have hs':(s:Int)<(n:Int):=by omega
 have HPS:=hide hps
 have HRK:=hide hrk
 clear hps hrk
 go_region_law (
  (refine step_append_lies _ rfl (.tmp 31) (.tmp 37) 27 rfl lo 4 j0 (.bool false) 1 1 Tryz.underlying27 hj0 hy0 hy1 hy2 rfl (by decide) (.slice oa N oc) N xs (by first | (simp [Act.eval]; done) | (simp [Act.eval,Act.put]; done)) (by refine Pushd.own (w:=w7) (o:=.cells #[.bool x] 4) ?_ (unhide HRK); exact ⟨rfl,rfl,rfl,rfl⟩) ⟨w7.heap.size,0,none⟩ 1 1 [.bool x] (by first | (simp [Act.eval]; done) | (simp [Act.eval,Act.put]; done)) rfl (by refine Pushd.news (w:=w7) (cs:=#[.bool x]) (t:=4) ?_; exact ⟨rfl,rfl,rfl,rfl⟩) (by intro u hu; simp only [List.mem_cons,List.not_mem_nil,or_false] at hu; subst hu; rfl) (by decide) (by unfold maxLen; omega) (by omega) (by have hq:=sz_alloc w7 (.cells #[.bool x] 4); exact Nat.le_trans hlo (Nat.le_of_lt (Nat.lt_of_lt_of_eq (Nat.lt_succ_self _) hq.symm))) (w7.heap.size+1) (sz_alloc w7 _) (fun gg cap w8 r1 r2 r3 r4 => ?_); have h8:=hide (unhide HPS _ w8 gg cap r1 r2 r3 (by exact ⟨rfl,rfl,rfl,rfl⟩)); obtain ⟨c7,z7,-⟩ := unhide h8; clear r1 r2 r3 r4))
 all_goals exact (unhide h8).2.2
def okOf2:Value→Nat
 | .bool true => 1
 | _ => 0
def tkOf2 (g:Nat) (w:World):Nat:=(intOf ((w.cell? ⟨g,1,none⟩).getD undef)).toNat
def RcH (A:Tb) (w0 w:World) (b0:Nat) (cl nx ac:Value) (sv ov:Value):Prop :=
 ∃ (o:List Nat) (tk:Nat) (ys:List Nat) (zs:List Bool) (qv nv av:Value),RcAt w0 w b0 cl nx ac A.k o o tk ys zs qv nv av∧Bfs A.k A.nx 0 o ys∧(∀ x ∈ o,x<A.n) ∧
  ((ov = .bool false∧tk=o.length∧ys.length=tk * A.k∧zs=o.map A.ac) ∨
   (ov = .bool true∧∃ t s,tk=t+1∧o[t]? = some s∧sv = .int .i64 (s:Nat)∧ys.length=t * A.k∧zs=(o.take t).map A.ac))
theorem Bfs.few {A:Tb} {o ys:List Nat} (h:Bfs A.k A.nx 0 o ys) (ho:∀ x ∈ o,x<A.n):o.length≤A.n:=by
 refine nodup_le A.n o ?_ ho
 rw [List.nodup_iff_pairwise_ne,List.pairwise_iff_getElem]
 intro i j hi hj hij e
 have:=h.nd i j hi hj (by rw [List.getElem?_eq_getElem hi,List.getElem?_eq_getElem hj,e])
 omega
theorem dfa_ret {w:World} {B:Nat} {c0 c1 c2 c3:Value} (h:Row4 w B 29 c0 c1 c2 c3) {fn:Func} {p:Tmp} (hr:fn.results = #[.cell p 29]) (tmps:Array Value) (hp:tmps.getD p undef = .pointer (some ⟨B,0,none⟩)):(results fn tmps).run Tryz.prog w = .ok (.agg #[c0,c1,c2,c3]) w:=by
 obtain ⟨c,hb,hs,hc⟩ := h
 have e:c = #[c0,c1,c2,c3]:=by
  apply Array.ext_getElem?
  intro i
  by_cases hi:i<4
  ·rw [hc i hi]
   match i,hi with
   | 0,_ => rfl
   | 1,_ => rfl
   | 2,_ => rfl
   | 3,_ => rfl
  ·rw [Array.getElem?_eq_none (by omega),Array.getElem?_eq_none (by simp; omega)]
 subst e
 exact results_cell_row hr tmps w B _ _ _ _ hp hb Tryz.underlying29 rfl (by kernel_rfl)
set_option maxHeartbeats 4000000 in
set_option maxRecDepth 100000 in
theorem reached_any (A:Tb) (cl:Value) (b off cN ab ao ca:Nat) (w:World) (hw:A.Wf) (hn:A.n≤1024) (hk:1≤A.k∧A.k≤256) (hcN:A.n * A.k≤cN) (hb:b<w.heap.size) (hx:NxAt w b off A.n A.k A.nx)
  (hab:ab<w.heap.size) (hac:∀ q,q<A.n→w.cell? ⟨ab,ao+q,none⟩ = some (.bool (A.ac q))) (hcl:∃ a n c,cl = .slice a n c) :
  Calls Tryz.prog 56 #[.agg #[cl,.int .i64 (A.k:Nat),.slice (some ⟨b,off,none⟩) (A.n * A.k) cN,.slice (some ⟨ab,ao,none⟩) A.n ca]] w fun e w' => ∃ nv av,e = .returned (.agg #[cl,.int .i64 (A.k:Nat),nv,av])∧Below w.heap.size w w' ∧
   ∃ o ys,Bfs A.k A.nx 0 o ys∧ys.length=o.length * A.k∧o.length≤A.n∧w'.ownsRow w.heap.size 3 1 nv ys.length (ys.map mN)∧w'.ownsRow w.heap.size 4 1 av o.length ((o.map A.ac).map mT)∧∀ r,nv.ownBlock=some r→av.ownBlock ≠ some r:=by
 obtain ⟨i0,hi0,hz0,hz1,hz2⟩ := info_parts Tryz.zinInt
 obtain ⟨ca0,cl0,cc0,rfl⟩ := hcl
 have hn1:1≤A.n:=hw.pos
 have hLn:A.n * A.k≤1024 * 256:=Nat.mul_le_mul hn hk.2
 obtain ⟨L,hL⟩ : ∃ L,L=A.n * A.k:=⟨_,rfl⟩
 rw [← hL] at hcN hLn ⊢
 obtain ⟨W3,hW3⟩ : ∃ W3,W3=((w.alloc (.cells #[.slice ca0 cl0 cc0,.int .i64 (A.k:Nat),.slice (some ⟨b,off,none⟩) L cN,.slice (some ⟨ab,ao,none⟩) A.n ca] 29)).alloc (.cells #[.slice none 0 0,.int .i64 0,.slice none 0 0,.slice none 0 0] 29)).alloc (.cells #[.slice ca0 cl0 cc0,.int .i64 (A.k:Nat),.slice none 0 0,.slice none 0 0] 29):=⟨_,rfl⟩
 have hz3:W3.heap.size=w.heap.size+3:=by rw [hW3,sz_alloc,sz_alloc,sz_alloc]
 have hB3:Below w.heap.size w W3:=by rw [hW3]; exact (below2 w _ _).trans ((below1 _ _).mono (by rw [sz_alloc,sz_alloc]; omega))
 have hD3:Row4 W3 w.heap.size 29 (.slice ca0 cl0 cc0) (.int .i64 (A.k:Nat)) (.slice (some ⟨b,off,none⟩) L cN) (.slice (some ⟨ab,ao,none⟩) A.n ca):=by rw [hW3]; exact ((Row4.new w _ _ _ _ _).alloc _).alloc _
 have hE3:Row4 W3 (w.heap.size+1) 29 (.slice none 0 0) (.int .i64 0) (.slice none 0 0) (.slice none 0 0):=by
  have:=Row4.new (w.alloc (.cells #[.slice ca0 cl0 cc0,.int .i64 (A.k:Nat),.slice (some ⟨b,off,none⟩) L cN,.slice (some ⟨ab,ao,none⟩) A.n ca] 29)) 29 (.slice none 0 0) (.int .i64 0) (.slice none 0 0) (.slice none 0 0)
  rw [sz_alloc] at this
  rw [hW3]
  exact this.alloc _
 have hO3:Row4 W3 (w.heap.size+2) 29 (.slice ca0 cl0 cc0) (.int .i64 (A.k:Nat)) (.slice none 0 0) (.slice none 0 0):=by
  have:=Row4.new ((w.alloc (.cells #[.slice ca0 cl0 cc0,.int .i64 (A.k:Nat),.slice (some ⟨b,off,none⟩) L cN,.slice (some ⟨ab,ao,none⟩) A.n ca] 29)).alloc (.cells #[.slice none 0 0,.int .i64 0,.slice none 0 0,.slice none 0 0] 29)) 29 (.slice ca0 cl0 cc0) (.int .i64 (A.k:Nat)) (.slice none 0 0) (.slice none 0 0)
  rw [sz_alloc,sz_alloc] at this
  rw [hW3]
  exact this
 have HN:=hide (newI_any W3)
 have HL:=hide hL
 have HX:=hide hx
 have HAC:=hide hac
 have HW3:=hide hW3
 have HB3:=hide hB3
 have HD3:=hide hD3
 have HE3:=hide hE3
 have HO3:=hide hO3
 clear hL hx hac hW3 hB3 hD3 hE3 hO3
 go_enter Tryz.func56,Tryz.ntmps56
 go_wp2_with fail
 rw [← unhide HW3]
 refine (unhide HN).mono ?_
 rintro e w4 ⟨rfl,hN4,hz4,hB4⟩
 rw [hz3] at hN4 hz4 ⊢
 obtain ⟨W6,hW6⟩ : ∃ W6,W6=(w4.alloc (.cells #[.map (some (w.heap.size+3+1))] 165)).alloc (.cells #[.slice none 0 0,.int .i64 0] 169):=⟨_,rfl⟩
 have hR6:RcAt w W6 w.heap.size (.slice ca0 cl0 cc0) (.slice (some ⟨b,off,none⟩) L cN) (.slice (some ⟨ab,ao,none⟩) A.n ca) A.k [] [] 0 [] [] (.slice none 0 0) (.slice none 0 0) (.slice none 0 0):=by
  have hb6:Below w4.heap.size w4 W6:=by rw [hW6]; exact below2 w4 _ _
  have hb36:Below W3.heap.size W3 W6:=hB4.trans (hb6.mono (by omega))
  refine ⟨rfl,(unhide HD3).below hb36 (by omega),⟨_,World.rowIs.of_block (unhide HE3) (hb36.block _ (by omega))⟩,(unhide HO3).below hb36 (by omega),hN4.keep (hb6.block _ (by omega)),?_,?_,World.ownsRow_nil _ _ _ _,World.ownsRow_nil _ _ _ _,World.ownsRow_nil _ _ _ _,(fun r hr => by cases hr),(fun r hr => by cases hr),(unhide HB3).trans (hb36.mono (by omega)),by rw [hW6,sz_alloc,sz_alloc]; omega⟩
  ·have:=World.rowIs_alloc w4 #[.map (some (w.heap.size+3+1))] 165 (fun _ => .map (some (w.heap.size+3+1))) (fun j hj => by
    match j,hj with
    | 0,_ => rfl)
   rw [hz4] at this
   rw [hW6]
   exact this.alloc _
  ·have:=World.rowIs_alloc (w4.alloc (.cells #[.map (some (w.heap.size+3+1))] 165)) #[.slice none 0 0,.int .i64 0] 169 (fun j => [Value.slice none 0 0,.int .i64 ((0:Nat):Int)].getD j undef) (fun j hj => by
    match j,hj with
    | 0,_ => rfl
    | 1,_ => rfl)
   rw [sz_alloc,hz4] at this
   rw [hW6]
   exact this
 have u0:W6.cell? ⟨w.heap.size+5,0,none⟩ = some (.map (some (w.heap.size+4))):=hR6.kb.cell (by omega)
 have HOF:=hide (of_rc hR6 0 (by omega) (by decide))
 have HW6:=hide hW6
 clear hR6 hW6 HN HW3 hB4 hN4 HD3 HE3 HO3
 go_wp2_with fail
 rw [← unhide HW6]
 clear HW6
 simp only [Nat.add_assoc,Nat.reduceAdd]
 refine (unhide HOF).mono ?_
 rintro e w7 ⟨i7,f7,rfl,⟨-,h7,-⟩ | ⟨rfl,-,rfl,hR7⟩⟩
 ·cases h7
 have HPU:=hide (push_rc hR7 0 (by decide))
 clear hR7 HOF u0
 go_wp2_with fail
 refine (unhide HPU).mono ?_
 rintro e w8 ⟨rfl,qv8,hR8⟩
 rw [List.nil_append] at hR8
 have HPO:=hide (pop_rc hR8 (by decide) (by decide))
 clear hR8 HPU
 go_wp2_with fail
 refine (unhide HPO).mono ?_
 rintro e w9 hcs
 have hH9:∃ nv ov,e = .returned (.tuple #[nv,.bool ov])∧RcH A w w9 w.heap.size (.slice ca0 cl0 cc0) (.slice (some ⟨b,off,none⟩) L cN) (.slice (some ⟨ab,ao,none⟩) A.n ca) nv (.bool ov):=by
  rcases hcs with ⟨h1,-⟩ | ⟨s,h1,rfl,h2⟩
  ·cases h1
  ·exact ⟨_,_,rfl,[0],1,[],[],_,_,_,h2,Bfs.start _ _ _,(fun x hx => by rw [List.mem_singleton] at hx; omega),.inr ⟨rfl,0,s,rfl,h1,rfl,by simp,by simp⟩⟩
 obtain ⟨nv9,ov9,rfl,hH9⟩ := hH9
 have HH9:=hide hH9
 clear hcs hH9 HPO
 go_wp2_with fail
 go_loopw [6,7] (fun sv ov wr => RcH A w wr w.heap.size (.slice ca0 cl0 cc0) (.slice (some ⟨b,off,none⟩) L cN) (.slice (some ⟨ab,ao,none⟩) A.n ca) sv ov) (fun _ ov wr => 2 * (A.n - tkOf2 (w.heap.size+6) wr)+okOf2 ov)
 case atStart => exact unhide HH9
 case round =>
  clear HH9
  obtain ⟨o,tk,ys,zs,qv,nv,av,hR,hBf,hon,⟨rfl,htk,hyl,rfl⟩ | ⟨rfl,t,s,rfl,hs,rfl,hyl,rfl⟩⟩ := hrel
  ·have hfew:=hBf.few hon
   obtain ⟨g0,g1,g2,g3,-⟩ := hR.out.facts
   obtain ⟨F,hF⟩ := hR.res
   have x0:=hF.cell (i:=0) (by omega)
   have x1:=hF.cell (i:=1) (by omega)
   have x2:=hF.cell (i:=2) (by omega)
   have x3:=hF.cell (i:=3) (by omega)
   have z0:=hF.frozen 0
   have z1:=hF.frozen 1
   have z2:=hF.frozen 2
   have z3:=hF.frozen 3
   obtain ⟨na,nc,e1⟩ := own_is hR.on
   obtain ⟨va,vc,e2⟩ := own_is hR.oa
   rw [List.length_map] at e2
   have HR:=hide hR
   have HBF:=hide hBf
   have HF:=hide hF
   rw [e1] at g2
   rw [e2] at g3
   have HE1:=hide e1
   have HE2:=hide e2
   have HYL:=hide hyl
   have HTK:=hide htk
   clear hR hBf hF e1 e2 hyl htk
   go_wp2
   have hrow:=(World.rowIs.congr ((((unhide HF).set 0 (.slice ca0 cl0 cc0)).set 1 (.int .i64 (A.k:Nat))).set 2 (.slice na ys.length nc)) (g:=fun j => if j=2 then Value.slice na ys.length nc else if j=1 then .int .i64 (A.k:Nat) else if j=0 then .slice ca0 cl0 cc0 else F j) (fun j _ => rfl)).set 3 (.slice va o.length vc)
   have hR4:=(World.rowIs.congr hrow (g:=fun j => [Value.slice ca0 cl0 cc0,.int .i64 (A.k:Nat),.slice na ys.length nc,.slice va o.length vc].getD j undef) (fun j hj => by
    match j,hj with
    | 0,_ => rfl
    | 1,_ => rfl
    | 2,_ => rfl
    | 3,_ => rfl))
   have hob:Obk (w.heap.size+1) wr ((((wr.setCell ⟨w.heap.size+1,0,none⟩ (.slice ca0 cl0 cc0)).setCell ⟨w.heap.size+1,1,none⟩ (.int .i64 (A.k:Nat))).setCell ⟨w.heap.size+1,2,none⟩ (.slice na ys.length nc)).setCell ⟨w.heap.size+1,3,none⟩ (.slice va o.length vc)):=(((obk_put _ _).trans (obk_put _ _)).trans (obk_put _ _)).trans (obk_put _ _)
   refine bodyPost_ret (dfa_ret hR4 rfl _ rfl) rfl ?_
   have hR:=unhide HR
   have hoa:=hR.oa
   rw [unhide HE1,unhide HE2] at hR
   rw [unhide HE2,List.length_map] at hoa
   refine ⟨_,_,rfl,⟨hob.os.trans hR.bl.os,hob.tape.trans hR.bl.tape,hob.output.trans hR.bl.output,by rw [hob.size]; exact hR.bl.size,fun k hk => (hob.block k (by omega)).trans (hR.bl.block k hk)⟩,o,ys,unhide HBF,by rw [unhide HYL,unhide HTK],hfew,own_low (own_blk hR.on (fun r hr => hob.block r (by have:=(hR.on.lt r hr).1; omega))) (by omega),own_low (own_blk hoa (fun r hr => hob.block r (by have:=(hoa.lt r hr).1; omega))) (by omega),hR.na⟩
  ·have hlt:t<o.length:=(List.getElem?_eq_some_iff.1 hs).1
   have hsn:=hon s (List.mem_of_getElem? hs)
   have hfew:=hBf.few hon
   have hsn':(s:Int)<(A.n:Int):=by omega
   obtain ⟨g0,g1,g2,g3,-⟩ := hR.out.facts
   obtain ⟨d0,d1,d2,d3,-⟩ := hR.d.facts
   have hmeas:tkOf2 (w.heap.size+6) wr=t+1:=by
    rw [tkOf2,hR.q.cell (by omega)]
    simp [intOf]
   have HME:=hide hmeas
   clear hmeas
   have y0:wr.cell? ⟨ab,ao+s,none⟩ = some (.bool (A.ac s)):=by rw [hR.bl.cell (p:=⟨ab,ao+s,none⟩) hab]; exact unhide HAC s hsn
   have HR:=hide hR
   have HBF:=hide hBf
   have HYL:=hide hyl
   clear hR hBf hyl
   go_wp2_with fail
   obtain ⟨va,vc,e2⟩ := own_is (unhide HR).oa
   have hzl:(List.map A.ac (o.take t)).length=t:=by rw [List.length_map,List.length_take]; omega
   rw [hzl] at e2
   have hoa:=(unhide HR).oa
   rw [hzl,e2] at hoa
   rw [e2] at g3
   have hz7:=(unhide HR).sz
   refine reached_acc wr w.heap.size (w.heap.size+2) ab ao A.n ca s t vc (w.heap.size+7) va (A.ac s) _ hsn (by omega) hz7 (by omega) g3 d3 y0 hoa (fun WA w8 gg cap r1 r2 r3 hP => ?_)
   have hA:=(unhide HR).pushA (x:=A.ac s) (v':=.slice (some ⟨gg,0,none⟩) (t+1) cap) hP.below (by rw [List.length_append,hzl,List.map_append]; exact r1) (by rw [e2]; exact r2) (fun q hq => by
    rw [e2]
    have hq':gg=q:=Option.some.inj hq
    subst hq'
    rcases r3 with e | e
    ·exact .inl e
    ·exact .inr (by omega))
   rw [e2] at hA
   refine ⟨hA.1,hA.2.1,?_⟩
   have hA3:=hA.2.2
   obtain ⟨w9',hw9'⟩ : ∃ w9',w9'=w8.setCell ⟨w.heap.size+2,3,none⟩ (.slice (some ⟨gg,0,none⟩) (t+1) cap):=⟨_,rfl⟩
   rw [← hw9'] at hA3 ⊢
   have hzt:List.map A.ac (o.take t) ++ [A.ac s]=(o.take (t+1)).map A.ac:=by rw [List.take_add_one,hs,List.map_append]; rfl
   rw [hzt] at hA3
   clear hA hw9' r1 r2 r3 hP g0 g1 g2 g3 d0 d1 d2 d3 y0 hoa e2 hzt
   obtain ⟨d0,d1,d2,d3,-⟩ := hA3.d.facts
   have hsL:(s+1) * A.k≤L:=by rw [unhide HL]; exact Nat.mul_le_mul_right _ hsn
   have hrw:=row_any (.slice ca0 cl0 cc0) (.slice (some ⟨ab,ao,none⟩) A.n ca) b off L cN A.k s w9' hsL (by omega) hcN (by omega) hk
   obtain ⟨rq,hrq⟩ : ∃ rq,rq=s * A.k:=⟨_,rfl⟩
   rw [← hrq] at hrw
   have HRW:=hide hrw
   have HRQ:=hide hrq
   have HA3:=hide hA3
   clear hrw hrq hsL hA3
   go_wp2_with fail
   refine (unhide HRW).mono ?_
   rintro e w10 ⟨rfl,hb10⟩
   have HR10:=hide ((unhide HA3).keep hb10)
   have HO:=hide hon
   clear HA3 hb10 d0 d1 d2 d3 HR HRW hon
   go_wp2_with fail
   go_loopw [44] (fun cv wx => ∃ (c:Nat) (o ys:List Nat) (zs:List Bool) (qv nv av:Value),c≤A.k∧cv = .int .i64 (c:Nat)∧RcAt w wx w.heap.size (.slice ca0 cl0 cc0) (.slice (some ⟨b,off,none⟩) L cN) (.slice (some ⟨ab,ao,none⟩) A.n ca) A.k o o (t+1) ys zs qv nv av∧Bfs A.k A.nx 0 o ys∧(∀ x ∈ o,x<A.n)∧o[t]? = some s∧ys.length=t * A.k+c∧zs=(o.take (t+1)).map A.ac) (fun cv _ => A.k - (intOf cv).toNat)
   case atStart => exact ⟨0,o,ys,_,_,_,_,by omega,rfl,unhide HR10,unhide HBF,unhide HO,hs,unhide HYL,rfl⟩
   case round =>
    clear HR10 HBF HO HYL hlt hfew hs hzl
    obtain ⟨c,o,ys,zs,qv,nv,av,hc,rfl,hR,hBf,hon,hs,hyl,hzs⟩ := hrel
    have hfew:=hBf.few hon
    have hto:t<o.length:=(List.getElem?_eq_some_iff.1 hs).1
    by_cases hcl:c<A.k
    ·have hcl':(c:Int)<(A.k:Int):=by omega
     obtain ⟨x1,x2⟩ := unhide HX s c hsn hcl
     have y0:wr.cell? ⟨b,off+rq+c,none⟩ = some (.int .i64 (A.nx s c:Nat)):=by rw [unhide HRQ,Nat.add_assoc,hR.bl.cell (p:=⟨b,off+(s * A.k+c),none⟩) hb]; exact x2
     have u0:wr.cell? ⟨w.heap.size+5,0,none⟩ = some (.map (some (w.heap.size+4))):=hR.kb.cell (by omega)
     have hyl2:ys.length≤262144:=by
      rw [hyl]
      have:=row_in (k:=A.k) (Nat.lt_of_lt_of_le hto hfew) hcl
      rw [← unhide HL] at this
      omega
     have hdv:ys.length / A.k=t∧ys.length % A.k=c:=by rw [hyl]; exact row_at hcl
     obtain ⟨nxt,hnxt⟩ : ∃ y,y=A.nx s c:=⟨_,rfl⟩
     rw [← hnxt] at y0 x1
     have HOF:=hide (of_rc hR nxt (by omega) (by omega))
     have HNX:=hide hnxt
     have HBF:=hide hBf
     have HO:=hide hon
     have HS:=hide hs
     have HDV:=hide hdv
     have HYL:=hide hyl
     have HZS:=hide hzs
     clear hR hBf hon hs hdv hyl hzs x2 hnxt
     go_wp2_with fail
     refine (unhide HOF).mono ?_
     rintro e w11 ⟨num,f,rfl,⟨rfl,hks,hR11⟩ | ⟨rfl,hnk,rfl,hR11⟩⟩
     ·have hnum:num<o.length:=(List.getElem?_eq_some_iff.1 hks).1
      obtain ⟨-,-,g2,-⟩ := hR11.out.facts
      obtain ⟨na,nc,e1⟩ := own_is hR11.on
      have hon11:=hR11.on
      obtain ⟨yn,hyn⟩ : ∃ yn,yn=ys.length:=⟨_,rfl⟩
      rw [← hyn] at e1
      rw [e1] at g2
      rw [← hyn,e1] at hon11
      have hyb:yn≤262144:=by rw [hyn]; exact hyl2
      have HON:=hide hon11
      have HE1:=hide e1
      have HYN:=hide hyn.symm
      have HR11:=hide hR11
      have HKS:=hide hks
      clear hR11 hks hon11 e1 hyn hyl2 HOF y0 u0
      go_wp2_with (at_builtin; refine wpList_append_own_at _ rfl _ _ 26 rfl (w.heap.size+7) 3 i0 (.int .i64 0) 1 8 Tryz.underlying26 hi0 hz0 hz1 hz2 rfl (by decide) _ _ _ rfl ((unhide HON).alloc _) ⟨w11.heap.size,0,none⟩ 1 1 [.int .i64 (num:Nat)] rfl rfl ?_ ?_ ?_ ?_ ?_ ?_)
      ·exact cell_1 (cell_new _ _ _)
      ·intro u hu; simp at hu; subst hu; rfl
      ·unfold maxLen; omega
      ·omega
      ·rw [sz_alloc]; have:=(unhide HR11).sz; omega
      intro v' w12 r1 r2 _ r3
      have h12:=(unhide HR11).pushN (x:=num) (below1 w11 _) (by rw [List.length_append,List.map_append,unhide HYN]; exact r1) (by rw [unhide HE1]; exact r2) (fun q hq => by
       rw [unhide HE1]
       rcases r3 with e | e
       ·rw [e] at hq; exact .inl hq
       ·rw [e] at hq; have:=Option.some.inj hq; exact .inr (by omega))
      rw [unhide HE1] at h12
      obtain ⟨pa,pc,e8⟩ := own_is r1
      subst e8
      have z1:=h12.1
      have z2:=h12.2.1
      have H12:=hide h12.2.2
      clear h12 r1 r2 r3 HON g2
      go_wp2
      go_roundw
      case rel =>
       refine ⟨c+1,o,ys ++ [num],zs,_,_,_,by omega,by go_num,unhide H12,(unhide HBF).old (x:=s) (by rw [(unhide HDV).1]; exact unhide HS) (by rw [(unhide HDV).2,← unhide HNX]; exact unhide HKS),unhide HO,unhide HS,by rw [List.length_append,unhide HYL]; simp only [List.length_singleton]; omega,unhide HZS⟩
      case measure => simp [intOf]; omega
     ·have HPU:=hide (push_rc hR11 nxt (by omega))
      have HNK:=hide hnk
      clear hR11 hnk HOF y0 u0
      go_wp2_with fail
      refine (unhide HPU).mono ?_
      rintro e w11' ⟨rfl,qv',hR11⟩
      obtain ⟨-,-,g2,-⟩ := hR11.out.facts
      obtain ⟨na,nc,e1⟩ := own_is hR11.on
      have hon11:=hR11.on
      obtain ⟨yn,hyn⟩ : ∃ yn,yn=ys.length:=⟨_,rfl⟩
      rw [← hyn] at e1
      rw [e1] at g2
      rw [← hyn,e1] at hon11
      have hyb:yn≤262144:=by rw [hyn]; exact hyl2
      have HON:=hide hon11
      have HE1:=hide e1
      have HYN:=hide hyn.symm
      have HR11:=hide hR11
      clear hR11 hon11 e1 hyn hyl2 HPU
      go_wp2_with (at_builtin; refine wpList_append_own_at _ rfl _ _ 26 rfl (w.heap.size+7) 3 i0 (.int .i64 0) 1 8 Tryz.underlying26 hi0 hz0 hz1 hz2 rfl (by decide) _ _ _ rfl ((unhide HON).alloc _) ⟨w11'.heap.size,0,none⟩ 1 1 [.int .i64 (o.length:Nat)] rfl rfl ?_ ?_ ?_ ?_ ?_ ?_)
      ·exact cell_1 (cell_new _ _ _)
      ·intro u hu; simp at hu; subst hu; rfl
      ·unfold maxLen; omega
      ·omega
      ·rw [sz_alloc]; have:=(unhide HR11).sz; omega
      intro v' w12 r1 r2 _ r3
      have h12:=(unhide HR11).pushN (x:=o.length) (below1 w11' _) (by rw [List.length_append,List.map_append,unhide HYN]; exact r1) (by rw [unhide HE1]; exact r2) (fun q hq => by
       rw [unhide HE1]
       rcases r3 with e | e
       ·rw [e] at hq; exact .inl hq
       ·rw [e] at hq; have:=Option.some.inj hq; exact .inr (by omega))
      rw [unhide HE1] at h12
      obtain ⟨pa,pc,e8⟩ := own_is r1
      subst e8
      have z1:=h12.1
      have z2:=h12.2.1
      have H12:=hide h12.2.2
      clear h12 r1 r2 r3 HON g2
      go_wp2
      go_roundw
      case rel =>
       refine ⟨c+1,o ++ [nxt],ys ++ [o.length],zs,_,_,_,by omega,by go_num,unhide H12,?_,fun x hx => ?_,?_,by rw [List.length_append,unhide HYL]; simp only [List.length_singleton]; omega,?_⟩
       ·have:=(unhide HBF).new (x:=s) (by rw [(unhide HDV).1]; exact unhide HS) (fun i hi e => by
         rw [(unhide HDV).2,← unhide HNX] at e
         exact unhide HNK (List.mem_of_getElem? e))
        rw [(unhide HDV).2,← unhide HNX] at this
        exact this
       ·rcases List.mem_append.1 hx with h | h
        ·exact unhide HO x h
        ·rw [List.mem_singleton] at h; rw [h]; exact x1
       ·rw [List.getElem?_append_left hto]; exact unhide HS
       ·rw [unhide HZS,List.take_append_of_le_length hto]
      case measure => simp [intOf]; omega
    ·have hcl':¬ (c:Int)<(A.k:Int):=by omega
     obtain rfl:c=A.k:=by omega
     have hmt:tkOf2 (w.heap.size+6) wr=t+1:=by
      rw [tkOf2,hR.q.cell (by omega)]
      simp [intOf]
     have HPO:=hide (pop_rc hR (by omega) (by omega))
     have HBF:=hide hBf
     have HO:=hide hon
     have HS:=hide hs
     have HYL:=hide hyl
     have HZS:=hide hzs
     clear hR hBf hon hs hyl hzs
     go_wp2_with fail
     refine (unhide HPO).mono ?_
     rintro e w11 hcs
     have hH11:∃ nv ov,e = .returned (.tuple #[nv,.bool ov])∧RcH A w w11 w.heap.size (.slice ca0 cl0 cc0) (.slice (some ⟨b,off,none⟩) L cN) (.slice (some ⟨ab,ao,none⟩) A.n ca) nv (.bool ov)∧2 * (A.n - tkOf2 (w.heap.size+6) w11)+okOf2 (.bool ov)<2 * (A.n - (t+1))+1:=by
      have hlk:ys.length=(t+1) * A.k:=by rw [unhide HYL,Nat.add_mul,Nat.one_mul]
      rcases hcs with ⟨h1,rfl,h2⟩ | ⟨s',h1,rfl,h2⟩
      ·refine ⟨_,_,rfl,⟨o,_,ys,zs,_,_,_,h2,unhide HBF,unhide HO,.inl ⟨rfl,h1,hlk,?_⟩⟩,?_⟩
       ·rw [unhide HZS,h1,List.take_length]
       ·rw [show tkOf2 (w.heap.size+6) w11=t+1 by rw [tkOf2,h2.q.cell (by omega)]; simp [intOf]]
        show 2 * (A.n - (t+1))+0<_
        omega
      ·have hlt2:t+1<o.length:=(List.getElem?_eq_some_iff.1 h1).1
       refine ⟨_,_,rfl,⟨o,_,ys,zs,_,_,_,h2,unhide HBF,unhide HO,.inr ⟨rfl,t+1,s',rfl,h1,rfl,hlk,unhide HZS⟩⟩,?_⟩
       rw [show tkOf2 (w.heap.size+6) w11=t+1+1 by rw [tkOf2,h2.q.cell (by omega)]; simp [intOf]; omega]
       show 2 * (A.n - (t+1+1))+1<_
       omega
     obtain ⟨nv11,ov11,rfl,hH11,hm11⟩ := hH11
     have HH11:=hide hH11
     have HM11:=hide hm11
     clear hcs hH11 hm11 HPO
     go_wp2
     go_roundw
     case rel => exact unhide HH11
     case measure =>
      have hm:=unhide HM11
      rw [unhide HME]
      exact hm
set_option maxHeartbeats 4000000 in
set_option maxRecDepth 100000 in
theorem merge_acc {u0 u2 u3 u5 u6 u7 u8 u9 u10 u11 u12 u14 u15 u16 u17 u18 u19 u20 u21 u22 u23 u24 u25 u26 u27 u28 u29 u30 u31 u32 u33 u34 u35 u36 u37 u38 u39 u40 u41 u42 u43 u44 u45 u46 u47 u48 u49 u50 u51 u52 u53 u54 u55 u56 u57 u58 u59 u60 u61 u62 u63 u64 u65 u66 u67 u68 u69 u70 u71 u72 u73 u74 u75 u76 u77 u78 u79 u80 u81 u82 u83 u84 u85:Value} {K K1 K2 K3:Act→World→Prop} {n1 n2:Nat} {R:Ending→World→Prop} (w7:World) (db ob ab ao n ca s N oc lo:Nat) (oa:Option Addr) (x:Bool) (xs:List Value) (hs:s<n) (hob:ob<w7.heap.size) (hlo:lo≤w7.heap.size) (hN:N≤1000000)
  (y3:w7.cell? ⟨ob,3,none⟩ = some (.slice oa N oc)) (k3:w7.cell? ⟨db,3,none⟩ = some (.slice (some ⟨ab,ao,none⟩) n ca)) (k0:w7.cell? ⟨ab,ao+s,none⟩ = some (.bool x))
  (hrk:w7.ownsRow lo 4 1 (.slice oa N oc) N xs)
  (hps:∀ (WA w8:World) (gg cap:Nat),w8.ownsRow lo 4 1 (.slice (some ⟨gg,0,none⟩) (N+1) cap) (N+1) (xs ++ [.bool x])→WA.grownBy w8 (Value.slice oa N oc).ownBlock→((Value.slice oa N oc).ownBlock=some gg∨gg=w7.heap.size+1)→Pushd w7 WA (.cells #[.bool x] 4) →
   w8.cell? ⟨ob,3,none⟩ = some (.slice oa N oc)∧w8.frozen? ⟨ob,3,none⟩ = false∧K { tmps:=#[u0,.pointer (some ⟨db,0,none⟩),u2,u3,.pointer (some ⟨ob,0,none⟩),u5,u6,u7,u8,u9,u10,u11,u12,.int .i64 (s:Nat),u14,u15,u16,u17,u18,u19,u20,u21,u22,u23,u24,u25,u26,u27,u28,u29,u30,u31,u32,u33,u34,u35,u36,u37,u38,u39,u40,u41,u42,u43,u44,u45,u46,u47,u48,u49,u50,u51,u52,u53,u54,u55,.pointer (some ⟨ob,3,none⟩),.slice oa N oc,.pointer (some ⟨db,3,none⟩),.slice (some ⟨ab,ao,none⟩) n ca,.int .i64 (s:Nat),.pointer (some ⟨ab,ao+s,none⟩),.bool x,.slice (some ⟨w7.heap.size,0,none⟩) 1 1,.slice (some ⟨gg,0,none⟩) (N+1) cap,.pointer (some ⟨ob,3,none⟩),u66,u67,u68,u69,u70,u71,u72,u73,u74,u75,u76,u77,u78,u79,u80,u81,u82,u83,u84,u85],defers := [] } (w8.setCell ⟨ob,3,none⟩ (.slice (some ⟨gg,0,none⟩) (N+1) cap))) :
  Code.wp Tryz.prog (Code.region 17 #[{ dst:=some 56,op:=Op.fieldAddr 29 (Operand.tmp 4) 3,type:=0,pos := "l2_dfa.go:464",after:=#[],guard:=none },{ dst:=some 57,op:=Op.load 27 (Operand.tmp 56),type:=27,pos := "l2_dfa.go:464",after:=#[{ on:=0,ground:=Ground.data }],guard:=none },{ dst:=some 58,op:=Op.fieldAddr 29 (Operand.tmp 1) 3,type:=0,pos := "l2_dfa.go:464",after:=#[],guard:=none },{ dst:=some 59,op:=Op.load 27 (Operand.tmp 58),type:=27,pos := "l2_dfa.go:464",after:=#[{ on:=2,ground:=Ground.data }],guard:=none },{ dst:=some 60,op:=Op.move (Operand.tmp 13),type:=3,pos := "l2_dfa.go:464",after:=#[],guard:=none },{ dst:=some 61,op:=Op.indexAddr 27 (Operand.tmp 59) (Operand.tmp 60),type:=0,pos := "l2_dfa.go:464",after:=#[{ on:=3,ground:=Ground.data },{ on:=4,ground:=Ground.data }],guard:=none },{ dst:=some 62,op:=Op.load 4 (Operand.tmp 61),type:=4,pos := "l2_dfa.go:464",after:=#[{ on:=5,ground:=Ground.data }],guard:=none },{ dst:=some 63,op:=Op.buildSlice 27 1 #[(0,Operand.tmp 62)],type:=27,pos := "l2_dfa.go:464",after:=#[{ on:=6,ground:=Ground.data }],guard:=none },{ dst:=some 64,op:=Op.call { callee:=Callee.builtin Builtin.append,args:=#[Operand.tmp 57,Operand.tmp 63],argTypes:=#[27,27] },type:=27,pos := "l2_dfa.go:464",after:=#[{ on:=1,ground:=Ground.data },{ on:=7,ground:=Ground.data }],guard:=none },{ dst:=some 65,op:=Op.fieldAddr 29 (Operand.tmp 4) 3,type:=0,pos := "l2_dfa.go:464",after:=#[{ on:=0,ground:=Ground.phase },{ on:=1,ground:=Ground.phase },{ on:=2,ground:=Ground.phase },{ on:=3,ground:=Ground.phase },{ on:=4,ground:=Ground.phase },{ on:=5,ground:=Ground.phase },{ on:=6,ground:=Ground.phase },{ on:=7,ground:=Ground.phase },{ on:=8,ground:=Ground.phase }],guard:=none },{ dst:=none,op:=Op.store 27 (Operand.tmp 65) (Operand.tmp 64),type:=0,pos := "l2_dfa.go:464",after:=#[{ on:=9,ground:=Ground.data },{ on:=8,ground:=Ground.data },{ on:=8,ground:=Ground.chain },{ on:=0,ground:=Ground.phase },{ on:=1,ground:=Ground.phase },{ on:=2,ground:=Ground.phase },{ on:=3,ground:=Ground.phase },{ on:=4,ground:=Ground.phase },{ on:=5,ground:=Ground.phase },{ on:=6,ground:=Ground.phase },{ on:=7,ground:=Ground.phase },{ on:=8,ground:=Ground.phase }],guard:=none }] true) (Exit.then K (Exit.inBlock n1 (Exit.then K1 (Exit.then K2 (Exit.inBlock n2 (Exit.then K3 (bodyPost Tryz.prog Tryz.f55 R))))))) { tmps:=#[u0,.pointer (some ⟨db,0,none⟩),u2,u3,.pointer (some ⟨ob,0,none⟩),u5,u6,u7,u8,u9,u10,u11,u12,.int .i64 (s:Nat),u14,u15,u16,u17,u18,u19,u20,u21,u22,u23,u24,u25,u26,u27,u28,u29,u30,u31,u32,u33,u34,u35,u36,u37,u38,u39,u40,u41,u42,u43,u44,u45,u46,u47,u48,u49,u50,u51,u52,u53,u54,u55,u56,u57,u58,u59,u60,u61,u62,u63,u64,u65,u66,u67,u68,u69,u70,u71,u72,u73,u74,u75,u76,u77,u78,u79,u80,u81,u82,u83,u84,u85],defers := [] } w7:=by
 obtain ⟨j0,hj0,hy0,hy1,hy2⟩ := info_parts Tryz.zinBoo
 have y3':=(below1 w7 (.cells #[.bool x] 4)).cell (p:=⟨ob,3,none⟩) hob
 rw [y3] at y3'
 have hs':(s:Int)<(n:Int):=by omega
 have HPS:=hide hps
 have HRK:=hide hrk
 clear hps hrk
 go_region_law (
  (refine step_append_lies _ rfl (.tmp 57) (.tmp 63) 27 rfl lo 4 j0 (.bool false) 1 1 Tryz.underlying27 hj0 hy0 hy1 hy2 rfl (by decide) (.slice oa N oc) N xs (by first | (simp [Act.eval]; done) | (simp [Act.eval,Act.put]; done)) (by refine Pushd.own (w:=w7) (o:=.cells #[.bool x] 4) ?_ (unhide HRK); exact ⟨rfl,rfl,rfl,rfl⟩) ⟨w7.heap.size,0,none⟩ 1 1 [.bool x] (by first | (simp [Act.eval]; done) | (simp [Act.eval,Act.put]; done)) rfl (by refine Pushd.news (w:=w7) (cs:=#[.bool x]) (t:=4) ?_; exact ⟨rfl,rfl,rfl,rfl⟩) (by intro u hu; simp only [List.mem_cons,List.not_mem_nil,or_false] at hu; subst hu; rfl) (by decide) (by unfold maxLen; omega) (by omega) (by have hq:=sz_alloc w7 (.cells #[.bool x] 4); exact Nat.le_trans hlo (Nat.le_of_lt (Nat.lt_of_lt_of_eq (Nat.lt_succ_self _) hq.symm))) (w7.heap.size+1) (sz_alloc w7 _) (fun gg cap w8 r1 r2 r3 r4 => ?_); have h8:=hide (unhide HPS _ w8 gg cap r1 r2 r3 (by exact ⟨rfl,rfl,rfl,rfl⟩)); obtain ⟨c7,z7,-⟩ := unhide h8; clear r1 r2 r3 r4))
 all_goals exact (unhide h8).2.2
end Go.Proofs.YtlidckepahpaeaaGreatDoor
