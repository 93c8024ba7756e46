import Derived.Test.YtlidckepahpaeaaGreatDoorPk33
import Derived.Test.YtlidckepahpaeaaGreatDoorPk34
import Derived.Test.YtlidckepahpaeaaGreatDoorPk28
import Derived.Test.YtlidckepahpaeaaGreatDoorPk29
import Derived.Test.YtlidckepahpaeaaGreatDoorPk24
import Derived.Test.YtlidckepahpaeaaGreatDoorPk27
import Derived.Test.YtlidckepahpaeaaGreatDoorPk31
namespace Go.Proofs.YtlidckepahpaeaaGreatDoor
open Go.RowKit
theorem AutAt.rd {O:Nat→Prop} {A N:Nat} {w:World} {S:List (List Int)} {K:List Lk} {b:Bool} {f l:Nat→Nat} (h:AutAt O A w N S K b f l):∃ sv gs fv fs,w.cell? ⟨A,0,none⟩ = some sv∧RsB w sv N gs∧S.length=N∧(∀ i,i<N→WordsOf (S[i]?.getD []) (gs i))∧AutR w A N fv fs b f l∧(∀ i,Fit (fs i))∧∀ i j,Bt (fs i) j=mkd K i j:=by
 obtain ⟨⟨sv,fv,gs,hs,hM,h2,h3,h4,h5,-⟩,F2,hF2,hE⟩ := h
 obtain ⟨F,hF,h0,h1⟩ := hM.box
 refine ⟨sv,gs,fv,hs,by rw [hF.cell (by omega),h0],hM.so,h2,fun i hi => (h3 i hi).2,⟨⟨F2,hF2,?_,hE⟩,hM.fo⟩,h4,h5⟩
 have q1:=hF.cell (i:=1) (by omega)
 have q2:=hF2.cell (i:=1) (by omega)
 rw [q1] at q2
 rw [← Option.some.inj q2,h1]
theorem wkR_of {w w' W:World} {A N:Nat} {fv:Value} {fs gs:Nat→Nat→Nat} {b:Bool} {f l:Nat→Nat} {gc mm:Nat} {K:Nat→Nat} {hs H:Nat→Nat→Nat} {hv:Value} {ks:List Value} (hA:AutR w A N fv fs b f l) (hb:Below w.heap.size w w') (hW:W=w'.alloc (.cells #[.pointer (some ⟨A,0,none⟩),.slice (some ⟨gc,0,none⟩) 256 256,hv] 54))
  (hrow:w'.rowIs gc 3 256 (fun x => .int .i64 (K x:Nat))) (hhol:RsP w' hv mm hs) (hcl:Cls H 256 mm K hs ks) (hH:∀ x,x<256→Fit (H x)∧∀ i,Bt (H x) i=true↔(i<N∧Bt (gs i) x=true)) (hf:Fit f) (hl:Fit l) (hfs:∀ i,Fit (fs i)):WkR W w'.heap.size A N mm gc hv fv K hs fs b f l:=by
 subst hW
 have hbA:=below1 w' (.cells #[.pointer (some ⟨A,0,none⟩),.slice (some ⟨gc,0,none⟩) 256 256,hv] 54)
 refine ⟨(pushd_alloc w' _).new,(hA.keep hb (Nat.le_refl _)).keep hbA (Nat.le_refl _),hrow.alloc _,own_keep hhol hbA (Nat.le_refl _),fun x hx => (hcl.cl x hx).1,fun j hj => ?_,hf,hl,hfs,fun j hj i hi => ?_⟩
 ·obtain ⟨x,h1,h2⟩ := hcl.src j hj
  rw [h2]; exact (hH x h1).1
 ·obtain ⟨x,h1,h2⟩ := hcl.src j hj
  rw [h2] at hi
  exact (((hH x h1).2 i).1 hi).1
def pab (N:Nat) (p:(Nat→Nat) × Bool):List Nat × Bool:=(blN p.1 N,p.2)
def Low (N:Nat) (g:Nat→Nat):Prop:=Fit g∧∀ i,Bt g i=true→i<N
theorem fit_ext {g h:Nat→Nat} (hg:Fit g) (hh:Fit h) (e:∀ i,i<512→Bt g i=Bt h i) (k:Nat) (hk:k<8):g k=h k:=by
 apply Nat.eq_of_testBit_eq
 intro j
 by_cases hj:j<64
 ·have:=e (k * 64+j) (by omega)
  unfold Bt at this
  rw [show (k * 64+j) / 64=k by omega,show (k * 64+j) % 64=j by omega] at this
  exact this
 ·rw [Nat.testBit_lt_two_pow (Nat.lt_of_lt_of_le (hg k) (by
   show (2:Nat) ^ 64≤2 ^ j
   exact Nat.pow_le_pow_right (by omega) (by omega))),Nat.testBit_lt_two_pow (Nat.lt_of_lt_of_le (hh k) (by
   show (2:Nat) ^ 64≤2 ^ j
   exact Nat.pow_le_pow_right (by omega) (by omega)))]
theorem pd_eq {g h:Nat→Nat} {e e':Bool} (hw:∀ k,k<8→g k=h k) (he:e=e'):pd g e=pd h e':=by
 unfold pd
 rw [hw 0 (by omega),hw 1 (by omega),hw 2 (by omega),hw 3 (by omega),hw 4 (by omega),hw 5 (by omega),hw 6 (by omega),hw 7 (by omega),he]
theorem pd_inj {g h:Nat→Nat} {e e':Bool} (hp:pd g e=pd h e'):(∀ k,k<8→g k=h k)∧e=e':=by
 unfold pd at hp
 simp only [Value.agg.injEq,Array.mk.injEq,List.cons.injEq,Value.int.injEq,Value.bool.injEq,true_and,and_true] at hp
 obtain ⟨a0,a1,a2,a3,a4,a5,a6,a7,a8⟩ := hp
 refine ⟨fun k hk => ?_,a8⟩
 match k,hk with
 | 0,_ => exact Int.ofNat.inj a0
 | 1,_ => exact Int.ofNat.inj a1
 | 2,_ => exact Int.ofNat.inj a2
 | 3,_ => exact Int.ofNat.inj a3
 | 4,_ => exact Int.ofNat.inj a4
 | 5,_ => exact Int.ofNat.inj a5
 | 6,_ => exact Int.ofNat.inj a6
 | 7,_ => exact Int.ofNat.inj a7
theorem mem_blN (g:Nat→Nat) (N i:Nat):i ∈ blN g N↔i<N∧Bt g i=true:=by
 unfold blN
 rw [List.mem_filter,List.mem_range]
theorem pab_iff {N:Nat} (hN:N≤512) {g h:Nat→Nat} {e e':Bool} (hg:Low N g) (hh:Low N h):pd g e=pd h e'↔pab N (g,e)=pab N (h,e'):=by
 constructor
 ·intro hp
  obtain ⟨h1,h2⟩ := pd_inj hp
  have:blN g N=blN h N:=by
   unfold blN
   refine List.filter_congr fun i hi => ?_
   have:=List.mem_range.1 hi
   unfold Bt
   rw [h1 (i / 64) (by omega)]
  simp only [pab,this,h2]
 ·intro hp
  simp only [pab,Prod.mk.injEq] at hp
  refine pd_eq (fit_ext hg.1 hh.1 fun i hi => ?_) hp.2
  rw [Bool.eq_iff_iff]
  constructor
  ·intro k
   have:=(mem_blN g N i).2 ⟨hg.2 i k,k⟩
   rw [hp.1] at this
   exact ((mem_blN h N i).1 this).2
  ·intro k
   have:=(mem_blN h N i).2 ⟨hh.2 i k,k⟩
   rw [← hp.1] at this
   exact ((mem_blN g N i).1 this).2
theorem step_pab {N:Nat} (hN:N≤512) {hold fol:Nat→Nat→Bool} {last:Nat→Bool} {fs:Nat→Nat→Nat} {l Q hc:Nat→Nat} {e0:Bool} {b:Nat} (hQ:Low N Q) (hh:∀ i,Bt hc i=hold i b) (hf:∀ i j,Bt (fs i) j=fol i j) (hl:∀ i,Bt l i=last i) :
  pab N (orL fs (blN (andW Q hc) 512),!(eq8 (andW (andW Q hc) l)))=pstep N hold fol last (pab N (Q,e0)) b:=by
 simp only [pab,pstep,Prod.mk.injEq]
 refine ⟨?_,?_⟩
 ·show (List.range N).filter _=_
  refine List.filter_congr fun j _ => ?_
  rw [Bool.eq_iff_iff,bt_orL,List.any_eq_true]
  constructor
  ·rintro ⟨k,hk,hb⟩
   obtain ⟨-,hk⟩ := (mem_blN _ _ _).1 hk
   rw [bt_and,Bool.and_eq_true] at hk
   exact ⟨k,(mem_blN _ _ _).2 ⟨hQ.2 k hk.1,hk.1⟩,by rw [← hh,← hf,hk.2,hb]; rfl⟩
  ·rintro ⟨k,hk,hb⟩
   obtain ⟨h1,h2⟩ := (mem_blN _ _ _).1 hk
   rw [Bool.and_eq_true,← hh,← hf] at hb
   exact ⟨k,(mem_blN _ _ _).2 ⟨by omega,by rw [bt_and,h2,hb.1]; rfl⟩,hb.2⟩
 ·rw [Bool.eq_iff_iff,eq8_none (fit_and (fit_and hQ.1)),List.any_eq_true]
  constructor
  ·rintro ⟨k,-,hk⟩
   rw [bt_and,bt_and,Bool.and_eq_true,Bool.and_eq_true] at hk
   exact ⟨k,(mem_blN _ _ _).2 ⟨hQ.2 k hk.1.1,hk.1.1⟩,by rw [← hh,← hl,hk.1.2,hk.2]; rfl⟩
  ·rintro ⟨k,hk,hb⟩
   obtain ⟨h1,h2⟩ := (mem_blN _ _ _).1 hk
   rw [Bool.and_eq_true,← hh,← hl] at hb
   exact ⟨k,by omega,by rw [bt_and,bt_and,h2,hb.1,hb.2]; rfl⟩
theorem step_low {N:Nat} {fs:Nat→Nat→Nat} {Y:List Nat} (hfs:∀ i,Fit (fs i)) (hfN:∀ i j,Bt (fs i) j=true→j<N):Low N (orL fs Y):=⟨fit_orL hfs Y,fun j hj => by
 obtain ⟨k,-,hk⟩ := (bt_orL Y j).1 hj
 exact hfN k j hk⟩
theorem Cls.num1 {H hs:Nat→Nat→Nat} {mm:Nat} {K:Nat→Nat} {ks:List Value} (h:Cls H 256 mm K hs ks):∃ rep,Num1 256 mm K rep:=by
 have key:∀ j,∃ x,j<mm→x<256∧K x=j∧∀ x',x'<x→K x'<j:=fun j => by
  by_cases hj:j<mm
  ·obtain ⟨x,hx⟩ := h.fo j hj; exact ⟨x,fun _ => hx⟩
  ·exact ⟨0,fun q => absurd q hj⟩
 obtain ⟨rep,hrep⟩ := Classical.axiomOfChoice key
 refine ⟨rep,fun s hs => (h.cl s hs).1,fun j hj => ⟨(hrep j hj).1,(hrep j hj).2.1⟩,fun s hs => ?_,fun i j hij hj => ?_⟩
 ·apply Nat.le_of_not_lt
  intro hlt
  have:=(hrep (K s) (h.cl s hs).1).2.2 s hlt
  omega
 ·obtain ⟨i1,i2,i3⟩ := hrep i (by omega)
  obtain ⟨j1,j2,j3⟩ := hrep j hj
  rcases Nat.lt_trichotomy (rep i) (rep j) with q | q | q
  ·exact q
  ·rw [q,j2] at i2; omega
  ·have:=i3 _ q; omega
theorem gro_old {w w2:World} {v:Value} (r2:FrO (Gro v w.heap.size) w w2):∀ k,k<w.heap.size→v.ownBlock ≠ some k→w2.heap[k]? = w.heap[k]? := fun k hk hne => r2.block k (by rintro (q | q) <;> first | exact hne q | omega)
def pdv (p:(Nat→Nat) × Bool):Value:=pd p.1 p.2
structure TbAt (w0 w:World) (db mb kb qb lo:Nat) (cl:Value) (k:Nat) (ks o:List ((Nat→Nat) × Bool)) (tk:Nat) (ys:List Nat) (zs:List Bool) (qv nv av:Value):Prop where
 e1:w0.heap.size<db∧db<lo∧w0.heap.size<mb∧mb<lo∧w0.heap.size<kb∧kb<lo∧w0.heap.size<qb∧qb<lo
 e2:db ≠ mb∧db ≠ kb∧db ≠ qb∧mb ≠ kb∧mb ≠ qb∧kb ≠ qb
 res:∃ F,w.rowIs w0.heap.size 29 4 F
 d:Row4 w db 29 cl (.int .i64 (k:Nat)) nv av
 num:NumAt 115 w mb (ks.map pdv)
 kn:w.rowIs kb 112 1 (fun _ => .map (some mb))
 q:Rq2 w qb 118 qv (.int .i64 (tk:Nat))
 oq:w.ownsRow lo 115 9 qv o.length (fl9 o)
 on:w.ownsRow lo 3 1 nv ys.length (ys.map mN)
 oa:w.ownsRow lo 4 1 av zs.length (zs.map mT)
 qn:∀ r,qv.ownBlock=some r→nv.ownBlock ≠ some r∧av.ownBlock ≠ some r
 na:∀ r,nv.ownBlock=some r→av.ownBlock ≠ some r
 bl:Below w0.heap.size w0 w
 sz:lo≤w.heap.size
section
variable {w0 w w':World} {db mb kb qb lo:Nat} {cl:Value} {k:Nat} {ks o:List ((Nat→Nat) × Bool)} {tk:Nat} {ys:List Nat} {zs:List Bool} {qv nv av:Value}
theorem TbAt.keep (h:TbAt w0 w db mb kb qb lo cl k ks o tk ys zs qv nv av) (hb:Below w.heap.size w w'):TbAt w0 w' db mb kb qb lo cl k ks o tk ys zs qv nv av:=by
 have hz:=h.sz
 obtain ⟨a1,a2,a3,a4,a5,a6,a7,a8⟩ := h.e1
 have e:∀ k,k<w.heap.size→w'.heap[k]? = w.heap[k]? := fun k hk => hb.block k hk
 obtain ⟨F,hF⟩ := h.res
 exact ⟨h.e1,h.e2,⟨F,hF.of_block (e _ (by omega))⟩,World.rowIs.of_block h.d (e _ (by omega)),h.num.keep (e _ (by omega)),h.kn.of_block (e _ (by omega)),h.q.on (e _ (by omega)),own_blk h.oq (fun r hr => e r (own_lt h.oq r hr)),own_blk h.on (fun r hr => e r (own_lt h.on r hr)),own_blk h.oa (fun r hr => e r (own_lt h.oa r hr)),h.qn,h.na,h.bl.trans (hb.mono (by have:=h.bl.size; omega)),by have:=hb.size; omega⟩
theorem TbAt.looked {ks':List ((Nat→Nat) × Bool)} (h:TbAt w0 w db mb kb qb lo cl k ks o tk ys zs qv nv av) (hf:FrO (OneB w mb) w w') (hn:NumAt 115 w' mb (ks'.map pdv)):TbAt w0 w' db mb kb qb lo cl k ks' o tk ys zs qv nv av:=by
 have hz:=h.sz
 obtain ⟨a1,a2,a3,a4,a5,a6,a7,a8⟩ := h.e1
 obtain ⟨c1,c2,c3,c4,c5,c6⟩ := h.e2
 have e:∀ k,k<w.heap.size→k ≠ mb→w'.heap[k]? = w.heap[k]? := fun k hk hne => hf.block k (by rintro (h1 | h1) <;> omega)
 obtain ⟨F,hF⟩ := h.res
 exact ⟨h.e1,h.e2,⟨F,hF.of_block (e _ (by omega) (by omega))⟩,World.rowIs.of_block h.d (e _ (by omega) (by omega)),hn,h.kn.of_block (e _ (by omega) (by omega)),h.q.on (e _ (by omega) (by omega)),own_blk h.oq (fun r hr => e r (own_lt h.oq r hr) (by have:=(h.oq.lt r hr).1; omega)),own_blk h.on (fun r hr => e r (own_lt h.on r hr) (by have:=(h.on.lt r hr).1; omega)),own_blk h.oa (fun r hr => e r (own_lt h.oa r hr) (by have:=(h.oa.lt r hr).1; omega)),h.qn,h.na,⟨hf.os.trans h.bl.os,hf.tape.trans h.bl.tape,hf.output.trans h.bl.output,Nat.le_trans h.bl.size hf.size,fun k hk => (e k (by have:=h.bl.size; omega) (by omega)).trans (h.bl.block k hk)⟩,by have:=hf.size; omega⟩
theorem TbAt.popd (h:TbAt w0 w db mb kb qb lo cl k ks o tk ys zs qv nv av) (hf:FrO (OneB w qb) w w') (hq:Rq2 w' qb 118 qv (.int .i64 ((tk+1:Nat):Int))):TbAt w0 w' db mb kb qb lo cl k ks o (tk+1) ys zs qv nv av:=by
 have hz:=h.sz
 obtain ⟨a1,a2,a3,a4,a5,a6,a7,a8⟩ := h.e1
 obtain ⟨c1,c2,c3,c4,c5,c6⟩ := h.e2
 have e:∀ k,k<w.heap.size→k ≠ qb→w'.heap[k]? = w.heap[k]? := fun k hk hne => hf.block k (by rintro (h1 | h1) <;> omega)
 obtain ⟨F,hF⟩ := h.res
 exact ⟨h.e1,h.e2,⟨F,hF.of_block (e _ (by omega) (by omega))⟩,World.rowIs.of_block h.d (e _ (by omega) (by omega)),h.num.keep (e _ (by omega) (by omega)),h.kn.of_block (e _ (by omega) (by omega)),hq,own_blk h.oq (fun r hr => e r (own_lt h.oq r hr) (by have:=(h.oq.lt r hr).1; omega)),own_blk h.on (fun r hr => e r (own_lt h.on r hr) (by have:=(h.on.lt r hr).1; omega)),own_blk h.oa (fun r hr => e r (own_lt h.oa r hr) (by have:=(h.oa.lt r hr).1; omega)),h.qn,h.na,⟨hf.os.trans h.bl.os,hf.tape.trans h.bl.tape,hf.output.trans h.bl.output,Nat.le_trans h.bl.size hf.size,fun k hk => (e k (by have:=h.bl.size; omega) (by omega)).trans (h.bl.block k hk)⟩,by have:=hf.size; omega⟩
theorem TbAt.pushQ {v':Value} {x:(Nat→Nat) × Bool} (h:TbAt w0 w db mb kb qb lo cl k ks o tk ys zs qv nv av) (r1:w'.ownsRow lo 115 9 v' (o ++ [x]).length (fl9 (o ++ [x]))) (hq:Rq2 w' qb 118 v' (.int .i64 (tk:Nat))) (hf:FrO (fun k => k=qb∨qv.ownBlock=some k∨w.heap.size≤k) w w') (r3:∀ q,v'.ownBlock=some q→qv.ownBlock=some q∨w.heap.size≤q) :
  TbAt w0 w' db mb kb qb lo cl k ks (o ++ [x]) tk ys zs v' nv av:=by
 have hz:=h.sz
 obtain ⟨a1,a2,a3,a4,a5,a6,a7,a8⟩ := h.e1
 obtain ⟨c1,c2,c3,c4,c5,c6⟩ := h.e2
 have e:∀ k,k<w.heap.size→k ≠ qb→qv.ownBlock ≠ some k→w'.heap[k]? = w.heap[k]? := fun k hk hne hq => hf.block k (by rintro (h1 | h1 | h1) <;> first | omega | exact hq h1)
 have nq:∀ k,k<lo→qv.ownBlock ≠ some k:=fun k hk e => by have:=(h.oq.lt k e).1; omega
 obtain ⟨F,hF⟩ := h.res
 refine ⟨h.e1,h.e2,⟨F,hF.of_block (e _ (by omega) (by omega) (nq _ (by omega)))⟩,World.rowIs.of_block h.d (e _ (by omega) (by omega) (nq _ (by omega))),h.num.keep (e _ (by omega) (by omega) (nq _ (by omega))),h.kn.of_block (e _ (by omega) (by omega) (nq _ (by omega))),hq,r1,own_blk h.on (fun r hr => e r (own_lt h.on r hr) (by have:=(h.on.lt r hr).1; omega) (fun e2 => (h.qn r e2).1 hr)),own_blk h.oa (fun r hr => e r (own_lt h.oa r hr) (by have:=(h.oa.lt r hr).1; omega) (fun e2 => (h.qn r e2).2 hr)),fun r hr => ?_,h.na,⟨hf.os.trans h.bl.os,hf.tape.trans h.bl.tape,hf.output.trans h.bl.output,Nat.le_trans h.bl.size hf.size,fun k hk => (e k (by have:=h.bl.size; omega) (by omega) (nq _ (by omega))).trans (h.bl.block k hk)⟩,by have:=hf.size; omega⟩
 rcases r3 r hr with e2 | e2
 ·exact h.qn r e2
 ·exact ⟨fun e3 => by have:=own_lt h.on r e3; omega,fun e3 => by have:=own_lt h.oa r e3; omega⟩
theorem TbAt.pushN {w2:World} {v':Value} {x:Nat} (h:TbAt w0 w db mb kb qb lo cl k ks o tk ys zs qv nv av) (r1:w2.ownsRow lo 3 1 v' (ys ++ [x]).length ((ys ++ [x]).map mN)) (r2:FrO (Gro nv w.heap.size) w w2) (r3:∀ q,v'.ownBlock=some q→nv.ownBlock=some q∨w.heap.size≤q) :
  w2.cell? ⟨db,2,none⟩ = some nv∧w2.frozen? ⟨db,2,none⟩ = false∧TbAt w0 (w2.setCell ⟨db,2,none⟩ v') db mb kb qb lo cl k ks o tk (ys ++ [x]) zs qv v' av:=by
 have hz:=h.sz
 have hz2:=r2.size
 obtain ⟨a1,a2,a3,a4,a5,a6,a7,a8⟩ := h.e1
 obtain ⟨c1,c2,c3,c4,c5,c6⟩ := h.e2
 have k2:=gro_old r2
 have nq:∀ k,k<lo→nv.ownBlock ≠ some k:=fun k hk e => by have:=(h.on.lt k e).1; omega
 have e:∀ k,k<w.heap.size→k ≠ db→nv.ownBlock ≠ some k→(w2.setCell ⟨db,2,none⟩ v').heap[k]? = w.heap[k]? := fun k hk hne hq => (Below.heap_setCell _ _ _ _ (by show k ≠ db; exact hne)).trans (k2 k hk hq)
 have lo':∀ k,k<lo→k ≠ db→(w2.setCell ⟨db,2,none⟩ v').heap[k]? = w.heap[k]? := fun k hk hne => e k (by omega) hne (nq k hk)
 have ho2:Row4 w2 db 29 cl (.int .i64 (k:Nat)) nv av:=World.rowIs.of_block h.d (k2 _ (by omega) (nq _ (by omega)))
 obtain ⟨F,hF⟩ := h.res
 refine ⟨ho2.facts.2.2.1,World.rowIs.frozen ho2 2,h.e1,h.e2,⟨F,hF.of_block (lo' _ (by omega) (by omega))⟩,ho2.put2,h.num.keep (lo' _ (by omega) (by omega)),h.kn.of_block (lo' _ (by omega) (by omega)),h.q.on (lo' _ (by omega) (by omega)),own_blk h.oq (fun r hr => e r (own_lt h.oq r hr) (by have:=(h.oq.lt r hr).1; omega) (fun e2 => (h.qn r hr).1 e2)),own_blk r1 (fun r hr => Below.heap_setCell _ _ _ _ (by show r ≠ db; have:=(r1.lt r hr).1; omega)),own_blk h.oa (fun r hr => e r (own_lt h.oa r hr) (by have:=(h.oa.lt r hr).1; omega) (fun e2 => h.na r e2 hr)),fun r hr => ⟨fun e3 => ?_,(h.qn r hr).2⟩,fun r hr => ?_,⟨r2.os.trans h.bl.os,r2.tape.trans h.bl.tape,r2.output.trans h.bl.output,by rw [sz_put]; have:=h.bl.size; omega,fun k hk => (lo' k (by omega) (by omega)).trans (h.bl.block k hk)⟩,by rw [sz_put]; omega⟩
 ·rcases r3 r e3 with e2 | e2
  ·exact (h.qn r hr).1 e2
  ·have:=own_lt h.oq r hr; omega
 ·rcases r3 r hr with e2 | e2
  ·exact h.na r e2
  ·exact fun e3 => by have:=own_lt h.oa r e3; omega
theorem TbAt.pushA {w2:World} {v':Value} {x:Bool} (h:TbAt w0 w db mb kb qb lo cl k ks o tk ys zs qv nv av) (r1:w2.ownsRow lo 4 1 v' (zs ++ [x]).length ((zs ++ [x]).map mT)) (r2:FrO (Gro av w.heap.size) w w2) (r3:∀ q,v'.ownBlock=some q→av.ownBlock=some q∨w.heap.size≤q) :
  w2.cell? ⟨db,3,none⟩ = some av∧w2.frozen? ⟨db,3,none⟩ = false∧TbAt w0 (w2.setCell ⟨db,3,none⟩ v') db mb kb qb lo cl k ks o tk ys (zs ++ [x]) qv nv v':=by
 have hz:=h.sz
 have hz2:=r2.size
 obtain ⟨a1,a2,a3,a4,a5,a6,a7,a8⟩ := h.e1
 obtain ⟨c1,c2,c3,c4,c5,c6⟩ := h.e2
 have k2:=gro_old r2
 have nq:∀ k,k<lo→av.ownBlock ≠ some k:=fun k hk e => by have:=(h.oa.lt k e).1; omega
 have e:∀ k,k<w.heap.size→k ≠ db→av.ownBlock ≠ some k→(w2.setCell ⟨db,3,none⟩ v').heap[k]? = w.heap[k]? := fun k hk hne hq => (Below.heap_setCell _ _ _ _ (by show k ≠ db; exact hne)).trans (k2 k hk hq)
 have lo':∀ k,k<lo→k ≠ db→(w2.setCell ⟨db,3,none⟩ v').heap[k]? = w.heap[k]? := fun k hk hne => e k (by omega) hne (nq k hk)
 have ho2:Row4 w2 db 29 cl (.int .i64 (k:Nat)) nv av:=World.rowIs.of_block h.d (k2 _ (by omega) (nq _ (by omega)))
 obtain ⟨F,hF⟩ := h.res
 refine ⟨ho2.facts.2.2.2.1,World.rowIs.frozen ho2 3,h.e1,h.e2,⟨F,hF.of_block (lo' _ (by omega) (by omega))⟩,ho2.put3',h.num.keep (lo' _ (by omega) (by omega)),h.kn.of_block (lo' _ (by omega) (by omega)),h.q.on (lo' _ (by omega) (by omega)),own_blk h.oq (fun r hr => e r (own_lt h.oq r hr) (by have:=(h.oq.lt r hr).1; omega) (fun e2 => (h.qn r hr).2 e2)),own_blk h.on (fun r hr => e r (own_lt h.on r hr) (by have:=(h.on.lt r hr).1; omega) (fun e2 => h.na r hr e2)),own_blk r1 (fun r hr => Below.heap_setCell _ _ _ _ (by show r ≠ db; have:=(r1.lt r hr).1; omega)),fun r hr => ⟨(h.qn r hr).1,fun e3 => ?_⟩,fun r hr e3 => ?_,⟨r2.os.trans h.bl.os,r2.tape.trans h.bl.tape,r2.output.trans h.bl.output,by rw [sz_put]; have:=h.bl.size; omega,fun k hk => (lo' k (by omega) (by omega)).trans (h.bl.block k hk)⟩,by rw [sz_put]; omega⟩
 ·rcases r3 r e3 with e2 | e2
  ·exact (h.qn r hr).2 e2
  ·have:=own_lt h.oq r hr; omega
 ·rcases r3 r e3 with e2 | e2
  ·exact h.na r hr e2
  ·have:=own_lt h.on r hr; omega
def KpB (lo:Nat) (w w':World) (qv nv av qv' nv' av':Value):Prop:=∀ r,lo≤r→r<w.heap.size→qv.ownBlock ≠ some r→nv.ownBlock ≠ some r→av.ownBlock ≠ some r→w'.heap[r]? = w.heap[r]?∧qv'.ownBlock ≠ some r∧nv'.ownBlock ≠ some r∧av'.ownBlock ≠ some r
theorem KpB.keep (hb:Below w.heap.size w w'):KpB lo w w' qv nv av qv nv av:=fun r _ h2 h3 h4 h5 => ⟨hb.block r h2,h3,h4,h5⟩
theorem KpB.one {mb:Nat} (hf:FrO (OneB w mb) w w') (hm:mb<lo):KpB lo w w' qv nv av qv nv av:=fun r h1 h2 h3 h4 h5 => ⟨hf.block r (by rintro (q | q) <;> omega),h3,h4,h5⟩
structure FbAt (w:World) (lo fb:Nat) (qv nv av:Value) (p:(Nat→Nat) × Bool):Prop where
 blk:w.heap[fb]? = some (.cells (c9 p.1 p.2) 115 (0,0))
 lo:lo≤fb
 q:qv.ownBlock ≠ some fb
 n:nv.ownBlock ≠ some fb
 a:av.ownBlock ≠ some fb
theorem FbAt.lt {fb:Nat} {p:(Nat→Nat) × Bool} (h:FbAt w lo fb qv nv av p):fb<w.heap.size:=(Array.getElem?_eq_some_iff.1 h.blk).1
theorem FbAt.on {fb:Nat} {p:(Nat→Nat) × Bool} {qv' nv' av':Value} (h:FbAt w lo fb qv nv av p) (hk:KpB lo w w' qv nv av qv' nv' av'):FbAt w' lo fb qv' nv' av' p:=by
 obtain ⟨h1,h2,h3,h4⟩ := hk fb h.lo h.lt h.q h.n h.a
 exact ⟨h1.trans h.blk,h.lo,h2,h3,h4⟩
theorem TbAt.fresh (h:TbAt w0 w db mb kb qb lo cl k ks o tk ys zs qv nv av) (p:(Nat→Nat) × Bool):FbAt (w.alloc (.cells (c9 p.1 p.2) 115)) lo w.heap.size qv nv av p :=
 ⟨(pushd_alloc w _).new,h.sz,fun e => by have:=own_lt h.oq _ e; omega,fun e => by have:=own_lt h.on _ e; omega,fun e => by have:=own_lt h.oa _ e; omega⟩
theorem TbAt.over {fb:Nat} {p:(Nat→Nat) × Bool} (h:TbAt w0 w db mb kb qb lo cl k ks o tk ys zs qv nv av) (hX:FbAt w lo fb qv nv av p) (ho:Obk fb w w'):TbAt w0 w' db mb kb qb lo cl k ks o tk ys zs qv nv av:=by
 have hz:=h.sz
 obtain ⟨a1,a2,a3,a4,a5,a6,a7,a8⟩ := h.e1
 have hl:=hX.lo
 have e:∀ k,k ≠ fb→w'.heap[k]? = w.heap[k]? := fun k hne => ho.block k hne
 obtain ⟨F,hF⟩ := h.res
 exact ⟨h.e1,h.e2,⟨F,hF.of_block (e _ (by omega))⟩,World.rowIs.of_block h.d (e _ (by omega)),h.num.keep (e _ (by omega)),h.kn.of_block (e _ (by omega)),h.q.on (e _ (by omega)),own_blk h.oq (fun r hr => e r (fun z => hX.q (z ▸ hr))),own_blk h.on (fun r hr => e r (fun z => hX.n (z ▸ hr))),own_blk h.oa (fun r hr => e r (fun z => hX.a (z ▸ hr))),h.qn,h.na,⟨ho.os.trans h.bl.os,ho.tape.trans h.bl.tape,ho.output.trans h.bl.output,by rw [ho.size]; exact h.bl.size,fun k hk => (e k (by omega)).trans (h.bl.block k hk)⟩,by rw [ho.size]; exact hz⟩
theorem TbAt.kpN {w2:World} {v':Value} (h:TbAt w0 w db mb kb qb lo cl k ks o tk ys zs qv nv av) (r2:FrO (Gro nv w.heap.size) w w2) (r3:∀ q,v'.ownBlock=some q→nv.ownBlock=some q∨w.heap.size≤q) (j:Nat):KpB lo w (w2.setCell ⟨db,j,none⟩ v') qv nv av qv v' av:=fun r h1 h2 h3 h4 h5 =>
 ⟨(Below.heap_setCell _ _ _ _ (by show r ≠ db; have:=h.e1.2.1; omega)).trans (gro_old r2 r h2 h4),h3,fun e => by rcases r3 r e with q | q <;> first | exact h4 q | omega,h5⟩
theorem TbAt.kpA {w2:World} {v':Value} (h:TbAt w0 w db mb kb qb lo cl k ks o tk ys zs qv nv av) (r2:FrO (Gro av w.heap.size) w w2) (r3:∀ q,v'.ownBlock=some q→av.ownBlock=some q∨w.heap.size≤q) (j:Nat):KpB lo w (w2.setCell ⟨db,j,none⟩ v') qv nv av qv nv v':=fun r h1 h2 h3 h4 h5 =>
 ⟨(Below.heap_setCell _ _ _ _ (by show r ≠ db; have:=h.e1.2.1; omega)).trans (gro_old r2 r h2 h5),h3,h4,fun e => by rcases r3 r e with q | q <;> first | exact h5 q | omega⟩
theorem push_tb (h:TbAt w0 w db mb kb qb lo cl k ks o tk ys zs qv nv av) (g:Nat→Nat) (e:Bool) (hl:o.length≤100000) :
  Calls Tryz.prog 50 #[.pointer (some ⟨qb,0,none⟩),pd g e] w fun x w' => x = .returned (.tuple #[])∧∃ qv',TbAt w0 w' db mb kb qb lo cl k ks (o ++ [(g,e)]) tk ys zs qv' nv av∧KpB lo w w' qv nv av qv' nv av:=by
 have hz:=h.sz
 obtain ⟨a1,a2,a3,a4,a5,a6,a7,a8⟩ := h.e1
 refine (pushP_any qb lo qv _ o g e w hl h.q h.oq hz (fun e => by have:=(h.oq.lt _ e).1; omega)).mono ?_
 rintro x w' ⟨rfl,v',r1,r2,r3,r4⟩
 refine ⟨rfl,v',h.pushQ r1 r2 r3 r4,fun r b1 b2 b3 b4 b5 => ⟨r3.block r ?_,fun e => ?_,b4,b5⟩⟩
 ·rintro (q | q | q) <;> first | omega | exact b3 q
 ·rcases r4 r e with q | q <;> first | exact b3 q | omega
theorem of_tb (h:TbAt w0 w db mb kb qb lo cl k ks o tk ys zs qv nv av) (g:Nat→Nat) (e:Bool) (hg:Fit g) (hl:ks.length<100000) :
  Calls Tryz.prog 48 #[.agg #[.map (some mb)],pd g e] w fun x w' => ∃ (i:Nat) (f:Bool),x = .returned (.tuple #[.int .i64 (i:Nat),.bool f]) ∧
   ((f=false∧(∃ p,ks[i]? = some p∧pdv p=pd g e)∧TbAt w0 w' db mb kb qb lo cl k ks o tk ys zs qv nv av)∨(f=true∧(∀ p ∈ ks,pdv p ≠ pd g e)∧i=ks.length∧TbAt w0 w' db mb kb qb lo cl k (ks ++ [(g,e)]) o tk ys zs qv nv av))∧KpB lo w w' qv nv av qv nv av:=by
 refine (ofPd_any mb g e (ks.map pdv) w h.num hg (by simpa using hl)).mono ?_
 rintro x w' ⟨i,ks',f,rfl,hR,hN,hF⟩
 refine ⟨i,f,rfl,?_,.one hF h.e1.2.2.2.1⟩
 rcases hR with ⟨h1,rfl,h2,rfl⟩ | ⟨h1,rfl,rfl,rfl⟩
 ·refine .inl ⟨rfl,?_,h.looked hF hN⟩
  rw [List.getElem?_map] at h2
  cases e2:ks[i]? with
  | none => rw [e2] at h2; cases h2
  | some p => rw [e2] at h2; exact ⟨p,rfl,Option.some.inj h2⟩
 ·refine .inr ⟨rfl,fun p hp e2 => h1 (List.mem_map.2 ⟨p,hp,e2⟩),by simp,h.looked hF ?_⟩
  rw [List.map_append]
  exact hN
theorem pop_tb (h:TbAt w0 w db mb kb qb lo cl k ks o tk ys zs qv nv av) (ht:tk≤o.length) (hl:o.length≤100000) :
  Calls Tryz.prog 51 #[.pointer (some ⟨qb,0,none⟩)] w fun x w' => (tk=o.length∧x = .returned (.tuple #[pd (fun _ => 0) false,.bool false])∧TbAt w0 w' db mb kb qb lo cl k ks o tk ys zs qv nv av∧KpB lo w w' qv nv av qv nv av) ∨
   (∃ s,o[tk]? = some s∧x = .returned (.tuple #[pdv s,.bool true])∧TbAt w0 w' db mb kb qb lo cl k ks o (tk+1) ys zs qv nv av∧KpB lo w w' qv nv av qv nv av):=by
 obtain ⟨oa,oc,rfl⟩ := own_is h.oq
 by_cases e:tk=o.length
 ·refine (popP_none qb o.length oc oa w (by rw [← e]; exact e ▸ h.q)).mono ?_
  rintro x w' ⟨rfl,hb⟩
  exact .inl ⟨e,rfl,h.keep hb,.keep hb⟩
 ·have hlt:tk<o.length:=by omega
  obtain ⟨y,hy⟩ : ∃ y,o[tk]? = some y:=⟨_,List.getElem?_eq_getElem hlt⟩
  obtain ⟨g,ee⟩ := y
  have hoq:=h.oq
  rcases hoq.2 with ⟨-,hz⟩ | ⟨gg,cap,cur,e2,-,-,-,-,-,-⟩
  ·omega
  have e3:oa=some ⟨gg,0,none⟩∧oc=cap:=by simpa using e2
  obtain ⟨rfl,rfl⟩ := e3
  refine (popP_some qb gg tk o.length oc g ee w hl hlt h.q (own_lt hoq gg rfl) (fun j hj => by rw [hoq.cellAt _ (by omega)]; exact fl9_at o hy hj)).mono ?_
  rintro x w' ⟨rfl,hf,hq⟩
  exact .inr ⟨(g,ee),hy,rfl,h.popd hf hq,.one hf h.e1.2.2.2.2.2.2.2⟩
end
end Go.Proofs.YtlidckepahpaeaaGreatDoor
