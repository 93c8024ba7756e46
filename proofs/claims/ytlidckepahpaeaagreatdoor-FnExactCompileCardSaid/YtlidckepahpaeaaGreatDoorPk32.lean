import Derived.Test.YtlidckepahpaeaaGreatDoorPk28
import Derived.Test.YtlidckepahpaeaaGreatDoorPk23
import Derived.Deep.RegionLaw
import Derived.Deep.DeepCutAuto
namespace Go.Proofs.YtlidckepahpaeaaGreatDoor
open Go.RowKit
structure WkR (w:World) (B A N m gc:Nat) (hv fv:Value) (K:Nat→Nat) (hs fs:Nat→Nat→Nat) (b:Bool) (f l:Nat→Nat):Prop where
 box:WkBox w B A (.slice (some ⟨gc,0,none⟩) 256 256) hv
 aut:AutR w A N fv fs b f l
 cls:w.rowIs gc 3 256 (fun x => .int .i64 (K x:Nat))
 hol:RsP w hv m hs
 lt:∀ x,x<256→K x<m
 fh:∀ j,j<m→Fit (hs j)
 ff:Fit f
 fl:Fit l
 fs:∀ i,Fit (fs i)
 inn:∀ j,j<m→∀ i,Bt (hs j) i=true→i<N
theorem WkR.keep {w w':World} {B A N m gc n:Nat} {hv fv:Value} {K:Nat→Nat} {hs fs:Nat→Nat→Nat} {b:Bool} {f l:Nat→Nat} (h:WkR w B A N m gc hv fv K hs fs b f l) (hb:Below n w w') (hn:w.heap.size≤n):WkR w' B A N m gc hv fv K hs fs b f l :=
 ⟨h.box.keep (hb.block B (Nat.lt_of_lt_of_le h.box.lt hn)),h.aut.keep hb hn,h.cls.of_block (hb.block gc (Nat.lt_of_lt_of_le h.cls.lt hn)),own_keep h.hol hb hn,h.lt,h.fh,h.ff,h.fl,h.fs,h.inn⟩
def eqv (g h:Nat→Nat):Bool:=((g 0:Int) == (h 0:Int) && ((g 1:Int) == (h 1:Int) && ((g 2:Int) == (h 2:Int) && ((g 3:Int) == (h 3:Int) && ((g 4:Int) == (h 4:Int) && ((g 5:Int) == (h 5:Int) && ((g 6:Int) == (h 6:Int) && (g 7:Int) == (h 7:Int))))))))
theorem eqv_ps {g h:Nat→Nat} (e:eqv g h=true):ps8 g=ps8 h:=by
 unfold eqv at e
 simp only [Bool.and_eq_true,beq_iff_eq] at e
 obtain ⟨e0,e1,e2,e3,e4,e5,e6,e7⟩ := e
 unfold ps8
 rw [e0,e1,e2,e3,e4,e5,e6,e7]
theorem ps_eqv {g h:Nat→Nat} (e:ps8 g=ps8 h) (j:Nat) (hj:j<8):g j=h j:=by
 unfold ps8 at e
 simp only [Value.agg.injEq,Array.mk.injEq,List.cons.injEq,Value.int.injEq,Int.natCast_inj,true_and,and_true] at e
 obtain ⟨e0,e1,e2,e3,e4,e5,e6,e7⟩ := e
 match j,hj with
 | 0,_ => exact e0
 | 1,_ => exact e1
 | 2,_ => exact e2
 | 3,_ => exact e3
 | 4,_ => exact e4
 | 5,_ => exact e5
 | 6,_ => exact e6
 | 7,_ => exact e7
theorem ps_bt {g h:Nat→Nat} (e:ps8 g=ps8 h) (i:Nat) (hi:i<512):Bt g i=Bt h i:=by
 unfold Bt
 rw [ps_eqv e (i / 64) (by omega)]
structure Cls (H:Nat→Nat→Nat) (b mm:Nat) (K:Nat→Nat) (hs:Nat→Nat→Nat) (ks:List Value):Prop where
 len:ks.length=mm
 at_:∀ j,j<mm→ks[j]? = some (ps8 (hs j))
 src:∀ j,j<mm→∃ x,x<b∧hs j=H x
 cl:∀ x,x<b→K x<mm∧ps8 (H x)=ps8 (hs (K x))
 le:mm≤b
 nd:ks.Nodup
 fo:∀ j,j<mm→∃ x,x<b∧K x=j∧∀ x',x'<x→K x'<j
def updK (K:Nat→Nat) (b c:Nat):Nat→Nat:=fun x => if x=b then c else K x
theorem Cls.start (H:Nat→Nat→Nat) (K:Nat→Nat) (hs:Nat→Nat→Nat):Cls H 0 0 K hs [] :=
 ⟨rfl,fun _ hj => absurd hj (Nat.not_lt_zero _),fun _ hj => absurd hj (Nat.not_lt_zero _),fun _ hj => absurd hj (Nat.not_lt_zero _),Nat.le_refl _,List.nodup_nil,fun _ hj => absurd hj (Nat.not_lt_zero _)⟩
section
variable {H:Nat→Nat→Nat} {b mm:Nat} {K:Nat→Nat} {hs:Nat→Nat→Nat} {ks ks':List Value}
theorem Cls.again (h:Cls H b mm K hs ks) {c:Nat} (hc:c<mm) (e:ps8 (H b)=ps8 (hs c)):Cls H (b+1) mm (updK K b c) hs ks:=by
 refine ⟨h.len,h.at_,fun j hj => ?_,fun x hx => ?_,by have:=h.le; omega,h.nd,fun j hj => ?_⟩
 ·obtain ⟨x,h1,h2⟩ := h.src j hj; exact ⟨x,by omega,h2⟩
 ·unfold updK
  by_cases e2:x=b
  ·subst e2; rw [if_pos rfl]; exact ⟨hc,e⟩
  ·rw [if_neg e2]; exact h.cl x (by omega)
 ·obtain ⟨x,h1,h2,h3⟩ := h.fo j hj
  refine ⟨x,by omega,?_,fun x' hx' => ?_⟩
  ·unfold updK; rw [if_neg (by omega)]; exact h2
  ·unfold updK; rw [if_neg (by omega)]; exact h3 x' hx'
theorem Cls.num (h:Cls H b mm K hs ks) {i:Nat} {f:Bool} (hr:NumR ks (ps8 (H b)) ks' i f):(f=false∧i<mm∧Cls H (b+1) mm (updK K b i) hs ks')∨(f=true∧i=mm∧Cls H (b+1) (mm+1) (updK K b i) (fun j => if j=mm then H b else hs j) ks'):=by
 rcases hr with ⟨h1,rfl,h2,rfl⟩ | ⟨h1,rfl,rfl,rfl⟩
 ·left
  have hi:i<mm:=by
   rw [← h.len]
   apply Nat.lt_of_not_le
   intro q
   rw [List.getElem?_eq_none q] at h2
   cases h2
  rw [h.at_ i hi] at h2
  exact ⟨rfl,hi,h.again hi (Option.some.inj h2).symm⟩
 ·right
  refine ⟨rfl,h.len,⟨by rw [List.length_append,h.len]; rfl,fun j hj => ?_,fun j hj => ?_,fun x hx => ?_,by have:=h.le; omega,?_,fun j hj => ?_⟩⟩
  ·by_cases e:j=mm
   ·subst e
    rw [if_pos rfl,List.getElem?_append_right (by rw [h.len]; exact Nat.le_refl _),h.len,Nat.sub_self]
    rfl
   ·rw [if_neg e,List.getElem?_append_left (by rw [h.len]; omega)]
    exact h.at_ j (by omega)
  ·by_cases e:j=mm
   ·subst e; exact ⟨b,by omega,by rw [if_pos rfl]⟩
   ·obtain ⟨x,h3,h4⟩ := h.src j (by omega)
    exact ⟨x,by omega,by rw [if_neg e]; exact h4⟩
  ·unfold updK
   by_cases e2:x=b
   ·subst e2; rw [if_pos rfl,h.len]; exact ⟨by omega,by rw [if_pos rfl]⟩
   ·rw [if_neg e2]
    have:=h.cl x (by omega)
    exact ⟨by omega,by rw [if_neg (by omega)]; exact this.2⟩
  ·rw [List.nodup_append]
   refine ⟨h.nd,by simp,fun a ha c hc e => ?_⟩
   rw [List.mem_singleton] at hc
   subst hc e
   exact h1 ha
  ·by_cases e:j=mm
   ·subst e
    refine ⟨b,by omega,?_,fun x' hx' => ?_⟩
    ·unfold updK; rw [if_pos rfl]; exact h.len
    ·unfold updK; rw [if_neg (by omega)]; exact (h.cl x' hx').1
   ·obtain ⟨x,h3,h4,h5⟩ := h.fo j (by omega)
    refine ⟨x,by omega,?_,fun x' hx' => ?_⟩
    ·unfold updK; rw [if_neg (by omega)]; exact h4
    ·unfold updK; rw [if_neg (by omega)]; exact h5 x' hx'
end
theorem ps_pushed {base n gg cap:Nat} {w WA w7:World} {v:Value} {hs:Nat→Nat→Nat} {x:Nat→Nat} {o:Obj} (_:w.ownsRow base 99 8 v n (flatF 8 n hs)) (hP:Pushd w WA o)
  (r1:w7.ownsRow base 99 8 (.slice (some ⟨gg,0,none⟩) (n+1) cap) (n+1) (flatF 8 n hs ++ [wd x 0,wd x 1,wd x 2,wd x 3,wd x 4,wd x 5,wd x 6,wd x 7])) (r2:WA.grownBy w7 v.ownBlock) :
  w7.ownsRow base 99 8 (.slice (some ⟨gg,0,none⟩) (n+1) cap) (n+1) (flatF 8 (n+1) (fun i => if i=n then x else hs i))∧FrO (fun k => v.ownBlock=some k∨w.heap.size≤k) w w7:=by
 refine ⟨?_,⟨r2.os.trans hP.os,r2.tape.trans hP.tape,r2.output.trans hP.output,by have:=r2.size; have:=hP.size; omega,fun k hk => ?_⟩⟩
 ·have e:flatF 8 (n+1) (fun i => if i=n then x else hs i)=flatF 8 n hs ++ [wd x 0,wd x 1,wd x 2,wd x 3,wd x 4,wd x 5,wd x 6,wd x 7]:=by
   rw [flatF_next _ _ (by omega),flatF_congr (h:=hs) (by omega) (fun i hi => by rw [if_neg (by omega)])]
   simp [List.range_succ]
  rw [e]; exact r1
 ·have hk1:k<w.heap.size:=by apply Nat.lt_of_not_le; intro q; exact hk (Or.inr q)
  have hk2:v.ownBlock ≠ some k:=fun q => hk (Or.inl q)
  exact (r2.block k (by have:=hP.size; omega) (fun q => hk2 q.symm)).trans (hP.old hk1)
abbrev CO (w:World) (B gc:Nat):Nat→Prop:=fun k => k=B∨k=gc∨w.heap.size≤k
structure ClsP (w wr:World) (B A gc:Nat) (hv:Value) (mm:Nat) (K:Nat→Nat) (hs:Nat→Nat→Nat) (ks:List Value):Prop where
 box:WkBox wr B A (.slice (some ⟨gc,0,none⟩) 256 256) hv
 row:wr.rowIs gc 3 256 (fun x => .int .i64 (K x:Nat))
 hol:wr.ownsRow (w.heap.size+3) 99 8 hv mm (flatF 8 mm hs)
 num:NumAt 99 wr (w.heap.size+1) ks
 nb:wr.heap[w.heap.size+2]? = some (.cells #[.map (some (w.heap.size+1))] 145 (0,0))
 fr:FrO (CO w B gc) w wr
 sz:w.heap.size+3≤wr.heap.size
structure ClsAt (w wr:World) (B A gc:Nat) (hv:Value) (b mm:Nat) (K:Nat→Nat) (hs:Nat→Nat→Nat) (ks:List Value) (H:Nat→Nat→Nat):Prop where
 p:ClsP w wr B A gc hv mm K hs ks
 cls:Cls H b mm K hs ks
section
variable {w wr wr':World} {B A gc b mm c:Nat} {hv:Value} {K:Nat→Nat} {hs:Nat→Nat→Nat} {ks ks':List Value}
theorem ClsP.below (h:ClsP w wr B A gc hv mm K hs ks) (hb:Below wr.heap.size wr wr'):ClsP w wr' B A gc hv mm K hs ks :=
 ⟨h.box.keep (hb.block B h.box.lt),h.row.of_block (hb.block gc h.row.lt),own_keep h.hol hb (Nat.le_refl _),h.num.keep (hb.block _ h.num.lt),(hb.block _ (Array.getElem?_eq_some_iff.1 h.nb).1).trans h.nb,h.fr.trans (fro_of hb (fun k hk => Or.inr (Or.inr (by have:=h.fr.size; omega)))),Nat.le_trans h.sz hb.size⟩
theorem ClsP.put (h:ClsP w wr B A gc hv mm K hs ks) (b c:Nat) (hBg:B ≠ gc) (hgw:gc<w.heap.size):ClsP w (wr.setCell ⟨gc,b,none⟩ (.int .i64 (c:Nat))) B A gc hv mm (updK K b c) hs ks:=by
 have hk:∀ k,k ≠ gc→(wr.setCell ⟨gc,b,none⟩ (.int .i64 (c:Nat))).heap[k]? = wr.heap[k]? := fun k hk => Below.heap_setCell _ _ _ _ hk
 refine ⟨h.box.keep (hk B hBg),(h.row.set b _).congr (fun x _ => ?_),own_blk h.hol (fun q hq => hk q (by have:=(h.hol.lt q hq).1; omega)),h.num.keep (hk _ (by omega)),(hk _ (by omega)).trans h.nb,h.fr.trans ((obk_put b _).fro (Or.inr (Or.inl rfl))),by rw [sz_put]; exact h.sz⟩
 unfold updK
 by_cases e:x=b
 ·rw [if_pos e,if_pos e]
 ·rw [if_neg e,if_neg e]
theorem ClsP.num' (h:ClsP w wr B A gc hv mm K hs ks) (hn:NumAt 99 wr' (w.heap.size+1) ks') (hf:FrO (OneB wr (w.heap.size+1)) wr wr') (hgw:gc<w.heap.size) (hBw:B<w.heap.size):ClsP w wr' B A gc hv mm K hs ks':=by
 have hk:∀ k,k<wr.heap.size→k ≠ w.heap.size+1→wr'.heap[k]? = wr.heap[k]? := fun k h1 h2 => hf.block k (by rintro (q | q) <;> omega)
 have hz:=h.sz
 exact ⟨h.box.keep (hk B h.box.lt (by omega)),h.row.of_block (hk gc h.row.lt (by omega)),own_blk h.hol (fun q hq => hk q (h.hol.lt q hq).2 (by have:=(h.hol.lt q hq).1; omega)),hn,(hk _ (by omega) (by omega)).trans h.nb,h.fr.trans (hf.mono (fun k q => by have:=h.fr.size; rcases q with q | q; exact Or.inr (Or.inr (by omega)); exact Or.inr (Or.inr (by omega)))),Nat.le_trans h.sz hf.size⟩
theorem ClsP.push {w7:World} {gg cap:Nat} {x:Nat→Nat} (h:ClsP w wr B A gc hv mm K hs ks) (r1:w7.ownsRow (w.heap.size+3) 99 8 (.slice (some ⟨gg,0,none⟩) (mm+1) cap) (mm+1) (flatF 8 (mm+1) (fun i => if i=mm then x else hs i))) (hf:FrO (fun k => hv.ownBlock=some k∨wr.heap.size≤k) wr w7) (hgw:gc<w.heap.size) (hBw:B<w.heap.size) (hBg:B ≠ gc) :
  ClsP w (w7.setCell ⟨B,2,none⟩ (.slice (some ⟨gg,0,none⟩) (mm+1) cap)) B A gc (.slice (some ⟨gg,0,none⟩) (mm+1) cap) (mm+1) K (fun i => if i=mm then x else hs i) ks∧w7.cell? ⟨B,2,none⟩ = some hv∧w7.frozen? ⟨B,2,none⟩ = false:=by
 have hz:=h.sz
 have h7:∀ k,k<w.heap.size+3→w7.heap[k]? = wr.heap[k]? := fun k hk => hf.block k (by rintro (q | q); (have:=(h.hol.lt k q).1; omega); omega)
 have hk:∀ k,k ≠ B→(w7.setCell ⟨B,2,none⟩ (.slice (some ⟨gg,0,none⟩) (mm+1) cap)).heap[k]? = w7.heap[k]? := fun k hk => Below.heap_setCell _ _ _ _ hk
 have hbox7:WkBox w7 B A (.slice (some ⟨gc,0,none⟩) 256 256) hv:=h.box.keep (h7 B (by omega))
 have hrow7:w7.rowIs B 54 3 (fun k => if k=0 then .pointer (some ⟨A,0,none⟩) else if k=1 then .slice (some ⟨gc,0,none⟩) 256 256 else hv):=⟨_,hbox7,rfl,fun i hi => by
  match i,hi with
  | 0,_ => rfl
  | 1,_ => rfl
  | 2,_ => rfl⟩
 refine ⟨⟨?_,h.row.of_block ((hk gc (fun e => hBg e.symm)).trans (h7 gc (by omega))),own_blk r1 (fun q hq => hk q (by have:=(r1.lt q hq).1; omega)),h.num.keep ((hk _ (by omega)).trans (h7 _ (by omega))),(hk _ (by omega)).trans ((h7 _ (by omega)).trans h.nb),?_,by rw [sz_put]; exact Nat.le_trans h.sz hf.size⟩,hrow7.cell (i:=2) (by omega),hrow7.frozen 2⟩
 ·obtain ⟨cc,h1,h2,h3⟩ := hrow7.set 2 (.slice (some ⟨gg,0,none⟩) (mm+1) cap)
  refine h1.trans ?_
  congr 2
  refine Array.ext (by rw [h2]; rfl) (fun i i1 i2 => ?_)
  have h4:=h3 i (by omega)
  rw [Array.getElem?_eq_getElem i1] at h4
  rw [Option.some.inj h4]
  have i3:i<3:=by omega
  match i,i3 with
  | 0,_ => rfl
  | 1,_ => rfl
  | 2,_ => rfl
 ·refine h.fr.trans ((hf.mono (fun k q => ?_)).trans ((obk_put 2 _).fro (Or.inl rfl)))
  rcases q with q | q
  ·exact Or.inr (Or.inr (by have:=(h.hol.lt k q).1; omega))
  ·exact Or.inr (Or.inr (by have:=h.fr.size; omega))
end
set_option maxHeartbeats 16000000 in
set_option maxRecDepth 100000 in
theorem classify_any (B A gc m:Nat) (sv pv:Value) (ds ps:Nat→Nat→Nat) (w:World) (hbox:WkBox w B A (.slice (some ⟨gc,0,none⟩) 256 256) (.slice none 0 0)) (hrow:w.rowIs gc 3 256 (fun _ => .int .i64 0)) (hBg:B ≠ gc) (hm:m≤512) (hs:RsB w sv m ds) (hp:RsP w pv m ps) (hds:∀ j,j<m→Fit (ds j)) (hps:∀ j,j<m→Fit (ps j)) (hsB:∀ q,sv.ownBlock=some q→q ≠ B∧q ≠ gc) (hpB:∀ q,pv.ownBlock=some q→q ≠ B∧q ≠ gc) :
  Calls Tryz.prog 45 #[.pointer (some ⟨B,0,none⟩),sv,pv] w fun e w' => ∃ mm K hs hv ks,e = .returned (.tuple #[])∧ClsAt w w' B A gc hv 256 mm K hs ks (fun x => holdW ds ps x m):=by
 obtain ⟨sa,sc,rfl⟩ := own_is hs
 obtain ⟨pa,pc,rfl⟩ := own_is hp
 have hgw:=hrow.lt
 have hBw:=hbox.lt
 have HBX:=hide hbox
 have HRW:=hide hrow
 have HS:=hide hs
 have HP:=hide hp
 have HDS:=hide hds
 have HPS:=hide hps
 have HSB:=hide hsB
 have HPB:=hide hpB
 have HNN:=hide (newPs_any w)
 clear hbox hrow hs hp hds hps hsB hpB
 go_enter Tryz.func45,Tryz.ntmps45
 go_wp2_with fail
 refine (unhide HNN).mono ?_
 rintro e w1 ⟨rfl,hn1,hz1,hb1⟩
 have HST:Hid (ClsAt w (w1.alloc (.cells #[.map (some (w.heap.size+1))] 145)) B A gc (.slice none 0 0) 0 0 (fun _ => 0) (fun _ _ => 0) [] (fun x => holdW ds ps x m)):=by
  have hb2:Below w.heap.size w (w1.alloc (.cells #[.map (some (w.heap.size+1))] 145)):=hb1.alloc (by omega) _
  refine ⟨⟨(unhide HBX).keep (hb2.block B hBw),(unhide HRW).of_block (hb2.block gc hgw),World.ownsRow_nil _ _ _ _,hn1.keep ((below1 w1 _).block _ (by omega)),?_,fro_of hb2 (fun k hk => Or.inr (Or.inr hk)),by rw [sz_alloc]; omega⟩,Cls.start _ _ _⟩
  have:=(pushd_alloc w1 (.cells #[.map (some (w.heap.size+1))] 145)).new
  rw [hz1] at this
  exact this
 have hp6:w1.heap.size=w.heap.size+2:=hz1
 have HP6:=hide hp6
 clear hn1 hz1 hb1 HNN hp6
 go_wp2_with fail
 rw [unhide HP6]
 go_loopw [12] (fun iv wr => ∃ (b mm:Nat) (K:Nat→Nat) (hs:Nat→Nat→Nat) (hv:Value) (ks:List Value),b≤256∧iv = .int .i64 b∧ClsAt w wr B A gc hv b mm K hs ks (fun x => holdW ds ps x m)) (fun iv _ => 256 - (intOf iv).toNat)
 case atStart => exact ⟨0,0,_,_,_,_,by omega,rfl,unhide HST⟩
 case round =>
  clear HST HP6
  obtain ⟨b,mm,K,hs,hv,ks,hb,rfl,hC⟩ := hrel
  by_cases hlt:b<256
  ·have hlt':(b:Int)<256:=by omega
   have HC:=hide hC
   have hfrz:=hC.p.fr.size
   have hS1:RsB wr (.slice sa m sc) m ds:=own_blk (unhide HS) (fun q hq => hC.p.fr.block q (by have h1:=unhide HSB q hq; have h2:=own_lt (unhide HS) q hq; rintro (h | h | h); exact h1.1 h; exact h1.2 h; omega))
   have hP1:RsP wr (.slice pa m pc) m ps:=own_blk (unhide HP) (fun q hq => hC.p.fr.block q (by have h1:=unhide HPB q hq; have h2:=own_lt (unhide HP) q hq; rintro (h | h | h); exact h1.1 h; exact h1.2 h; omega))
   have HH:=hide (holdersOf_any b m _ _ ds ps wr hlt hm hS1 hP1 (unhide HDS) (unhide HPS))
   obtain ⟨h,hhd⟩ : ∃ h,h=holdW ds ps b m:=⟨_,rfl⟩
   rw [← hhd] at HH
   have hfh:Fit h:=by rw [hhd]; exact fit_hold (unhide HPS)
   unfold ps8 at HH
   have HHD:=hide hhd
   clear hC hS1 hP1 hhd
   go_wp2_with fail
   refine (unhide HH).mono ?_
   rintro e w2 ⟨rfl,hb2⟩
   obtain ⟨X,hX⟩ : ∃ X,X=w2.alloc (.cells #[.int .u64 (h 0:Nat),.int .u64 (h 1:Nat),.int .u64 (h 2:Nat),.int .u64 (h 3:Nat),.int .u64 (h 4:Nat),.int .u64 (h 5:Nat),.int .u64 (h 6:Nat),.int .u64 (h 7:Nat)] 99):=⟨_,rfl⟩
   have hCX:ClsAt w X B A gc hv b mm K hs ks (fun x => holdW ds ps x m):=⟨(unhide HC).p.below (by rw [hX]; exact hb2.alloc hb2.size _),(unhide HC).cls⟩
   have hE:X.rowIs w2.heap.size 99 8 (wd h):=by rw [hX]; exact row8_new w2 _ h
   obtain ⟨E,hEE⟩ : ∃ E,E=w2.heap.size:=⟨_,rfl⟩
   have hz2:wr.heap.size≤E:=by have:=hb2.size; omega
   rw [← hEE] at hE
   have HX:=hide hX
   have HEE:=hide hEE
   have HCX:=hide hCX
   have HE:=hide hE
   have hn3:=(unhide HC).p.sz
   clear hb2 HH hX hEE HC
   -- the set of the byte,held against that of the byte before
   obtain ⟨y,hy⟩ : ∃ y:Bool,y=(if b=0 then false else eqv h (hs (K (b - 1)))):=⟨_,rfl⟩
   obtain ⟨-,c1,c2⟩ := hCX.p.box.cells
   have e0:=hE.cell (i:=0) (by omega)
   have e1:=hE.cell (i:=1) (by omega)
   have e2:=hE.cell (i:=2) (by omega)
   have e3:=hE.cell (i:=3) (by omega)
   have e4:=hE.cell (i:=4) (by omega)
   have e5:=hE.cell (i:=5) (by omega)
   have e6:=hE.cell (i:=6) (by omega)
   have e7:=hE.cell (i:=7) (by omega)
   unfold wd at e0 e1 e2 e3 e4 e5 e6 e7
   have HY:=hide hy
   clear hCX hE
   go_upto_region 5 with fail
   rw [← unhide HX,← unhide HEE]
   clear HX HEE
   go_cut [38] (fun cv wx => cv = .bool y∧∃ q,wx=X.drewN q)
   case first =>
    by_cases hb0:b=0
    ·subst hb0
     have hyf:y=false:=by rw [hy,if_pos rfl]
     subst hyf
     clear hy HY
     go_quiet (fail)
     go_wp2
     go_meet
     exact ⟨rfl,nq,rfl⟩
    ·obtain ⟨b',rfl⟩ : ∃ b',b=b'+1:=⟨b - 1,by omega⟩
     have hcK:=(unhide HCX).cls.cl b' (by omega)
     obtain ⟨c,hcc⟩ : ∃ c,c=K b':=⟨_,rfl⟩
     rw [← hcc] at hcK
     have hy2:y=eqv h (hs c):=by rw [hy,if_neg (by omega),hcc]; rfl
     have k1:=(unhide HCX).p.row.cell (i:=b') (by omega)
     rw [← hcc] at k1
     obtain ⟨gh,cap,M,F,e,-,hrow,hM,hF,-⟩ := rsP_at (own_low (unhide HCX).p.hol (Nat.zero_le _)) hcK.1
     have r:∀ j,j<8→X.cell? ⟨gh,c * 8+j,none⟩ = some (.int .u64 (hs c j:Nat)):=fun j hj => by rw [hrow.cell (by omega),hF j hj]; rfl
     have r0:=r 0 (by omega)
     have r1:=r 1 (by omega)
     have r2:=r 2 (by omega)
     have r3:=r 3 (by omega)
     have r4:=r 4 (by omega)
     have r5:=r 5 (by omega)
     have r6:=r 6 (by omega)
     have r7:=r 7 (by omega)
     rw [Nat.add_zero] at r0
     have es:∀ W,(Op.equalIn 10000 99 (.agg #[.int .u64 (h 0:Nat),.int .u64 (h 1:Nat),.int .u64 (h 2:Nat),.int .u64 (h 3:Nat),.int .u64 (h 4:Nat),.int .u64 (h 5:Nat),.int .u64 (h 6:Nat),.int .u64 (h 7:Nat)]) (.agg #[.int .u64 ((hs c) 0:Nat),.int .u64 ((hs c) 1:Nat),.int .u64 ((hs c) 2:Nat),.int .u64 ((hs c) 3:Nat),.int .u64 ((hs c) 4:Nat),.int .u64 ((hs c) 5:Nat),.int .u64 ((hs c) 6:Nat),.int .u64 ((hs c) 7:Nat)])).run Tryz.prog W = .ok y W:=fun W => by rw [hy2]; exact eqPs _ _ _ _ _ _ _ _ _ _ _ _ _ _ _ _ W
     have hcm:(c:Int)<(mm:Int):=by have:=hcK.1; omega
     have hpos:(0:Int)<(b':Int)+1:=by omega
     have hb1:((b'+1:Nat):Int) - 1=(b':Int):=by omega
     have hb2:(b':Int)+1 - 1=(b':Int):=by omega
     have hb3:(b':Int)<256:=by omega
     clear r hrow hF hy hy2 HY hcc hcK
     subst e
     go_quiet (fail)
     go_wp2
     go_meet
     exact ⟨rfl,nq,rfl⟩
   case rest =>
    obtain ⟨rfl,q,rfl⟩ := hcut
    have hBq:Below X.heap.size X (X.drewN q):=below_drewN (Below.refl _ _) _
    obtain ⟨V,hV⟩ : ∃ V,V=X.drewN q:=⟨_,rfl⟩
    rw [← hV] at hBq ⊢
    have hCV:ClsAt w V B A gc hv b mm K hs ks (fun x => holdW ds ps x m):=⟨(unhide HCX).p.below hBq,(unhide HCX).cls⟩
    have hEV:V.rowIs E 99 8 (wd h):=(unhide HE).of_block (hBq.block E (unhide HE).lt)
    have hzV:=hEV.lt
    have HCV:=hide hCV
    have HEV:=hide hEV
    obtain ⟨-,c1',-⟩ := hCV.p.box.cells
    clear c1 c2 e0 e1 e2 e3 e4 e5 e6 e7 hBq hV HCX HE hEV hy
    cases y with
    | true =>
     have hyt:=unhide HY
     have hb0:b ≠ 0:=fun e => by rw [if_pos e] at hyt; cases hyt
     obtain ⟨b',rfl⟩ : ∃ b',b=b'+1:=⟨b - 1,by omega⟩
     rw [if_neg hb0,show b'+1 - 1=b' by omega] at hyt
     obtain ⟨c,hcc⟩ : ∃ c,c=K b':=⟨_,rfl⟩
     rw [← hcc] at hyt
     have k1:=hCV.p.row.cell (i:=b') (by omega)
     rw [← hcc] at k1
     have k2:=hCV.p.row.cell (i:=b'+1) (by omega)
     have k3:=hCV.p.row.frozen (b'+1)
     have hcm:c<mm:=by rw [hcc]; exact (hCV.cls.cl b' (by omega)).1
     have HFIN:Hid (ClsAt w ((V.setCell ⟨gc,b'+1,none⟩ (.int .i64 (c:Nat))).drew) B A gc hv (b'+1+1) mm (updK K (b'+1) c) hs ks (fun x => holdW ds ps x m)):=by
      have h1:=(hCV.p.put (b'+1) c hBg hgw).below (Below.refl _ _).drew
      exact ⟨h1,hCV.cls.again hcm (by have:=eqv_ps hyt.symm; rw [unhide HHD] at this; exact this)⟩
     have hb1:((b'+1:Nat):Int) - 1=(b':Int):=by omega
     have hb2:(b':Int)+1 - 1=(b':Int):=by omega
     have hb3:(b':Int)<256:=by omega
     have hb4:(b':Int)+1<256:=by omega
     clear hCV hyt hcc HY
     go_wp2_with fail
     refine wp_region_quiet_tail 14 (by kernel_rfl) (by kernel_rfl) ?_
     simp only [List.take_succ_cons,List.take_zero,List.drop_succ_cons,List.drop_zero]
     repeat (first | go_big_quiet_skip | (go_big_quiet_want; go_big_quiet_op; go_big_quiet_on))
     refine wpQuiet_nil ?_
     go_wp2
     go_roundw
     case rel => exact ⟨b'+1+1,mm,_,hs,hv,ks,by omega,by go_num,unhide HFIN⟩
     case measure => simp [intOf]; omega
    | false =>
     have n0:V.cell? ⟨w.heap.size+2,0,none⟩ = some (.map (some (w.heap.size+1))):=World.news_of_block hCV.p.nb 0 _ rfl
     have e0:=(unhide HEV).cell (i:=0) (by omega)
     have e1:=(unhide HEV).cell (i:=1) (by omega)
     have e2:=(unhide HEV).cell (i:=2) (by omega)
     have e3:=(unhide HEV).cell (i:=3) (by omega)
     have e4:=(unhide HEV).cell (i:=4) (by omega)
     have e5:=(unhide HEV).cell (i:=5) (by omega)
     have e6:=(unhide HEV).cell (i:=6) (by omega)
     have e7:=(unhide HEV).cell (i:=7) (by omega)
     unfold wd at e0 e1 e2 e3 e4 e5 e6 e7
     have HOF:=hide (ofPs_any (w.heap.size+1) h ks V hCV.p.num hfh (by rw [hCV.cls.len]; have:=hCV.cls.le; omega))
     have hOF2:ps8 h=ps8 (holdW ds ps b m):=by rw [unhide HHD]
     rw [hOF2] at HOF
     have hps:ps8 (holdW ds ps b m) = .agg #[.int .u64 (h 0:Nat),.int .u64 (h 1:Nat),.int .u64 (h 2:Nat),.int .u64 (h 3:Nat),.int .u64 (h 4:Nat),.int .u64 (h 5:Nat),.int .u64 (h 6:Nat),.int .u64 (h 7:Nat)]:=by rw [← hOF2]; rfl
     have HOF3:Hid (Calls Tryz.prog 78 #[.agg #[.map (some (w.heap.size+1))],.agg #[.int .u64 (h 0:Nat),.int .u64 (h 1:Nat),.int .u64 (h 2:Nat),.int .u64 (h 3:Nat),.int .u64 (h 4:Nat),.int .u64 (h 5:Nat),.int .u64 (h 6:Nat),.int .u64 (h 7:Nat)]] V fun e w' => ∃ i ks' f,e = .returned (.tuple #[.int .i64 (i:Nat),.bool f])∧NumR ks (ps8 (holdW ds ps b m)) ks' i f∧NumAt 99 w' (w.heap.size+1) ks'∧FrO (OneB V (w.heap.size+1)) V w'):=by
      have:=unhide HOF
      rw [hps] at this
      rw [hps]
      exact this
     have hmb:=hCV.cls.le
     clear hCV HY hOF2 hps HOF c1'
     go_wp2_with fail
     refine (unhide HOF3).mono ?_
     rintro e w3 ⟨i,ks',fl,rfl,hNR,hN3,hF3⟩
     have hP3:=(unhide HCV).p.num' hN3 hF3 hgw hBw
     have hE3:=(unhide HEV).of_block (hF3.block E (by have:=(unhide HCV).p.sz; rintro (q | q) <;> omega))
     obtain ⟨-,d1,d2⟩ := hP3.box.cells
     have d3:=hP3.row.cell hlt
     have d4:=hP3.row.frozen b
     rcases (unhide HCV).cls.num hNR with ⟨rfl,hi,hcl⟩ | ⟨rfl,-,hcl⟩
     ·have HFIN:Hid (ClsAt w (w3.setCell ⟨gc,b,none⟩ (.int .i64 (i:Nat))) B A gc hv (b+1) mm (updK K b i) hs ks' (fun x => holdW ds ps x m)):=⟨hP3.put b i hBg hgw,hcl⟩
      clear hNR hN3 hF3 hP3 hE3 hcl HOF3 HCV HEV e0 e1 e2 e3 e4 e5 e6 e7 n0
      go_wp2
      go_roundw
      case rel => exact ⟨b+1,mm,_,hs,hv,ks',by omega,by go_num,unhide HFIN⟩
      case measure => simp [intOf]; omega
     ·obtain ⟨ha,hc,rfl⟩ := own_is hP3.hol
      obtain ⟨j0,hj0,hy0,hy1,hy2⟩ := info_parts Tryz.zinPS
      have x0:=hE3.cell (i:=0) (by omega)
      have x1:=hE3.cell (i:=1) (by omega)
      have x2:=hE3.cell (i:=2) (by omega)
      have x3:=hE3.cell (i:=3) (by omega)
      have x4:=hE3.cell (i:=4) (by omega)
      have x5:=hE3.cell (i:=5) (by omega)
      have x6:=hE3.cell (i:=6) (by omega)
      have x7:=hE3.cell (i:=7) (by omega)
      unfold wd at x0 x1 x2 x3 x4 x5 x6 x7
      have d2a:∀ o:Obj,(w3.alloc o).cell? ⟨B,2,none⟩ = some (.slice ha mm hc):=fun o => (hP3.box.keep ((below1 w3 o).block B hP3.box.lt)).cells.2.2
      have HSO:=hide hP3.hol
      have HP3:=hide hP3
      have hsz3:=hP3.sz
      have HCL:=hide hcl
      have HPS3:Hid (∀ (WA w7:World) (gg cap:Nat),w7.ownsRow (w.heap.size+3) 99 8 (.slice (some ⟨gg,0,none⟩) (mm+1) cap) (mm+1) (flatF 8 mm hs ++ [wd h 0,wd h 1,wd h 2,wd h 3,wd h 4,wd h 5,wd h 6,wd h 7])→WA.grownBy w7 (Value.slice ha mm hc).ownBlock→Pushd w3 WA (.cells #[wd h 0,wd h 1,wd h 2,wd h 3,wd h 4,wd h 5,wd h 6,wd h 7] 99) →
        ClsP w (w7.setCell ⟨B,2,none⟩ (.slice (some ⟨gg,0,none⟩) (mm+1) cap)) B A gc (.slice (some ⟨gg,0,none⟩) (mm+1) cap) (mm+1) K (fun i => if i=mm then h else hs i) ks'∧w7.cell? ⟨B,2,none⟩ = some (.slice ha mm hc)∧w7.frozen? ⟨B,2,none⟩ = false):=fun WA w7 gg cap r1 r2 hP => by
       obtain ⟨q1,q2⟩ := ps_pushed (x:=h) hP3.hol hP r1 r2
       exact hP3.push q1 q2 hgw hBw hBg
      clear hNR hN3 hF3 hP3 hE3 hcl HOF3 HCV HEV e0 e1 e2 e3 e4 e5 e6 e7 n0 d1 d3 d4
      go_wp2_with fail
      go_region_law (
       (refine step_append_lies _ rfl (.tmp 64) (.tmp 66) 52 rfl (w.heap.size+3) 99 j0 (.agg #[.int .u64 0,.int .u64 0,.int .u64 0,.int .u64 0,.int .u64 0,.int .u64 0,.int .u64 0,.int .u64 0]) 8 64 Tryz.underlying52 hj0 hy0 hy1 hy2 rfl (by decide) (.slice ha mm hc) mm (flatF 8 mm hs) (by first | (simp [Act.eval]; done) | (simp [Act.eval,Act.put]; done)) (by refine Pushd.own (w:=w3) (o:=.cells #[wd h 0,wd h 1,wd h 2,wd h 3,wd h 4,wd h 5,wd h 6,wd h 7] 99) ?_ (unhide HSO); exact ⟨rfl,rfl,rfl,rfl⟩) ⟨w3.heap.size,0,none⟩ 1 1 [wd h 0,wd h 1,wd h 2,wd h 3,wd h 4,wd h 5,wd h 6,wd h 7] (by first | (simp [Act.eval]; done) | (simp [Act.eval,Act.put]; done)) rfl (by refine Pushd.news (w:=w3) (cs:=#[wd h 0,wd h 1,wd h 2,wd h 3,wd h 4,wd h 5,wd h 6,wd h 7]) (t:=99) ?_; exact ⟨rfl,rfl,rfl,rfl⟩) (by intro u hu; simp only [List.mem_cons,List.not_mem_nil,or_false] at hu; rcases hu with rfl | rfl | rfl | rfl | rfl | rfl | rfl | rfl <;> rfl) (by decide) (by unfold maxLen; omega) (by omega) (by show w.heap.size+3≤(World.alloc _ _).heap.size; rw [sz_alloc]; omega) (w3.heap.size+1) (sz_alloc w3 _) (fun gg cap w7 r1 r2 r3 r4 => ?_); have h7:=hide (unhide HPS3 _ w7 gg cap r1 r2 (by exact ⟨rfl,rfl,rfl,rfl⟩)); obtain ⟨-,c7,z7⟩ := unhide h7; clear r1 r2 r3 r4))
      all_goals
       obtain ⟨hP9,-,-⟩ := unhide h7
       clear c7 z7 h7 HPS3
       generalize w7.setCell ⟨B,2,none⟩ (.slice (some ⟨gg,0,none⟩) (mm+1) cap)=w9 at *
       obtain ⟨-,d1,-⟩ := hP9.box.cells
       have d3:=hP9.row.cell hlt
       have d4:=hP9.row.frozen b
       have HFIN:Hid (ClsAt w (w9.setCell ⟨gc,b,none⟩ (.int .i64 (i:Nat))) B A gc (.slice (some ⟨gg,0,none⟩) (mm+1) cap) (b+1) (mm+1) (updK K b i) (fun i => if i=mm then h else hs i) ks' (fun x => holdW ds ps x m)):=⟨hP9.put b i hBg hgw,by have:=unhide HCL; simp only [← unhide HHD] at this; exact this⟩
       clear hP9
       go_wp2
       go_roundw
       case rel => exact ⟨b+1,mm+1,_,_,_,ks',by omega,by go_num,unhide HFIN⟩
       case measure => simp [intOf]; omega
  ·obtain rfl:b=256:=by omega
   have HC:=hide hC
   clear hC
   go_wp2
   first | (refine bodyPost_ret (results_none rfl _ _ _) rfl ?_) | (refine bodyPost_end (results_none rfl _ _ _) rfl ?_)
   exact ⟨mm,K,hs,hv,ks,rfl,unhide HC⟩
end Go.Proofs.YtlidckepahpaeaaGreatDoor
