import Derived.Maps.OwnSet
import Derived.Maps.OwnOps
import Derived.DeepKeys4
import Derived.StillTail
import Derived.Test.YtpmcjimgkabpeaaGreatDoorPk7
namespace Go.Proofs.YtpmcjimgkabpeaaGreatDoor
open Go.RowKit Go.Proofs.Tryz
set_option maxHeartbeats 16000000
set_option maxRecDepth 100000
theorem Tryz.laidOutN:laidOutB prog=true:=by kernel_rfl
theorem gC{n:Nat}(h:n<18446744073709551616):(Lit.int .u64 (n:Int)).wf=true:=WalkArith.wf_u64 (by omega)
def gS(kt:TypeId)(v:Value):Prop:=∃ kl,keyOf prog kt v=some kl
def ba(kt:TypeId)(w:World)(b:Nat)(ks:List Value):Prop:=
 ∃ es clock,w.heap[b]?=some (.map es clock)/\WideElems.Fit prog kt (plainElem (H:=Unit) prog 3) es clock/\es.size=ks.length/\(∀ i v,ks[i]?=some v->∃ e∈es.toList,e.key=v/\e.val=.int .i64 (i:Nat))/\∀ e∈es.toList,∃ i:Nat,ks[i]?=some e.key/\e.val=.int .i64 i
section
variable {kt mt:TypeId} {w w':World} {b:Nat} {ks:List Value}
theorem ba.lt(h:ba kt w b ks):b<w.heap.size:=by
 obtain⟨es,clock,hb,-⟩:=h;exact(Array.getElem?_eq_some_iff.1 hb).1
theorem ba.keep(h:ba kt w b ks)(e:w'.heap[b]?=w.heap[b]?):ba kt w' b ks:=by
 obtain⟨es,clock,hb,h2⟩:=h;exact⟨es,clock,e.trans hb,h2⟩
theorem jR(kt:TypeId)(w:World):ba kt (w.alloc (.map #[] 0)) w.heap.size []:=
 ⟨#[],0,(MapKept.heap_alloc w _).1,⟨by simp,MapKept.stamped_empty 0,by simp⟩,rfl,by simp,by simp⟩
theorem ba.len(h:ba kt w b ks){et:TypeId}(ht:prog.underlying mt=some (.map kt et))(ty:TypeId):(Builtin.len_ #[mt] ty #[.map (some b)]).run prog w=.ok (.int .i64 (ks.length:Nat)) w:=by
 obtain⟨es,clock,hb,-,hs,-⟩:=h;rw[<-hs];simp[Builtin.len_,run_underlying ht,MapKept.run_getObj_map hb,goInt]
theorem ba.look(h:ba kt w b ks)(K:Maps.Keyed prog kt)(ht:prog.underlying mt=some (.map kt 3)){v:Value}(hv:gS kt v) :
  (∃ i:Nat,ks[i]?=some v/\(Instr.lookup mt (.map (some b)) v true).run prog w=.ok (.tuple #[.int .i64 i,.bool true]) w)∨(v ∉ ks/\(Instr.lookup mt (.map (some b)) v true).run prog w=.ok (.tuple #[.int .i64 0,.bool false]) w):=by
 obtain⟨es,clock,hb,F,hs,h1,h2⟩:=h;obtain⟨kl,c⟩:=hv;have hz:(zeroValue 3).run prog w=.ok (.int .i64 0) w:=by kernel_rfl
 rcases Maps.fit_look true K ht hz hb F c with ⟨a,d,-⟩|⟨e0,y,hm,hk,a,-⟩
 ·right
  refine⟨fun hm=>?_,a⟩;obtain⟨i,hi⟩:=List.getElem?_of_mem hm;obtain⟨e,he,f,-⟩:=h1 i v hi;exact d e he f
 left
 obtain⟨i,hi,hval⟩:=h2 e0 hm;rw[hk]at hi;rw[hval]at a;exact⟨i,hi,a⟩
theorem ba.put(h:ba kt w b ks)(K:Maps.Keyed prog kt)(ht:prog.underlying mt=some (.map kt 3))(hn:ks.length<100000){v:Value}(hv:gS kt v)(hnew:v ∉ ks) :
  ∃ w',(Instr.mapUpdate mt (.map (some b)) v (.int .i64 (ks.length:Nat))).run prog w=.ok () w'/\ba kt w' b (ks++[v])/\cd b w w':=by
 obtain⟨es,clock,hb,F,hs,h1,h2⟩:=h;obtain⟨kl,a⟩:=hv;have hval:plainElem (H:=Unit) prog 3 (.int .i64 (ks.length:Nat))=some (.lit (.int .i64 (ks.length:Nat)),[]):=plainElem_int underlying3 (WalkArith.wf_i64 (by omega));rcases K.find w a es.toList F.keys with ⟨h3,h4⟩|⟨j,e0,-,h5,h6⟩
 ·have c:(Instr.mapUpdate mt (.map (some b)) v (.int .i64 (ks.length:Nat))).run prog w=.ok () (ChangeMaps.setBlock w b (.map (es.push ⟨v,.int .i64 (ks.length:Nat),clock⟩) (clock+1))):=by
   simp[Instr.mapUpdate,run_underlying ht,MapKept.run_getObj_map hb,K.check w false a,h3,MapKept.run_setObj_map _ hb,Result.andThen,ChangeMaps.setBlock]
  refine⟨_,c,⟨es.push ⟨v,.int .i64 (ks.length:Nat),clock⟩,clock+1,ChangeMaps.heap_setBlock_same hb _,⟨by rw[Array.size_push,hs];unfold maxLen;omega,MapKept.stamped_push F.stamped h4,fun x hx=>?_⟩,by rw[Array.size_push,hs];simp,fun i u hi=>?_,fun e he=>?_⟩,⟨rfl,rfl,rfl,by simp[ChangeMaps.setBlock],fun k hk=>ChangeMaps.heap_setBlock_other hb _ hk⟩⟩
  ·simp only[Array.toList_push,List.mem_append,List.mem_singleton]at hx;rcases hx with hx|rfl
   ·exact F.reads x hx
   exact⟨_,WideElems.rd_mk a hval⟩
  ·by_cases e:i<ks.length
   ·rw[List.getElem?_append_left e]at hi;obtain⟨e2,he,h7⟩:=h1 i u hi;exact⟨e2,by simp[he],h7⟩
   rw[List.getElem?_append_right (by omega)]at hi;obtain⟨rfl,e3⟩ : i=ks.length/\v=u:=by
    by_cases e4:i=ks.length
    ·subst e4;simpa using hi
    rw[List.getElem?_eq_none (by simp;omega)]at hi;cases hi
   exact⟨⟨v,.int .i64 (ks.length:Nat),clock⟩,by simp,e3,rfl⟩
  simp only[Array.toList_push,List.mem_append,List.mem_singleton]at he;rcases he with he|rfl
  ·obtain⟨i,hi,d⟩:=h2 e he;have hlt:i<ks.length:=by
    apply Nat.lt_of_not_le
    intro q;rw[List.getElem?_eq_none q]at hi;cases hi
   exact⟨i,by rw[List.getElem?_append_left hlt];exact hi,d⟩
  exact⟨ks.length,by simp,rfl⟩
 obtain⟨i,hi,-⟩:=h2 e0 (List.mem_of_getElem? h5);rw[h6]at hi;exact absurd (List.mem_of_getElem? hi) hnew
end
abbrev dD (w:World) (b:Nat):Nat->Prop:=fun k=>k=b∨w.heap.size<=k
def lB(ks:List Value)(v:Value)(ks':List Value)(i:Nat)(f:Bool):Prop:=(v∈ks/\ks'=ks/\ks[i]?=some v/\f=false)∨(v ∉ ks/\ks'=ks++[v]/\i=ks.length/\f=true)
theorem fF{P:Program}{ops:Array Oper}{W:World}{Q:Act->Prop}:∀ (l:List Oper) (a:Act),wpQuiet P ops (fun w'=>w'=W) Q l a->wpStill P ops W Q l a
 | [],_,h=>h
 | o::rest,a,h=>by
  unfold wpQuiet at h;unfold wpStill
  split
  ·rename_i hw
   rw[if_pos hw]at h;obtain⟨v,h1,h2⟩:=h;have h3:=h1 W rfl;have h4:=fF rest _ h2;unfold Oper.quietAt at h3;unfold Oper.still;generalize (execOp a.eval o).run P W=r at h3 ⊢;cases r with
   | ok n w' =>
    cases n<;>simp only[Oper.quietUpon]at h3<;>simp only[Oper.stillUpon]
    case value u=>obtain⟨rfl,rfl⟩:=h3;exact⟨rfl,h4⟩
    case skip=>obtain⟨rfl,rfl⟩:=h3;exact⟨rfl,h4⟩
    case enter f args=>exact⟨h3.1,v,h3.2,h4⟩
   | halt x w'=>simp only[Oper.quietUpon]at h3
  rename_i hw
  rw[if_neg hw]at h;exact fF rest _ h
theorem aL{P:Program}{id:Nat}{Q:Exit->Act->World->Prop}{a:Act}{w:World}{l:List Oper}(n:Nat)(hm:P.follows .mixedOrders=true)(hB:Region.lexTailB .any l.toArray n=true)
  (h:wpQuiet P l.toArray (fun w'=>w'=w.drew) (fun a'=>wpList P l.toArray Q (l.drop n) a' w.drew) (l.take n) a):(Code.region id l.toArray true).wp P Q a w:=
 wp_region_still_tail n hm hB (fF _ _ h)
def iR(f:Nat->Bool):Nat->Nat
 | 0=>0
 | n+1=>iR f n+(if f n then 1 else 0)
theorem uN(f:Nat->Bool):∀ n,iR f n<=n
 | 0=>Nat.le_refl _
 | n+1=>by have:=uN f n;simp only[iR];split<;>omega
theorem oB{f g:Nat->Bool}:∀ n,(∀ q,q<n->f q=true->g q=true)->iR f n<=iR g n
 | 0,_=>Nat.le_refl _
 | n+1,h=>by
  have h1:=oB n fun q hq=>h q (by omega)
  have h2:=h n (by omega);simp only[iR]
  by_cases hf:f n=true
  ·rw[if_pos hf,if_pos (h2 hf)];omega
  rw[if_neg hf];omega
theorem uq{f g:Nat->Bool}:∀ n,(∀ q,q<n->f q=true->g q=true)->(∃ q,q<n/\g q=true/\f q=false)->iR f n<iR g n
 | 0,_,⟨q,hq,_⟩=>by omega
 | n+1,h,⟨q,hq,hg,hf⟩=>by
  simp only[iR]
  by_cases he:q=n
  ·subst he;have h1:=oB (f:=f) (g:=g) q fun p hp=>h p (by omega)
   rw[hf,hg];simp;omega
  have h1:=uq n (fun p hp=>h p (by omega)) ⟨q,by omega,hg,hf⟩;have h2:=h n (by omega)
  by_cases hfn:f n=true
  ·rw[if_pos hfn,if_pos (h2 hfn)];omega
  rw[if_neg hfn];omega
theorem oV.grow{A:Tb}{C:Nat->Nat->Prop}{P N:Nat->Nat}(h:oV A C P)(g:oV A (rnd A C) N)(hw:A.Wf){r:Nat->Bool}(hr:∀ q,q<A.n->(r q=true↔A.Rch q))(hne:∃ q,A.Rch q/\N q≠P q) :
  iR (fun q=>r q&&P q==q) A.n<iR (fun q=>r q&&N q==q) A.n:=by
 refine uq _ (fun q hq hf=>?_) ?_
 ·simp only[Bool.and_eq_true,beq_iff_eq]at hf ⊢;have rq:=(hr q hq).mp hf.1;refine⟨hf.1,?_⟩;have h1:=g.lst q rq;have h2:=(h.lst q rq).2.2 _ h1.1 h1.2.1.1;have h3:=g.lst.le g.equ rq;omega
 obtain⟨q,rq,hd⟩:=hne;have h1:=g.lst q rq;have hl:=h1.1.lt hw;refine⟨N q,hl,?_,?_⟩
 ·simp only[Bool.and_eq_true,beq_iff_eq];exact⟨(hr _ hl).mpr h1.1,g.lst.idem g.equ rq⟩
 have h2:=(h.lst.eq_iff h.equ h1.1 rq).mpr h1.2.1.1;have:¬ P (N q)=N q:=fun he=>hd (by rw[<-h2,he])
 simp[this]
theorem cm:∀ (n:Nat) (l:List Nat),l.Nodup->(∀ x∈l,x<n)->l.length<=n
 | 0,[],_,_=>Nat.le_refl _
 | 0,x::l,_,h=>absurd (h x (.head _)) (by omega)
 | n+1,l,hn,h=>by
  have h1:=cm n (l.filter (· ≠ n)) (hn.filter _) (fun x hx=>by
   rw[List.mem_filter]at hx;have:=h x hx.1;have:=of_decide_eq_true hx.2;omega)
  have h2:l.length<=(l.filter (· ≠ n)).length+1:=by
   clear h1 h
   induction l with
   | nil=>simp
   | cons x l ih =>
    rw[List.nodup_cons]at hn
    by_cases e:x=n
    ·subst e;have:l.filter (· ≠ x)=l:=List.filter_eq_self.mpr (fun y hy=>by
      have:y≠x:=fun e=>hn.1 (e ▸ hy)
      simpa using this)
     rw[List.filter_cons_of_neg (by simp),this,List.length_cons];exact Nat.le_refl _
    have:=ih hn.2;rw[List.filter_cons_of_pos (by simpa using e),List.length_cons,List.length_cons];omega
  omega
theorem eS.few{n N:Nat}{ms ps bs fr mk tt:Nat->Nat}(h:eS n N ms ps bs fr mk tt):N<=n:=by
 have h1:((List.range N).map fr).Nodup:=by
  rw[List.nodup_iff_pairwise_ne,List.pairwise_map];refine(List.nodup_range (n:=N)).imp_of_mem (fun {a b} ha hb hne he=>hne ?_)
  have ha:=List.mem_range.1 ha;have hb:=List.mem_range.1 hb;have b1:=h.b1 a ha;have b2:=h.b1 b hb;obtain⟨q1,q2⟩:=h.m1 (fr a) (by omega);rw[<-h.s2 (ms (fr a)) a q1 ha (by omega) (by omega),<-h.s2 (ms (fr a)) b q1 hb (by omega) (by omega)]
 have:=cm n _ h1 (fun x hx=>by
  obtain⟨a,ha,rfl⟩:=List.mem_map.1 hx;have:=h.b1 a (List.mem_range.1 ha);omega)
 simpa using this
structure vu (n N:Nat) (S:Nat->Prop) (bs fr mk tt:Nat->Nat) (U:Nat->Prop) (N':Nat) (bs' fr' mk' tt':Nat->Nat):Prop where
 le:N<=N'
 un:∀ b,U b->b<N/\fr' b=fr b/\mk' b=mk b/\tt' b=tt b
 ub:∀ t,t<n->(U (bs t)∨U (bs' t))->bs' t=bs t
 or:∀ t,t<n->bs' t=bs t∨N<=bs' t
 same:∀ p q,p<n->q<n->(bs' p=bs' q↔bs p=bs q/\(¬ U (bs p)->(S p↔S q)))
 um:∀ b,b<N'->¬ U b->mk' b=fr' b
section
variable {n N:Nat} {S U:Nat->Prop} {ms ps bs fr mk tt:Nat->Nat} {N':Nat} {bs' fr' mk' tt':Nat->Nat}
theorem vu.start(h:eS n N ms ps bs fr mk tt)(hS:∀ t,t<n->(ps t<mk (bs t)↔S t)):vu n N S bs fr mk tt (fun b=>b<N/\mk b≠fr b) N bs fr mk tt where
 le:=Nat.le_refl _
 un:=fun b hb=>⟨hb.1,rfl,rfl,rfl⟩
 ub:=fun _ _ _=>rfl
 or:=fun _ _=>.inl rfl
 same:=fun p q hp hq=>⟨fun e=>⟨e,fun hu=>by
  have b1:=h.s1 p hp;have b2:=h.s1 q hq;have:mk (bs p)=fr (bs p):=Classical.byContradiction fun hne=>hu ⟨b1.1,hne⟩
  rw[<-hS p hp,<-hS q hq,<-e,this];rw[<-e]at b2;omega⟩,fun e=>e.1⟩
 um:=fun b hb hu=>Classical.byContradiction fun hne=>hu ⟨hb,hne⟩
theorem vu.unmark(h:vu n N S bs fr mk tt U N' bs' fr' mk' tt')(hP:eS n N' ms ps bs' fr' mk' tt')(hS:∀ t,t<n->(ps t<mk (bs t)↔S t)){b:Nat}(hb:U b)(hw:mk' b=fr' b∨mk' b=tt' b) :
  vu n N S bs fr mk tt (fun x=>U x/\x≠b) N' bs' fr' (bW mk' b (fr' b)) tt' where
 le:=h.le
 un:=fun x hx=>by rw[aW _ hx.2];exact h.un x hx.1
 ub:=fun t ht hu=>h.ub t ht (hu.imp And.left And.left)
 or:=h.or
 same:=fun p q hp hq=>by
  rw[h.same p q hp hq];refine⟨fun ⟨e,hs⟩=>⟨e,fun hu=>?_⟩,fun ⟨e,hs⟩=>⟨e,fun hu=>hs (fun k=>hu k.1)⟩⟩
  by_cases hub:U (bs p)
  ·have e1:bs p=b:=Classical.byContradiction fun hne=>hu ⟨hub,hne⟩
   have p1:=h.ub p hp (.inl hub);have q1:=h.ub q hq (.inl (e ▸ hub));have b1:=hP.s1 p hp;have b2:=hP.s1 q hq;have u1:=h.un b hb;rw[<-hS p hp,<-hS q hq,<-e,e1];rw[p1,e1]at b1;rw[q1,<-e,e1]at b2;omega
  exact hs hub
 um:=fun x hx hu=>by
  by_cases e:x=b
  ·subst e;rw[bG]
  rw[aW _ e];exact h.um x hx (fun k=>hu ⟨k,e⟩)
theorem vu.cut(h:vu n N S bs fr mk tt U N' bs' fr' mk' tt')(hP:eS n N' ms ps bs' fr' mk' tt')(hS:∀ t,t<n->(ps t<mk (bs t)↔S t)){b r1 r2 o1 o2:Nat}{bs2:Nat->Nat}(hb:U b)
  (hs2:∀ p q,p<n->q<n->(bs2 p=bs2 q↔bs' p=bs' q/\(bs' p=b->(ps p<mk' b↔ps q<mk' b))))(hk:∀ p,p<n->bs' p≠b->bs2 p=bs' p)(hn:∀ p,p<n->bs' p=b->bs2 p=b∨bs2 p=N') :
  vu n N S bs fr mk tt (fun x=>U x/\x≠b) (N'+1) bs2 (bW (bW fr' b r1) N' o1) (bW (bW mk' b r1) N' o1) (bW (bW tt' b r2) N' o2):=by
 have c:=h.le;have ub:=h.un b hb;have no:∀ t,t<n->bs' t=b->bs t=b:=fun t ht e=>by rw[<-h.ub t ht (.inr (e ▸ hb)),e]
 have on:∀ t,t<n->bs t=b->bs' t=b:=fun t ht e=>by rw[h.ub t ht (.inl (e ▸ hb)),e]
 refine⟨by omega,fun x hx=>?_,fun t ht hu=>?_,fun t ht=>?_,fun p q hp hq=>?_,fun x hx hu=>?_⟩
 ·have h1:=h.un x hx.1;have a:x≠N':=by omega
  rw[aW _ a,aW _ a,aW _ a,aW _ hx.2,aW _ hx.2,aW _ hx.2];exact h1
 ·by_cases e:bs' t=b
  ·rcases hu with hu|hu
   ·exact absurd (no t ht e) hu.2
   rcases hn t ht e with e2|e2
   ·exact absurd e2 hu.2
   have:=(h.un _ hu.1).1;omega
  rw[hk t ht e]at hu ⊢;exact h.ub t ht (hu.imp And.left And.left)
 ·by_cases e:bs' t=b
  ·rcases hn t ht e with e2|e2
   ·exact .inl (by rw[e2,no t ht e])
   exact .inr (by omega)
  rw[hk t ht e];exact h.or t ht
 ·rw[hs2 p q hp hq,h.same p q hp hq];refine⟨fun ⟨⟨e,hs⟩,hc⟩=>⟨e,fun hu=>?_⟩,fun ⟨e,hs⟩=>⟨⟨e,fun hu=>hs (fun k=>hu k.1)⟩,fun hc=>?_⟩⟩
  ·by_cases hub:U (bs p)
   ·have e1:bs p=b:=Classical.byContradiction fun hne=>hu ⟨hub,hne⟩
    have:=hc (on p hp e1);rw[<-hS p hp,<-hS q hq,<-e,e1,<-ub.2.2.1];exact this
   exact hs hub
  have e1:=no p hp hc;have:=hs (fun k=>k.2 e1);rw[<-hS p hp,<-hS q hq,<-e,e1,<-ub.2.2.1]at this;exact this
 by_cases e:x=N'
 ·subst e;rw[bG,bG]
 rw[aW _ e,aW _ e]
 by_cases e2:x=b
 ·subst e2;rw[bG,bG]
 rw[aW _ e2,aW _ e2];exact h.um x (by omega) (fun k=>hu ⟨k,e2⟩)
theorem vu.fin(h:vu n N S bs fr mk tt U N' bs' fr' mk' tt')(hU:∀ b,¬ U b){W W':Nat->Prop}(hW:∀ x,W x->W' x)(hN:∀ x,N<=x->x<N'->W' x)(hlt:∀ p,p<n->bs' p<N'):zX n S bs bs' W W' where
 same:=fun p q hp hq=>by
  rw[h.same p q hp hq];exact⟨fun k=>⟨k.1,k.2 (hU _)⟩,fun k=>⟨k.1,fun _=>k.2⟩⟩
 keep:=fun p hp hw=>by
  rcases h.or p hp with e|e
  ·rw[e];exact hW _ hw
  exact hN _ e (hlt p hp)
 new:=fun p q hp hq e hne=>by
  rcases h.or p hp with e1|e1
  ·rcases h.or q hq with e2|e2
   ·exact absurd (by rw[e1,e2,e]) hne
   exact .inr (hN _ e2 (hlt q hq))
  exact .inl (hN _ e1 (hlt p hp))
end
def dP(set:List Int)(b:Int):Prop:=∃ i:Nat,2*i+1<set.length/\set[2*i]?.getD 0<=b/\b<=set[2*i+1]?.getD 0
theorem oM(v:Value)(set:List Int)(b:Int)(w:World)(hv:aP mI 0 0 w.heap.size w v set)(hl:set.length<=1048576) :
  Calls prog 72 #[v,.int .i64 b] w fun e w'=>aF e (dP set b)/\w'=w:=by
 obtain⟨a,cap,rfl,-,hc⟩:=hv
 go_enter func72,ntmps72
 go_wp2_with fail
 go_loop [5] (fun iv=>∃ k:Nat,2*k<=set.length+1/\iv=.int .i64 ((2*k:Nat):Int)/\∀ j:Nat,j<k->¬ (set[2*j]?.getD 0<=b/\b<=set[2*j+1]?.getD 0)) (fun iv=>set.length+2-(intOf iv).toNat)
 case atStart=>exact⟨0,Nat.zero_le _,rfl,fun j hj=>absurd hj (Nat.not_lt_zero _)⟩
 obtain⟨k,hk,rfl,n⟩:=hrel;have l:=ae n;clear n
 by_cases hlt:2*k+1<set.length
 ·have p:((2*k:Nat):Int)+1<(set.length:Int):=by omega
  have r:((2*k:Nat):Int)<(set.length:Int):=by omega
  have s:(0:Int)<=((2*k:Nat):Int)+1:=by omega
  obtain⟨g,off,rfl,-,-,c⟩:=hc (by omega);have hx:w.cell? ⟨g,off+2*k,none⟩=some (.int .i64 (set[2*k]?.getD 0)):=c _ (by omega);have hy:w.cell? ⟨g,off+(2*k+1),none⟩=some (.int .i64 (set[2*k+1]?.getD 0)):=c _ (by omega);have d:Hi (set[2*k]?.getD 0<=b->b<=set[2*k+1]?.getD 0->dP set b):=fun q1 q2=>⟨k,hlt,q1,q2⟩
  have f:Hi (¬ (set[2*k]?.getD 0<=b/\b<=set[2*k+1]?.getD 0)->∀ j:Nat,j<k+1->¬ (set[2*j]?.getD 0<=b/\b<=set[2*j+1]?.getD 0)):=fun h j hj=>by
   by_cases e:j=k
   ·subst e;exact h
   exact l.u j (by omega)
  clear c hc l;generalize set[2*k]?.getD 0=x at *;generalize set[2*k+1]?.getD 0=y at *;have o:2*(k+1)<=set.length+1:=by omega
  have t:set.length+2-2*(k+1)<set.length+2-2*k:=by omega
  have ek:((2*(k+1):Nat):Int)=((2*k:Nat):Int)+2:=by omega
  have EK:=ae ek;have q:2*k<=1048576:=by omega
  clear ek hlt hk;generalize hm:2*k=m at *;have HM:=ae hm;clear hm
  by_cases g1:x<=b
  ·by_cases g2:b<=y
   ·have HQ:=ae (d.u g1 g2);clear d f;go_wp2;go_ret;exact⟨aF.yes HQ.u,rfl⟩
   have HQ:=ae (f.u (fun h=>g2 h.2));clear d f;go_wp2
   go_round
   case rel=>exact⟨k+1,o,by rw[EK.u],HQ.u⟩
   simp[intOf];omega
  have HQ:=ae (f.u (fun h=>g1 h.1));clear d f;go_wp2
  go_round
  case rel=>exact⟨k+1,o,by rw[EK.u],HQ.u⟩
  simp[intOf];omega
 have p:¬ ((2*k:Nat):Int)+1<(set.length:Int):=by omega
 have q:2*k<=1048577:=by omega
 have HQ:Hi (¬ dP set b):=fun ⟨i,hi,h2⟩=>l.u i (by omega) h2
 generalize hm:2*k=m at *;clear hm;go_wp2;go_ret;exact⟨aF.no HQ.u,rfl⟩
theorem vD{N:Nat}{w:World}{v:Value}{xs:List Int}(h:aT 0 N w v xs):aP mI 0 0 N w v xs:=by
 obtain⟨a,c,e,h1,-,h2⟩:=h;exact⟨a,c,e,h1,h2⟩
theorem jS(cl ac:Value)(b off l c:Nat)(nc q:Nat)(w:World)(hq:(q+1)*nc<=l)(hl:l<=1000000)(hlc:l<=c)(hqn:q<=1024)(hnc:1<=nc/\nc<=256) :
  Calls prog 97 #[.agg #[cl,.int .i64 nc,.slice (some ⟨b,off,none⟩) l c,ac],.int .i64 q] w fun e w'=>e=.returned (.slice (some ⟨b,off+q*nc,none⟩) nc (c-q*nc))/\Below w.heap.size w w':=by
 have h1:q*nc+nc<=l:=by rw[Nat.add_mul,Nat.one_mul]at hq;exact hq
 obtain⟨m,hm⟩ : ∃ m,m=q*nc:=⟨_,rfl⟩;have h2:(q:Int)*(nc:Int)=(m:Int):=by rw[hm];exact(Int.natCast_mul ..).symm
 have h3:((q:Int)+1)*(nc:Int)=(m:Int)+nc:=by rw[Int.add_mul,h2,Int.one_mul]
 rw[<-hm]at h1 ⊢;have h4:wrap64 ((m:Int)+nc)=(m:Int)+nc:=xx (by omega) (by omega);have h5:wrap64 (m:Int)=m:=xx (by omega) (by omega);have h6:wrap64 ((q:Int)+1)=(q:Int)+1:=xx (by omega) (by omega);have h7:¬ c=m:=by omega
 clear hm hq
 go_enter func97,ntmps97
 go_wp2_with fail;rw[show m+nc-m=nc by omega];go_ret;exact⟨rfl,ai w _⟩
theorem yH(g mb mo pb po n c1 c2:Nat)(i j x y:Nat)(w:World)(hi:i<n)(hj:j<n)(hx:x<n)(hy:y<n)(d1:mb≠g)(d2:pb≠g)(d3:mb≠pb)
  (f0:w.cell? ⟨g,0,none⟩=some (.slice (some ⟨mb,mo,none⟩) n c1))(f1:w.cell? ⟨g,1,none⟩=some (.slice (some ⟨pb,po,none⟩) n c2))
  (m1:w.cell? ⟨mb,mo+i,none⟩=some (.int .i64 x))(m2:w.cell? ⟨mb,mo+j,none⟩=some (.int .i64 y))(p1:∃ v,w.cell? ⟨pb,po+x,none⟩=some v)(p2:∃ v,w.cell? ⟨pb,po+y,none⟩=some v)
  (zm:∀ k,w.frozen? ⟨mb,k,none⟩=false)(zp:∀ k,w.frozen? ⟨pb,k,none⟩=false) :
  Calls prog 127 #[.pointer (some ⟨g,0,none⟩),.int .i64 i,.int .i64 j] w fun e w'=>e=.returned (.tuple #[])/\
   ∃ q,w'=((((w.drewN q).setCell ⟨mb,mo+i,none⟩ (.int .i64 y)).setCell ⟨mb,mo+j,none⟩ (.int .i64 x)).setCell ⟨pb,po+y,none⟩ (.int .i64 i)).setCell ⟨pb,po+x,none⟩ (.int .i64 j):=by
 have f:(i:Int)<(n:Int):=by omega
 have h:(j:Int)<(n:Int):=by omega
 have z1:=zm (mo+i);have z2:=zm (mo+j);have hA:(w.setCell ⟨mb,mo+i,none⟩ (.int .i64 y)).cell? ⟨mb,mo+j,none⟩=some (.int .i64 y):=by
  by_cases he:i=j
  ·subst he;exact dI m1
  rw[aE (by right;omega)];exact m2
 have zA:(w.setCell ⟨mb,mo+i,none⟩ (.int .i64 y)).frozen? ⟨mb,mo+j,none⟩=false:=by rw[<-z2];exact World.frozen?_setCell ..
 obtain⟨v1,p1⟩:=p1;obtain⟨v2,p2⟩:=p2;have l:(x:Int)<(n:Int):=by omega
 have m:(y:Int)<(n:Int):=by omega
 obtain⟨W1,a⟩ : ∃ W1,W1=(w.setCell ⟨mb,mo+i,none⟩ (.int .i64 y)).setCell ⟨mb,mo+j,none⟩ (.int .i64 x):=⟨_,rfl⟩;have g0:W1.cell? ⟨g,0,none⟩=some (.slice (some ⟨mb,mo,none⟩) n c1):=by rw[a,aE (by left;exact d1),aE (by left;exact d1)];exact f0
 have g1:W1.cell? ⟨g,1,none⟩=some (.slice (some ⟨pb,po,none⟩) n c2):=by rw[a,aE (by left;exact d1),aE (by left;exact d1)];exact f1
 have k1:W1.cell? ⟨mb,mo+i,none⟩=some (.int .i64 y):=by
  rw[a]
  by_cases he:i=j
  ·subst he;rw[m1]at m2;cases m2;exact dI hA
  rw[aE (by right;omega)];exact dI m1
 have k2:W1.cell? ⟨mb,mo+j,none⟩=some (.int .i64 x):=by rw[a];exact dI hA
 have k3:W1.cell? ⟨pb,po+y,none⟩=some v2:=by rw[a,aE (by left;exact d3),aE (by left;exact d3)];exact p2
 have k4:W1.cell? ⟨pb,po+x,none⟩=some v1:=by rw[a,aE (by left;exact d3),aE (by left;exact d3)];exact p1
 have z3:W1.frozen? ⟨pb,po+y,none⟩=false:=by rw[a,World.frozen?_setCell,World.frozen?_setCell];exact zp _
 have z4:W1.frozen? ⟨pb,po+x,none⟩=false:=by rw[a,World.frozen?_setCell,World.frozen?_setCell];exact zp _
 obtain⟨W2,b⟩ : ∃ W2,W2=W1.setCell ⟨pb,po+y,none⟩ (.int .i64 i):=⟨_,rfl⟩;have e0:W2.cell? ⟨g,0,none⟩=some (.slice (some ⟨mb,mo,none⟩) n c1):=by rw[b,aE (by left;exact d2)];exact g0
 have e1:W2.cell? ⟨g,1,none⟩=some (.slice (some ⟨pb,po,none⟩) n c2):=by rw[b,aE (by left;exact d2)];exact g1
 have e2:W2.cell? ⟨mb,mo+j,none⟩=some (.int .i64 x):=by rw[b,aE (by left;exact Ne.symm d3)];exact k2
 have e3:∃ v,W2.cell? ⟨pb,po+x,none⟩=some v:=by
  rw[b]
  by_cases he:x=y
  ·subst he;exact⟨_,dI k3⟩
  rw[aE (by right;omega)];exact⟨_,k4⟩
 obtain⟨v3,e3⟩:=e3;have z5:W2.frozen? ⟨pb,po+x,none⟩=false:=by rw[b,World.frozen?_setCell];exact z4
 have c:=ae a;have d:=ae b;clear a b zm zp d1 d2 d3 p1 p2 z4 k4
 go_enter func127,ntmps127
 go_wp2_with fail
 go_region
 rw[<-c.u];clear hA zA m1 m2 f0 f1 z1 z2
 go_wp2_with fail
 go_region
 rw[<-d.u];clear g0 g1 k1 k2 k3 z3
 go_wp2_with fail
 go_region
 go_wp2
 first|(refine bodyPost_ret (results_none rfl _ _ _) rfl ?_)|(refine bodyPost_end (results_none rfl _ _ _) rfl ?_)
 refine⟨rfl,3,?_⟩;rw[d.u,c.u]
 rfl
theorem aU.drewN{O:Nat->Prop}{g mb mc pb pc bb bc:Nat}{w:World}{n N:Nat}{ms ps bs fr mk tt:Nat->Nat}{kb kc:Nat}{qv:Value}{qs:List Int}{tk:Nat}(h:aU O g mb mc pb pc bb bc w n N ms ps bs fr mk tt kb kc qv qs tk)(q:Nat):aU O g mb mc pb pc bb bc (w.drewN q) n N ms ps bs fr mk tt kb kc qv qs tk:=h.keep (fun _ _ _=>rfl)
theorem iI{O:Nat->Prop}(w:World)(q:Nat):aR O w (w.drewN q):=⟨rfl,rfl,rfl,Nat.le_refl _,fun _ _=>rfl⟩
theorem uh{O:Nat->Prop}{g mb mc pb pc bb bc:Nat}{w:World}{n N:Nat}{ms ps bs fr mk tt:Nat->Nat}{kb kc:Nat}{qv:Value}{qs:List Int}{tk:Nat}(h:aU O g mb mc pb pc bb bc w n N ms ps bs fr mk tt kb kc qv qs tk)(hI:eS n N ms ps bs fr mk tt){s:Nat}(hs:s<n)(hm:mk (bs s)<=ps s) :
  Calls prog 127 #[.pointer (some ⟨g,0,none⟩),.int .i64 (ps s:Nat),.int .i64 (mk (bs s):Nat)] w fun e w'=>e=.returned (.tuple #[])/\
   aU O g mb mc pb pc bb bc w' n N (bW (bW ms (ps s) (ms (mk (bs s)))) (mk (bs s)) s) (bW (bW ps (ms (mk (bs s))) (ps s)) s (mk (bs s))) bs fr mk tt kb kc qv qs tk/\aR O w w'/\w'.heap.size=w.heap.size:=by
 obtain⟨a1,a2,a3⟩:=hI.s1 s hs;have b1:=hI.b1 _ a1;obtain⟨p1,p2⟩:=hI.p1 s hs;obtain⟨m1,m2⟩:=hI.m1 (mk (bs s)) (by omega);obtain⟨c0,c1,-⟩:=h.facts;refine(yH g mb 0 pb 0 n mc pc (ps s) (mk (bs s)) s (ms (mk (bs s))) w p1 (by omega) hs m1 (Ne.symm h.ng.1) (Ne.symm h.ng.2.1) h.ne.1 c0 c1 ?_ ?_ ?_ ?_ (fun k=>h.rm.frozen k) (fun k=>h.rp.frozen k)).mono ?_
 ·rw[Nat.zero_add,h.rm.cell p1,p2]
 ·rw[Nat.zero_add,h.rm.cell (by omega)]
 ·rw[Nat.zero_add];exact⟨_,h.rp.cell hs⟩
 ·rw[Nat.zero_add];exact⟨_,h.rp.cell m1⟩
 rintro e w' ⟨rfl,q,rfl⟩;simp only[Nat.zero_add];have k0:=h.drewN q;have k1:=k0.setM (ps s) (ms (mk (bs s)));have k2:=k1.setM (mk (bs s)) s;have k3:=k2.setP (ms (mk (bs s))) (ps s);have k4:=k3.setP s (mk (bs s));refine⟨trivial,k4,?_,by simp only[aJ];rfl⟩;obtain⟨o1,o2,o3,o4,o5⟩:=h.oo;exact(iI w q).trans ((((am _ _).fro o2).trans ((am _ _).fro o2)).trans (((am _ _).fro o3).trans ((am _ _).fro o3)))
end Go.Proofs.YtpmcjimgkabpeaaGreatDoor
