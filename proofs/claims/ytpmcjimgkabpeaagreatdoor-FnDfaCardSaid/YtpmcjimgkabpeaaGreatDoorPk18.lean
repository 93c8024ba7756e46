import Derived.Test.YtpmcjimgkabpeaaGreatDoorPk13
import Derived.Deep.RegionHeld3
namespace Go.Proofs.YtpmcjimgkabpeaaGreatDoor
open Go.RowKit Go.Proofs.Tryz
set_option maxHeartbeats 16000000
set_option maxRecDepth 100000
theorem wL(w:World):Calls prog 110 #[] w fun e w'=>∃ v,e=.returned v/\aP mI 0 0 w'.heap.size w' v [0,255]/\Below w.heap.size w w':=by
 go_enter func110,ntmps110
 go_wp2;go_ret;refine⟨_,rfl,⟨_,2,rfl,by unfold maxLen;simp,fun _=>⟨w.heap.size,0,rfl,Nat.zero_le _,by rw[ah];exact Nat.lt_succ_self _,fun i hi=>?_⟩⟩,ai w _⟩;have a:i<2:=hi
 match i,a with
 | 0,_=>exact(au w _).news 0 _ rfl
 | 1,_=>exact(au w _).news 1 _ rfl
theorem Tryz.lawI:Maps.Keyed prog 3:=Maps.int_keyed underlying3
theorem Tryz.lawII:Maps.Keyed prog 169:=Maps.Keyed.of_law (deep_law_laid Tryz.laidOutN (m:=2) (by omega) (of_decide_eq_true (by kernel_rfl)) (by kernel_rfl) (by rw[underlying169]))
theorem Gd{n:Int}(h0 : -9223372036854775808<=n)(h1:n<=9223372036854775807):(Lit.int .i64 n).wf=true:=WalkArith.wf_i64 (by omega)
theorem Cs{n:Int}(h0 : -9223372036854775808<=n)(h1:n<=9223372036854775807):gS 3 (.int .i64 n):=by
 unfold gS keyOf;simp only[underlying3];exact⟨_,by simp[mapKey,underlying3,Gd h0 h1];rfl⟩
theorem qL(w:World):Calls prog 101 #[] w fun e w'=>e=.returned (.agg #[.map (some (w.heap.size+1))])/\ba 3 w' (w.heap.size+1) []/\w'.heap.size=w.heap.size+2/\Below w.heap.size w w':=by
 have a:=@run_makeMap prog;have hN:=jR 3 (w.alloc (.cells #[.map (some (w.heap.size+1))] 173));rw[ah]at hN;have hB:=aH w (.cells #[.map (some (w.heap.size+1))] 173) (.map #[] 0);have HN:=ae hN;have HB:=ae hB;clear hN hB
 go_enter func101,ntmps101
 go_wp2;refine bodyPost_ret (v:=.agg #[.map (some (w.heap.size+1))]) (by simp[results,results101,go_sem]) rfl ?_;refine⟨rfl,HN.u,by rw[ah,ah],HB.u⟩
theorem vj(b:Nat)(x:Int)(ks:List Value)(w:World)(h:ba 3 w b ks)(h0 : -9223372036854775808<=x)(h1:x<=9223372036854775807)(hn:ks.length<100000) :
  Calls prog 102 #[.agg #[.map (some b)],.int .i64 x] w fun e w'=>∃ i ks' f,e=.returned (.tuple #[.int .i64 (i:Nat),.bool f])/\lB ks (.int .i64 x) ks' i f/\ba 3 w' b ks'/\aR (dD w b) w w':=by
 have hB:=ai w (.cells #[.map (some b)] 173);have hlt:=h.lt;have hW:=h.keep (hB.block b hlt);have c:Hi (aR (dD w b) w (w.alloc (.cells #[.map (some b)] 173))):=bh hB (fun k hk=>Or.inr hk);rcases hW.look Tryz.lawI underlying171 (Cs h0 h1) with ⟨i,hi,hl⟩|⟨a,hl⟩
 ·have HW:=ae hW;have HI:=ae hi;clear hW hi h hB
  go_enter func102,ntmps102
  go_wp2
  go_ret2;exact⟨i,ks,false,rfl,Or.inl ⟨List.mem_of_getElem? HI.u,rfl,HI.u,rfl⟩,HW.u,c.u⟩
 have o:=fun ty=>hW.len underlying171 ty
 obtain⟨w3,n,d,g⟩:=hW.put Tryz.lawI underlying171 hn (Cs h0 h1) a;have j:=ae d;have l:=ae (c.u.trans (g.fro (Or.inl rfl)));have m:=ae a;clear hW a h hB d g
 go_enter func102,ntmps102
 go_wp2
 go_ret2;exact⟨ks.length,ks++[.int .i64 x],true,rfl,Or.inr ⟨m.u,rfl,rfl,rfl⟩,j.u,l.u⟩
def FG(x:Int):Prop:=-9223372036854775808<=x/\x<=9223372036854775807
def ii(x y:Int):Value:=.agg #[.int .i64 x,.int .i64 y]
theorem yX{x y:Int}(hx:FG x)(hy:FG y):gS 169 (ii x y):=by
 have c1:prog.cellsOf 169=2:=by kernel_rfl
 have c2:prog.cellsOf 3=1:=by kernel_rfl
 have hk:prog.keyType 169=true:=by kernel_rfl
 obtain⟨m,hm⟩ : ∃ m,prog.types.size=m+1:=⟨prog.types.size-1,by have:0<prog.types.size:=of_decide_eq_true (by kernel_rfl);omega⟩;unfold gS keyOf;simp only[underlying169];rw[if_pos (by simp[hk,Value.formed,underlying169,c1,ii]),hm];unfold Program.keyLits;simp only[underlying169,Value.cells,ii];rw[if_pos (by rw[c1];rfl)];simp[List.range_succ,Program.keyLits,underlying3,c2,Gd hx.1 hx.2,Gd hy.1 hy.2]
theorem wU(w:World):Calls prog 96 #[] w fun e w'=>e=.returned (.agg #[.map (some (w.heap.size+1))])/\ba 169 w' (w.heap.size+1) []/\w'.heap.size=w.heap.size+2/\Below w.heap.size w w':=by
 have a:=@run_makeMap prog;have hN:=jR 169 (w.alloc (.cells #[.map (some (w.heap.size+1))] 167));rw[ah]at hN;have hB:=aH w (.cells #[.map (some (w.heap.size+1))] 167) (.map #[] 0);have HN:=ae hN;have HB:=ae hB;clear hN hB
 go_enter func96,ntmps96
 go_wp2;refine bodyPost_ret (v:=.agg #[.map (some (w.heap.size+1))]) (by simp[results,results96,go_sem]) rfl ?_;refine⟨rfl,HN.u,by rw[ah,ah],HB.u⟩
theorem yE(b:Nat)(x y:Int)(ks:List Value)(w:World)(h:ba 169 w b ks)(hx:FG x)(hy:FG y)(hn:ks.length<100000) :
  Calls prog 98 #[.agg #[.map (some b)],ii x y] w fun e w'=>∃ i ks' f,e=.returned (.tuple #[.int .i64 (i:Nat),.bool f])/\lB ks (ii x y) ks' i f/\ba 169 w' b ks'/\aR (dD w b) w w':=by
 have hB:=aH w (.cells #[.map (some b)] 167) (.cells #[.int .i64 x,.int .i64 y] 169);have hlt:=h.lt;have hW:=h.keep (hB.block b hlt);have hz:((w.alloc (.cells #[.map (some b)] 167)).alloc (.cells #[.int .i64 x,.int .i64 y] 169)).heap.size=w.heap.size+2:=by rw[ah,ah]
 have c:Hi (aR (dD w b) w ((w.alloc (.cells #[.map (some b)] 167)).alloc (.cells #[.int .i64 x,.int .i64 y] 169))):=bh hB (fun k hk=>Or.inr hk);rcases hW.look Tryz.lawII underlying165 (yX hx hy) with ⟨i,hi,hl⟩|⟨a,hl⟩
 ·have HW:=ae hW;have HI:=ae hi;clear hW hi h hB;unfold ii at hl ⊢
  go_enter func98,ntmps98
  go_wp2
  go_ret2;exact⟨i,ks,false,rfl,Or.inl ⟨List.mem_of_getElem? HI.u,rfl,HI.u,rfl⟩,HW.u,c.u⟩
 have o:=fun ty=>hW.len underlying165 ty
 obtain⟨w3,d,g,j⟩:=hW.put Tryz.lawII underlying165 hn (yX hx hy) a;have l:=ae g;have m:=ae (c.u.trans (j.fro (Or.inl rfl)));have n:=ae a;clear hW a h hB g j;unfold ii at hl d ⊢
 go_enter func98,ntmps98
 go_wp2
 go_ret2;exact⟨ks.length,ks++[ii x y],true,rfl,Or.inr ⟨n.u,rfl,rfl,rfl⟩,l.u,m.u⟩
theorem rS(b:Nat)(ks:List Value)(w:World)(h:ba 169 w b ks) :
  Calls prog 99 #[.agg #[.map (some b)]] w fun e w'=>e=.returned (.int .i64 (ks.length:Nat))/\Below w.heap.size w w':=by
 have hB:=ai w (.cells #[.map (some b)] 167);have hW:=h.keep (hB.block b h.lt);have a:=fun ty=>hW.len underlying165 ty
 have HB:=ae hB;clear hW h hB
 go_enter func99,ntmps99
 go_wp2;go_ret;exact⟨rfl,HB.u⟩
theorem aP.under{α:Type}{mk:α->Value}{d:α}{lo n m:Nat}{w w':World}{v:Value}{xs:List α}(h:aP mk d lo n w v xs)(hb:Below m w w')(hm:n<=m):aP mk d lo n w' v xs:=h.same (ew.of_below hb hm)
def gU(D:Nat)(w w':World):Prop:=iQ (fun k=>k=D) w w'
theorem gU.refl(D:Nat)(w:World):gU D w w:=iQ.refl _ _
theorem gU.below{D m:Nat}{w w':World}(h:gU D w w')(hm:m<=D):Below m w w':=iQ.below h (fun k hk=>by omega)
def iU(w:World)(b:Nat)(t:TypeId)(c0 c1:Value):Prop:=w.rowIs b t 2 (fun j=>[c0,c1].getD j undef)
theorem iU.new(w:World)(t:TypeId)(c0 c1:Value):iU (w.alloc (.cells #[c0,c1] t)) w.heap.size t c0 c1:=
 World.rowIs_alloc w #[c0,c1] t _ (fun i hi=>by
  match i,hi with
  | 0,_=>rfl
  | 1,_=>rfl)
theorem iU.below{w w':World}{b m:Nat}{t:TypeId}{c0 c1:Value}(h:iU w b t c0 c1)(hb:Below m w w')(hm:b<m):iU w' b t c0 c1:=World.rowIs.of_block h (hb.block b hm)
theorem iU.put0{w:World}{b:Nat}{t:TypeId}{c0 c1 u:Value}(h:iU w b t c0 c1):iU (w.setCell ⟨b,0,none⟩ u) b t u c1:=(World.rowIs.set h 0 u).congr (fun i hi=>by
  match i,hi with
  | 0,_=>rfl
  | 1,_=>rfl)
theorem iU.put1{w:World}{b:Nat}{t:TypeId}{c0 c1 u:Value}(h:iU w b t c0 c1):iU (w.setCell ⟨b,1,none⟩ u) b t c0 u:=(World.rowIs.set h 1 u).congr (fun i hi=>by
  match i,hi with
  | 0,_=>rfl
  | 1,_=>rfl)
theorem iU.facts{w:World}{b:Nat}{t:TypeId}{c0 c1:Value}(h:iU w b t c0 c1):w.cell? ⟨b,0,none⟩=some c0/\w.cell? ⟨b,1,none⟩=some c1/\w.frozen? ⟨b,1,none⟩=false:=by
 refine⟨h.cell (by omega),h.cell (by omega),?_⟩;obtain⟨c,hc,-⟩:=h;simp[World.frozen?,hc]
structure Mv (lo D:Nat) (w w':World):Prop where
 os:w'.os=w.os
 tape:w'.tape=w.tape
 output:w'.output=w.output
 size:w.heap.size<=w'.heap.size
 block:∀ k,k<lo->k≠D->w'.heap[k]?=w.heap[k]?
theorem Mv.trans{lo D:Nat}{a b c:World}(h:Mv lo D a b)(k:Mv lo D b c):Mv lo D a c:=⟨k.os.trans h.os,k.tape.trans h.tape,k.output.trans h.output,Nat.le_trans h.size k.size,fun i h1 h2=>(k.block i h1 h2).trans (h.block i h1 h2)⟩
theorem gU.mv{D:Nat}{w w':World}(h:gU D w w')(lo:Nat):Mv lo D w w':=⟨h.os,h.tape,h.output,Nat.le_of_eq h.size.symm,fun k _ hk=>h.block k hk⟩
theorem Below.mv{lo:Nat}{w w':World}(h:Below lo w w')(D:Nat):Mv lo D w w':=⟨h.os,h.tape,h.output,h.size,fun k hk _=>h.block k hk⟩
theorem Mv.mono{lo lo' D:Nat}{w w':World}(h:Mv lo D w w')(hl:lo'<=lo):Mv lo' D w w':=⟨h.os,h.tape,h.output,h.size,fun k hk hd=>h.block k (by omega) hd⟩
theorem Mv.below{lo D:Nat}{w w':World}(h:Mv lo D w w')(hD:D<=lo):Below D w w':=⟨h.os,h.tape,h.output,h.size,fun k hk=>h.block k (by omega) (by omega)⟩
theorem eQ{base n e size lo D:Nat}{w w':World}{v:Value}{xs:List Value}(h:w.ownsRow base e size v n xs)(hb:Mv lo D w w')(hm:w.heap.size<=lo)(hD:D<base):w'.ownsRow base e size v n xs:=by
 refine⟨h.1,?_⟩;rcases h.2 with h2|⟨g,cap,cur,h1,h2,h3,h4⟩
 ·exact Or.inl h2
 have hg:g<w.heap.size:=by
  by_cases q:g<w.heap.size
  ·exact q
  rw[Array.getElem?_eq_none (by omega)]at h3;cases h3
 exact Or.inr ⟨g,cap,cur,h1,h2,(hb.block g (by omega) (by omega)).trans h3,h4⟩
theorem Fe{N j c:Nat}{a:Option Addr}{w:World}{xs:List Int}(h:aP mB 0 0 N w (.slice a xs.length c) xs)(hj:j<=xs.length)(hc:xs.length<=c)(hm:c<=maxLen):aP mB 0 0 N w (.slice a j c) (xs.take j)/\dj (.slice a j c):=by
 obtain⟨a',c',e,hl,d⟩:=h;cases e;have e1:(xs.take j).length=j:=by rw[List.length_take];omega
 refine⟨⟨a,c,by rw[e1],by omega,fun hp=>?_⟩,dj.mk (by omega) hm⟩;rw[e1]at hp;obtain⟨b,off,rfl,h1,h2,h3⟩:=d (by omega);refine⟨b,off,rfl,h1,h2,fun i hi=>?_⟩;rw[e1]at hi;rw[h3 i (by omega),List.getElem?_take,if_pos hi]
def bm(N D:Nat)(w:World)(xs:List Int):Prop:=N<=D/\∃ (v:Value) (cs:List Int) (i:Nat),iU w D 61 v (.int .i64 i)/\aP mB 0 0 N w v cs/\i<=cs.length/\cs.length<=600/\cs.drop i=xs
theorem bm.keep{N D m:Nat}{w w':World}{xs:List Int}(h:bm N D w xs)(hb:Below m w w')(hm:D<m):bm N D w' xs:=by
 obtain⟨hN,v,cs,i,h1,h2,h3⟩:=h;exact⟨hN,v,cs,i,h1.below hb hm,h2.under hb (by omega),h3⟩
theorem oS{D:Nat}{w:World}{v:Value}:gU D w (w.setCell ⟨D,1,none⟩ v):=iQ.put (S:=fun k=>k=D) (iQ.refl _ _) rfl v
theorem lU{D:Nat}{w w':World}(h:gU D w w')(q:Nat):gU D w (w'.drewN q):=⟨h.os,h.tape,h.output,h.size,h.block⟩
theorem aC(N D:Nat)(xs:List Int)(w:World)(h:bm N D w xs)(hb:∀ x∈xs,0<=x/\x<=255) :
  Calls prog 26 #[.pointer (some ⟨D,0,none⟩)] w fun e w'=>e=.returned (.int .i64 (xs.headD 0))/\bm N D w' xs.tail/\gU D w w':=by
 obtain⟨hN,v,cs,i,hr,hs,hi,hl,rfl⟩:=h;have HR:=ae hr;have HS:=ae hs;obtain⟨f0,f1,z1⟩:=hr.facts;obtain⟨a,c,rfl,-,hc⟩:=hs;clear hr
 by_cases hlt:i<cs.length
 ·have f:¬ (cs.length:Int)<=(i:Int):=by omega
  have g:(i:Int)<(cs.length:Int):=by omega
  obtain⟨b,off,rfl,-,-,d⟩:=hc (by omega);have hx:=d i hlt;unfold mB at hx;have hy:=hb (cs[i]?.getD 0) (by rw[List.drop_eq_getElem_cons hlt,List.getElem?_eq_getElem hlt];exact List.mem_cons_self ..);have He:Hi ((cs.drop i).headD 0=cs[i]?.getD 0/\(cs.drop i).tail=cs.drop (i+1)):=by
   show(cs.drop i).headD 0=cs[i]?.getD 0/\(cs.drop i).tail=cs.drop (i+1);rw[List.drop_eq_getElem_cons hlt,List.getElem?_eq_getElem hlt];exact⟨rfl,rfl⟩
  rw[He.u.1,He.u.2];clear d hc hb He;generalize cs[i]?.getD 0=y at *
  go_enter func26,ntmps26
  go_wp2_with fail
  go_quiet (fail)
  go_wp2_with fail
  go_quiet (fail);go_wp2;go_ret;refine⟨rfl,⟨hN,.slice (some ⟨b,off,none⟩) cs.length c,cs,i+1,?_,?_,by omega,hl,rfl⟩,?_⟩
  ·exact iU.put1 HR.u
  ·have h1:gU D w (w.setCell ⟨D,1,none⟩ (.int .i64 ((i:Int)+1))):=oS;exact HS.u.under (gU.below (show gU D w _ from⟨h1.os,h1.tape,h1.output,h1.size,h1.block⟩) hN) lR
  have h1:gU D w (w.setCell ⟨D,1,none⟩ (.int .i64 ((i:Int)+1))):=oS;exact⟨h1.os,h1.tape,h1.output,h1.size,h1.block⟩
 obtain rfl:i=cs.length:=by omega
 have f:(cs.length:Int)<=(cs.length:Int):=Int.le_refl _;rw[List.drop_length];clear hc hb
 go_enter func26,ntmps26
 go_wp2_with fail
 go_quiet (fail);go_wp2;go_ret;exact⟨rfl,⟨hN,_,cs,cs.length,HR.u,HS.u,Nat.le_refl _,hl,by simp⟩,lU (gU.refl _ _) _⟩
theorem sY(v:Value)(cs:List Int)(w:World)(hv:aP mB 0 0 w.heap.size w v cs)(hcap:dj v) :
  Calls prog 11 #[v] w fun e w'=>e=.returned (.pointer (some ⟨w.heap.size,0,none⟩))/\bm w.heap.size w.heap.size w' (cs.take 600)/\w'.heap.size=w.heap.size+1/\Below w.heap.size w w':=by
 have HV:=ae hv;obtain⟨a,c,rfl,-,-⟩:=hv;have b:=hcap.le;have f:=b.2;unfold maxLen at f;clear hcap;obtain⟨n,hn⟩ : ∃ n:Nat,n=min cs.length 600:=⟨_,rfl⟩;have ht:=Fe (j:=n) HV.u (by omega) b.1 b.2;have e1:cs.take n=cs.take 600:=by
  by_cases h:cs.length<=600
  ·rw[List.take_of_length_le (by omega),List.take_of_length_le h]
  rw[show n=600 by omega]
 have HT:=ae ht.1;have hR:=iU.new w 61 (.slice a n c) (.int .i64 ((0:Nat):Int));have hB:=ai w (.cells #[.slice a n c,.int .i64 ((0:Nat):Int)] 61);have HF:Hi (bm w.heap.size w.heap.size (w.alloc (.cells #[.slice a n c,.int .i64 ((0:Nat):Int)] 61)) (cs.take 600)):=⟨Nat.le_refl _,_,cs.take n,0,hR,HT.u.under hB lR,Nat.zero_le _,by rw[List.length_take];omega,by rw[List.drop_zero,e1]⟩;clear ht e1 hR
 by_cases h6:600<cs.length
 ·have g:(600:Int)<(cs.length:Int):=by omega
  have d:n=600:=by omega
  clear hn;subst d
  go_enter func11,ntmps11
  go_wp2;go_ret;exact⟨rfl,HF.u,ah _ _,hB⟩
 have g:¬ (600:Int)<(cs.length:Int):=by omega
 have d:n=cs.length:=by omega
 clear hn;subst d
 go_enter func11,ntmps11
 go_wp2;go_ret;exact⟨rfl,HF.u,ah _ _,hB⟩
def bZ(xs:List Int):Prop:=∀ x∈xs,0<=x/\x<=255
theorem bZ.tail{xs:List Int}(h:bZ xs):bZ xs.tail:=fun x hx=>h x (List.mem_of_mem_tail hx)
theorem bZ.head{xs:List Int}(h:bZ xs):0<=xs.headD 0/\xs.headD 0<=255:=by
 cases xs with
 | nil=>simp
 | cons x r=>exact h x (List.mem_cons_self ..)
def sX:List Int:=[92,46,91,93,40,41,124,42,43,63,123,125,94,36,45,10,9,13,32,126,0,127,128,255,33]
theorem oI:∀ k,k<25->0<=sX.getD k 0/\sX.getD k 0<=255:=by decide
theorem BJ(k:Nat)(h:k<25):wrap64 (((ByteArray.mk #[92,46,91,93,40,41,124,42,43,63,123,125,94,36,45,10,9,13,32,126,0,127,128,255,33])[k]'h).toNat:Int)=sX.getD k 0:=by
 have e:(((ByteArray.mk #[92,46,91,93,40,41,124,42,43,63,123,125,94,36,45,10,9,13,32,126,0,127,128,255,33])[k]'h).toNat:Int)=sX.getD k 0:=by
  have H:∀ k:Fin 25,(((#[92,46,91,93,40,41,124,42,43,63,123,125,94,36,45,10,9,13,32,126,0,127,128,255,33]:Array UInt8)[k.1]'k.2).toNat:Int)=sX.getD k.1 0:=by decide
  exact H ⟨k,h⟩
 have hb:=oI k h;rw[e];unfold wrap64;omega
def dB(y:Int):Int:=if y<200 then 97+y%3 else if y<215 then 48+y%3 else sX.getD (y%25).toNat 0
theorem fm{y:Int}:0<=dB y/\dB y<=255:=by
 unfold dB
 split
 ·omega
 split
 ·omega
 exact oI _ (by omega)
theorem cJ(N D:Nat)(xs:List Int)(w:World)(h:bm N D w xs)(hx:bZ xs) :
  Calls prog 32 #[.pointer (some ⟨D,0,none⟩)] w fun e w'=>e=.returned (.int .i64 (dB (xs.headD 0)))/\bm N D w' xs.tail/\gU D w w':=by
 have H:=ae h;have HX:=ae hx;have hh:=hx.head;obtain⟨y,hy⟩ : ∃ y,xs.headD 0=y:=⟨_,rfl⟩;rw[hy]at hh ⊢;have HY:=ae hy;clear hy hx h
 by_cases h1:y<200
 ·rw[show dB y=97+y%3 from if_pos h1]
  go_enter func32,ntmps32
  go_wp2_with fail;refine(aC N D xs w H.u HX.u).mono ?_;rintro e w1 ⟨he,hc,ho⟩;rw[HY.u]at he;subst he;go_wp2;go_ret;exact⟨rfl,hc,ho⟩
 by_cases h2:y<215
 ·rw[show dB y=48+y%3 from(if_neg h1).trans (if_pos h2)]
  go_enter func32,ntmps32
  go_wp2_with fail;refine(aC N D xs w H.u HX.u).mono ?_;rintro e w1 ⟨he,hc,ho⟩;rw[HY.u]at he;subst he;go_wp2;go_ret;exact⟨rfl,hc,ho⟩
 have hk:(y%25).toNat<25:=by omega
 rw[show dB y=sX.getD (y%25).toNat 0 from(if_neg h1).trans (if_neg h2)]
 go_enter func32,ntmps32
 go_wp2_with fail;refine(aC N D xs w H.u HX.u).mono ?_;rintro e w1 ⟨he,hc,ho⟩;rw[HY.u]at he;subst he;go_wp2;rw[BJ _ hk];go_ret;exact⟨rfl,hc,ho⟩
theorem tS(u v:Value)(xs ys:List Int)(w:World)(hu:aP mI 0 0 w.heap.size w u xs)(hv:aP mI 0 0 w.heap.size w v ys) :
  Calls prog 112 #[u,v] w fun e w'=>aF e (xs=ys)/\∃ q,w'=w.drewN q:=by
 obtain⟨a,cap,rfl,hl,hc⟩:=hu;obtain⟨a2,cap2,rfl,m,f⟩:=hv;unfold maxLen at hl m
 by_cases hn:xs.length=ys.length
 ·have n:((xs.length:Int)!=(ys.length:Int))=false:=by simp[hn]
  have HN:=ae hn;have o:xs.length<=ys.length:=by omega
  have p:ys.length<=xs.length:=by omega
  clear hn
  go_enter func112,ntmps112
  go_wp2_with fail
  go_loopw [5] (fun i wr=>(∃ k:Nat,k<=xs.length/\i=.int .i64 k/\∀ j:Nat,j<k->xs[j]?.getD 0=ys[j]?.getD 0)/\∃ q,wr=w.drewN q) (fun i _=>xs.length-(intOf i).toNat)
  case atStart=>exact⟨⟨0,Nat.zero_le _,rfl,fun j hj=>absurd hj (Nat.not_lt_zero _)⟩,0,rfl⟩
  obtain⟨⟨k,hk,rfl,he⟩,q,rfl⟩:=hrel;have He:=ae he;clear he
  by_cases h1:k<xs.length
  ·have r:(k:Int)<(xs.length:Int):=by omega
   have s:(k:Int)<(ys.length:Int):=by omega
   obtain⟨b,off,rfl,-,-,d⟩:=hc (by omega);obtain⟨b2,off2,rfl,-,-,c⟩:=f (by omega);have hx:w.cell? ⟨b,off+k,none⟩=some (.int .i64 (xs[k]?.getD 0)):=d k h1;have hy:w.cell? ⟨b2,off2+k,none⟩=some (.int .i64 (ys[k]?.getD 0)):=c k (by omega);have g:Hi (xs[k]?.getD 0=ys[k]?.getD 0->∀ j:Nat,j<k+1->xs[j]?.getD 0=ys[j]?.getD 0):=fun h j hj=>by
    by_cases e:j=k
    ·subst e;exact h
    exact He.u j (by omega)
   have l:Hi (xs[k]?.getD 0≠ys[k]?.getD 0->xs≠ys):=fun h e=>h (by rw[e])
   clear d c hc f He;generalize xs[k]?.getD 0=x at *;generalize ys[k]?.getD 0=y at *
   by_cases g0:x=y
   ·subst g0;have HQ:=ae (g.u rfl);clear g l
    go_wp2_with fail
    go_quiet (fail);go_wp2
    go_roundw
    case rel=>exact⟨⟨k+1,by omega,by go_num,HQ.u⟩,_,rfl⟩
    simp[intOf];omega
   have g0':(x !=y)=true:=by simp[g0]
   have HQ:=ae (l.u g0);clear g l
   go_wp2_with fail
   go_quiet (fail);go_wp2;go_ret;exact⟨aF.no HQ.u,_,Fd _ _ _⟩
  obtain rfl:k=xs.length:=by omega
  clear hc f;have HQ:Hi (xs=ys):=by
   apply List.ext_getElem HN.u
   intro i h1 h2;have:=He.u i h1
   simpa[h1,h2]using this
  go_wp2;go_ret;exact⟨aF.yes HQ.u,_,rfl⟩
 have n:((xs.length:Int)!=(ys.length:Int))=true:=by simp;omega
 clear hc f
 go_enter func112,ntmps112
 go_wp2;go_ret;exact⟨aF.no (fun h=>hn (by rw[h])),0,rfl⟩
theorem rL{xs:List Int}{z:Int}:z∈xs↔∃ k:Nat,k<xs.length/\xs[k]?.getD 0=z:=by
 rw[List.mem_iff_getElem]
 constructor
 ·rintro⟨k,hk,rfl⟩;exact⟨k,hk,by simp[hk]⟩
 rintro⟨k,hk,rfl⟩;exact⟨k,hk,by simp[hk]⟩
theorem pe(v:Value)(xs:List Int)(k:Int)(w:World)(hv:aP mI 0 0 w.heap.size w v xs) :
  Calls prog 78 #[v,.int .i64 k] w fun e w'=>aF e (k∈xs)/\∃ q,w'=w.drewN q:=by
 obtain⟨a,cap,rfl,hl,hc⟩:=hv;unfold maxLen at hl
 go_enter func78,ntmps78
 go_wp2
 go_loopw [5] (fun i wr=>(∃ m:Nat,m<=xs.length/\i=.int .i64 m/\∀ j:Nat,j<m->xs[j]?.getD 0≠k)/\∃ q,wr=w.drewN q) (fun i _=>xs.length-(intOf i).toNat)
 case atStart=>exact⟨⟨0,Nat.zero_le _,rfl,fun i hi=>absurd hi (Nat.not_lt_zero _)⟩,0,rfl⟩
 obtain⟨⟨m,hm,rfl,hp⟩,q,rfl⟩:=hrel;have Hp:=ae hp;clear hp
 by_cases hlt:m<xs.length
 ·have d:(m:Int)<(xs.length:Int):=by omega
  obtain⟨b,off,rfl,-,-,c⟩:=hc (by omega);have hx:=c m hlt;unfold mI at hx;clear c hc
  by_cases he:xs[m]?.getD 0=k
  ·have HN:Hi (k∈xs):=rL.2 ⟨m,hlt,he⟩;rw[he]at hx;clear he;go_wp2;go_ret;exact⟨aF.yes HN.u,_,rfl⟩
  have HN:Hi (∀ j:Nat,j<m+1->xs[j]?.getD 0≠k):=fun j hj=>by
   by_cases e:j=m
   ·subst e;exact he
   exact Hp.u j (by omega)
  generalize xs[m]?.getD 0=u at *;have f:(u==k)=false:=by simp[he]
  go_wp2
  go_roundw
  case rel=>exact⟨⟨m+1,by omega,by go_num,HN.u⟩,_,rfl⟩
  simp[intOf];omega
 obtain rfl:m=xs.length:=by omega
 have HN:Hi (k ∉ xs):=fun h=>by
  obtain⟨j,hj,e⟩:=rL.1 h;exact Hp.u j hj e
 clear hc;go_wp2;go_ret;exact⟨aF.no HN.u,_,rfl⟩
end Go.Proofs.YtpmcjimgkabpeaaGreatDoor
