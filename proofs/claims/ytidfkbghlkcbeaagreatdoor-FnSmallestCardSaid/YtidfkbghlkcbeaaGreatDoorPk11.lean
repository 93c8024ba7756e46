import Derived.Test.YtidfkbghlkcbeaaGreatDoorPa6
import Derived.Test.YtidfkbghlkcbeaaGreatDoorPk10
namespace Go.Proofs.YtidfkbghlkcbeaaGreatDoor
open Go.RowKit Go.Proofs.Tryz
set_option maxHeartbeats 16000000
set_option maxRecDepth 100000
theorem ka{f g:Nat->Nat}{xs ys:List Nat}(h:bH f xs)(k:bH g ys):bH (cD f g) (xs++ys):=⟨qq h.1 k.1,fun b=>by rw[vv,h.2,k.2];simp⟩
theorem xe{f:Nat->Nat}{xs ys:List Nat}(h:bH f (xs++ys)):bH f (ys++xs):=⟨h.1,fun b=>by rw[h.2];simp[Bool.or_comm]⟩
theorem zW:bH z8 []:=⟨qy,fun b=>by simp[Bt,z8]⟩
def fM(U:Value)(n:Nat)(a:It)(ln:List Lk)(ss:List (List Int)):Prop:=
 (∃ T x,U=.iface T x)/\∀ (O:Nat->Prop) (A:Nat) (w:World) (N:Nat) (S:List (List Int)) (K:List Lk),cI O A w N S K->(∀ k,w.heap.size<=k->O k)->ve O w->N+n<=512->
  Calls prog 49 #[.pointer (some ⟨A,0,none⟩),U] w fun e w'=>∃ f l,e=.returned (fq a.nl f l)/\bH f (a.sh N).fi/\bH l (a.sh N).la/\cI O A w' (N+n) (S++ss) (K++cT N ln)/\aT O w w'
theorem fM.e:fM eV 0 ⟨true,[],[]⟩ [] []:=by
 refine⟨⟨_,_,rfl⟩,fun O A w N S K h hO htz hN=>?_⟩;unfold eV;have t1:=Ec;have t2:=Fi;have t3:=EC;have t4:=EG;have HE:=ae (dk w true z8 z8);have HA:Hi (cI O A (w.alloc (oE true z8 z8)) (N+0) (S++[]) (K++cT N [])):=by
  show cI _ _ _ _ _ _;have:=h.keep (w':=w.alloc (oE true z8 z8)) (fun k _ hk=>(ai w _).block k hk)
  simpa[cT]using this
 have HF:=ae (bC (ai w (oE true z8 z8)) hO);clear h hO htz
 go_enter func49,ntmps49
 go_wp2;refine bodyPost_ret (cn HE.u rfl _ rfl) rfl ?_;exact⟨_,_,rfl,zW,zW,HA.u,HF.u⟩
theorem fM.s{g:Nat->Nat}{xs:List Int}(hw:dx xs g)(hc:cZ xs):fM (sV g) 1 ⟨false,[0],[0]⟩ [] [xs]:=by
 refine⟨⟨_,_,rfl⟩,fun O A w N S K h hO htz hN=>?_⟩;obtain⟨W1,a⟩ : ∃ W1,W1=(w.alloc xt).alloc (.cells #[.int .u64 (g 0:Nat),.int .u64 (g 1:Nat),.int .u64 (g 2:Nat),.int .u64 (g 3:Nat)] 91):=⟨_,rfl⟩;have hz:W1.heap.size=w.heap.size+2:=by rw[a,ah,ah]
 have b:Below w.heap.size w W1:=by
  rw[a];exact aI w _ _
 have e1:au W1 w.heap.size false z8 z8:=by
  rw[a];exact World.rowIs.alloc (fD w) _
 have hA:=tJ (Sk O w.heap.size W1.heap.size) A N S K g xs W1 (h.skip b) (fun k hk=>⟨hO k (by omega),Or.inr hk⟩) hw hc hN;have HA:=ae hA;have HE:=ae e1;have HO:=ae hO;have HB:=ae b;have HZ:=ae hz;have d:=ae a;clear hA e1 b hz a h hO htz hw hc;unfold sV gb;have t1:=Ee
 go_enter func49,ntmps49
 go_wp2_with fail;rw[<-d.u];clear d;refine HA.u.mono ?_;rintro e w2 ⟨f,rfl,hf,ha,c⟩;have i:=ae (au.on HE.u (c.block _ (fun q=>by have:=HZ.u;rcases q.2 with q|q<;>omega)));have j:=ae hf;have l:=ae ha;have m:=ae c;clear hf ha c HA HE;unfold fq
 go_wp2_with (refine wpList_store_row rfl 104 (.tmp 4) (.tmp 19) rfl (w.heap.size) #[.bool false,.int .u64 (f 0:Nat),.int .u64 (f 1:Nat),.int .u64 (f 2:Nat),.int .u64 (f 3:Nat),.int .u64 (f 4:Nat),.int .u64 (f 5:Nat),.int .u64 (f 6:Nat),.int .u64 (f 7:Nat),.int .u64 (f 0:Nat),.int .u64 (f 1:Nat),.int .u64 (f 2:Nat),.int .u64 (f 3:Nat),.int .u64 (f 4:Nat),.int .u64 (f 5:Nat),.int .u64 (f 6:Nat),.int .u64 (f 7:Nat)] (by simp[Act.eval]) (by simp[Act.eval]) 104 _ (au.blk i.u) (by kernel_rfl) rfl (jz _ _ _) ?_)
 refine bodyPost_ret (cn (au.row i.u _ _ _) rfl _ rfl) rfl ?_;have n:∀ k,Sk O w.heap.size W1.heap.size k->k≠w.heap.size:=fun k q e=>by have:=HZ.u;rcases q.2 with q|q<;>omega
 refine⟨f,f,rfl,j.u,j.u,?_,?_⟩
 ·have:=(l.u.keep (w':=w2.setRow w.heap.size #[.bool false,.int .u64 (f 0:Nat),.int .u64 (f 1:Nat),.int .u64 (f 2:Nat),.int .u64 (f 3:Nat),.int .u64 (f 4:Nat),.int .u64 (f 5:Nat),.int .u64 (f 6:Nat),.int .u64 (f 7:Nat),.int .u64 (f 0:Nat),.int .u64 (f 1:Nat),.int .u64 (f 2:Nat),.int .u64 (f 3:Nat),.int .u64 (f 4:Nat),.int .u64 (f 5:Nat),.int .u64 (f 6:Nat),.int .u64 (f 7:Nat)]) (fun k hk _=>setRow_other _ _ _ _ (n k hk))).mono Sk.sub
  simpa[cT]using this
 exact(bC HB.u HO.u).trans ((m.u.mono Sk.sub).trans ((dY _ _ _).fro (HO.u _ lR)))
theorem cL{ops:Array Oper}{o:Oper}{a:Act}{w:World}{K:Act->World->Prop}{Q:Exit->Act->World->Prop}{E:Prop}(hgd:o.guard=none)(ty:TypeId)(x y:Operand)(ho:o.op=.store ty x y)
  (g:Nat)(cells:Array Value)(hx:a.eval x=.pointer (some ⟨g,0,none⟩))(hy:a.eval y=.agg cells)(t:TypeId)(old:Array Value)(hg:w.heap[g]?=some (.cells old t (0,0)))(hi:(prog.info? ty).map (·.size)=some cells.size)
  (hold:old.size=cells.size)(h1:cells.all (·.oneCell')=true)(h:K (a.put o.dst undef) (w.setRow g cells)):if Region.wanted o (yielded ops a.tmps)=true then Oper.wp prog o a w K Q else E:=by
 have hw:Region.wanted o (yielded ops a.tmps)=true:=by simp[Region.wanted,hgd]
 rw[if_pos hw];exact wp_store_row ty x y ho g cells hx hy t old hg hi hold h1 h
theorem cS{ops:Array Oper}{o:Oper}{a:Act}{w:World}{K:Act->World->Prop}{Q:Exit->Act->World->Prop}{E:Prop}{b:Bool}{f l:Nat->Nat}(hgd:o.guard=none)(x:Operand)(ho:o.op=.load 104 x)
  (g:Nat)(hx:a.eval x=.pointer (some ⟨g,0,none⟩))(hg:w.heap[g]?=some (.cells #[.bool b,.int .u64 (f 0:Nat),.int .u64 (f 1:Nat),.int .u64 (f 2:Nat),.int .u64 (f 3:Nat),.int .u64 (f 4:Nat),.int .u64 (f 5:Nat),.int .u64 (f 6:Nat),.int .u64 (f 7:Nat),.int .u64 (l 0:Nat),.int .u64 (l 1:Nat),.int .u64 (l 2:Nat),.int .u64 (l 3:Nat),.int .u64 (l 4:Nat),.int .u64 (l 5:Nat),.int .u64 (l 6:Nat),.int .u64 (l 7:Nat)] 104))(h:K (a.put o.dst (.agg #[.bool b,.int .u64 (f 0:Nat),.int .u64 (f 1:Nat),.int .u64 (f 2:Nat),.int .u64 (f 3:Nat),.int .u64 (f 4:Nat),.int .u64 (f 5:Nat),.int .u64 (f 6:Nat),.int .u64 (f 7:Nat),.int .u64 (l 0:Nat),.int .u64 (l 1:Nat),.int .u64 (l 2:Nat),.int .u64 (l 3:Nat),.int .u64 (l 4:Nat),.int .u64 (l 5:Nat),.int .u64 (l 6:Nat),.int .u64 (l 7:Nat)])) w):if Region.wanted o (yielded ops a.tmps)=true then Oper.wp prog o a w K Q else E:=by
 have hw:Region.wanted o (yielded ops a.tmps)=true:=by simp[Region.wanted,hgd]
 rw[if_pos hw];exact wp_load_row 104 x ho g hx 104 _ _ _ hg underlying104 rfl (by kernel_rfl) h
theorem gw{w w':World}{B k:Nat}{v:Value}(h:w.cell? ⟨B,k,none⟩=some v)(e:w'.heap[B]?=w.heap[B]?):w'.cell? ⟨B,k,none⟩=some v:=by
 rw[World.cell?_of_block (w:=w) (a:=⟨B,k,none⟩) e];exact h
theorem fM.rep{u:Value}{n:Nat}{a:It}{ln:List Lk}{ss:List (List Int)}(hu:fM u n a ln ss)(hbd:jx a n)(mn mx:Int):fM (rV u mn mx) n (ed a mn) (ln++[(a.la,a.fi)]) ss:=by
 obtain⟨⟨T,x,rfl⟩,hu⟩:=hu;refine⟨⟨_,_,rfl⟩,fun O A w N S K h hO htz hN=>?_⟩;obtain⟨W1,d⟩ : ∃ W1,W1=(w.alloc xt).alloc (.cells #[.iface T x,.int .i64 mn,.int .i64 mx] 93):=⟨_,rfl⟩;have hz:W1.heap.size=w.heap.size+2:=by rw[d,ah,ah]
 have g:Below w.heap.size w W1:=by
  rw[d];exact aI w _ _
 have e1:au W1 w.heap.size false z8 z8:=by
  rw[d];exact World.rowIs.alloc (fD w) _
 have k1:W1.cell? ⟨w.heap.size+1,1,none⟩=some (.int .i64 mn):=by
  have:=(ay (w.alloc xt) (.cells #[.iface T x,.int .i64 mn,.int .i64 mx] 93)).news 1 _ rfl;rw[ah]at this;rw[d];exact this
 have hA:=hu (Sk O w.heap.size W1.heap.size) A W1 N S K (h.skip g) (fun k hk=>⟨hO k (by omega),Or.inr hk⟩) ((htz.below g).less Sk.sub) hN;have HA:=ae hA;have HE:=ae e1;have HK:=ae k1;have HO:=ae hO;have HB:=ae g;have HZ:=ae hz;have t:=ae ((htz.below g).less (O':=Sk O w.heap.size W1.heap.size) Sk.sub);have v:=ae hbd;have z:=ae d;clear hA e1 k1 g hz d h hO htz hu hbd;unfold rV;have t1:=Fs;have t2:=Fv;have t3:=Fj;have t4:=EX
 go_enter func49,ntmps49
 go_wp2_with fail;rw[<-z.u];clear z;refine HA.u.mono ?_;rintro e w2 ⟨f,l,rfl,hf,hl,ha,b⟩;obtain⟨W3,i⟩ : ∃ W3,W3=w2.alloc (oE a.nl f l):=⟨_,rfl⟩;have J:=HZ.u;have L:=b.size;have M:W3.heap.size=w2.heap.size+1:=by rw[i,ah]
 have j:Below w2.heap.size w2 W3:=by rw[i];exact ai w2 _
 have B:∀ k,w2.heap.size<=k->Sk O w.heap.size W1.heap.size k:=fun k hk=>⟨HO.u k (by omega),Or.inr (by omega)⟩
 have hL:=qK (Sk (Sk O w.heap.size W1.heap.size) w2.heap.size W3.heap.size) A (N+n) (S++ss) (K++cT N ln) l f _ _ W3 (ha.skip j) (fun k hk=>⟨B k (by omega),Or.inr hk⟩) (((t.u.fr b).below j).less Sk.sub) hl hf (fun y hy=>(v.u.sh N).2 y hy) hN;have r:Hi (∀ (w4:World) (k:Nat),aT (Sk (Sk O w.heap.size W1.heap.size) w2.heap.size W3.heap.size) W3 w4->w.heap.size<=k->k<w.heap.size+2->w4.heap[k]?=W1.heap[k]?):=fun w4 k h4 q1 q2=>by
  have n1:¬ Sk O w.heap.size W1.heap.size k:=fun q=>by rcases q.2 with q|q<;>omega
  exact((h4.block k (fun q=>n1 q.1)).trans (j.block k (by omega))).trans (b.block k n1)
 have C:Hi (∀ (w4:World),aT (Sk (Sk O w.heap.size W1.heap.size) w2.heap.size W3.heap.size) W3 w4->w4.heap[w2.heap.size]?=W3.heap[w2.heap.size]?):=fun w4 h4=>h4.block _ (fun q=>by rcases q.2 with q|q<;>omega)
 have p:Hi (∀ (w4 wf:World),cI (Sk (Sk O w.heap.size W1.heap.size) w2.heap.size W3.heap.size) A w4 (N+n) (S++ss) (K++cT N ln++[((a.sh N).la,(a.sh N).fi)])->aT (Sk (Sk O w.heap.size W1.heap.size) w2.heap.size W3.heap.size) W3 w4->wf.os=w4.os->wf.tape=w4.tape->wf.output=w4.output->wf.heap.size=w4.heap.size->(∀ k,k≠w.heap.size->k≠w2.heap.size->wf.heap[k]?=w4.heap[k]?)->
   cI O A wf (N+n) (S++ss) (K++cT N (ln++[(a.la,a.fi)]))/\aT O w wf):=fun w4 wf a4 f4 q1 q2 q3 q4 q5=>by
  refine⟨?_,(bC HB.u HO.u).trans ((b.mono Sk.sub).trans ((bC j (fun k hk=>HO.u k (by omega))).trans (((f4.mono Sk.sub).mono Sk.sub).trans ⟨q1,q2,q3,by omega,fun k hk=>?_⟩)))⟩
  ·have:=((a4.keep (w':=wf) (fun k hk _=>q5 k (fun e=>by rcases hk.1.2 with q|q<;>omega) (fun e=>by rcases hk.2 with q|q<;>omega))).mono Sk.sub).mono Sk.sub;have e:K++cT N (ln++[(a.la,a.fi)])=K++cT N ln++[((a.sh N).la,(a.sh N).fi)]:=by rw[jT];simp[cT,It.sh]
   rw[e];exact this
  have Q:k<w.heap.size:=by apply Nat.lt_of_not_le;intro e;exact hk (HO.u k e)
  exact q5 k (by omega) (by omega)
 have D:Hi (au W3 w2.heap.size a.nl f l):=by rw[i];exact dk w2 _ _ _
 have HL:=ae hL;have E:=ae hf;have F:=ae hl;have G:=ae i;have P:w.heap.size+2<=w2.heap.size:=by omega
 clear hL hf hl ha b i j B J L M HA HB t v HZ HO;unfold fq
 go_wp2_with fail;rw[<-G.u];clear G;refine HL.u.mono ?_;rintro e w4 ⟨rfl,ha,b⟩;have m:=ae (au.on D.u (C.u w4 b));have H:=ae (au.on HE.u (r.u w4 _ b (by omega) (by omega)));have k4:=gw HK.u (r.u w4 _ b (by omega) (by omega));have I:=ae (p.u w4 · ha b);clear ha b HL r C p D HE HK;obtain⟨nl,fi,la⟩:=a;simp only at m;have g0:w4.cell? ⟨w2.heap.size,0,none⟩=some (.bool nl):=au.cell m.u 0 (by omega);have z0:=World.rowIs.frozen m.u 0;cases nl
 ·have s:=ae (m.u.putB (mn==0));have o:Hi (au (w4.setCell ⟨w2.heap.size,0,none⟩ (.bool (mn==0))) w.heap.size false z8 z8):=World.rowIs.setOther H.u (by show w.heap.size≠w2.heap.size;omega) _
  go_wp2_with (first|(refine wpList_load_row rfl 104 (.tmp 11) rfl (w2.heap.size) (by first|(simp[Act.eval];done)|(simp[Act.eval,Act.put];done)) 104 _ _ _ (au.blk s.u) underlying104 rfl (by kernel_rfl) ?_)|(refine wpList_store_row rfl 104 (.tmp 4) (.tmp 68) rfl (w.heap.size) #[.bool (mn==0),.int .u64 (f 0:Nat),.int .u64 (f 1:Nat),.int .u64 (f 2:Nat),.int .u64 (f 3:Nat),.int .u64 (f 4:Nat),.int .u64 (f 5:Nat),.int .u64 (f 6:Nat),.int .u64 (f 7:Nat),.int .u64 (l 0:Nat),.int .u64 (l 1:Nat),.int .u64 (l 2:Nat),.int .u64 (l 3:Nat),.int .u64 (l 4:Nat),.int .u64 (l 5:Nat),.int .u64 (l 6:Nat),.int .u64 (l 7:Nat)] (by first|(simp[Act.eval];done)|(simp[Act.eval,Act.put];done)) (by first|(simp[Act.eval];done)|(simp[Act.eval,Act.put];done)) 104 _ (au.blk o.u) (by kernel_rfl) rfl (jz _ _ _) ?_));refine bodyPost_ret (cn (au.row o.u _ _ _) rfl _ rfl) rfl ?_;have c:=I.u ((w4.setCell ⟨w2.heap.size,0,none⟩ (.bool (mn==0))).setRow w.heap.size #[.bool (mn==0),.int .u64 (f 0:Nat),.int .u64 (f 1:Nat),.int .u64 (f 2:Nat),.int .u64 (f 3:Nat),.int .u64 (f 4:Nat),.int .u64 (f 5:Nat),.int .u64 (f 6:Nat),.int .u64 (f 7:Nat),.int .u64 (l 0:Nat),.int .u64 (l 1:Nat),.int .u64 (l 2:Nat),.int .u64 (l 3:Nat),.int .u64 (l 4:Nat),.int .u64 (l 5:Nat),.int .u64 (l 6:Nat),.int .u64 (l 7:Nat)]) rfl rfl rfl (by rw[setRow_size,aM]) (fun k q1 q2=>by rw[setRow_other _ _ _ _ q1];exact Below.heap_setCell _ _ _ _ q2);exact⟨f,l,by rw[show(ed ⟨false,fi,la⟩ mn).nl=(mn==0) from by by_cases h:mn=0<;>simp[ed,h]],E.u,F.u,c.1,c.2⟩
 have s:=ae (m.u.putB true);have o:Hi (au (w4.setCell ⟨w2.heap.size,0,none⟩ (.bool true)) w.heap.size false z8 z8):=World.rowIs.setOther H.u (by show w.heap.size≠w2.heap.size;omega) _
 go_wp2_with (first|(refine wpList_load_row rfl 104 (.tmp 11) rfl (w2.heap.size) (by first|(simp[Act.eval];done)|(simp[Act.eval,Act.put];done)) 104 _ _ _ (au.blk s.u) underlying104 rfl (by kernel_rfl) ?_)|(refine wpList_store_row rfl 104 (.tmp 4) (.tmp 68) rfl (w.heap.size) #[.bool true,.int .u64 (f 0:Nat),.int .u64 (f 1:Nat),.int .u64 (f 2:Nat),.int .u64 (f 3:Nat),.int .u64 (f 4:Nat),.int .u64 (f 5:Nat),.int .u64 (f 6:Nat),.int .u64 (f 7:Nat),.int .u64 (l 0:Nat),.int .u64 (l 1:Nat),.int .u64 (l 2:Nat),.int .u64 (l 3:Nat),.int .u64 (l 4:Nat),.int .u64 (l 5:Nat),.int .u64 (l 6:Nat),.int .u64 (l 7:Nat)] (by first|(simp[Act.eval];done)|(simp[Act.eval,Act.put];done)) (by first|(simp[Act.eval];done)|(simp[Act.eval,Act.put];done)) 104 _ (au.blk o.u) (by kernel_rfl) rfl (jz _ _ _) ?_));refine bodyPost_ret (cn (au.row o.u _ _ _) rfl _ rfl) rfl ?_;have c:=I.u ((w4.setCell ⟨w2.heap.size,0,none⟩ (.bool true)).setRow w.heap.size #[.bool true,.int .u64 (f 0:Nat),.int .u64 (f 1:Nat),.int .u64 (f 2:Nat),.int .u64 (f 3:Nat),.int .u64 (f 4:Nat),.int .u64 (f 5:Nat),.int .u64 (f 6:Nat),.int .u64 (f 7:Nat),.int .u64 (l 0:Nat),.int .u64 (l 1:Nat),.int .u64 (l 2:Nat),.int .u64 (l 3:Nat),.int .u64 (l 4:Nat),.int .u64 (l 5:Nat),.int .u64 (l 6:Nat),.int .u64 (l 7:Nat)]) rfl rfl rfl (by rw[setRow_size,aM]) (fun k q1 q2=>by rw[setRow_other _ _ _ _ q1];exact Below.heap_setCell _ _ _ _ q2);exact⟨f,l,by simp[ed],E.u,F.u,c.1,c.2⟩
end Go.Proofs.YtidfkbghlkcbeaaGreatDoor
