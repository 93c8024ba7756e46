import Derived.Test.YtidfkbghlkcbeaaGreatDoorPk25
import Derived.Test.YtidfkbghlkcbeaaGreatDoorPk26
import Derived.Test.YtidfkbghlkcbeaaGreatDoorPk27
import Derived.Test.YtidfkbghlkcbeaaGreatDoorPk23
namespace Go.Proofs.YtidfkbghlkcbeaaGreatDoor
open Go.RowKit Go.Proofs.Tryz
set_option maxHeartbeats 16000000
set_option maxRecDepth 100000
structure oL (w4 w:World) (mp nb n:Nat) (key:Nat->Nat) (ds ns fs:List Nat) (fv:Value):Prop where
 num:bj 3 w mp (ds.map mN)
 nr:dp w nb n (fun s=>ns[s]?.getD 0)
 fo:w.ownsRow w4.heap.size 3 1 fv fs.length (fs.map mN)
 nl:ft key ds ns fs
 fr:aT (fun k=>k=mp∨k=nb∨w4.heap.size<=k) w4 w
 lt:mp<w4.heap.size/\nb<w4.heap.size/\mp≠nb
theorem oL.fl{w4 w:World}{mp nb n:Nat}{key:Nat->Nat}{ds ns fs:List Nat}{fv:Value}(h:oL w4 w mp nb n key ds ns fs fv):ds.length<=ns.length:=by
 have:=h.nl.num1;refine Nat.le_of_not_lt fun hlt=>?_
 have h1:((List.range ds.length).map (fun j=>fs[j]?.getD 0)).Nodup:=by
  rw[List.nodup_iff_pairwise_ne,List.pairwise_map];refine(List.nodup_range (n:=ds.length)).imp_of_mem (fun {a b} ha hb hne he=>hne ?_)
  have ha:=List.mem_range.1 ha;have hb:=List.mem_range.1 hb;rw[<-(h.nl.fr a ha).2,<-(h.nl.fr b hb).2,he]
 have h2:=bT ns.length _ h1 (fun x hx=>by
  obtain⟨a,ha,rfl⟩:=List.mem_map.1 hx;exact(h.nl.fr a (List.mem_range.1 ha)).1)
 simp at h2;omega
structure lD (w5 w:World) (c:Nat) (cl kv nv av:Value) (ys:List Nat) (zs:List Bool):Prop where
 out:aC w c 30 cl kv nv av
 on:w.ownsRow w5.heap.size 3 1 nv ys.length (ys.map mN)
 oa:w.ownsRow w5.heap.size 4 1 av zs.length (zs.map mT)
 na:∀ r,nv.ownBlock=some r->av.ownBlock≠some r
 fr:aT (dM w5 c) w5 w
 lt:c<w5.heap.size
theorem lD.keep{w5 w w':World}{c:Nat}{cl kv nv av:Value}{ys:List Nat}{zs:List Bool}(h:lD w5 w c cl kv nv av ys zs)(hb:Below w.heap.size w w'):lD w5 w' c cl kv nv av ys zs:=
 have hz:=h.fr.size
 ⟨h.out.below hb (by have:=h.lt;omega),ak h.on (fun r hr=>hb.block r (aB h.on r hr)),ak h.oa (fun r hr=>hb.block r (aB h.oa r hr)),h.na,h.fr.trans (bC hb (fun k hk=>.inr (by omega))),h.lt⟩
theorem lD.pushN{w5 w W w2:World}{c:Nat}{cl kv nv av v':Value}{ys:List Nat}{zs:List Bool}{x:Nat}(h:lD w5 w c cl kv nv av ys zs)(hW:Below w.heap.size w W)(r1:w2.ownsRow w5.heap.size 3 1 v' (ys++[x]).length ((ys++[x]).map mN))(r2:W.grownBy w2 nv.ownBlock)(r3:∀ q,v'.ownBlock=some q->nv.ownBlock=some q∨w.heap.size<=q) :
  w2.cell? ⟨c,2,none⟩=some nv/\w2.frozen? ⟨c,2,none⟩=false/\lD w5 (w2.setCell ⟨c,2,none⟩ v') c cl kv v' av (ys++[x]) zs:=by
 have hz:=h.fr.size;have hlt:=h.lt;have k2:=dK hW r2;have b:=hW.size;have d:=r2.size;have nq:∀ k,k<w5.heap.size->nv.ownBlock≠some k:=fun k hk e=>by have:=(h.on.lt k e).1;omega
 have a:aC w2 c 30 cl kv nv av:=World.rowIs.of_block h.out (k2 _ (by omega) (nq _ (by omega)));have ks:∀ k,k≠c->(w2.setCell ⟨c,2,none⟩ v').heap[k]?=w2.heap[k]? :=fun k hk=>Below.heap_setCell _ _ _ _ (by show k≠c;exact hk)
 refine⟨a.facts.2.2.1,World.rowIs.frozen a 2,a.put2,ak r1 (fun r hr=>ks r (by have:=(r1.lt r hr).1;omega)),ak h.oa (fun r hr=>?_),fun r hr=>?_,⟨r2.os.trans (hW.os.trans h.fr.os),r2.tape.trans (hW.tape.trans h.fr.tape),r2.output.trans (hW.output.trans h.fr.output),by rw[aM];omega,fun k hk=>?_⟩,hlt⟩
 ·have:=h.oa.lt r hr;rw[ks r (by omega)];exact k2 r this.2 (fun e=>h.na r e hr)
 ·rcases r3 r hr with e|e
  ·exact h.na r e
  exact fun e2=>by have:=aB h.oa r e2;omega
 have k1:k≠c:=fun e=>hk (.inl e)
 have k3:k<w5.heap.size:=Nat.lt_of_not_le fun e=>hk (.inr e)
 rw[ks k k1,k2 k (by omega) (nq k k3)];exact h.fr.block k hk
theorem lD.pushA{w5 w W w2:World}{c:Nat}{cl kv nv av v':Value}{ys:List Nat}{zs:List Bool}{x:Bool}(h:lD w5 w c cl kv nv av ys zs)(hW:Below w.heap.size w W)(r1:w2.ownsRow w5.heap.size 4 1 v' (zs++[x]).length ((zs++[x]).map mT))(r2:W.grownBy w2 av.ownBlock)(r3:∀ q,v'.ownBlock=some q->av.ownBlock=some q∨w.heap.size<=q) :
  w2.cell? ⟨c,3,none⟩=some av/\w2.frozen? ⟨c,3,none⟩=false/\lD w5 (w2.setCell ⟨c,3,none⟩ v') c cl kv nv v' ys (zs++[x]):=by
 have hz:=h.fr.size;have hlt:=h.lt;have k2:=dK hW r2;have b:=hW.size;have d:=r2.size;have nq:∀ k,k<w5.heap.size->av.ownBlock≠some k:=fun k hk e=>by have:=(h.oa.lt k e).1;omega
 have a:aC w2 c 30 cl kv nv av:=World.rowIs.of_block h.out (k2 _ (by omega) (nq _ (by omega)));have ks:∀ k,k≠c->(w2.setCell ⟨c,3,none⟩ v').heap[k]?=w2.heap[k]? :=fun k hk=>Below.heap_setCell _ _ _ _ (by show k≠c;exact hk)
 refine⟨a.facts.2.2.2.1,World.rowIs.frozen a 3,a.put3',ak h.on (fun r hr=>?_),ak r1 (fun r hr=>ks r (by have:=(r1.lt r hr).1;omega)),fun r hr e2=>?_,⟨r2.os.trans (hW.os.trans h.fr.os),r2.tape.trans (hW.tape.trans h.fr.tape),r2.output.trans (hW.output.trans h.fr.output),by rw[aM];omega,fun k hk=>?_⟩,hlt⟩
 ·have:=h.on.lt r hr;rw[ks r (by omega)];exact k2 r this.2 (fun e=>h.na r hr e)
 ·rcases r3 r e2 with e|e
  ·exact h.na r hr e
  have:=aB h.on r hr;omega
 have k1:k≠c:=fun e=>hk (.inl e)
 have k3:k<w5.heap.size:=Nat.lt_of_not_le fun e=>hk (.inr e)
 rw[ks k k1,k2 k (by omega) (nq k k3)];exact h.fr.block k hk
theorem zI{ns:List Nat}{i x:Nat}(hi:ns.length=i):∀ s,bX (fun s=>ns[s]?.getD 0) i x s=(ns++[x])[s]?.getD 0:=fun s=>by
 by_cases e:s=i
 ·subst e;rw[bI,<-hi];simp
 rw[aW _ e]
 by_cases h:s<ns.length
 ·rw[List.getElem?_append_left h]
 rw[List.getElem?_eq_none (by omega),List.getElem?_eq_none (by simp;omega)]
theorem oL.at7{w4 w w7:World}{mp nb n:Nat}{key:Nat->Nat}{ds ns fs:List Nat}{fv:Value}(h:oL w4 w mp nb n key ds ns fs fv)(hF:aT (dM w mp) w w7):dp w7 nb n (fun s=>ns[s]?.getD 0)/\w7.ownsRow w4.heap.size 3 1 fv fs.length (fs.map mN)/\aT (fun k=>k=mp∨k=nb∨w4.heap.size<=k) w4 w7:=by
 have hz:=h.fr.size;obtain⟨l1,l2,l3⟩:=h.lt;refine⟨h.nr.on (hF.block _ (by rintro(e|e)<;>omega)),ak h.fo (fun r hr=>hF.block r ?_),h.fr.trans (hF.mono (fun k hk=>by rcases hk with e|e;exact .inl e;exact .inr (.inr (by omega))))⟩;have:=h.fo.lt r hr;rintro(e|e)<;>omega
theorem oL.store{w4 w8:World}{mp nb n i x:Nat}{key:Nat->Nat}{ds ns fs:List Nat}{fv:Value}(hi:ns.length=i)(hl:mp<w4.heap.size/\nb<w4.heap.size/\mp≠nb)(h1:bj 3 w8 mp (ds.map mN))(h2:dp w8 nb n (fun s=>ns[s]?.getD 0))(h3:w8.ownsRow w4.heap.size 3 1 fv fs.length (fs.map mN))(h4:aT (fun k=>k=mp∨k=nb∨w4.heap.size<=k) w4 w8)(h5:ft key ds (ns++[x]) fs) :
  oL w4 (w8.setCell ⟨nb,i,none⟩ (.int .i64 (x:Nat))) mp nb n key ds (ns++[x]) fs fv:=by
 have ks:∀ k,k≠nb->(w8.setCell ⟨nb,i,none⟩ (.int .i64 (x:Nat))).heap[k]?=w8.heap[k]? :=fun k hk=>Below.heap_setCell _ _ _ _ (by show k≠nb;exact hk)
 obtain⟨l1,l2,l3⟩:=hl;exact⟨h1.keep (ks _ l3),(h2.put i x).congr (fun j _=>zI hi j),ak h3 (fun r hr=>ks r (by have:=(h3.lt r hr).1;omega)),h5,h4.trans ((am _ _).fro (.inr (.inl rfl))),l1,l2,l3⟩
def uf(A:Tb)(num F:Nat->Nat)(l:Nat):List Nat:=(List.range l).map (fun t=>num (A.nx (F (t / A.k)) (t%A.k)))
def uP(A:Tb)(F:Nat->Nat)(j:Nat):List Bool:=(List.range j).map (fun i=>A.ac (F i))
theorem yu(A:Tb)(num F:Nat->Nat){j c:Nat}(hc:c<A.k):uf A num F (j*A.k+(c+1))=uf A num F (j*A.k+c)++[num (A.nx (F j) c)]:=by
 unfold uf;rw[<-Nat.add_assoc,List.range_succ,List.map_append,List.map_singleton,(eh hc).1,(eh hc).2]
theorem zu(A:Tb)(F:Nat->Nat)(j:Nat):uP A F (j+1)=uP A F j++[A.ac (F j)]:=by simp[uP,List.range_succ]
theorem lN(A:Tb)(cl:Value)(b off cN ab ao ca:Nat)(w:World)(hw:A.Wf)(hf:A.Full)(hn:A.n<=1024)(hk:1<=A.k/\A.k<=256)(hcN:A.n*A.k<=cN)(hb:b<w.heap.size)(hx:kw w b off A.n A.k A.nx)
  (hab:ab<w.heap.size)(hac:∀ q,q<A.n->w.cell? ⟨ab,ao+q,none⟩=some (.bool (A.ac q)))(hcl:∃ a n c,cl=.slice a n c) :
  Calls prog 58 #[.agg #[cl,.int .i64 (A.k:Nat),.slice (some ⟨b,off,none⟩) (A.n*A.k) cN,.slice (some ⟨ab,ao,none⟩) A.n ca]] w fun e w'=>∃ nv av,e=.returned (.agg #[cl,.int .i64 (A.k:Nat),nv,av])/\Below w.heap.size w w'/\
   ∃ (m:Nat) (num F:Nat->Nat),fO A.n m num F/\(∀ p q,p<A.n->q<A.n->(num p=num q↔cW A A p q))/\m<=A.n/\w'.ownsRow w.heap.size 3 1 nv (m*A.k) ((uf A num F (m*A.k)).map mN)/\w'.ownsRow w.heap.size 4 1 av m ((uP A F m).map mT)/\∀ r,nv.ownBlock=some r->av.ownBlock≠some r:=by
 obtain⟨i0,ee,ek,el,em⟩:=info_parts Tryz.zinInt;obtain⟨ca0,cl0,cc0,rfl⟩:=hcl;have fk:1<=A.n:=hw.pos;have en:A.n*A.k<=1024*256:=Nat.mul_le_mul hn hk.2;obtain⟨W2,G⟩ : ∃ W2,W2=(w.alloc (.cells #[.slice ca0 cl0 cc0,.int .i64 (A.k:Nat),.slice (some ⟨b,off,none⟩) (A.n*A.k) cN,.slice (some ⟨ab,ao,none⟩) A.n ca] 30)).alloc (.cells #[.slice none 0 0,.int .i64 0,.slice none 0 0,.slice none 0 0] 30):=⟨_,rfl⟩;have a3:Below w.heap.size w W2:=by rw[G];exact aI w _ _
 have fi:W2.heap.size=w.heap.size+2:=by rw[G,ah,ah]
 have a4:aC W2 w.heap.size 30 (.slice ca0 cl0 cc0) (.int .i64 (A.k:Nat)) (.slice (some ⟨b,off,none⟩) (A.n*A.k) cN) (.slice (some ⟨ab,ao,none⟩) A.n ca):=by rw[G];exact(aC.new w _ _ _ _ _).alloc _
 have c3:aC W2 (w.heap.size+1) 30 (.slice none 0 0) (.int .i64 0) (.slice none 0 0) (.slice none 0 0):=by
  have:=aC.new (w.alloc (.cells #[.slice ca0 cl0 cc0,.int .i64 (A.k:Nat),.slice (some ⟨b,off,none⟩) (A.n*A.k) cN,.slice (some ⟨ab,ao,none⟩) A.n ca] 30)) 30 (.slice none 0 0) (.int .i64 0) (.slice none 0 0) (.slice none 0 0);rw[ah]at this;rw[G];exact this
 have b4:=ae (nQ A (.slice ca0 cl0 cc0) b off cN ab ao ca W2 hw hf hn hk hcN (by omega) (fun q c hq hc=>⟨(hx q c hq hc).1,by rw[a3.cell (p:=⟨b,off+(q*A.k+c),none⟩) hb];exact(hx q c hq hc).2⟩) (by omega) (fun q hq=>by rw[a3.cell (p:=⟨ab,ao+q,none⟩) hab];exact hac q hq));obtain⟨L,hL⟩ : ∃ L,L=A.n*A.k:=⟨_,rfl⟩;rw[<-hL]at hcN en a4 G ⊢;rw[<-hL]at b4;obtain⟨f0,f1,f2,f3,-⟩:=a4.facts;have HL:=ae hL;have HX:=ae hx;have ep:=ae hac;have c4:=ae G;have K:=ae a3;have b5:=ae a4;have c5:=ae c3;clear hL hx hac G a3 a4 c3
 go_enter func58,ntmps58
 go_wp2_with fail;rw[<-c4.u];refine b4.u.mono ?_;rintro e w3 ⟨bb,bc,rfl,a5,fn,bs,b6,ag,al⟩;have fp:=a5.size;have eq:=b6.lt;obtain⟨f0,f1,f2,f3,-⟩:=(b5.u.below a5 (by omega)).facts;have N:=ae a5;have c6:=ae b6;have an:=ae ag;have c7:=ae al;obtain⟨W4,O⟩ : ∃ W4,W4=w3.alloc (.cells #[.slice ca0 cl0 cc0,.int .i64 (A.k:Nat),.slice none 0 0,.slice none 0 0] 30):=⟨_,rfl⟩;have HN:=ae (sN W4);have cb:=ae O;have cc:W4.heap.size=w3.heap.size+1:=by rw[O,ah]
 have cf:Hi (aC W4 w3.heap.size 30 (.slice ca0 cl0 cc0) (.int .i64 (A.k:Nat)) (.slice none 0 0) (.slice none 0 0)):=by
  show aC _ _ _ _ _ _ _;rw[O];exact aC.new w3 _ _ _ _ _
 have ch:Hi (Below w3.heap.size w3 W4):=by
  show Below _ _ _;rw[O];exact ai w3 _
 clear O b4 c4 a5 b6 ag al
 go_wp2_with fail;rw[<-cb.u];refine HN.u.mono ?_;rintro e w5 ⟨rfl,b7,b8,ci⟩;rw[cc]at b7 b8 ⊢;have er:=run_make_row' (P:=prog) 27 3 (.int .i64 0) 8 underlying27 Tryz.zinInt rfl .i64 .i64 A.n (by omega) (by omega);obtain⟨W6,M⟩ : ∃ W6,W6=(w5.alloc (.cells #[.map (some (w3.heap.size+1+1))] 166)).alloc (.cells (madeCells #[.int .i64 0] A.n) 3):=⟨_,rfl⟩;have ck:=ae M;have Q:Below w5.heap.size w5 W6:=by rw[M];exact aI w5 _ _
 have R:Below W4.heap.size W4 W6:=ci.trans (Q.mono (by omega));have cp:W6.heap.size=w3.heap.size+5:=by rw[M,ah,ah];omega
 have ap:W6.rowIs (w3.heap.size+3) 166 1 (fun _=>.map (some (w3.heap.size+2))):=by
  have:=World.rowIs_alloc w5 #[.map (some (w3.heap.size+1+1))] 166 (fun _=>.map (some (w3.heap.size+1+1))) (fun j hj=>by
   match j,hj with
   | 0,_=>rfl)
  rw[b8]at this;rw[M];exact this.alloc _
 have aq:dp W6 (w3.heap.size+4) A.n (fun s=>([]:List Nat)[s]?.getD 0):=by
  have:=World.rowIs_made (w5.alloc (.cells #[.map (some (w3.heap.size+1+1))] 166)) (.int .i64 0) A.n 3;rw[ah,b8]at this;rw[M];exact⟨_,_,this,Nat.le_refl _,fun j hj=>rfl⟩
 have S:Below w3.heap.size w3 W6:=ch.u.trans (R.mono (by omega));have d:oL W6 W6 (w3.heap.size+2) (w3.heap.size+4) A.n bs [] [] [] (.slice none 0 0):=⟨b7.keep (Q.block _ (by omega)),aq,World.ownsRow_nil _ _ _ _,ft.nil _,aT.refl _ _,by omega,by omega,by omega⟩;have t:=ae d;have cr:=ae ap;have ar:=ae (c6.u.on (S.block _ eq));have cs:=ae (cf.u.below R (by omega));have z:=ae S;clear HN cb M b7 ci Q R ap aq S d c6 cf ch
 go_wp2_with fail;rw[<-ck.u];clear ck er f0 f1 f2 f3;simp only[Nat.add_assoc,Nat.reduceAdd]
 go_loopw [7,29] (fun fv iv wr=>∃ (i:Nat) (ds ns fs:List Nat),i<=A.n/\iv=.int .i64 (i:Nat)/\ns.length=i/\oL W6 wr (w3.heap.size+2) (w3.heap.size+4) A.n bs ds ns fs fv) (fun _ iv _=>A.n-(intOf iv).toNat)
 case atStart=>exact⟨0,[],[],[],by omega,rfl,rfl,t.u⟩
 clear t;obtain⟨i,ds,ns,fs,hi,rfl,B,d⟩:=hrel
 by_cases hlt:i<A.n
 ·have ct:(i:Int)<(A.n:Int):=by omega
  have es:=d.fl;have et:=d.fr.size;have u0:wr.cell? ⟨w3.heap.size+3,0,none⟩=some (.map (some (w3.heap.size+2))):=(cr.u.of_block (d.fr.block _ (by rintro(h|h|h)<;>omega))).cell (by omega);have y0:wr.cell? ⟨bb,i,none⟩=some (.int .i64 (bs i:Nat)):=(ar.u.on (d.fr.block bb (by rintro(h|h|h)<;>omega))).cell hlt;have fx:=c7.u i hlt;have b9:=ae (uQ (w3.heap.size+2) (bs i:Nat) (ds.map mN) wr d.num (by omega) (by omega) (by rw[List.length_map];omega));have t:=ae d;have fz:fs.length<=1024:=by have:=d.nl.fl;omega
  obtain⟨fa,fc,e7⟩:=aj d.fo;subst e7;clear d
  go_wp2_with fail;refine b9.u.mono ?_;rintro e w7 ⟨num,ks',f,rfl,hR,a6,a7⟩;obtain⟨q1,q2,q3⟩:=t.u.at7 a7;have g4:=a7.size;rcases hR with ⟨h1,rfl,h2,rfl⟩|⟨h1,rfl,rfl,rfl⟩
  ·have l:=tS h2;have T:=oL.store (x:=num) B t.u.lt a6 q1 q2 q3 (t.u.nl.old (by rw[B];exact l));have c1:=q1.cell hlt;have c2:=q1.frozen i;have bd:=ae T;clear T q1 q2 q3 a6 a7 l h1 h2 b9 u0 y0;go_wp2
   go_roundw
   case rel=>exact⟨i+1,ds,ns++[num],fs,by omega,by go_num,by rw[List.length_append,B];rfl,bd.u⟩
   simp[intOf];omega
  have aw:bs i ∉ ds:=fun hm=>h1 (AJ.2 hm)
  rw[List.length_map];have cw:=ae q1;have be:=ae q2;have cx:=ae q3;have cy:=ae a6;have ev:=ae aw;clear q1 q2 q3 a6 a7 aw h1 b9 u0 y0
  go_wp2_with (at_builtin;refine wpList_append_own_at _ rfl _ _ 27 rfl W6.heap.size 3 i0 (.int .i64 0) 1 8 underlying27 ee ek el em rfl (by decide) _ _ _ rfl (be.u.alloc _) ⟨w7.heap.size,0,none⟩ 1 1 [.int .i64 (i:Nat)] rfl rfl ?_ ?_ ?_ ?_ ?_ ?_)
  ·exact ef (dt _ _ _)
  ·intro u hu;simp at hu;subst hu;rfl
  ·unfold maxLen;omega
  ·omega
  ·rw[ah];omega
  intro v' w8 r1 r2 _ r3;have bf:=r2.size;rw[ah]at bf;have k2:=dK (ai w7 _) r2;have nq:∀ k,k<W6.heap.size->(Value.slice fa fs.length fc).ownBlock≠some k:=fun k hk e=>by have:=(be.u.lt k e).1;omega
  obtain⟨l1,l2,l3⟩:=t.u.lt;have q1:=cw.u.on (k2 _ (by omega) (nq _ l2));have T:=oL.store (x:=ds.length) (ds:=ds++[bs i]) (fs:=fs++[i]) B t.u.lt (by
    have:=cy.u;rw[List.map_append];exact this.keep (k2 _ (by omega) (nq _ l1))) q1 (by rw[List.length_append,List.map_append,cp];exact r1) (cx.u.trans ⟨r2.os,r2.tape,r2.output,by omega,fun k hk=>k2 k (by have:=Nat.lt_of_not_le (fun e=>hk (.inr (.inr e)));omega) (nq k (Nat.lt_of_not_le (fun e=>hk (.inr (.inr e)))))⟩) (by
    have:=t.u.nl.new (fun j hj e=>by
     rw[B]at e;exact ev.u (List.mem_of_getElem? e))
    rw[B]at this;exact this)
  obtain⟨va,vc,rfl⟩:=aj r1;have c1:=q1.cell hlt;have c2:=q1.frozen i;have bd:=ae T;clear T q1 r1 r2 r3 k2 nq cw be cx cy;go_wp2
  go_roundw
  case rel=>exact⟨i+1,ds++[bs i],ns++[ds.length],fs++[i],by omega,by go_num,by rw[List.length_append,B];rfl,bd.u⟩
  simp[intOf];omega
 have ct:¬ (i:Int)<(A.n:Int):=by omega
 obtain rfl:i=A.n:=by omega
 obtain⟨w5',rfl⟩ : ∃ w5',w5'=wr:=⟨_,rfl⟩;have fj:=d.fr.size;have v:=d.nl.num1;have d4:=d.nl.fl;have es:=d.fl;obtain⟨fa,fc,e7⟩:=aj d.fo;subst e7;have bl:∀ k,k<w3.heap.size+2->w5'.heap[k]?=W6.heap[k]? :=fun k hk=>d.fr.block k (by rintro(h|h|h)<;>omega)
 have d5:lD w5' w5' w3.heap.size (.slice ca0 cl0 cc0) (.int .i64 (A.k:Nat)) (.slice none 0 0) (.slice none 0 0) [] []:=⟨World.rowIs.of_block cs.u (bl _ (by omega)),World.ownsRow_nil _ _ _ _,World.ownsRow_nil _ _ _ _,(fun r hr=>by cases hr),aT.refl _ _,by omega⟩;have I:∀ k,k<W2.heap.size->w5'.heap[k]?=W2.heap[k]? :=fun k hk=>(bl k (by omega)).trans ((z.u.block k (by omega)).trans (N.u.block k hk))
 obtain⟨m,hm⟩ : ∃ m,m=fs.length:=⟨_,rfl⟩;obtain⟨num,l⟩ : ∃ num:Nat->Nat,num=fun s=>ns[s]?.getD 0:=⟨_,rfl⟩
 obtain⟨F,hF⟩ : ∃ F:Nat->Nat,F=fun j=>fs[j]?.getD 0:=⟨_,rfl⟩
 rw[B,<-d4,<-hm,<-l,<-hF]at v;have d6:m<=A.n:=by omega
 have ax:∀ p q,p<A.n->q<A.n->(num p=num q↔cW A A p q):=fun p q hp hq=>by
  rw[l,d.nl.eq_iff (by omega) (by omega)];exact an.u p q hp hq
 have bn:=d.nr;rw[<-l]at bn;have a8:=d.fo;rw[<-hm]at a8;have d7:=World.rowIs.of_block b5.u (I w.heap.size (by omega));have d8:=World.rowIs.of_block c5.u (I (w.heap.size+1) (by omega));have a9:Hi (∀ W,aT (dM w5' w3.heap.size) w5' W->aC W w.heap.size 30 (.slice ca0 cl0 cc0) (.int .i64 (A.k:Nat)) (.slice (some ⟨b,off,none⟩) L cN) (.slice (some ⟨ab,ao,none⟩) A.n ca)/\Below w.heap.size w W/\dp W (w3.heap.size+4) A.n num/\∀ j,j<m->F j<A.n/\∃ fb c2,fa=some ⟨fb,0,none⟩/\fc=c2/\W.cell? ⟨fb,j,none⟩=some (.int .i64 (F j:Nat))):=fun W hW=>by
  have hk:∀ k,k<w5'.heap.size->k≠w3.heap.size->W.heap[k]?=w5'.heap[k]? :=fun k h1 h2=>hW.block k (by rintro(h|h)<;>omega)
  have g5:=hW.size;refine⟨World.rowIs.of_block d7 (hk _ (by omega) (by omega)),⟨?_,?_,?_,by have:=K.u.size;omega,fun k h1=>?_⟩,bn.on (hk _ (by omega) (by omega)),fun j hj=>?_⟩
  ·exact hW.os.trans (d.fr.os.trans (z.u.os.trans (N.u.os.trans K.u.os)))
  ·exact hW.tape.trans (d.fr.tape.trans (z.u.tape.trans (N.u.tape.trans K.u.tape)))
  ·exact hW.output.trans (d.fr.output.trans (z.u.output.trans (N.u.output.trans K.u.output)))
  ·exact(hk k (by omega) (by omega)).trans ((I k (by omega)).trans (K.u.block k h1))
  obtain⟨g,cap,e,hc⟩:=eu a8 (by omega);have hl:=a8.lt;cases e;have hg:=hl g rfl;refine⟨by have:=(v.fst j hj).1;exact this,g,_,rfl,rfl,?_⟩;rw[World.cell?_of_block (a:=⟨g,j,none⟩) (hk g (by omega) (by omega)),hc j hj,List.getElem?_map,List.getElem?_eq_getElem (by omega),hF];simp[mN,mI,List.getElem?_eq_getElem (show j<fs.length by omega)]
 have d9:=ae d5;have ex:=ae v;have ey:=ae ax;have f4:=ae d8;rw[<-hm];clear d bl d5 I v ax bn a8 d7 d8 d4 hm l hF cr ar cs z N an c7 b5 c5 K
 go_wp2_with fail
 go_loopw [52] (fun jv wr=>∃ (j:Nat) (nv av:Value),j<=m/\jv=.int .i64 (j:Nat)/\lD w5' wr w3.heap.size (.slice ca0 cl0 cc0) (.int .i64 (A.k:Nat)) nv av (uf A num F (j*A.k)) (uP A F j)) (fun jv _=>m-(intOf jv).toNat)
 case atStart=>exact⟨0,_,_,by omega,rfl,by rw[Nat.zero_mul];exact d9.u⟩
 clear d9;obtain⟨j,nv,av,hj,rfl,hO⟩:=hrel;obtain⟨w8,rfl⟩ : ∃ w8,w8=wr:=⟨_,rfl⟩
 by_cases hjm:j<m
 ·have db:(j:Int)<(m:Int):=by omega
  obtain⟨hD,C,aa,df⟩:=a9.u w8 hO.fr;obtain⟨U,fb,c2,rfl,rfl,y0⟩:=df j hjm;obtain⟨d0,d1,d2,d3,-⟩:=hD.facts;obtain⟨g0,g1,g2,g3,-⟩:=hO.out.facts;have y1:w8.cell? ⟨ab,ao+F j,none⟩=some (.bool (A.ac (F j))):=by rw[C.cell (p:=⟨ab,ao+F j,none⟩) hab];exact ep.u _ U
  obtain⟨va,vc,e2⟩:=aj hO.oa;have D:(uP A F j).length=j:=by simp[uP]
  rw[D]at e2;have H:=hO.oa;rw[D,e2]at H;rw[e2]at g3;obtain⟨sj,bo⟩ : ∃ sj,sj=F j:=⟨_,rfl⟩;rw[<-bo]at y0 y1 U;have bf:=hO.fr.size;have HO:=ae hO;have ad:=ae bo;have J:=ae e2;have e0:=ae D;have e3:=ae g3;have e4:=ae d3;have bp:=ae y1;have V:=ae H;clear hO hD C aa df bo e2 D g0 g1 g2 g3 d0 d1 d2 d3 y1 H
  go_wp2_with fail;refine wB w8 w.heap.size w3.heap.size ab ao A.n ca sj j vc w5'.heap.size va (A.ac sj) _ U (by omega) (by omega) (by omega) e3.u e4.u (by rw[ad.u];rw[ad.u]at bp;exact bp.u) V.u (fun WA w9 gg cap r1 r2 r3 hP=>?_)
  have hA:=HO.u.pushA (x:=A.ac sj) (v':=.slice (some ⟨gg,0,none⟩) (j+1) cap) hP.below (by rw[List.length_append,e0.u,List.map_append];exact r1) (by rw[J.u];exact r2) (fun q hq=>by
   rw[J.u];have bq:gg=q:=Option.some.inj hq;subst bq;rcases r3 with e|e
   ·exact .inl e
   exact .inr (by omega))
  rw[J.u]at hA;refine⟨hA.1,hA.2.1,?_⟩;have X:=hA.2.2;obtain⟨w10,b0⟩ : ∃ w10,w10=w9.setCell ⟨w3.heap.size,3,none⟩ (.slice (some ⟨gg,0,none⟩) (j+1) cap):=⟨_,rfl⟩;rw[<-b0]at X ⊢;have e5:uP A F j++[A.ac sj]=uP A F (j+1):=by rw[zu,<-ad.u]
  rw[e5]at X;clear hA b0 r1 r2 r3 hP e5 e3 e4 bp V J e0 HO y0;obtain⟨hD,-,-,-⟩:=a9.u w10 X.fr;obtain⟨d0,d1,d2,d3,-⟩:=hD.facts;have uu:(sj+1)*A.k<=L:=by rw[HL.u];exact Nat.mul_le_mul_right _ U
  have br:=kp (.slice ca0 cl0 cc0) (.slice (some ⟨ab,ao,none⟩) A.n ca) b off L cN A.k sj w10 uu (by omega) hcN (by omega) hk;obtain⟨rq,bt⟩ : ∃ rq,rq=sj*A.k:=⟨_,rfl⟩;rw[<-bt]at br;have e6:=ae br;have f5:=ae bt;have e8:=ae X;clear br bt uu X hD
  go_wp2_with fail;refine e6.u.mono ?_;rintro e w11 ⟨rfl,b1⟩;have b2:=ae (e8.u.keep b1);clear e8 b1 d0 d1 d2 d3 e6
  go_wp2_with fail
  go_loopw [70] (fun cv wx=>∃ (c:Nat) (nv av:Value),c<=A.k/\cv=.int .i64 (c:Nat)/\lD w5' wx w3.heap.size (.slice ca0 cl0 cc0) (.int .i64 (A.k:Nat)) nv av (uf A num F (j*A.k+c)) (uP A F (j+1))) (fun cv _=>A.k-(intOf cv).toNat)
  case atStart=>exact⟨0,_,_,by omega,rfl,b2.u⟩
  clear b2;obtain⟨c,nv,av,hc,rfl,hO⟩:=hrel
  by_cases hcl:c<A.k
  ·have e9:(c:Int)<(A.k:Int):=by omega
   obtain⟨hD,C,aa,-⟩:=a9.u wr hO.fr;obtain⟨x1,x2⟩:=HX.u sj c U hcl;have y0:wr.cell? ⟨b,off+rq+c,none⟩=some (.int .i64 (A.nx sj c:Nat)):=by rw[f5.u,Nat.add_assoc,C.cell (p:=⟨b,off+(sj*A.k+c),none⟩) hb];exact x2
   obtain⟨g0,g1,g2,g3,-⟩:=hO.out.facts;obtain⟨na,nc,e1⟩:=aj hO.on;have f6:(uf A num F (j*A.k+c)).length<=262144:=by
    have h1:(uf A num F (j*A.k+c)).length=j*A.k+c:=by simp[uf]
    have h2:=gk (k:=A.k) (Nat.lt_of_lt_of_le hjm d6) hcl;rw[<-HL.u]at h2;omega
   have Z:=yu A num F (j:=j) hcl;rw[<-ad.u]at Z;obtain⟨Y,hY⟩ : ∃ Y,Y=uf A num F (j*A.k+c):=⟨_,rfl⟩;rw[<-hY]at e1 f6 Z;have E:=hO.on;rw[<-hY,e1]at E;rw[e1]at g2;obtain⟨nxt,b3⟩ : ∃ y,y=A.nx sj c:=⟨_,rfl⟩;rw[<-b3]at y0 x1 Z;have k0:=aa.cell x1;have et:=hO.fr.size;have HO:=ae hO;have bv:=ae e1;have f7:=ae Z;have ea:=ae g2;have eb:=ae k0;have a0:=ae E;have f8:=ae hY;clear hO hD C aa x2 g0 g1 g2 g3 e1 Z hY b3 k0 E
   go_wp2_with fail;refine wR wr w3.heap.size (w3.heap.size+4) A.n A.n nxt (num nxt) Y.length nc w5'.heap.size na _ x1 (by omega) (by omega) (by omega) ea.u eb.u a0.u (fun WA w12 gg2 cap2 r1 r2 r3 hP=>?_)
   have bx:=HO.u;rw[<-f8.u]at bx;have hA:=bx.pushN (x:=num nxt) (v':=.slice (some ⟨gg2,0,none⟩) (Y.length+1) cap2) hP.below (by rw[List.length_append,List.map_append];exact r1) (by rw[bv.u];exact r2) (fun q hq=>by
    rw[bv.u];have bq:gg2=q:=Option.some.inj hq;subst bq;rcases r3 with e|e
    ·exact .inl e
    exact .inr (by omega))
   rw[bv.u]at hA;refine⟨hA.1,hA.2.1,?_⟩;have HA:=ae hA.2.2;clear hA bx r1 r2 r3 hP ea eb a0 HO y0;go_wp2
   go_roundw
   case rel=>exact⟨c+1,_,_,by omega,by go_num,by rw[f7.u];exact HA.u⟩
   simp[intOf];omega
  have e9:¬ (c:Int)<(A.k:Int):=by omega
  obtain rfl:c=A.k:=by omega
  have HO:=ae hO;clear hO;go_wp2
  go_roundw
  case rel=>exact⟨j+1,_,_,by omega,by go_num,by rw[Nat.add_mul,Nat.one_mul];exact HO.u⟩
  simp[intOf];omega
 have db:¬ (j:Int)<(m:Int):=by omega
 obtain rfl:j=m:=by omega
 obtain⟨hD,C,-,-⟩:=a9.u w8 hO.fr;obtain⟨g0,g1,g2,g3,-⟩:=hO.out.facts;have bf:=hO.fr.size;have bz:aC w8 (w.heap.size+1) 30 (.slice none 0 0) (.int .i64 0) (.slice none 0 0) (.slice none 0 0):=World.rowIs.of_block f4.u (hO.fr.block _ (by rintro(h|h)<;>omega));obtain⟨x0,x1,x2,x3,z0,z1,z2,z3⟩:=bz.facts;obtain⟨na,nc,e1⟩:=aj hO.on;obtain⟨va,vc,e2⟩:=aj hO.oa;have c0:(uf A num F (j*A.k)).length=j*A.k:=by simp[uf]
 have D:(uP A F j).length=j:=by simp[uP]
 rw[c0]at e1;rw[D]at e2;have E:=hO.on;have H:=hO.oa;rw[c0,e1]at E;rw[D,e2]at H;have af:=hO.na;rw[e1,e2]at af;rw[e1]at g2;rw[e2]at g3;obtain⟨yl,a1⟩ : ∃ yl,yl=j*A.k:=⟨_,rfl⟩;rw[<-a1]at g2 E af;have ec:=(((bz.put0 (u:=.slice ca0 cl0 cc0)).put1 (u:=.int .i64 (A.k:Nat))).put2 (u:=.slice na yl nc)).put3' (u:=.slice va j vc);have o:ce (w.heap.size+1) w8 ((((w8.setCell ⟨w.heap.size+1,0,none⟩ (.slice ca0 cl0 cc0)).setCell ⟨w.heap.size+1,1,none⟩ (.int .i64 (A.k:Nat))).setCell ⟨w.heap.size+1,2,none⟩ (.slice na yl nc)).setCell ⟨w.heap.size+1,3,none⟩ (.slice va j vc)):=(((am _ _).trans (am _ _)).trans (am _ _)).trans (am _ _);have f9:=ae ec;have fd:=ae o;have ff:=ae C;have a0:=ae E;have V:=ae H;have fg:=ae af;have fh:=ae a1;clear hO hD C bz e1 e2 c0 D E H af ec o a1;go_wp2;refine bodyPost_ret (gJ f9.u rfl _ rfl) rfl ?_;have o:=fd.u;have a2:=ff.u;refine⟨_,_,rfl,⟨o.os.trans a2.os,o.tape.trans a2.tape,o.output.trans a2.output,by rw[o.size];exact a2.size,fun k hk=>(o.block k (by omega)).trans (a2.block k hk)⟩,j,num,F,ex.u,ey.u,d6,?_,aO (ak V.u (fun r hr=>o.block r (by have:=(V.u.lt r hr).1;omega))) (by omega),fg.u⟩;rw[<-fh.u];exact aO (ak a0.u (fun r hr=>o.block r (by have:=(a0.u.lt r hr).1;omega))) (by omega)
def pN(p:Nat×Nat):Value:=ii (p.1:Int) (p.2:Int)
theorem CN{p q:Nat×Nat}(h:pN p=pN q):p=q:=by
 simp only[pN,ii,Value.agg.injEq]at h;have h1:(p.1:Int)=q.1/\(p.2:Int)=q.2:=by simpa using h
 exact Prod.ext (by omega) (by omega)
theorem xG{o:List (Nat×Nat)}{i:Nat}{x:Nat×Nat}(h:(o.map pN)[i]?=some (pN x)):o[i]?=some x:=by
 rw[List.getElem?_map]at h;cases e:o[i]? with
 | none=>rw[e]at h;cases h
 | some y =>
  rw[e]at h;rw[CN (Option.some.inj h)]
theorem Dk{o:List (Nat×Nat)}{x:Nat×Nat}:pN x∈o.map pN↔x∈o:=by
 constructor
 ·intro h;obtain⟨i,hi⟩:=List.getElem?_of_mem h;exact List.mem_of_getElem? (xG hi)
 intro h;exact List.mem_map.2 ⟨x,h,rfl⟩
structure Az (w4 w:World) (mp mb k:Nat) (key:Nat->Nat×Nat) (mg:Nat->Nat) (ds:List (Nat×Nat)) (ns fs:List Nat):Prop where
 num:bj 162 w mp (ds.map pN)
 nr:dp w mb k (fun c=>if c<ns.length then ns[c]?.getD 0 else mg c)
 nl:ft key ds ns fs
 fr:aT (fun k=>k=mp∨k=mb∨w4.heap.size<=k) w4 w
 lt:mp<w4.heap.size/\mb<w4.heap.size/\mp≠mb
theorem Bh{α:Type}{key:Nat->α}{ds:List α}{ns fs:List Nat}(h:ft key ds ns fs):ds.length<=ns.length:=by
 refine Nat.le_of_not_lt fun hlt=>?_
 have h1:((List.range ds.length).map (fun j=>fs[j]?.getD 0)).Nodup:=by
  rw[List.nodup_iff_pairwise_ne,List.pairwise_map];refine(List.nodup_range (n:=ds.length)).imp_of_mem (fun {a b} ha hb hne he=>hne ?_)
  have ha:=List.mem_range.1 ha;have hb:=List.mem_range.1 hb;rw[<-(h.fr a ha).2,<-(h.fr b hb).2,he]
 have h2:=bT ns.length _ h1 (fun x hx=>by
  obtain⟨a,ha,rfl⟩:=List.mem_map.1 hx;exact(h.fr a (List.mem_range.1 ha)).1)
 simp at h2;omega
theorem Az.step{w4 w w7:World}{mp mb k c:Nat}{key:Nat->Nat×Nat}{mg:Nat->Nat}{ds:List (Nat×Nat)}{ns fs:List Nat}{i:Nat}{f:Bool}{ks':List Value}(h:Az w4 w mp mb k key mg ds ns fs)(hc:ns.length=c)(hR:lT (ds.map pN) (pN (key c)) ks' i f)(hN:bj 162 w7 mp ks')(hF:aT (dM w mp) w w7) :
  dp w7 mb k (fun c=>if c<ns.length then ns[c]?.getD 0 else mg c)/\∃ ds' fs',Az w4 (w7.setCell ⟨mb,c,none⟩ (.int .i64 (i:Nat))) mp mb k key mg ds' (ns++[i]) fs':=by
 have hz:=h.fr.size;obtain⟨l1,l2,l3⟩:=h.lt;have a:=hF.size;have q1:=h.nr.on (hF.block _ (by rintro(e|e)<;>omega));have q3:aT (fun k=>k=mp∨k=mb∨w4.heap.size<=k) w4 w7:=h.fr.trans (hF.mono (fun k hk=>by rcases hk with e|e;exact .inl e;exact .inr (.inr (by omega))));have ks:∀ k,k≠mb->(w7.setCell ⟨mb,c,none⟩ (.int .i64 (i:Nat))).heap[k]?=w7.heap[k]? :=fun k hk=>Below.heap_setCell _ _ _ _ (by show k≠mb;exact hk)
 have q4:dp (w7.setCell ⟨mb,c,none⟩ (.int .i64 (i:Nat))) mb k (fun c=>if c<(ns++[i]).length then (ns++[i])[c]?.getD 0 else mg c):=(q1.put c i).congr (fun j _=>by
  by_cases e:j=c
  ·subst e;rw[bI,if_pos (by rw[List.length_append,hc];simp),<-hc];simp
  rw[aW _ e]
  by_cases e2:j<ns.length
  ·rw[if_pos e2,if_pos (by rw[List.length_append];omega),List.getElem?_append_left e2]
  rw[if_neg e2,if_neg (by rw[List.length_append,List.length_singleton];omega)])
 have q5:=q3.trans ((am (w:=w7) (b:=mb) c (.int .i64 (i:Nat))).fro (.inr (.inl rfl)));refine⟨q1,?_⟩;rcases hR with ⟨h1,rfl,h2,rfl⟩|⟨h1,rfl,rfl,rfl⟩
 ·exact⟨ds,fs,hN.keep (ks _ l3),q4,h.nl.old (by rw[hc];exact xG h2),q5,l1,l2,l3⟩
 rw[List.length_map]at q4 q5 ks ⊢;refine⟨ds++[key c],fs++[c],?_,q4,?_,q5,l1,l2,l3⟩
 ·rw[List.map_append];exact hN.keep (ks _ l3)
 have:=h.nl.new (fun j hj e=>by
  rw[hc]at e;exact h1 (Dk.2 (List.mem_of_getElem? e)))
 rw[hc]at this;exact this
theorem yR{u0 u1 u2 u4 u5 u9 u10 u11 u12 u13 u14 u15 u16 u17 u18 u19 u20 u21 u22 u23 u24 u25 u26 u27 u28 u29 u30 u31 u32 u33 u34 u35 u36 u37 u38 u39 u40 u41 u42 u43 u44 u45 u46 u47 u48 u49 u50 u51 u52 u53 u54 u55 u56 u57 u58 u59 u60 u61 u62 u63 u64 u65 u66 u67 u68 u69 u70 u71 u72 u73 u74 u75 u76 u77 u78 u79 u80 u81 u82 u83 u84 u85 u86 u87 u88 u89 u90 u91 u92 u93 u94 u95 u96 u97 u98 u99 u100 u101 u102 u103 u104 u105:Value}{K K1 K2 K3 L1 L2:Act->World->Prop}{n1 n2 n3 n4:Nat}{R:Ending->World->Prop}(w7:World)(kb mp mb k ck c x y:Nat)(Post:Nat->Bool->World->Prop)(hc:c<k)
  (hu:w7.cell? ⟨kb,0,none⟩=some (.map (some mp)))(y1:w7.cell? ⟨mb,c,none⟩=some (.int .i64 (x:Nat)))
  (hof:Calls prog 92 #[.agg #[.map (some mp)],.agg #[.int .i64 (x:Nat),.int .i64 (y:Nat)]] w7.drew fun e w'=>∃ num f,e=.returned (.tuple #[.int .i64 (num:Nat),.bool f])/\Post num f w')
  (hps:∀ (num:Nat) (f:Bool) (w8:World),Post num f w8->(∃ v,w8.cell? ⟨mb,c,none⟩=some v)/\w8.frozen? ⟨mb,c,none⟩=false/\K { tmps:=#[u0,u1,u2,.slice (some ⟨mb,0,none⟩) k ck,u4,u5,.pointer (some ⟨kb,0,none⟩),.int .i64 (c:Nat),.int .i64 (y:Nat),u9,u10,u11,u12,u13,u14,u15,u16,u17,u18,u19,u20,u21,u22,u23,u24,u25,u26,u27,u28,u29,u30,u31,u32,u33,u34,.tuple #[.int .i64 (num:Nat),.bool f],.slice (some ⟨mb,0,none⟩) k ck,.int .i64 (c:Nat),.agg #[.map (some mp)],.slice (some ⟨mb,0,none⟩) k ck,.int .i64 (c:Nat),.pointer (some ⟨mb,c,none⟩),.int .i64 (x:Nat),.int .i64 (y:Nat),.agg #[.int .i64 (x:Nat),.int .i64 (y:Nat)],.tuple #[.int .i64 (num:Nat),.bool f],.int .i64 (num:Nat),.bool f,.pointer (some ⟨mb,c,none⟩),u49,u50,u51,u52,u53,u54,u55,u56,u57,u58,u59,u60,u61,u62,u63,u64,u65,u66,u67,u68,u69,u70,u71,u72,u73,u74,u75,u76,u77,u78,u79,u80,u81,u82,u83,u84,u85,u86,u87,u88,u89,u90,u91,u92,u93,u94,u95,u96,u97,u98,u99,u100,u101,u102,u103,u104,u105],defers:=[] } (w8.setCell ⟨mb,c,none⟩ (.int .i64 (num:Nat)))) :
  Code.wp prog (Code.region 10 #[{ dst:=some 36,op:=Op.move (Operand.tmp 3),type:=27,pos:= "l2_dfa.go:479",after:=#[],guard:=none },{ dst:=some 37,op:=Op.move (Operand.tmp 7),type:=3,pos:= "l2_dfa.go:479",after:=#[],guard:=none },{ dst:=some 38,op:=Op.load 160 (Operand.tmp 6),type:=160,pos:= "l2_dfa.go:479",after:=#[],guard:=none },{ dst:=some 39,op:=Op.move (Operand.tmp 3),type:=27,pos:= "l2_dfa.go:479",after:=#[],guard:=none },{ dst:=some 40,op:=Op.move (Operand.tmp 7),type:=3,pos:= "l2_dfa.go:479",after:=#[],guard:=none },{ dst:=some 41,op:=Op.indexAddr 27 (Operand.tmp 39) (Operand.tmp 40),type:=0,pos:= "l2_dfa.go:479",after:=#[{ on:=3,ground:=Ground.data },{ on:=4,ground:=Ground.data }],guard:=none },{ dst:=some 42,op:=Op.load 3 (Operand.tmp 41),type:=3,pos:= "l2_dfa.go:479",after:=#[{ on:=5,ground:=Ground.data }],guard:=none },{ dst:=some 43,op:=Op.move (Operand.tmp 8),type:=3,pos:= "l2_dfa.go:479",after:=#[],guard:=none },{ dst:=some 44,op:=Op.build 162 #[(0,Operand.tmp 42),(1,Operand.tmp 43)],type:=162,pos:= "l2_dfa.go:479",after:=#[{ on:=6,ground:=Ground.data },{ on:=7,ground:=Ground.data }],guard:=none },{ dst:=some 45,op:=Op.call { callee:=Callee.value (Operand.func 92),args:=#[Operand.tmp 38,Operand.tmp 44],argTypes:=#[160,162] },type:=107,pos:= "l2_dfa.go:479",after:=#[{ on:=2,ground:=Ground.data },{ on:=8,ground:=Ground.data }],guard:=none },{ dst:=some 35,op:=Op.move (Operand.tmp 45),type:=107,pos:= "l2_dfa.go:479",after:=#[{ on:=9,ground:=Ground.data }],guard:=none },{ dst:=some 46,op:=Op.extract (Operand.tmp 35) 0,type:=3,pos:= "l2_dfa.go:479",after:=#[{ on:=10,ground:=Ground.data }],guard:=none },{ dst:=some 47,op:=Op.extract (Operand.tmp 35) 1,type:=4,pos:= "l2_dfa.go:479",after:=#[{ on:=10,ground:=Ground.data },{ on:=14,ground:=Ground.gcOnly Departure.lateStores }],guard:=none },{ dst:=some 48,op:=Op.indexAddr 27 (Operand.tmp 36) (Operand.tmp 37),type:=0,pos:= "l2_dfa.go:479",after:=#[{ on:=0,ground:=Ground.data },{ on:=1,ground:=Ground.data },{ on:=0,ground:=Ground.phase },{ on:=1,ground:=Ground.phase },{ on:=2,ground:=Ground.phase },{ on:=3,ground:=Ground.phase },{ on:=4,ground:=Ground.phase },{ on:=5,ground:=Ground.phase },{ on:=6,ground:=Ground.phase },{ on:=7,ground:=Ground.phase },{ on:=8,ground:=Ground.phase },{ on:=9,ground:=Ground.phase },{ on:=10,ground:=Ground.phase },{ on:=11,ground:=Ground.phase },{ on:=12,ground:=Ground.textOnly Departure.lateStores }],guard:=none },{ dst:=none,op:=Op.store 3 (Operand.tmp 48) (Operand.tmp 46),type:=0,pos:= "l2_dfa.go:479",after:=#[{ on:=13,ground:=Ground.data },{ on:=11,ground:=Ground.data },{ on:=9,ground:=Ground.chain },{ on:=0,ground:=Ground.phase },{ on:=1,ground:=Ground.phase },{ on:=2,ground:=Ground.phase },{ on:=3,ground:=Ground.phase },{ on:=4,ground:=Ground.phase },{ on:=5,ground:=Ground.phase },{ on:=6,ground:=Ground.phase },{ on:=7,ground:=Ground.phase },{ on:=8,ground:=Ground.phase },{ on:=9,ground:=Ground.phase },{ on:=10,ground:=Ground.phase },{ on:=11,ground:=Ground.phase },{ on:=12,ground:=Ground.textOnly Departure.lateStores }],guard:=none }] true) (Exit.inBlock n1 (Exit.then K (Exit.then L1 (Exit.inBlock n2 (Exit.then K1 (Exit.inBlock n3 (Exit.then K2 (Exit.then L2 (Exit.inBlock n4 (Exit.then K3 (bodyPost prog Tryz.f57 R))))))))))) { tmps:=#[u0,u1,u2,.slice (some ⟨mb,0,none⟩) k ck,u4,u5,.pointer (some ⟨kb,0,none⟩),.int .i64 (c:Nat),.int .i64 (y:Nat),u9,u10,u11,u12,u13,u14,u15,u16,u17,u18,u19,u20,u21,u22,u23,u24,u25,u26,u27,u28,u29,u30,u31,u32,u33,u34,u35,u36,u37,u38,u39,u40,u41,u42,u43,u44,u45,u46,u47,u48,u49,u50,u51,u52,u53,u54,u55,u56,u57,u58,u59,u60,u61,u62,u63,u64,u65,u66,u67,u68,u69,u70,u71,u72,u73,u74,u75,u76,u77,u78,u79,u80,u81,u82,u83,u84,u85,u86,u87,u88,u89,u90,u91,u92,u93,u94,u95,u96,u97,u98,u99,u100,u101,u102,u103,u104,u105],defers:=[] } w7:=by
 have d:(c:Int)<(k:Int):=by omega
 have a:=ae hof;have b:=ae hps;clear hof hps
 go_region_with (go_at_call 92;refine a.u.mono ?_;rintro e w8 ⟨num,f,rfl,hP⟩;obtain⟨⟨v,c1⟩,c2,c3⟩:=b.u num f w8 hP;have C3:=ae c3;clear c3 hP)
 all_goals exact C3.u
structure kH (w5 w:World) (c:Nat) (kv av xv nv:Value) (xs ys:List Nat):Prop where
 out:aC w c 30 xv kv nv av
 ox:w.ownsRow w5.heap.size 3 1 xv xs.length (xs.map mN)
 on:w.ownsRow w5.heap.size 3 1 nv ys.length (ys.map mN)
 na:∀ r,xv.ownBlock=some r->nv.ownBlock≠some r
 fr:aT (dM w5 c) w5 w
 lt:c<w5.heap.size
theorem kH.keep{w5 w w':World}{c:Nat}{kv av xv nv:Value}{xs ys:List Nat}(h:kH w5 w c kv av xv nv xs ys)(hb:Below w.heap.size w w'):kH w5 w' c kv av xv nv xs ys:=
 have hz:=h.fr.size
 ⟨h.out.below hb (by have:=h.lt;omega),ak h.ox (fun r hr=>hb.block r (aB h.ox r hr)),ak h.on (fun r hr=>hb.block r (aB h.on r hr)),h.na,h.fr.trans (bC hb (fun k hk=>.inr (by omega))),h.lt⟩
theorem kH.pushN{w5 w W w2:World}{c:Nat}{kv av xv nv v':Value}{xs ys:List Nat}{x:Nat}(h:kH w5 w c kv av xv nv xs ys)(hW:Below w.heap.size w W)(r1:w2.ownsRow w5.heap.size 3 1 v' (ys++[x]).length ((ys++[x]).map mN))(r2:W.grownBy w2 nv.ownBlock)(r3:∀ q,v'.ownBlock=some q->nv.ownBlock=some q∨w.heap.size<=q) :
  w2.cell? ⟨c,2,none⟩=some nv/\w2.frozen? ⟨c,2,none⟩=false/\kH w5 (w2.setCell ⟨c,2,none⟩ v') c kv av xv v' xs (ys++[x]):=by
 have hz:=h.fr.size;have hlt:=h.lt;have k2:=dK hW r2;have b:=hW.size;have d:=r2.size;have nq:∀ k,k<w5.heap.size->nv.ownBlock≠some k:=fun k hk e=>by have:=(h.on.lt k e).1;omega
 have a:aC w2 c 30 xv kv nv av:=World.rowIs.of_block h.out (k2 _ (by omega) (nq _ (by omega)));have ks:∀ k,k≠c->(w2.setCell ⟨c,2,none⟩ v').heap[k]?=w2.heap[k]? :=fun k hk=>Below.heap_setCell _ _ _ _ (by show k≠c;exact hk)
 refine⟨a.facts.2.2.1,World.rowIs.frozen a 2,a.put2,ak h.ox (fun r hr=>?_),ak r1 (fun r hr=>ks r (by have:=(r1.lt r hr).1;omega)),fun r hr e2=>?_,⟨r2.os.trans (hW.os.trans h.fr.os),r2.tape.trans (hW.tape.trans h.fr.tape),r2.output.trans (hW.output.trans h.fr.output),by rw[aM];omega,fun k hk=>?_⟩,hlt⟩
 ·have:=h.ox.lt r hr;rw[ks r (by omega)];exact k2 r this.2 (fun e=>h.na r hr e)
 ·rcases r3 r e2 with e|e
  ·exact h.na r hr e
  have:=aB h.ox r hr;omega
 have k1:k≠c:=fun e=>hk (.inl e)
 have k3:k<w5.heap.size:=Nat.lt_of_not_le fun e=>hk (.inr e)
 rw[ks k k1,k2 k (by omega) (nq k k3)];exact h.fr.block k hk
theorem kH.pushX{w5 w W w2:World}{c:Nat}{kv av xv nv v':Value}{xs ys:List Nat}{x:Nat}(h:kH w5 w c kv av xv nv xs ys)(hW:Below w.heap.size w W)(r1:w2.ownsRow w5.heap.size 3 1 v' (xs++[x]).length ((xs++[x]).map mN))(r2:W.grownBy w2 xv.ownBlock)(r3:∀ q,v'.ownBlock=some q->xv.ownBlock=some q∨w.heap.size<=q) :
  w2.cell? ⟨c,0,none⟩=some xv/\w2.frozen? ⟨c,0,none⟩=false/\kH w5 (w2.setCell ⟨c,0,none⟩ v') c kv av v' nv (xs++[x]) ys:=by
 have hz:=h.fr.size;have hlt:=h.lt;have k2:=dK hW r2;have b:=hW.size;have d:=r2.size;have nq:∀ k,k<w5.heap.size->xv.ownBlock≠some k:=fun k hk e=>by have:=(h.ox.lt k e).1;omega
 have a:aC w2 c 30 xv kv nv av:=World.rowIs.of_block h.out (k2 _ (by omega) (nq _ (by omega)));have ks:∀ k,k≠c->(w2.setCell ⟨c,0,none⟩ v').heap[k]?=w2.heap[k]? :=fun k hk=>Below.heap_setCell _ _ _ _ (by show k≠c;exact hk)
 refine⟨a.facts.1,World.rowIs.frozen a 0,a.put0,ak r1 (fun r hr=>ks r (by have:=(r1.lt r hr).1;omega)),ak h.on (fun r hr=>?_),fun r hr=>?_,⟨r2.os.trans (hW.os.trans h.fr.os),r2.tape.trans (hW.tape.trans h.fr.tape),r2.output.trans (hW.output.trans h.fr.output),by rw[aM];omega,fun k hk=>?_⟩,hlt⟩
 ·have:=h.on.lt r hr;rw[ks r (by omega)];exact k2 r this.2 (fun e=>h.na r e hr)
 ·rcases r3 r hr with e|e
  ·exact h.na r e
  exact fun e2=>by have:=aB h.on r e2;omega
 have k1:k≠c:=fun e=>hk (.inl e)
 have k3:k<w5.heap.size:=Nat.lt_of_not_le fun e=>hk (.inr e)
 rw[ks k k1,k2 k (by omega) (nq k k3)];exact h.fr.block k hk
def xr(A:Tb)(mg:Nat->Nat)(l:Nat):List Nat:=(List.range l).map (fun b=>mg (A.cl b))
def xl(A:Tb)(G:Nat->Nat)(m l:Nat):List Nat:=(List.range l).map (fun t=>A.nx (t / m) (G (t%m)))
theorem zK(A:Tb)(mg:Nat->Nat)(l:Nat):xr A mg (l+1)=xr A mg l++[mg (A.cl l)]:=by simp[xr,List.range_succ]
theorem xR(A:Tb)(G:Nat->Nat){m q e:Nat}(he:e<m):xl A G m (q*m+(e+1))=xl A G m (q*m+e)++[A.nx q (G e)]:=by
 unfold xl;rw[<-Nat.add_assoc,List.range_succ,List.map_append,List.map_singleton,(eh he).1,(eh he).2]
theorem jR(A:Tb)(mg:Nat->Nat)(l:Nat):(xr A mg l).length=l:=by simp[xr]
theorem qC(A:Tb)(G:Nat->Nat)(m l:Nat):(xl A G m l).length=l:=by simp[xl]
theorem kZ(A:Tb)(xb xo xc b off cN ab ao ca:Nat)(w:World)(hw:A.Wf)(hn:A.n<=1024)(hk:1<=A.k/\A.k<=256)(hcN:A.n*A.k<=cN)(hb:b<w.heap.size)(hx:kw w b off A.n A.k A.nx)
  (hxb:xb<w.heap.size)(hcl:∀ q,q<256->w.cell? ⟨xb,xo+q,none⟩=some (.int .i64 (A.cl q:Nat))) :
  Calls prog 57 #[.agg #[.slice (some ⟨xb,xo,none⟩) 256 xc,.int .i64 (A.k:Nat),.slice (some ⟨b,off,none⟩) (A.n*A.k) cN,.slice (some ⟨ab,ao,none⟩) A.n ca]] w fun e w'=>∃ (xv nv:Value) (m:Nat),e=.returned (.agg #[xv,.int .i64 (m:Nat),nv,.slice (some ⟨ab,ao,none⟩) A.n ca])/\Below w.heap.size w w'/\
   ∃ (mg G:Nat->Nat),Ct A A.n m mg G/\m<=A.k/\w'.ownsRow w.heap.size 3 1 xv 256 ((xr A mg 256).map mN)/\w'.ownsRow w.heap.size 3 1 nv (A.n*m) ((xl A G m (A.n*m)).map mN)/\∀ r,xv.ownBlock=some r->nv.ownBlock≠some r:=by
 obtain⟨i0,d5,d6,d7,d8⟩:=info_parts Tryz.zinInt;have ey:1<=A.n:=hw.pos;have d9:A.n*A.k<=1024*256:=Nat.mul_le_mul hn hk.2;obtain⟨L,hL⟩ : ∃ L,L=A.n*A.k:=⟨_,rfl⟩;rw[<-hL]at hcN d9 ⊢;have ax:=run_make_row' (P:=prog) 27 3 (.int .i64 0) 8 underlying27 Tryz.zinInt rfl .i64 .i64 A.k (by omega) (by omega);obtain⟨W2,I⟩ : ∃ W2,W2=(w.alloc (.cells #[.slice (some ⟨xb,xo,none⟩) 256 xc,.int .i64 (A.k:Nat),.slice (some ⟨b,off,none⟩) L cN,.slice (some ⟨ab,ao,none⟩) A.n ca] 30)).alloc (.cells #[.slice none 0 0,.int .i64 0,.slice none 0 0,.slice none 0 0] 30):=⟨_,rfl⟩;have ag:W2.heap.size=w.heap.size+2:=by rw[I,ah,ah]
 have b0:aC W2 w.heap.size 30 (.slice (some ⟨xb,xo,none⟩) 256 xc) (.int .i64 (A.k:Nat)) (.slice (some ⟨b,off,none⟩) L cN) (.slice (some ⟨ab,ao,none⟩) A.n ca):=by rw[I];exact(aC.new w _ _ _ _ _).alloc _
 have bf:aC W2 (w.heap.size+1) 30 (.slice none 0 0) (.int .i64 0) (.slice none 0 0) (.slice none 0 0):=by
  have:=aC.new (w.alloc (.cells #[.slice (some ⟨xb,xo,none⟩) 256 xc,.int .i64 (A.k:Nat),.slice (some ⟨b,off,none⟩) L cN,.slice (some ⟨ab,ao,none⟩) A.n ca] 30)) 30 (.slice none 0 0) (.int .i64 0) (.slice none 0 0) (.slice none 0 0);rw[ah]at this;rw[I];exact this
 obtain⟨W3,B⟩ : ∃ W3,W3=W2.alloc (.cells (madeCells #[.int .i64 0] A.k) 3):=⟨_,rfl⟩;have et:W3.heap.size=w.heap.size+3:=by rw[B,ah,ag]
 have b1:aC W3 w.heap.size 30 (.slice (some ⟨xb,xo,none⟩) 256 xc) (.int .i64 (A.k:Nat)) (.slice (some ⟨b,off,none⟩) L cN) (.slice (some ⟨ab,ao,none⟩) A.n ca):=by rw[B];exact b0.alloc _
 have bl:aC W3 (w.heap.size+1) 30 (.slice none 0 0) (.int .i64 0) (.slice none 0 0) (.slice none 0 0):=by rw[B];exact bf.alloc _
 have bn:dp W3 (w.heap.size+2) A.k (fun _=>0):=by
  have:=World.rowIs_made W2 (.int .i64 0) A.k 3;rw[ag]at this;rw[B];exact⟨_,_,this,Nat.le_refl _,fun j hj=>rfl⟩
 have bo:Below w.heap.size w W3:=by rw[B,I];exact(aI w _ _).trans ((ai _ _).mono (by rw[ah,ah];omega))
 obtain⟨e0,e1,e2,e3,-⟩:=b0.facts;obtain⟨f0,f1,f2,f3,-⟩:=b1.facts;have HL:=ae hL;have HX:=ae hx;have db:=ae hcl;have bp:=ae I;have bq:=ae B;have br:=ae b1;have bs:=ae bl;have bt:=ae bn;have bv:=ae bo;clear hL hx hcl I B b0 b1 bf bl bn bo
 go_enter func57,ntmps57
 go_wp2_with fail;rw[<-bp.u,<-bq.u];clear bp bq e0 e1 e2 e3 f0 f1 f2 f3 ax;simp only[Nat.add_assoc,Nat.reduceAdd]
 go_loopw [4,22] (fun nv qv wr=>∃ (q m:Nat) (mg G:Nat->Nat),q<=A.n/\qv=.int .i64 (q:Nat)/\nv=.int .i64 (m:Nat)/\m<=A.k/\Ct A q m mg G/\dp wr (w.heap.size+2) A.k mg/\aT (dM W3 (w.heap.size+2)) W3 wr) (fun _ qv _=>A.n-(intOf qv).toNat)
 case atStart=>exact⟨0,1,_,_,by omega,rfl,rfl,hk.1,Ct.start hk.1,bt.u,aT.refl _ _⟩
 clear bt;obtain⟨q,m,mg,G,hq,rfl,rfl,ax,R,d,hF⟩:=hrel;obtain⟨w4,rfl⟩ : ∃ w4,w4=wr:=⟨_,rfl⟩;have f4:=hF.size;have J:aC w4 w.heap.size 30 (.slice (some ⟨xb,xo,none⟩) 256 xc) (.int .i64 (A.k:Nat)) (.slice (some ⟨b,off,none⟩) L cN) (.slice (some ⟨ab,ao,none⟩) A.n ca):=World.rowIs.of_block br.u (hF.block _ (by rintro(h|h)<;>omega));have a7:Below w.heap.size w w4:=bv.u.trans (hF.below (fun k hk=>by rintro(h|h)<;>omega))
 by_cases hlt:q<A.n
 ·have bx:(q:Int)<(A.n:Int):=by omega
  have HN:=ae (wz w4);have b2:=d.lt;have C:=ae R;have K:=ae d;have HF:=ae hF;have a8:=ae J;have a9:=ae a7;clear R d hF J a7
  go_wp2_with fail;refine HN.u.mono ?_;rintro e w5 ⟨rfl,bz,c0,c1⟩;obtain⟨W6,M⟩ : ∃ W6,W6=w5.alloc (.cells #[.map (some (w4.heap.size+1))] 160):=⟨_,rfl⟩;have b3:Below w5.heap.size w5 W6:=by rw[M];exact ai w5 _
  have S:Below w4.heap.size w4 W6:=c1.trans (b3.mono (by omega));have ex:W6.heap.size=w4.heap.size+3:=by rw[M,ah];omega
  have c2:W6.rowIs (w4.heap.size+2) 160 1 (fun _=>.map (some (w4.heap.size+1))):=by
   have:=World.rowIs_alloc w5 #[.map (some (w4.heap.size+1))] 160 (fun _=>.map (some (w4.heap.size+1))) (fun j hj=>by
    match j,hj with
    | 0,_=>rfl)
   rw[c0]at this;rw[M];exact this
  obtain⟨f0,f1,f2,f3,-⟩:=(a8.u.below S (by omega)).facts;have T:(q+1)*A.k<=L:=by rw[HL.u];exact Nat.mul_le_mul_right _ hlt
  have D:=kp (.slice (some ⟨xb,xo,none⟩) 256 xc) (.slice (some ⟨ab,ao,none⟩) A.n ca) b off L cN A.k q W6 T (by omega) hcN (by omega) hk;obtain⟨rq,E⟩ : ∃ rq,rq=q*A.k:=⟨_,rfl⟩;rw[<-E]at D;have U:=ae D;have b4:=ae E;have c3:=ae (bz.keep (b3.block _ (by omega)));have c4:=ae c2;have c5:=ae S;have c6:=ae M;rw[M]at f0 f1 f2 f3;clear D E T bz c1 b3 S c2 M HN
  go_wp2_with fail
  try rw[c0]
  rw[<-c6.u];refine U.u.mono ?_;rintro e w7 ⟨rfl,V⟩;have df:=V.size;have X:Below w4.heap.size w4 w7:=c5.u.trans (V.mono (by omega));have g:Az w7 w7 (w4.heap.size+1) (w.heap.size+2) A.k (fun c=>(mg c,A.nx q c)) mg [] [] []:=⟨c3.u.keep (V.block _ (by omega)),(K.u.on (X.block _ b2)).congr (fun j _=>rfl),ft.nil _,aT.refl _ _,by omega,by omega,by omega⟩;have s:=ae g;have c7:=ae (c4.u.of_block (V.block _ (by omega)));have al:=ae X;clear U c3 c4 K g X V f0 f1 f2 f3 c6
  go_wp2_with fail
  go_loopw [30] (fun cv wx=>∃ (c:Nat) (ds:List (Nat×Nat)) (ns fs:List Nat),c<=A.k/\cv=.int .i64 (c:Nat)/\ns.length=c/\Az w7 wx (w4.heap.size+1) (w.heap.size+2) A.k (fun c=>(mg c,A.nx q c)) mg ds ns fs) (fun cv _=>A.k-(intOf cv).toNat)
  case atStart=>exact⟨0,[],[],[],by omega,rfl,rfl,s.u⟩
  clear s;obtain⟨c,ds,ns,fs,hc,rfl,b5,g⟩:=hrel;have e4:=g.fr.size;have b6:=c7.u.of_block (g.fr.block _ (by rintro(h|h|h)<;>omega));have u0:wr.cell? ⟨w4.heap.size+2,0,none⟩=some (.map (some (w4.heap.size+1))):=b6.cell (by omega);have f5:=Bh g.nl
  by_cases hcl:c<A.k
  ·have Z:(c:Int)<(A.k:Int):=by omega
   obtain⟨x1,x2⟩:=HX.u q c hlt hcl;have an:∀ k,k<w.heap.size->wr.heap[k]?=w.heap[k]? :=fun k hk=>(g.fr.block k (by rintro(h|h|h)<;>omega)).trans ((al.u.block k (by omega)).trans (a9.u.block k hk))
   have y0:wr.cell? ⟨b,off+rq+c,none⟩=some (.int .i64 (A.nx q c:Nat)):=by rw[b4.u,Nat.add_assoc,World.cell?_of_block (a:=⟨b,off+(q*A.k+c),none⟩) (an b hb)];exact x2
   have y1:wr.cell? ⟨w.heap.size+2,c,none⟩=some (.int .i64 (mg c:Nat)):=by rw[g.nr.cell hcl,if_neg (by omega)]
   have e5:=C.u.num.lt c hcl;obtain⟨nxt,l⟩ : ∃ y,y=A.nx q c:=⟨_,rfl⟩;obtain⟨mc,N⟩ : ∃ y,y=mg c:=⟨_,rfl⟩;rw[<-l]at y0 x1;rw[<-N]at y1 e5;have cb:=zx (w4.heap.size+1) (mc:Nat) (nxt:Nat) (ds.map pN) wr.drew (g.num.keep rfl) ⟨by omega,by omega⟩ ⟨by omega,by omega⟩ (by rw[List.length_map];omega);have b7:=ae cb;have s:=ae g;have e6:Hi (pN ((fun c=>(mg c,A.nx q c)) c)=ii (mc:Int) (nxt:Int)):=by
    show pN _=_;rw[N,l];rfl
   unfold ii at b7;clear g cb x2 l N b6 an
   go_wp2_with fail;refine yR wr (w4.heap.size+2) (w4.heap.size+1) (w.heap.size+2) A.k A.k c mc nxt (fun num f w8=>∃ ks',lT (ds.map pN) (.agg #[.int .i64 (mc:Nat),.int .i64 (nxt:Nat)]) ks' num f/\bj 162 w8 (w4.heap.size+1) ks'/\aT (dM wr (w4.heap.size+1)) wr w8) hcl u0 y1 ?_ (fun num f w8 hP=>?_)
   ·refine b7.u.mono ?_;rintro e w8 ⟨num,ks',f,rfl,hR,aa,v⟩;exact⟨num,f,rfl,ks',hR,aa,⟨v.os,v.tape,v.output,v.size,v.block⟩⟩
   obtain⟨ks',hR,aa,v⟩:=hP;have b8:=e6.u;unfold ii at b8;rw[<-b8]at hR;obtain⟨q1,ds',fs',cc⟩:=s.u.step b5 hR aa v;refine⟨⟨_,q1.cell hcl⟩,q1.frozen c,?_⟩;have e7:=ae cc;clear q1 cc hR aa v b8 b7 s u0 y0 y1;go_wp2
   go_roundw
   case rel=>exact⟨c+1,ds',ns++[num],fs',by omega,by go_num,by rw[List.length_append,b5];rfl,e7.u⟩
   simp[intOf];omega
  have Z:¬ (c:Int)<(A.k:Int):=by omega
  obtain rfl:c=A.k:=by omega
  have cf:=ae (rL (w4.heap.size+1) (ds.map pN) wr g.num);have s:=ae g;clear g b6
  go_wp2_with fail;refine cf.u.mono ?_;rintro e w8 ⟨rfl,O⟩;rw[List.length_map];have ap:=C.u.next s.u.nl b5;have aq:dp w8 (w.heap.size+2) A.k (fun c=>ns[c]?.getD 0):=(s.u.nr.on (O.block _ (by omega))).congr (fun j hj=>by rw[if_pos (by omega)]);have ch:aT (dM W3 (w.heap.size+2)) W3 w8:=by
   refine HF.u.trans ((bC al.u (fun k hk=>.inr (by omega))).trans (aT.trans (s.u.fr.mono (fun k hk=>?_)) (bC O (fun k hk=>.inr (by omega)))));rcases hk with h|h|h
   ·exact .inr (by omega)
   ·exact .inl h
   exact .inr (by omega)
  have e8:=ae ap;have e9:=ae aq;have ea:=ae ch;clear ap aq ch O cf s u0;go_wp2
  go_roundw
  case rel=>exact⟨q+1,ds.length,_,_,by omega,by go_num,rfl,by omega,e8.u,e9.u,ea.u⟩
  simp[intOf];omega
 have bx:¬ (q:Int)<(A.n:Int):=by omega
 obtain rfl:q=A.n:=by omega
 obtain⟨f0,f1,f2,f3,-⟩:=J.facts;have eb:=R.num;obtain⟨W5,Q⟩ : ∃ W5,W5=w4.alloc (.cells #[.slice none 0 0,.int .i64 (m:Nat),.slice none 0 0,.slice (some ⟨ab,ao,none⟩) A.n ca] 30):=⟨_,rfl⟩;have ck:W5.heap.size=w4.heap.size+1:=by rw[Q,ah]
 have cp:aC W5 w4.heap.size 30 (.slice none 0 0) (.int .i64 (m:Nat)) (.slice none 0 0) (.slice (some ⟨ab,ao,none⟩) A.n ca):=by rw[Q];exact aC.new w4 _ _ _ _ _
 have b9:Below w4.heap.size w4 W5:=by rw[Q];exact ai w4 _
 obtain⟨e0,e1,e2,e3,-⟩:=(J.below b9 (by omega)).facts;rw[Q]at e0 e1 e2 e3;have cr:=ae Q;have cs:=ae cp;have a0:=ae b9;have C:=ae R;have K:=ae d;have HF:=ae hF;have a8:=ae J;have a9:=ae a7;clear R d hF J a7 Q cp b9 eb
 go_wp2_with fail;rw[<-cr.u];clear e0 e1 e2 e3 f0 f1 f2 f3;have b2:=K.u.lt;have bb:Hi (∀ W,aT (dM W5 w4.heap.size) W5 W->aC W w.heap.size 30 (.slice (some ⟨xb,xo,none⟩) 256 xc) (.int .i64 (A.k:Nat)) (.slice (some ⟨b,off,none⟩) L cN) (.slice (some ⟨ab,ao,none⟩) A.n ca)/\Below w.heap.size w W/\dp W (w.heap.size+2) A.k mg/\aC W (w.heap.size+1) 30 (.slice none 0 0) (.int .i64 0) (.slice none 0 0) (.slice none 0 0)):=fun W hW=>by
  have bc:∀ k,k<w4.heap.size->W.heap[k]?=w4.heap[k]? :=fun k hk=>(hW.block k (by rintro(h|h)<;>omega)).trans (a0.u.block k hk)
  have ar:Below w4.heap.size w4 W:=⟨hW.os.trans a0.u.os,hW.tape.trans a0.u.tape,hW.output.trans a0.u.output,by have:=hW.size;omega,bc⟩;exact⟨a8.u.below ar (by omega),a9.u.trans (ar.mono (by omega)),K.u.on (bc _ b2),World.rowIs.of_block bs.u ((bc _ (by omega)).trans (HF.u.block _ (by rintro(h|h)<;>omega)))⟩
 have ct:kH W5 W5 w4.heap.size (.int .i64 (m:Nat)) (.slice (some ⟨ab,ao,none⟩) A.n ca) (.slice none 0 0) (.slice none 0 0) (xr A mg 0) []:=⟨cs.u,World.ownsRow_nil _ _ _ _,World.ownsRow_nil _ _ _ _,(fun r hr=>by cases hr),aT.refl _ _,by omega⟩;have cw:=ae ct;clear ct cr cs a0 K HF a8 a9 bs br bv
 go_loopw [60] (fun iv wr=>∃ (i:Nat) (xv:Value),i<=256/\iv=.int .i64 (i:Nat)/\kH W5 wr w4.heap.size (.int .i64 (m:Nat)) (.slice (some ⟨ab,ao,none⟩) A.n ca) xv (.slice none 0 0) (xr A mg i) []) (fun iv _=>256-(intOf iv).toNat)
 case atStart=>exact⟨0,_,by omega,rfl,cw.u⟩
 clear cw;obtain⟨i,xv,hi,rfl,hC⟩:=hrel;obtain⟨w6,rfl⟩ : ∃ w6,w6=wr:=⟨_,rfl⟩;obtain⟨hD,o,d,hE⟩:=bb.u w6 hC.fr;have f6:=hC.fr.size
 by_cases hil:i<256
 ·have cx:(i:Int)<256:=by omega
  have bd:=hw.cls i hil;have y0:w6.cell? ⟨xb,xo+i,none⟩=some (.int .i64 (A.cl i:Nat)):=by rw[o.cell (p:=⟨xb,xo+i,none⟩) hxb];exact db.u i hil
  have k0:=d.cell bd;obtain⟨g0,-⟩:=hC.out.facts;have F:=hC.ox;obtain⟨oa,oc,e1⟩:=aj hC.ox;rw[jR]at e1;rw[jR,e1]at F;rw[e1]at g0;obtain⟨ci,a1⟩ : ∃ y,y=A.cl i:=⟨_,rfl⟩;rw[<-a1]at y0 k0 bd;have HC:=ae hC;have H:=ae e1;have ec:=ae a1;have cy:=ae g0;have d0:=ae k0;have a2:=ae F;clear hC hD o d hE e1 a1 g0 k0 F
  go_wp2_with fail;refine vJ w6 w4.heap.size (w.heap.size+2) A.k A.k ci (mg ci) i oc W5.heap.size oa _ bd (by omega) (by omega) (by omega) cy.u d0.u a2.u (fun WA w7 gg cap r1 r2 r3 hP=>?_)
  have hA:=HC.u.pushX (x:=mg ci) (v':=.slice (some ⟨gg,0,none⟩) (i+1) cap) hP.below (by rw[List.length_append,jR,List.map_append];exact r1) (by rw[H.u];exact r2) (fun q hq=>by
   rw[H.u];have ee:gg=q:=Option.some.inj hq;subst ee;rcases r3 with e|e
   ·exact .inl e
   exact .inr (by omega))
  rw[H.u]at hA;refine⟨hA.1,hA.2.1,?_⟩;have HA:=ae hA.2.2;clear hA r1 r2 r3 hP cy d0 a2 HC y0;go_wp2
  go_roundw
  case rel=>exact⟨i+1,_,by omega,by go_num,by rw[zK,<-ec.u];exact HA.u⟩
  simp[intOf];omega
 have cx:¬ (i:Int)<256:=by omega
 obtain rfl:i=256:=by omega
 obtain⟨f0,f1,f2,f3,-⟩:=hD.facts;have HC:=ae hC;clear hC hD o d hE
 go_wp2_with fail;clear f0 f1 f2 f3
 go_loopw [77] (fun qv wr=>∃ (q:Nat) (nv:Value),q<=A.n/\qv=.int .i64 (q:Nat)/\kH W5 wr w4.heap.size (.int .i64 (m:Nat)) (.slice (some ⟨ab,ao,none⟩) A.n ca) xv nv (xr A mg 256) (xl A G m (q*m))) (fun qv _=>A.n-(intOf qv).toNat)
 case atStart=>exact⟨0,_,by omega,rfl,by rw[Nat.zero_mul];exact HC.u⟩
 clear HC;obtain⟨q,nv,hq,rfl,hC⟩:=hrel;obtain⟨w7,rfl⟩ : ∃ w7,w7=wr:=⟨_,rfl⟩;obtain⟨hD,o,d,hE⟩:=bb.u w7 hC.fr;have df:=hC.fr.size
 by_cases hqn:q<A.n
 ·have d1:(q:Int)<(A.n:Int):=by omega
  obtain⟨f0,f1,f2,f3,-⟩:=hD.facts;have T:(q+1)*A.k<=L:=by rw[HL.u];exact Nat.mul_le_mul_right _ hqn
  have D:=kp (.slice (some ⟨xb,xo,none⟩) 256 xc) (.slice (some ⟨ab,ao,none⟩) A.n ca) b off L cN A.k q w7 T (by omega) hcN (by omega) hk;obtain⟨rq,E⟩ : ∃ rq,rq=q*A.k:=⟨_,rfl⟩;rw[<-E]at D;have U:=ae D;have b4:=ae E;have HC:=ae hC;clear D E T hC hD o d hE
  go_wp2_with fail;refine U.u.mono ?_;rintro e w8 ⟨rfl,O⟩;have d2:=ae (HC.u.keep O);clear HC U O f0 f1 f2 f3
  go_wp2_with fail
  go_loopw [13,84] (fun ev cv wr=>∃ (c met:Nat) (nv:Value),c<=A.k/\met<=m/\ev=.int .i64 (met:Nat)/\cv=.int .i64 (c:Nat)/\(∀ j,j<m->(G j<c↔j<met))/\kH W5 wr w4.heap.size (.int .i64 (m:Nat)) (.slice (some ⟨ab,ao,none⟩) A.n ca) xv nv (xr A mg 256) (xl A G m (q*m+met))) (fun _ cv _=>A.k-(intOf cv).toNat)
  case atStart=>exact⟨0,0,_,by omega,by omega,rfl,rfl,fun j _=>by omega,d2.u⟩
  clear d2;obtain⟨c,met,nv,hc,ek,rfl,rfl,a3,hC⟩:=hrel;obtain⟨hD,o,d,hE⟩:=bb.u wr hC.fr;have e4:=hC.fr.size
  by_cases hcl:c<A.k
  ·have Z:(c:Int)<(A.k:Int):=by omega
   obtain⟨x1,x2⟩:=HX.u q c hqn hcl;have y0:wr.cell? ⟨b,off+rq+c,none⟩=some (.int .i64 (A.nx q c:Nat)):=by rw[b4.u,Nat.add_assoc,o.cell (p:=⟨b,off+(q*A.k+c),none⟩) hb];exact x2
   have y1:=d.cell hcl;obtain⟨t1,t2,t3⟩:=C.u.num.meet hcl a3;obtain⟨-,-,g2,-⟩:=hC.out.facts;have d3:=C.u.num.lt c hcl;have el:(xl A G m (q*m+met)).length<=600000:=by
    rw[qC];have h1:q*m<=1024*256:=Nat.mul_le_mul (by omega) (by omega);omega
   obtain⟨nxt,l⟩ : ∃ y,y=A.nx q c:=⟨_,rfl⟩;obtain⟨mc,N⟩ : ∃ y,y=mg c:=⟨_,rfl⟩;rw[<-l]at y0;rw[<-N]at y1 t1 t2 t3 d3;have f7:=ae l
   by_cases heq:mc=met
   ·obtain⟨t4,t5⟩:=t1 heq;have hY:=xR A G (q:=q) t5;rw[t4,<-l]at hY;have T3:=ae (t3 heq);have av:((mc:Nat):Int)=(met:Int):=by omega
    obtain⟨na,nc,e1⟩:=aj hC.on;obtain⟨Y,ad⟩ : ∃ Y,Y=xl A G m (q*m+met):=⟨_,rfl⟩;rw[<-ad]at e1 el hY;have z:=hC.on;rw[<-ad,e1]at z;rw[e1]at g2;have be:=hC;rw[<-ad]at be;have HC:=ae be;have H:=ae e1;have a4:=ae z;have HY:=ae hY;subst heq;clear hC be hD o d hE x2 t1 t2 t3 t4 e1 z hY ad N l av a3
    go_wp2_with (at_builtin;refine wpList_append_own_at _ rfl _ _ 27 rfl W5.heap.size 3 i0 (.int .i64 0) 1 8 underlying27 d5 d6 d7 d8 rfl (by decide) _ _ _ rfl (a4.u.alloc _) ⟨wr.heap.size,0,none⟩ 1 1 [.int .i64 (nxt:Nat)] rfl rfl ?_ ?_ ?_ ?_ ?_ ?_)
    ·exact ef (dt _ _ _)
    ·intro u hu;simp at hu;subst hu;rfl
    ·unfold maxLen;omega
    ·omega
    ·rw[ah];omega
    intro v' w9 r1 r2 _ r3;have hA:=HC.u.pushN (x:=nxt) (v':=v') (ai wr _) (by rw[List.length_append,List.map_append];first|exact r1|(rw[ck];exact r1)) (by rw[H.u];exact r2) (fun q hq=>by
     rw[H.u];rcases r3 with e|e
     ·rw[e]at hq;exact .inl hq
     rw[e]at hq;have:=Option.some.inj hq;exact .inr (by omega))
    rw[H.u]at hA;obtain⟨va,vc,rfl⟩:=aj r1;have z1:=hA.1;have z2:=hA.2.1;have HA:=ae hA.2.2;clear hA r1 r2 r3 a4 HC g2 y0;go_wp2
    go_roundw
    case rel=>exact⟨c+1,mc+1,_,by omega,by omega,by go_num,by go_num,T3.u,by rw[HY.u];exact HA.u⟩
    simp[intOf];omega
   have av:¬ ((mc:Nat):Int)=(met:Int):=by omega
   have T2:=ae (t2 heq);have HC:=ae hC;clear hC hD o d hE x2 t1 t2 t3 a3 g2;go_wp2
   go_roundw
   case rel=>exact⟨c+1,met,_,by omega,by omega,rfl,by go_num,T2.u,HC.u⟩
   simp[intOf];omega
  have Z:¬ (c:Int)<(A.k:Int):=by omega
  obtain rfl:c=A.k:=by omega
  have em:met=m:=by
   apply Nat.le_antisymm ek
   apply Nat.le_of_not_lt
   intro aw;have:=(a3 met aw).1 (C.u.num.fst met aw).1;omega
  subst em;have HC:=ae hC;clear hC hD o d hE a3;go_wp2
  go_roundw
  case rel=>exact⟨q+1,_,by omega,by go_num,by rw[Nat.add_mul,Nat.one_mul];exact HC.u⟩
  simp[intOf];omega
 have d1:¬ (q:Int)<(A.n:Int):=by omega
 obtain rfl:q=A.n:=by omega
 obtain⟨g0,g1,g2,g3,-⟩:=hC.out.facts;obtain⟨x0,x1,x2,x3,z0,z1,z2,z3⟩:=hE.facts;obtain⟨na,nc,e1⟩:=aj hC.on;obtain⟨va,vc,e2⟩:=aj hC.ox;have z:=hC.on;have F:=hC.ox;have af:=hC.na;rw[qC]at e1;rw[jR]at e2;rw[qC,e1]at z;rw[jR,e2]at F;rw[e1,e2]at af;rw[e1]at g2;rw[e2]at g0;obtain⟨yl,a5⟩ : ∃ yl,yl=A.n*m:=⟨_,rfl⟩;rw[<-a5]at g2 z af;have d4:=(((hE.put0 (u:=.slice va 256 vc)).put1 (u:=.int .i64 (m:Nat))).put2 (u:=.slice na yl nc)).put3' (u:=.slice (some ⟨ab,ao,none⟩) A.n ca);have t:ce (w.heap.size+1) w7 ((((w7.setCell ⟨w.heap.size+1,0,none⟩ (.slice va 256 vc)).setCell ⟨w.heap.size+1,1,none⟩ (.int .i64 (m:Nat))).setCell ⟨w.heap.size+1,2,none⟩ (.slice na yl nc)).setCell ⟨w.heap.size+1,3,none⟩ (.slice (some ⟨ab,ao,none⟩) A.n ca)):=(((am _ _).trans (am _ _)).trans (am _ _)).trans (am _ _);have en:=ae d4;have ep:=ae t;have eq:=ae o;have a4:=ae z;have a2:=ae F;have er:=ae af;have es:=ae a5;clear hC hD o hE d e1 e2 z F af d4 t a5;go_wp2;refine bodyPost_ret (gJ en.u rfl _ rfl) rfl ?_;have t:=ep.u;have a6:=eq.u;refine⟨_,_,m,rfl,⟨t.os.trans a6.os,t.tape.trans a6.tape,t.output.trans a6.output,by rw[t.size];exact a6.size,fun k hk=>(t.block k (by omega)).trans (a6.block k hk)⟩,mg,G,C.u,ax,aO (ak a2.u (fun r hr=>t.block r (by have:=(a2.u.lt r hr).1;omega))) (by omega),?_,er.u⟩;rw[<-es.u];exact aO (ak a4.u (fun r hr=>t.block r (by have:=(a4.u.lt r hr).1;omega))) (by omega)
theorem dC{base e n:Nat}{w:World}{v:Value}{xs:List Value}(h:w.ownsRow base e 1 v n xs)(hp:0<n):∃ g cap,v=.slice (some ⟨g,0,none⟩) n cap/\base<=g/\g<w.heap.size/\n<=cap/\∀ j,j<n->w.cell? ⟨g,j,none⟩=xs[j]? :=by
 obtain⟨g,cap,m,F,rfl,hlt,hr,hm,hx,-⟩:=fm h hp;refine⟨g,cap,rfl,(h.lt g rfl).1,hlt,(qh h).le.1,fun j hj=>?_⟩;rw[hr.cell (by omega),hx j (by omega)]
theorem xV{base:Nat}{w:World}{v:Value}{A:Tb}{ys:List Nat}(h:w.ownsRow base 3 1 v (A.n*A.k) (ys.map mN))(hp:0<A.n*A.k)(hw:A.Wf)(hx:∀ q c,q<A.n->c<A.k->ys[q*A.k+c]?=some (A.nx q c)) :
  ∃ g cap,v=.slice (some ⟨g,0,none⟩) (A.n*A.k) cap/\base<=g/\g<w.heap.size/\A.n*A.k<=cap/\kw w g 0 A.n A.k A.nx:=by
 obtain⟨g,cap,e,hb,hg,hc,a⟩:=dC h hp;refine⟨g,cap,e,hb,hg,hc,fun q c hq hc2=>⟨hw.nxt q c hq hc2,?_⟩⟩;rw[Nat.zero_add,a _ (cO hq hc2),List.getElem?_map,hx q c hq hc2]
 rfl
theorem zP{base n:Nat}{w:World}{v:Value}{ac:Nat->Bool}{zs:List Bool}(h:w.ownsRow base 4 1 v n (zs.map mT))(hp:0<n)(hz:∀ q,q<n->zs[q]?=some (ac q)) :
  ∃ g cap,v=.slice (some ⟨g,0,none⟩) n cap/\base<=g/\g<w.heap.size/\∀ q,q<n->w.cell? ⟨g,0+q,none⟩=some (.bool (ac q)):=by
 obtain⟨g,cap,e,hb,hg,hc,a⟩:=dC h hp;refine⟨g,cap,e,hb,hg,fun q hq=>?_⟩;rw[Nat.zero_add,a q hq,List.getElem?_map,hz q hq]
 rfl
theorem jM(A:Tb)(xb xo xc b off cN ab ao ca:Nat)(w:World)(hw:A.Wf)(hup:∀ b,b<256->∀ c,c<A.cl b->∃ b',b'<b/\A.cl b'=c)(hf:A.Full)(hn:A.n<=1024)(hk:1<=A.k/\A.k<=256)(hcN:A.n*A.k<=cN)(hb:b<w.heap.size)(hx:kw w b off A.n A.k A.nx)
  (hxb:xb<w.heap.size)(hcl:∀ q,q<256->w.cell? ⟨xb,xo+q,none⟩=some (.int .i64 (A.cl q:Nat)))(hab:ab<w.heap.size)(hac:∀ q,q<A.n->w.cell? ⟨ab,ao+q,none⟩=some (.bool (A.ac q))) :
  Calls prog 26 #[.agg #[.slice (some ⟨xb,xo,none⟩) 256 xc,.int .i64 (A.k:Nat),.slice (some ⟨b,off,none⟩) (A.n*A.k) cN,.slice (some ⟨ab,ao,none⟩) A.n ca]] w fun e w'=>∃ (xv nv av:Value) (k:Nat),e=.returned (.agg #[xv,.int .i64 (k:Nat),nv,av])/\Below w.heap.size w w'/\
   ∃ (o ys:List Nat) (m:Nat) (num F mg G:Nat->Nat),bP A o ys m num F k mg G/\m<=1024/\k<=256/\w'.ownsRow w.heap.size 3 1 xv 256 ((gW (bP.out A o ys m num F k mg G)).map mI)/\w'.ownsRow w.heap.size 3 1 nv (m*k) ((gT (bP.out A o ys m num F k mg G)).map mI)/\w'.ownsRow w.heap.size 4 1 av m ((iO (bP.out A o ys m num F k mg G)).map mT)/\
    (∀ r,xv.ownBlock=some r->nv.ownBlock≠some r/\av.ownBlock≠some r)/\∀ r,nv.ownBlock=some r->av.ownBlock≠some r:=by
 obtain⟨W2,f⟩ : ∃ W2,W2=(w.alloc (.cells #[.slice (some ⟨xb,xo,none⟩) 256 xc,.int .i64 (A.k:Nat),.slice (some ⟨b,off,none⟩) (A.n*A.k) cN,.slice (some ⟨ab,ao,none⟩) A.n ca] 30)).alloc (.cells #[.slice none 0 0,.int .i64 0,.slice none 0 0,.slice none 0 0] 30):=⟨_,rfl⟩;have B:Below w.heap.size w W2:=by rw[f];exact aI w _ _
 have be:W2.heap.size=w.heap.size+2:=by rw[f,ah,ah]
 have Q:aC W2 w.heap.size 30 (.slice (some ⟨xb,xo,none⟩) 256 xc) (.int .i64 (A.k:Nat)) (.slice (some ⟨b,off,none⟩) (A.n*A.k) cN) (.slice (some ⟨ab,ao,none⟩) A.n ca):=by rw[f];exact(aC.new w _ _ _ _ _).alloc _
 have X:aC W2 (w.heap.size+1) 30 (.slice none 0 0) (.int .i64 0) (.slice none 0 0) (.slice none 0 0):=by
  have:=aC.new (w.alloc (.cells #[.slice (some ⟨xb,xo,none⟩) 256 xc,.int .i64 (A.k:Nat),.slice (some ⟨b,off,none⟩) (A.n*A.k) cN,.slice (some ⟨ab,ao,none⟩) A.n ca] 30)) 30 (.slice none 0 0) (.int .i64 0) (.slice none 0 0) (.slice none 0 0);rw[ah]at this;rw[f];exact this
 have R:=ae (qN A (.slice (some ⟨xb,xo,none⟩) 256 xc) b off cN ab ao ca W2 hw hn hk hcN (by omega) (fun q c hq hc=>⟨(hx q c hq hc).1,by rw[B.cell (p:=⟨b,off+(q*A.k+c),none⟩) hb];exact(hx q c hq hc).2⟩) (by omega) (fun q hq=>by rw[B.cell (p:=⟨ab,ao+q,none⟩) hab];exact hac q hq) ⟨_,_,_,rfl⟩);obtain⟨L,hL⟩ : ∃ L,L=A.n*A.k:=⟨_,rfl⟩;rw[<-hL]at hcN Q f ⊢;rw[<-hL]at R;obtain⟨f0,f1,f2,f3,-⟩:=Q.facts;have ag:=ae hcl;have Y:=ae hup;have Z:=ae f;have al:=ae B;have an:=ae X;clear hL hx hac f B Q X hcl hup
 go_enter func26,ntmps26
 go_wp2_with fail;rw[<-Z.u];refine R.u.mono ?_;rintro e w3 ⟨nv3,av3,rfl,S,o,ys,C,j,bp,I,J,-⟩;have a:=iX (ac:=A.ac) C j hw.cls Y.u hf;obtain⟨A1,g⟩ : ∃ A1,A1=bg A.k A.cl A.ac o ys:=⟨_,rfl⟩;rw[<-g]at a;have e1n:A1.n=o.length:=by rw[g];rfl
 have e1k:A1.k=A.k:=by rw[g];rfl
 have a0:=C.pos;obtain⟨g3,c3,rfl,bf,ap,aq,K⟩:=xV (A:=A1) (ys:=ys) (by rw[e1n,e1k,<-j];exact I) (by rw[e1n,e1k];exact Nat.mul_pos a0 (by omega)) a.wf (fun q c hq hc=>by
  rw[e1n]at hq;rw[e1k]at hc ⊢;rw[g];show ys[q*A.k+c]?=some (ys[q*A.k+c]?.getD 0);rw[List.getElem?_eq_getElem (by rw[j];exact cO hq hc)]
  rfl)
 obtain⟨a3,ca3,rfl,bl,ar,M⟩:=zP (ac:=A1.ac) J a0 (fun q hq=>by
  rw[g];show(o.map A.ac)[q]?=some ((o[q]?.map A.ac).getD false);rw[List.getElem?_map,List.getElem?_eq_getElem hq]
  rfl)
 have T:=ae (lN A1 (.slice (some ⟨xb,xo,none⟩) 256 xc) g3 0 c3 a3 0 ca3 w3 a.wf a.clAll (by omega) (by omega) aq ap K ar (by rw[e1n];exact M) ⟨_,_,_,rfl⟩);rw[e1k,e1n]at T;rw[e1k,e1n];have a1:=ae S;have aw:=ae C;have ax:=ae j;have a2:=ae a;have b0:=ae g;have bq:=ae e1n;have br:=ae e1k;have bs:=S.size;clear R Z S C j a g e1n e1k f0 f1 f2 f3 I J K M
 go_wp2_with fail;refine T.u.mono ?_;rintro e w4 ⟨nv4,av4,rfl,D,m,num,F,E,l,b1,N,s,-⟩;have bt:=D.size;have eA1:=b0.u;subst eA1;have a:=a2.u;have h:=nK a E l;have a5:0<m:=(E.zero a.wf.pos).2.2;obtain⟨g4,c4,rfl,bn,b2,b3,O⟩:=xV (A:=jc (bg A.k A.cl A.ac o ys) m num F) (ys:=uf (bg A.k A.cl A.ac o ys) num F (m*A.k)) N (Nat.mul_pos a5 (by show 0<A.k;omega)) h.wf (fun q c hq hc=>by
  have hlt:q*A.k+c<m*A.k:=cO hq hc;show(uf (bg A.k A.cl A.ac o ys) num F (m*A.k))[q*A.k+c]?=_;unfold uf;rw[List.getElem?_map,List.getElem?_range hlt];show some (num ((bg A.k A.cl A.ac o ys).nx (F ((q*A.k+c) / A.k)) ((q*A.k+c)%A.k)))=_;have a6:c<A.k:=hc;rw[(eh a6).1,(eh a6).2]
  rfl)
 obtain⟨a4,ca4,rfl,bo,bv,-⟩:=zP (ac:=(jc (bg A.k A.cl A.ac o ys) m num F).ac) s a5 (fun q hq=>by
  unfold uP;rw[List.getElem?_map,List.getElem?_range hq]
  rfl)
 have t:Below w.heap.size w w4:=al.u.trans ((a1.u.mono (by omega)).trans (D.mono (by omega)));have a7:=ae (kZ (jc (bg A.k A.cl A.ac o ys) m num F) xb xo xc g4 0 c4 a4 0 ca4 w4 h.wf (by show m<=1024;omega) hk b3 b2 O (by omega) (fun q hq=>by rw[t.cell (p:=⟨xb,xo+q,none⟩) hxb];exact ag.u q hq));have b4:=ae D;have b5:=ae t;have b6:=ae E;have b7:=ae l;have a8:=ae s;clear T D t E l N s O a h
 go_wp2_with fail;refine a7.u.mono ?_;rintro e w5 ⟨xv,nv5,k2,rfl,H,mg,G,a9,b8,v,i,x⟩;have bx:=H.size;have U:aC w5 (w.heap.size+1) 30 (.slice none 0 0) (.int .i64 0) (.slice none 0 0) (.slice none 0 0):=World.rowIs.of_block an.u ((H.block _ (by omega)).trans ((b4.u.block _ (by omega)).trans (a1.u.block _ (by omega))));obtain⟨x0,x1,x2,x3,z0,z1,z2,z3⟩:=U.facts;obtain⟨oa,oc,e1⟩:=aj v;obtain⟨na,nc,e2⟩:=aj i;subst e1;subst e2;obtain⟨yl,y⟩ : ∃ yl,yl=(jc (bg A.k A.cl A.ac o ys) m num F).n*k2:=⟨_,rfl⟩;rw[<-y]at i x ⊢;have aa:=(((U.put0 (u:=.slice oa 256 oc)).put1 (u:=.int .i64 (k2:Nat))).put2 (u:=.slice na yl nc)).put3' (u:=.slice (some ⟨a4,0,none⟩) m ca4);have d:ce (w.heap.size+1) w5 ((((w5.setCell ⟨w.heap.size+1,0,none⟩ (.slice oa 256 oc)).setCell ⟨w.heap.size+1,1,none⟩ (.int .i64 (k2:Nat))).setCell ⟨w.heap.size+1,2,none⟩ (.slice na yl nc)).setCell ⟨w.heap.size+1,3,none⟩ (.slice (some ⟨a4,0,none⟩) m ca4)):=(((am _ _).trans (am _ _)).trans (am _ _)).trans (am _ _);have b9:=ae aa;have bb:=ae d;have V:=ae i;have W:=ae v;have bc:=ae x;have ad:=ae a9;have af:=ae H;have bd:=ae y;clear a7 H a9 v i x U aa d y;go_wp2;refine bodyPost_ret (gJ b9.u rfl _ rfl) rfl ?_;have d:=bb.u;have z:=b5.u.trans (af.u.mono (by omega));have P:=ak a8.u (fun r hr=>af.u.block r (aB a8.u r hr));refine⟨_,_,_,k2,rfl,⟨d.os.trans z.os,d.tape.trans z.tape,d.output.trans z.output,Nat.le_trans z.size (Nat.le_of_eq d.size.symm),fun k hk=>(d.block k (by omega)).trans (z.block k hk)⟩,o,ys,m,num,F,mg,G,⟨hw,Y.u,hf,aw.u,ax.u,b6.u,b7.u,ad.u.num,ad.u.sm⟩,?_,?_,?_,?_,?_,fun r hr=>⟨bc.u r hr,fun e=>?_⟩,fun r hr e=>?_⟩
 ·have:m<=o.length:=b1;omega
 ·have:k2<=A.k:=b8;omega
 ·have e9:(gW (bP.out A o ys m num F k2 mg G)).map mI=(xr (jc (bg A.k A.cl A.ac o ys) m num F) mg 256).map mN:=by
   unfold gW xr;rw[List.map_map,List.map_map]
   rfl
  rw[e9];exact aO (ak W.u (fun r hr=>d.block r (by have:=(W.u.lt r hr).1;omega))) (by omega)
 ·have e9:(gT (bP.out A o ys m num F k2 mg G)).map mI=(xl (jc (bg A.k A.cl A.ac o ys) m num F) G k2 (m*k2)).map mN:=by
   unfold gT xl;rw[List.map_map,List.map_map]
   rfl
  rw[e9];have e10:yl=m*k2:=bd.u;rw[<-e10];have h9:=aO (ak V.u (fun r hr=>d.block r (by have:=(V.u.lt r hr).1;omega))) (b':=w.heap.size) (by omega);exact h9
 ·have e9:(iO (bP.out A o ys m num F k2 mg G)).map mT=(uP (bg A.k A.cl A.ac o ys) F m).map mT:=rfl;rw[e9];exact aO (ak P (fun r hr=>d.block r (by have:=(P.lt r hr).1;omega))) (by omega)
 ·have h1:=(W.u.lt r hr).1;have h2:=Option.some.inj e;have h3:a4=r:=h2;omega
 have h1:=(V.u.lt r hr).1;have h3:a4=r:=Option.some.inj e;omega
def ut(v:Value)(z:Nat):Nat->Prop:=fun q=>v.ownBlock=some q∨z<=q
theorem tL{w w':World}{v:Value}{o:Obj}(r2:(w.alloc o).grownBy w' v.ownBlock):aT (ut v w.heap.size) w w':=by
 have hz:w.heap.size<=(w.alloc o).heap.size:=by rw[ah];omega
 refine⟨r2.os,r2.tape,r2.output,Nat.le_trans hz r2.size,fun k hk=>?_⟩;have h1:v.ownBlock≠some k:=fun e=>hk (.inl e)
 have h2:k<w.heap.size:=by apply Nat.lt_of_not_le;intro e;exact hk (.inr e)
 have h3:=r2.block k (by rw[ah];omega) (Ne.symm h1);rw[h3];exact(ai w o).block k h2
theorem dz{w:World}{ops:Array Oper}{rest:List Oper}{o:Oper}{a:Act}{Q:Exit->Act->World->Prop}(hgd:o.guard=none)(s x:Operand)
  (ho:o.op=.call { callee:=.builtin .append,args:=#[s,x],argTypes:=#[27,27] })(base:Nat)(v:Value)(hs:a.eval s=v)(y:Nat)(hx:a.eval x=.slice (some ⟨w.heap.size,0,none⟩) 1 1)(xs:List Nat)
  (h1:w.ownsRow base 3 1 v xs.length (xs.map mN))(hb:base<=w.heap.size)(hl:xs.length<=1000000)
  (h:∀ v' w',w'.ownsRow base 3 1 v' (xs++[y]).length ((xs++[y]).map mN)->aT (ut v w.heap.size) w w'->(∀ q,v'.ownBlock=some q->v.ownBlock=some q∨w.heap.size<=q)->wpList prog ops Q rest (a.put o.dst v') w'):wpList prog ops Q (o::rest) a (w.alloc (.cells #[.int .i64 (y:Nat)] 3)):=by
 obtain⟨i0,hi,b,c,d⟩:=info_parts Tryz.zinInt;refine wpList_append_own_at _ hgd s x 27 ho base 3 i0 (.int .i64 0) 1 8 underlying27 hi b c d rfl (by decide) v xs.length (xs.map mN) hs (h1.alloc _) ⟨w.heap.size,0,none⟩ 1 1 [.int .i64 (y:Nat)] hx rfl (cell_one_new _ _ _) (fun u hu=>by rw[List.mem_singleton]at hu;subst hu;rfl) (by unfold maxLen;omega) (by omega) (by rw[ah];omega) ?_;intro v' w' r1 r2 _ r3;refine h v' w' (by rw[List.map_append,List.length_append];exact r1) (tL r2) (fun q hq=>?_)
 rcases r3 with e|e
 ·rw[e]at hq;exact .inl hq
 rw[e]at hq;cases hq;rw[ah];exact .inr (by omega)
theorem tX{w:World}{ops:Array Oper}{rest:List Oper}{o:Oper}{a:Act}{Q:Exit->Act->World->Prop}(hgd:o.guard=none)(s x:Operand)
  (ho:o.op=.call { callee:=.builtin .append,args:=#[s,x],argTypes:=#[28,28] })(base:Nat)(v:Value)(hs:a.eval s=v)(y:Bool)(hx:a.eval x=.slice (some ⟨w.heap.size,0,none⟩) 1 1)(xs:List Bool)
  (h1:w.ownsRow base 4 1 v xs.length (xs.map mT))(hb:base<=w.heap.size)(hl:xs.length<=1000000)
  (h:∀ v' w',w'.ownsRow base 4 1 v' (xs++[y]).length ((xs++[y]).map mT)->aT (ut v w.heap.size) w w'->(∀ q,v'.ownBlock=some q->v.ownBlock=some q∨w.heap.size<=q)->wpList prog ops Q rest (a.put o.dst v') w'):wpList prog ops Q (o::rest) a (w.alloc (.cells #[.bool y] 4)):=by
 obtain⟨i0,hi,b,c,d⟩:=info_parts Tryz.zinBoR;refine wpList_append_own_at _ hgd s x 28 ho base 4 i0 (.bool false) 1 1 underlying28 hi b c d rfl (by decide) v xs.length (xs.map mT) hs (h1.alloc _) ⟨w.heap.size,0,none⟩ 1 1 [.bool y] hx rfl (cell_one_new _ _ _) (fun u hu=>by rw[List.mem_singleton]at hu;subst hu;rfl) (by unfold maxLen;omega) (by omega) (by rw[ah];omega) ?_;intro v' w' r1 r2 _ r3;refine h v' w' (by rw[List.map_append,List.length_append];exact r1) (tL r2) (fun q hq=>?_)
 rcases r3 with e|e
 ·rw[e]at hq;exact .inl hq
 rw[e]at hq;cases hq;rw[ah];exact .inr (by omega)
def Ap(v u:Value):Prop:=∀ q,v.ownBlock=some q->u.ownBlock≠some q
theorem Ap.symm{v u:Value}(h:Ap v u):Ap u v:=fun q hq e=>h q e hq
theorem aT.own{base e sz n:Nat}{w w':World}{v u:Value}{xs:List Value}(h:aT (ut v w.heap.size) w w')(ho:w.ownsRow base e sz u n xs)(ha:Ap u v):w'.ownsRow base e sz u n xs:=
 ak ho fun q hq=>h.block q (fun hg=>by
  rcases hg with k|k
  ·exact ha q hq k
  have:=(ho.lt q hq).2;omega)
theorem Ap.grow{base e sz n:Nat}{w:World}{v v' u:Value}{xs:List Value}(ha:Ap u v)(ho:w.ownsRow base e sz u n xs)(hv:∀ q,v'.ownBlock=some q->v.ownBlock=some q∨w.heap.size<=q):Ap u v':=fun q hq e9=>by
 rcases hv q e9 with k|k
 ·exact ha q hq k
 have:=(ho.lt q hq).2;omega
theorem aT.belowG{base e sz n m:Nat}{w w':World}{v:Value}{xs:List Value}(h:aT (ut v w.heap.size) w w')(ho:w.ownsRow base e sz v n xs)(hm:m<=base)(hb:base<=w.heap.size):Below m w w':=
 h.below fun k hk hg=>by
  rcases hg with e|e
  ·have:=(ho.lt k e).1;omega
  omega
structure FG (A:Tb) (n k:Nat) (xb xo xc b off L cN ab ao ca D pb:Nat) (pv:Nat->Int) (w:World):Prop where
 d:aC w D 30 (.slice (some ⟨xb,xo,none⟩) 256 xc) (.int .i64 (k:Nat)) (.slice (some ⟨b,off,none⟩) L cN) (.slice (some ⟨ab,ao,none⟩) n ca)
 p:w.rowIs pb 3 n (fun q=>.int .i64 (pv q))
 x:kw w b off n k A.nx
 c:∀ q,q<256->w.cell? ⟨xb,xo+q,none⟩=some (.int .i64 (A.cl q:Nat))
 a:∀ q,q<n->w.cell? ⟨ab,ao+q,none⟩=some (.bool (A.ac q))
theorem FG.keep{A:Tb}{n k:Nat}{xb xo xc b off L cN ab ao ca D pb g:Nat}{pv:Nat->Int}{w w':World}(h:FG A n k xb xo xc b off L cN ab ao ca D pb pv w)(hB:Below g w w')(h1:D<g)(h2:pb<g)(h3:b<g)(h4:ab<g)(h5:xb<g):FG A n k xb xo xc b off L cN ab ao ca D pb pv w' where
 d:=h.d.below hB h1
 p:=h.p.of_block (hB.block pb h2)
 x:=fun q c hq hc=>⟨(h.x q c hq hc).1,by rw[hB.cell (p:=⟨b,off+(q*k+c),none⟩) h3];exact(h.x q c hq hc).2⟩
 c:=fun q hq=>by rw[hB.cell (p:=⟨xb,xo+q,none⟩) h5];exact h.c q hq
 a:=fun q hq=>by rw[hB.cell (p:=⟨ab,ao+q,none⟩) h4];exact h.a q hq
theorem mE(u v:Value)(xs ys:List Int)(e f:Bool)(w:World)(hu:aK mI 0 0 w.heap.size w u xs)(hv:aK mI 0 0 w.heap.size w v ys) :
  Calls prog 73 #[.agg #[u,.bool e],.agg #[v,.bool f]] w fun x w'=>aJ x (xs=ys/\e=f)/\Below w.heap.size w w':=by
 obtain⟨a,c,rfl,-,-⟩:=id hu;obtain⟨a2,c2,rfl,-,-⟩:=id hv;have hB:=aI w (.cells #[.slice a xs.length c,.bool e] 79) (.cells #[.slice a2 ys.length c2,.bool f] 79);have HC:=ae (tF _ _ xs ys _ (hu.below hB lR) (hv.below hB lR));have HB:=ae hB;clear hu hv hB;cases e<;>cases f
 ·go_enter func73,ntmps73
  go_wp2_with fail;refine HC.u.mono ?_;rintro x w1 ⟨hr,q,rfl⟩;rcases hr.cases with ⟨rfl,h⟩|⟨rfl,h⟩
  ·have HH:=ae h;clear h hr;go_wp2;go_ret;exact⟨aJ.yes ⟨HH.u,by simp⟩,below_drewN HB.u _⟩
  go_wp2;go_ret;exact⟨aJ.no (fun k=>h k.1),below_drewN HB.u _⟩
 ·go_enter func73,ntmps73
  go_wp2;go_ret;exact⟨aJ.no (fun k=>by cases k.2),HB.u⟩
 ·go_enter func73,ntmps73
  go_wp2;go_ret;exact⟨aJ.no (fun k=>by cases k.2),HB.u⟩
 go_enter func73,ntmps73
 go_wp2_with fail;refine HC.u.mono ?_;rintro x w1 ⟨hr,q,rfl⟩;rcases hr.cases with ⟨rfl,h⟩|⟨rfl,h⟩
 ·have HH:=ae h;clear h hr;go_wp2;go_ret;exact⟨aJ.yes ⟨HH.u,by simp⟩,below_drewN HB.u _⟩
 go_wp2;go_ret;exact⟨aJ.no (fun k=>h k.1),below_drewN HB.u _⟩
def xi(S:List (List Int))(a b:Nat):Prop:=∀ i,i<S.length->(eF (S[i]?.getD []) (a:Int)↔eF (S[i]?.getD []) (b:Int))
theorem Bi(S:List (List Int)):AR (fun _=>True) (xi S):=⟨fun _ _ _ _=>Iff.rfl,fun _ _ _ _ h i hi=>(h i hi).symm,fun _ _ _ _ _ _ h g i hi=>(h i hi).trans (g i hi)⟩
theorem zZ(v:Value)(set:List Int)(b N:Nat)(r:Bool)(w:World)(hr:r=true↔eF set (b:Int))(hv:aK mI 0 0 N w v set)(hN:N<=w.heap.size)(hl:set.length<=1048576) :
  Calls prog 71 #[v,.int .i64 (b:Nat)] w fun e w'=>e=.returned (.bool r)/\w'=w:=
 (xf v set b w (hv.mono lR hN) hl).mono (fun e w' ⟨⟨r',h1,h2⟩,h3⟩=>⟨by rw[h1];congr 2;rw[Bool.eq_iff_iff,h2,hr],h3⟩)
open Classical in
theorem ru(sv:Value)(S:List (List Int))(w:World)(hS:lM mI 0 w.heap.size w sv S)(hn:S.length<=1000)(hl:∀ i:Nat,i<S.length->(S[i]?.getD []).length<=1048576) :
  Calls prog 38 #[sv] w fun e w'=>∃ (v:Value) (out:List Nat),e=.returned v/\w'.ownsRow w.heap.size 3 1 v 256 (out.map mN)/\out.length=256/\(∀ b,b<256->eX (fun _=>True) (fun p=>out[p]?.getD 0=p) (xi S) b (out[b]?.getD 0))/\Below w.heap.size w w':=by
 obtain⟨sa,sc,rfl,af,U⟩:=id hS;have HL:=ae hl;have HS:=ae hS;have a4:=ae U;clear hS U hl
 go_enter func38,ntmps38
 go_wp2_with fail
 go_loopw [3,4] (fun ov bv wr=>∃ (b:Nat) (out:List Nat),b<=256/\bv=.int .i64 (b:Nat)/\out.length=b/\wr.ownsRow w.heap.size 3 1 ov out.length (out.map mN)/\Below w.heap.size w wr/\∀ j,j<b->eX (fun _=>True) (fun p=>out[p]?.getD 0=p) (xi S) j (out[j]?.getD 0)) (fun _ bv _=>256-(intOf bv).toNat)
 case atStart=>exact⟨0,[],by omega,rfl,rfl,World.ownsRow_nil _ _ _ _,Below.refl _ _,fun j hj=>by omega⟩
 obtain⟨b,out,hb,rfl,l,q,hB,hV⟩:=hrel;obtain⟨w1,rfl⟩ : ∃ w1,w1=wr:=⟨_,rfl⟩;have ag:=hB.size;obtain⟨oa,oc,rfl⟩:=aj q;have al:out.length<=256:=by omega
 have HO:=ae q;have HB:=ae hB;have HV:=ae hV;have d:=ae l;clear q hB hV l
 by_cases hlt:b<256
 ·have V:(b:Int)<256:=by omega
  go_wp2_with fail
  go_loopw [5] (fun cv wx=>∃ c:Nat,c<=b/\cv=.int .i64 (c:Nat)/\ce w1.heap.size w1 wx/\∀ p,p<c->out[p]?.getD 0=p->¬ xi S p b) (fun cv _=>b-(intOf cv).toNat)
  case atStart=>exact⟨0,by omega,rfl,ce.refl _ _,fun p hp=>by omega⟩
  obtain⟨c,hc,rfl,hO,F⟩:=hrel;obtain⟨w2,rfl⟩ : ∃ w2,w2=wr:=⟨_,rfl⟩;have an:=Nat.le_of_eq hO.size.symm;have m:=ak HO.u (fun g hg=>hO.block g (by have:=(HO.u.lt g hg).2;omega));have K:Below w.heap.size w w2:=HB.u.trans (hO.blw.mono (by omega))
  by_cases hcl:c<b
  ·have W:(c:Int)<(b:Int):=by omega
   have X:c<out.length:=by rw[d.u];exact hcl
   have ad:(c:Int)<(out.length:Int):=by omega
   obtain⟨x,hx⟩ : ∃ x,out[c]?=some x:=⟨_,List.getElem?_eq_getElem X⟩;obtain⟨og,ocap,e9,r⟩:=eu m (by omega);have Y:oa=some ⟨og,0,none⟩/\oc=ocap:=by simpa using e9
   obtain⟨era,erc⟩:=Y;have y0:w2.cell? ⟨og,c,none⟩=some (.int .i64 (x:Nat)):=by rw[r c X,List.getElem?_map,hx];rfl
   have HX:=ae hx;have t:=ae F;have f:=ae hO;clear hx F hO r e9 m K;subst era;subst erc
   by_cases hxc:x=c
   ·have G:(x:Int)=(c:Int):=by omega
    rw[G]at y0;clear G;have a5:=ae hxc;clear hxc
    go_wp2_with fail
    go_loopw [6,7] (fun mv iv wx=>∃ (i:Nat) (sm:Bool),i<=S.length/\iv=.int .i64 (i:Nat)/\mv=.bool sm/\ce w1.heap.size w1 wx/\(sm=true->∀ i',i'<i->(eF (S[i']?.getD []) (b:Int)↔eF (S[i']?.getD []) (c:Int)))/\(sm=false->∃ i',i'<S.length/\¬ (eF (S[i']?.getD []) (b:Int)↔eF (S[i']?.getD []) (c:Int)))) (fun _ iv _=>S.length-(intOf iv).toNat)
    case atStart=>exact⟨0,true,by omega,rfl,by simp,f.u,fun _ i' hi'=>by omega,fun h=>by cases h⟩
    clear f;obtain⟨i,sm,hi,rfl,rfl,hO,y,H⟩:=hrel;obtain⟨w3,rfl⟩ : ∃ w3,w3=wr:=⟨_,rfl⟩;have a6:=Nat.le_of_eq hO.size.symm;cases sm
    ·have f:=ae hO;have Z:=ae (H rfl);clear hO y H
     by_cases hil:i<S.length
     ·have n:(i:Int)<(S.length:Int):=by omega
      go_wp2
      go_roundw
      case rel=>exact⟨c+1,by omega,by go_num,f.u,fun p hp hl=>(by
       by_cases e:p=c
       ·subst e;obtain⟨i',h1,h2⟩:=Z.u;exact fun hh=>h2 (hh i' h1).symm
       exact t.u p (by omega) hl)⟩
      simp[intOf];omega
     have n:¬ (i:Int)<(S.length:Int):=by omega
     go_wp2
     go_roundw
     case rel=>exact⟨c+1,by omega,by go_num,f.u,fun p hp hl=>(by
      by_cases e:p=c
      ·subst e;obtain⟨i',h1,h2⟩:=Z.u;exact fun hh=>h2 (hh i' h1).symm
      exact t.u p (by omega) hl)⟩
     simp[intOf];omega
    by_cases hil:i<S.length
    ·have n:(i:Int)<(S.length:Int):=by omega
     obtain⟨sb,so,e8,a7,a0⟩:=a4.u (by omega);obtain⟨s,J,I,-⟩:=a0 i hil;have o:Below w.heap.size w w3:=HB.u.trans (hO.blw.mono (by omega));have y1:w3.cell? ⟨sb,so+i,none⟩=some s:=by rw[o.cell (p:=⟨sb,so+i,none⟩) a7];exact J
     have z:=I.below o lR;have l:=HL.u i hil;have f:=ae hO;have a8:=ae (y rfl);obtain⟨si,L⟩ : ∃ si,si=S[i]?.getD []:=⟨_,rfl⟩;rw[<-L]at I z l;obtain⟨rb,M⟩ : ∃ rb:Bool,rb=true↔eF si (b:Int):=⟨decide (eF si (b:Int)),decide_eq_true_iff⟩;obtain⟨rcc,N⟩ : ∃ rc:Bool,rc=true↔eF si (c:Int):=⟨decide (eF si (c:Int)),decide_eq_true_iff⟩;have a1:Hi (rb=rcc↔(eF (S[i]?.getD []) (b:Int)↔eF (S[i]?.getD []) (c:Int))):=by show(rb=rcc↔_);rw[<-L,<-M,<-N,Bool.eq_iff_iff]
     have a9:=ae M;have aa:=ae N;obtain⟨ss,sl,e7,-,-⟩:=id I;subst e7;have a2:=ae z;subst e8;clear a0 J I z o M N hO y H L
     go_wp2_with fail;refine aX 12 (by kernel_rfl) (by kernel_rfl) ?_;simp only[List.take_succ_cons,List.take_zero,List.drop_succ_cons,List.drop_zero]
     repeat (first|go_big_quiet_skip|(go_big_quiet_want;go_big_quiet_op;go_big_quiet_on))
     go_big_quiet_want
     go_big_quiet_op;refine⟨_,zZ _ si b w3.heap.size _ _ a9.u (by exact a2.u) lR l,?_⟩
     go_big_quiet_on
     repeat (first|go_big_quiet_skip|(go_big_quiet_want;go_big_quiet_op;go_big_quiet_on))
     go_big_quiet_want
     go_big_quiet_op;refine⟨_,zZ _ si c w3.heap.size _ _ aa.u (by exact a2.u) lR l,?_⟩
     go_big_quiet_on
     repeat (first|go_big_quiet_skip|(go_big_quiet_want;go_big_quiet_op;go_big_quiet_on))
     refine wpQuiet_nil ?_;go_wp2
     ·have hne:rb≠rcc:=by
       intro e;subst e
       simp_all
      go_roundw
      case rel=>exact⟨i+1,false,by omega,by go_num,rfl,f.u.drew,(fun h=>by cases h),fun _=>⟨i,hil,fun h=>hne (a1.u.2 h)⟩⟩
      simp[intOf];omega
     have ab:rb=rcc:=by
      rename_i hcd
      cases rb<;>cases rcc<;>simp at hcd ⊢
     go_roundw
     case rel=>exact⟨i+1,true,by omega,by go_num,rfl,f.u.drew,fun _ i' hi'=>(by
      by_cases e:i'=i
      ·subst e;exact a1.u.1 ab
      exact a8.u i' (by omega)),fun h=>by cases h⟩
     simp[intOf];omega
    have n:¬ (i:Int)<(S.length:Int):=by omega
    obtain rfl:i=S.length:=by omega
    have a3:xi S c b:=fun i' hi'=>(y rfl i' hi').symm
    have A:=ak HO.u (fun g hg=>hO.block g (by have:=(HO.u.lt g hg).2;omega));have o:Below w.heap.size w w3:=HB.u.trans (hO.blw.mono (by omega));have hF:eX (fun _=>True) (fun p=>out[p]?.getD 0=p) (xi S) b c:=.inl ⟨hcl,trivial,by show out[c]?.getD 0=c;rw[HX.u];exact a5.u,a3,fun p hp _ hl=>t.u p hp hl⟩;have HF:=ae hF;have B:=ae A;have O:=ae o;clear hO y H a3 A o hF
    go_wp2_with (at_builtin;refine dz rfl _ _ rfl w.heap.size (.slice (some ⟨og,0,none⟩) out.length oc) rfl c rfl out B.u ?_ ?_ ?_)
    ·omega
    ·omega
    intro ov4 w4 r1 r2 r3;have C:Below w.heap.size w w4:=O.u.trans (r2.belowG B.u lR (by omega));obtain⟨out2,a⟩ : ∃ out2,out2=out++[c]:=⟨_,rfl⟩;have r1:w4.ownsRow w.heap.size 3 1 ov4 out2.length (out2.map mN):=by rw[a,List.length_append,List.map_append];exact r1
    have D:out2.length=b+1:=by rw[a,List.length_append,d.u];rfl
    have E:∀ j,j<b+1->eX (fun _=>True) (fun p=>out2[p]?.getD 0=p) (xi S) j (out2[j]?.getD 0):=fun j hj=>by
     have k:∀ p,p<b->out2[p]?.getD 0=out[p]?.getD 0:=fun p hp=>by rw[a];exact bM (by rw[d.u];exact hp)
     by_cases e:j=b
     ·subst e;have:out2[j]?.getD 0=c:=by
       rw[a];have:=dl (ys:=out) (j:=c);rw[d.u]at this;exact this
      rw[this];exact HF.u.congr (fun _ _=>Iff.rfl) (fun p hp _=>by rw[k p hp]) (fun _ _ _=>Iff.rfl)
     rw[k j (by omega)];exact(HV.u j (by omega)).congr (fun _ _=>Iff.rfl) (fun p hp _=>by rw[k p (by omega)]) (fun _ _ _=>Iff.rfl)
    have P:=ae r1;have Q:=ae C;have R:=ae D;have T:=ae E;clear r1 r2 r3 C a D E;go_wp2
    go_roundw
    case rel=>exact⟨b+1,out2,by omega,by go_num,R.u,P.u,Q.u,T.u⟩
    simp[intOf];omega
   have G:¬ (x:Int)=(c:Int):=by omega
   go_wp2_with fail
   go_loopw [6,7] (fun mv iv wx=>∃ (i:Nat),i=0/\iv=.int .i64 (i:Nat)/\mv=.bool false/\ce w1.heap.size w1 wx) (fun _ iv _=>S.length-(intOf iv).toNat)
   case atStart=>exact⟨0,rfl,rfl,by rw[beq_eq_false_iff_ne.mpr G],f.u⟩
   clear f;obtain⟨i,rfl,rfl,rfl,hO⟩:=hrel;obtain⟨w3,rfl⟩ : ∃ w3,w3=wr:=⟨_,rfl⟩;have a6:=Nat.le_of_eq hO.size.symm;have f:=ae hO;clear hO
   by_cases hil:0<S.length
   ·have n:(0:Int)<(S.length:Int):=by omega
    go_wp2
    go_roundw
    case rel=>exact⟨c+1,by omega,by go_num,f.u,fun p hp hl=>(by
     by_cases e:p=c
     ·subst e;rw[HX.u]at hl;exact absurd hl hxc
     exact t.u p (by omega) hl)⟩
    simp[intOf];omega
   have n:¬ (0:Int)<(S.length:Int):=by omega
   go_wp2
   go_roundw
   case rel=>exact⟨c+1,by omega,by go_num,f.u,fun p hp hl=>(by
    by_cases e:p=c
    ·subst e;rw[HX.u]at hl;exact absurd hl hxc
    exact t.u p (by omega) hl)⟩
   simp[intOf];omega
  have W:¬ (c:Int)<(b:Int):=by omega
  obtain rfl:c=b:=by omega
  have hF:eX (fun _=>True) (fun p=>out[p]?.getD 0=p) (xi S) c c:=.inr ⟨rfl,fun p hp _ hl=>F p hp hl⟩;have HF:=ae hF;have B:=ae m;have O:=ae K;clear hO F m K hF
  go_wp2_with (at_builtin;refine dz rfl _ _ rfl w.heap.size (.slice (oa) out.length oc) rfl c rfl out B.u ?_ ?_ ?_)
  ·omega
  ·omega
  intro ov4 w4 r1 r2 r3;have C:Below w.heap.size w w4:=O.u.trans (r2.belowG B.u lR (by omega));obtain⟨out2,a⟩ : ∃ out2,out2=out++[c]:=⟨_,rfl⟩;have r1:w4.ownsRow w.heap.size 3 1 ov4 out2.length (out2.map mN):=by rw[a,List.length_append,List.map_append];exact r1
  have D:out2.length=c+1:=by rw[a,List.length_append,d.u];rfl
  have E:∀ j,j<c+1->eX (fun _=>True) (fun p=>out2[p]?.getD 0=p) (xi S) j (out2[j]?.getD 0):=fun j hj=>by
   have k:∀ p,p<c->out2[p]?.getD 0=out[p]?.getD 0:=fun p hp=>by rw[a];exact bM (by rw[d.u];exact hp)
   by_cases e:j=c
   ·subst e;have:out2[j]?.getD 0=j:=by
     rw[a];have:=dl (ys:=out) (j:=j);rw[d.u]at this;exact this
    rw[this];exact HF.u.congr (fun _ _=>Iff.rfl) (fun p hp _=>by rw[k p hp]) (fun _ _ _=>Iff.rfl)
   rw[k j (by omega)];exact(HV.u j (by omega)).congr (fun _ _=>Iff.rfl) (fun p hp _=>by rw[k p (by omega)]) (fun _ _ _=>Iff.rfl)
  have P:=ae r1;have Q:=ae C;have R:=ae D;have T:=ae E;clear r1 r2 r3 C a D E;go_wp2
  go_roundw
  case rel=>exact⟨c+1,out2,by omega,by go_num,R.u,P.u,Q.u,T.u⟩
  simp[intOf];omega
 have V:¬ (b:Int)<256:=by omega
 obtain rfl:b=256:=by omega
 go_wp2;go_ret;exact⟨_,rfl,out,by have h:=HO.u;rw[d.u]at h ⊢;exact h,d.u,HV.u,HB.u⟩
end Go.Proofs.YtidfkbghlkcbeaaGreatDoor
