import Derived.Test.YtpmcjimgkabpeaaGreatDoorPk37
import Derived.Test.YtpmcjimgkabpeaaGreatDoorCards
import Derived.Test.YtpmcjimgkabpeaaGreatDoorTie
import Derived.Deep.DeepHandedRow
import Derived.Lib.LaidTab
import Derived.LaidSub
import Derived.SevenTiedAt
namespace Go.Proofs.YtpmcjimgkabpeaaGreatDoor
open Go.RowKit Go.Proofs.Tryz
set_option maxHeartbeats 16000000
set_option maxRecDepth 100000
theorem lO{w w2:World}{v:Value}(r2:aR (uX v w.heap.size) w w2):∀ k,k<w.heap.size->v.ownBlock≠some k->w2.heap[k]?=w.heap[k]? :=fun k hk hne=>r2.block k (by rintro(q|q)<;>first|exact hne q|omega)
def Ed(p:(Nat->Nat)×Bool):Value:=pd p.1 p.2
structure cF (w0 w:World) (db mb kb qb lo:Nat) (cl:Value) (k:Nat) (ks o:List ((Nat->Nat)×Bool)) (tk:Nat) (ys:List Nat) (zs:List Bool) (qv nv av:Value):Prop where
 e1:w0.heap.size<db/\db<lo/\w0.heap.size<mb/\mb<lo/\w0.heap.size<kb/\kb<lo/\w0.heap.size<qb/\qb<lo
 e2:db≠mb/\db≠kb/\db≠qb/\mb≠kb/\mb≠qb/\kb≠qb
 res:∃ F,w.rowIs w0.heap.size 33 4 F
 d:aD w db 33 cl (.int .i64 (k:Nat)) nv av
 num:ba 114 w mb (ks.map Ed)
 kn:w.rowIs kb 119 1 (fun _=>.map (some mb))
 q:eJ w qb 123 qv (.int .i64 (tk:Nat))
 oq:w.ownsRow lo 114 9 qv o.length (vL o)
 on:w.ownsRow lo 3 1 nv ys.length (ys.map mN)
 oa:w.ownsRow lo 4 1 av zs.length (zs.map mT)
 qn:∀ r,qv.ownBlock=some r->nv.ownBlock≠some r/\av.ownBlock≠some r
 na:∀ r,nv.ownBlock=some r->av.ownBlock≠some r
 bl:Below w0.heap.size w0 w
 sz:lo<=w.heap.size
section
variable {w0 w w':World} {db mb kb qb lo:Nat} {cl:Value} {k:Nat} {ks o:List ((Nat->Nat)×Bool)} {tk:Nat} {ys:List Nat} {zs:List Bool} {qv nv av:Value}
theorem cF.keep(h:cF w0 w db mb kb qb lo cl k ks o tk ys zs qv nv av)(hb:Below w.heap.size w w'):cF w0 w' db mb kb qb lo cl k ks o tk ys zs qv nv av:=by
 have hz:=h.sz;obtain⟨a1,a2,a3,a4,a5,a6,a7,a8⟩:=h.e1;have e:∀ k,k<w.heap.size->w'.heap[k]?=w.heap[k]? :=fun k hk=>hb.block k hk
 obtain⟨F,hF⟩:=h.res;exact⟨h.e1,h.e2,⟨F,hF.of_block (e _ (by omega))⟩,World.rowIs.of_block h.d (e _ (by omega)),h.num.keep (e _ (by omega)),h.kn.of_block (e _ (by omega)),h.q.on (e _ (by omega)),ak h.oq (fun r hr=>e r (aB h.oq r hr)),ak h.on (fun r hr=>e r (aB h.on r hr)),ak h.oa (fun r hr=>e r (aB h.oa r hr)),h.qn,h.na,h.bl.trans (hb.mono (by have:=h.bl.size;omega)),by have:=hb.size;omega⟩
theorem cF.looked{ks':List ((Nat->Nat)×Bool)}(h:cF w0 w db mb kb qb lo cl k ks o tk ys zs qv nv av)(hf:aR (dD w mb) w w')(hn:ba 114 w' mb (ks'.map Ed)):cF w0 w' db mb kb qb lo cl k ks' o tk ys zs qv nv av:=by
 have hz:=h.sz;obtain⟨a1,a2,a3,a4,a5,a6,a7,a8⟩:=h.e1;obtain⟨c1,c2,c3,c4,c5,c6⟩:=h.e2;have e:∀ k,k<w.heap.size->k≠mb->w'.heap[k]?=w.heap[k]? :=fun k hk hne=>hf.block k (by rintro(h1|h1)<;>omega)
 obtain⟨F,hF⟩:=h.res;exact⟨h.e1,h.e2,⟨F,hF.of_block (e _ (by omega) (by omega))⟩,World.rowIs.of_block h.d (e _ (by omega) (by omega)),hn,h.kn.of_block (e _ (by omega) (by omega)),h.q.on (e _ (by omega) (by omega)),ak h.oq (fun r hr=>e r (aB h.oq r hr) (by have:=(h.oq.lt r hr).1;omega)),ak h.on (fun r hr=>e r (aB h.on r hr) (by have:=(h.on.lt r hr).1;omega)),ak h.oa (fun r hr=>e r (aB h.oa r hr) (by have:=(h.oa.lt r hr).1;omega)),h.qn,h.na,⟨hf.os.trans h.bl.os,hf.tape.trans h.bl.tape,hf.output.trans h.bl.output,Nat.le_trans h.bl.size hf.size,fun k hk=>(e k (by have:=h.bl.size;omega) (by omega)).trans (h.bl.block k hk)⟩,by have:=hf.size;omega⟩
theorem cF.popd(h:cF w0 w db mb kb qb lo cl k ks o tk ys zs qv nv av)(hf:aR (dD w qb) w w')(hq:eJ w' qb 123 qv (.int .i64 ((tk+1:Nat):Int))):cF w0 w' db mb kb qb lo cl k ks o (tk+1) ys zs qv nv av:=by
 have hz:=h.sz;obtain⟨a1,a2,a3,a4,a5,a6,a7,a8⟩:=h.e1;obtain⟨c1,c2,c3,c4,c5,c6⟩:=h.e2;have e:∀ k,k<w.heap.size->k≠qb->w'.heap[k]?=w.heap[k]? :=fun k hk hne=>hf.block k (by rintro(h1|h1)<;>omega)
 obtain⟨F,hF⟩:=h.res;exact⟨h.e1,h.e2,⟨F,hF.of_block (e _ (by omega) (by omega))⟩,World.rowIs.of_block h.d (e _ (by omega) (by omega)),h.num.keep (e _ (by omega) (by omega)),h.kn.of_block (e _ (by omega) (by omega)),hq,ak h.oq (fun r hr=>e r (aB h.oq r hr) (by have:=(h.oq.lt r hr).1;omega)),ak h.on (fun r hr=>e r (aB h.on r hr) (by have:=(h.on.lt r hr).1;omega)),ak h.oa (fun r hr=>e r (aB h.oa r hr) (by have:=(h.oa.lt r hr).1;omega)),h.qn,h.na,⟨hf.os.trans h.bl.os,hf.tape.trans h.bl.tape,hf.output.trans h.bl.output,Nat.le_trans h.bl.size hf.size,fun k hk=>(e k (by have:=h.bl.size;omega) (by omega)).trans (h.bl.block k hk)⟩,by have:=hf.size;omega⟩
theorem cF.pushQ{v':Value}{x:(Nat->Nat)×Bool}(h:cF w0 w db mb kb qb lo cl k ks o tk ys zs qv nv av)(r1:w'.ownsRow lo 114 9 v' (o++[x]).length (vL (o++[x])))(hq:eJ w' qb 123 v' (.int .i64 (tk:Nat)))(hf:aR (fun k=>k=qb∨qv.ownBlock=some k∨w.heap.size<=k) w w')(r3:∀ q,v'.ownBlock=some q->qv.ownBlock=some q∨w.heap.size<=q) :
  cF w0 w' db mb kb qb lo cl k ks (o++[x]) tk ys zs v' nv av:=by
 have hz:=h.sz;obtain⟨a1,a2,a3,a4,a5,a6,a7,a8⟩:=h.e1;obtain⟨c1,c2,c3,c4,c5,c6⟩:=h.e2;have e:∀ k,k<w.heap.size->k≠qb->qv.ownBlock≠some k->w'.heap[k]?=w.heap[k]? :=fun k hk hne hq=>hf.block k (by rintro(h1|h1|h1)<;>first|omega|exact hq h1)
 have nq:∀ k,k<lo->qv.ownBlock≠some k:=fun k hk e=>by have:=(h.oq.lt k e).1;omega
 obtain⟨F,hF⟩:=h.res;refine⟨h.e1,h.e2,⟨F,hF.of_block (e _ (by omega) (by omega) (nq _ (by omega)))⟩,World.rowIs.of_block h.d (e _ (by omega) (by omega) (nq _ (by omega))),h.num.keep (e _ (by omega) (by omega) (nq _ (by omega))),h.kn.of_block (e _ (by omega) (by omega) (nq _ (by omega))),hq,r1,ak h.on (fun r hr=>e r (aB h.on r hr) (by have:=(h.on.lt r hr).1;omega) (fun e2=>(h.qn r e2).1 hr)),ak h.oa (fun r hr=>e r (aB h.oa r hr) (by have:=(h.oa.lt r hr).1;omega) (fun e2=>(h.qn r e2).2 hr)),fun r hr=>?_,h.na,⟨hf.os.trans h.bl.os,hf.tape.trans h.bl.tape,hf.output.trans h.bl.output,Nat.le_trans h.bl.size hf.size,fun k hk=>(e k (by have:=h.bl.size;omega) (by omega) (nq _ (by omega))).trans (h.bl.block k hk)⟩,by have:=hf.size;omega⟩;rcases r3 r hr with e2|e2
 ·exact h.qn r e2
 exact⟨fun e3=>by have:=aB h.on r e3;omega,fun e3=>by have:=aB h.oa r e3;omega⟩
theorem cF.pushN{w2:World}{v':Value}{x:Nat}(h:cF w0 w db mb kb qb lo cl k ks o tk ys zs qv nv av)(r1:w2.ownsRow lo 3 1 v' (ys++[x]).length ((ys++[x]).map mN))(r2:aR (uX nv w.heap.size) w w2)(r3:∀ q,v'.ownBlock=some q->nv.ownBlock=some q∨w.heap.size<=q) :
  w2.cell? ⟨db,2,none⟩=some nv/\w2.frozen? ⟨db,2,none⟩=false/\cF w0 (w2.setCell ⟨db,2,none⟩ v') db mb kb qb lo cl k ks o tk (ys++[x]) zs qv v' av:=by
 have hz:=h.sz;have b:=r2.size;obtain⟨a1,a2,a3,a4,a5,a6,a7,a8⟩:=h.e1;obtain⟨c1,c2,c3,c4,c5,c6⟩:=h.e2;have k2:=lO r2;have nq:∀ k,k<lo->nv.ownBlock≠some k:=fun k hk e=>by have:=(h.on.lt k e).1;omega
 have e:∀ k,k<w.heap.size->k≠db->nv.ownBlock≠some k->(w2.setCell ⟨db,2,none⟩ v').heap[k]?=w.heap[k]? :=fun k hk hne hq=>(Below.heap_setCell _ _ _ _ (by show k≠db;exact hne)).trans (k2 k hk hq)
 have lo':∀ k,k<lo->k≠db->(w2.setCell ⟨db,2,none⟩ v').heap[k]?=w.heap[k]? :=fun k hk hne=>e k (by omega) hne (nq k hk)
 have a:aD w2 db 33 cl (.int .i64 (k:Nat)) nv av:=World.rowIs.of_block h.d (k2 _ (by omega) (nq _ (by omega)));obtain⟨F,hF⟩:=h.res;refine⟨a.facts.2.2.1,World.rowIs.frozen a 2,h.e1,h.e2,⟨F,hF.of_block (lo' _ (by omega) (by omega))⟩,a.put2,h.num.keep (lo' _ (by omega) (by omega)),h.kn.of_block (lo' _ (by omega) (by omega)),h.q.on (lo' _ (by omega) (by omega)),ak h.oq (fun r hr=>e r (aB h.oq r hr) (by have:=(h.oq.lt r hr).1;omega) (fun e2=>(h.qn r hr).1 e2)),ak r1 (fun r hr=>Below.heap_setCell _ _ _ _ (by show r≠db;have:=(r1.lt r hr).1;omega)),ak h.oa (fun r hr=>e r (aB h.oa r hr) (by have:=(h.oa.lt r hr).1;omega) (fun e2=>h.na r e2 hr)),fun r hr=>⟨fun e3=>?_,(h.qn r hr).2⟩,fun r hr=>?_,⟨r2.os.trans h.bl.os,r2.tape.trans h.bl.tape,r2.output.trans h.bl.output,by rw[aJ];have:=h.bl.size;omega,fun k hk=>(lo' k (by omega) (by omega)).trans (h.bl.block k hk)⟩,by rw[aJ];omega⟩
 ·rcases r3 r e3 with e2|e2
  ·exact(h.qn r hr).1 e2
  have:=aB h.oq r hr;omega
 rcases r3 r hr with e2|e2
 ·exact h.na r e2
 exact fun e3=>by have:=aB h.oa r e3;omega
theorem cF.pushA{w2:World}{v':Value}{x:Bool}(h:cF w0 w db mb kb qb lo cl k ks o tk ys zs qv nv av)(r1:w2.ownsRow lo 4 1 v' (zs++[x]).length ((zs++[x]).map mT))(r2:aR (uX av w.heap.size) w w2)(r3:∀ q,v'.ownBlock=some q->av.ownBlock=some q∨w.heap.size<=q) :
  w2.cell? ⟨db,3,none⟩=some av/\w2.frozen? ⟨db,3,none⟩=false/\cF w0 (w2.setCell ⟨db,3,none⟩ v') db mb kb qb lo cl k ks o tk ys (zs++[x]) qv nv v':=by
 have hz:=h.sz;have b:=r2.size;obtain⟨a1,a2,a3,a4,a5,a6,a7,a8⟩:=h.e1;obtain⟨c1,c2,c3,c4,c5,c6⟩:=h.e2;have k2:=lO r2;have nq:∀ k,k<lo->av.ownBlock≠some k:=fun k hk e=>by have:=(h.oa.lt k e).1;omega
 have e:∀ k,k<w.heap.size->k≠db->av.ownBlock≠some k->(w2.setCell ⟨db,3,none⟩ v').heap[k]?=w.heap[k]? :=fun k hk hne hq=>(Below.heap_setCell _ _ _ _ (by show k≠db;exact hne)).trans (k2 k hk hq)
 have lo':∀ k,k<lo->k≠db->(w2.setCell ⟨db,3,none⟩ v').heap[k]?=w.heap[k]? :=fun k hk hne=>e k (by omega) hne (nq k hk)
 have a:aD w2 db 33 cl (.int .i64 (k:Nat)) nv av:=World.rowIs.of_block h.d (k2 _ (by omega) (nq _ (by omega)));obtain⟨F,hF⟩:=h.res;refine⟨a.facts.2.2.2.1,World.rowIs.frozen a 3,h.e1,h.e2,⟨F,hF.of_block (lo' _ (by omega) (by omega))⟩,a.put3',h.num.keep (lo' _ (by omega) (by omega)),h.kn.of_block (lo' _ (by omega) (by omega)),h.q.on (lo' _ (by omega) (by omega)),ak h.oq (fun r hr=>e r (aB h.oq r hr) (by have:=(h.oq.lt r hr).1;omega) (fun e2=>(h.qn r hr).2 e2)),ak h.on (fun r hr=>e r (aB h.on r hr) (by have:=(h.on.lt r hr).1;omega) (fun e2=>h.na r hr e2)),ak r1 (fun r hr=>Below.heap_setCell _ _ _ _ (by show r≠db;have:=(r1.lt r hr).1;omega)),fun r hr=>⟨(h.qn r hr).1,fun e3=>?_⟩,fun r hr e3=>?_,⟨r2.os.trans h.bl.os,r2.tape.trans h.bl.tape,r2.output.trans h.bl.output,by rw[aJ];have:=h.bl.size;omega,fun k hk=>(lo' k (by omega) (by omega)).trans (h.bl.block k hk)⟩,by rw[aJ];omega⟩
 ·rcases r3 r e3 with e2|e2
  ·exact(h.qn r hr).2 e2
  have:=aB h.oq r hr;omega
 rcases r3 r e3 with e2|e2
 ·exact h.na r hr e2
 have:=aB h.on r hr;omega
def sN(lo:Nat)(w w':World)(qv nv av qv' nv' av':Value):Prop:=∀ r,lo<=r->r<w.heap.size->qv.ownBlock≠some r->nv.ownBlock≠some r->av.ownBlock≠some r->w'.heap[r]?=w.heap[r]?/\qv'.ownBlock≠some r/\nv'.ownBlock≠some r/\av'.ownBlock≠some r
theorem sN.keep(hb:Below w.heap.size w w'):sN lo w w' qv nv av qv nv av:=fun r _ h2 h3 h4 h5=>⟨hb.block r h2,h3,h4,h5⟩
theorem sN.one{mb:Nat}(hf:aR (dD w mb) w w')(hm:mb<lo):sN lo w w' qv nv av qv nv av:=fun r h1 h2 h3 h4 h5=>⟨hf.block r (by rintro(q|q)<;>omega),h3,h4,h5⟩
structure lW (w:World) (lo fb:Nat) (qv nv av:Value) (p:(Nat->Nat)×Bool):Prop where
 blk:w.heap[fb]?=some (.cells (c9 p.1 p.2) 114 (0,0))
 lo:lo<=fb
 q:qv.ownBlock≠some fb
 n:nv.ownBlock≠some fb
 a:av.ownBlock≠some fb
theorem lW.lt{fb:Nat}{p:(Nat->Nat)×Bool}(h:lW w lo fb qv nv av p):fb<w.heap.size:=(Array.getElem?_eq_some_iff.1 h.blk).1
theorem lW.on{fb:Nat}{p:(Nat->Nat)×Bool}{qv' nv' av':Value}(h:lW w lo fb qv nv av p)(hk:sN lo w w' qv nv av qv' nv' av'):lW w' lo fb qv' nv' av' p:=by
 obtain⟨h1,h2,h3,h4⟩:=hk fb h.lo h.lt h.q h.n h.a;exact⟨h1.trans h.blk,h.lo,h2,h3,h4⟩
theorem cF.fresh(h:cF w0 w db mb kb qb lo cl k ks o tk ys zs qv nv av)(p:(Nat->Nat)×Bool):lW (w.alloc (.cells (c9 p.1 p.2) 114)) lo w.heap.size qv nv av p:=
 ⟨(au w _).new,h.sz,fun e=>by have:=aB h.oq _ e;omega,fun e=>by have:=aB h.on _ e;omega,fun e=>by have:=aB h.oa _ e;omega⟩
theorem cF.over{fb:Nat}{p:(Nat->Nat)×Bool}(h:cF w0 w db mb kb qb lo cl k ks o tk ys zs qv nv av)(hX:lW w lo fb qv nv av p)(ho:cd fb w w'):cF w0 w' db mb kb qb lo cl k ks o tk ys zs qv nv av:=by
 have hz:=h.sz;obtain⟨a1,a2,a3,a4,a5,a6,a7,a8⟩:=h.e1;have hl:=hX.lo;have e:∀ k,k≠fb->w'.heap[k]?=w.heap[k]? :=fun k hne=>ho.block k hne
 obtain⟨F,hF⟩:=h.res;exact⟨h.e1,h.e2,⟨F,hF.of_block (e _ (by omega))⟩,World.rowIs.of_block h.d (e _ (by omega)),h.num.keep (e _ (by omega)),h.kn.of_block (e _ (by omega)),h.q.on (e _ (by omega)),ak h.oq (fun r hr=>e r (fun z=>hX.q (z ▸ hr))),ak h.on (fun r hr=>e r (fun z=>hX.n (z ▸ hr))),ak h.oa (fun r hr=>e r (fun z=>hX.a (z ▸ hr))),h.qn,h.na,⟨ho.os.trans h.bl.os,ho.tape.trans h.bl.tape,ho.output.trans h.bl.output,by rw[ho.size];exact h.bl.size,fun k hk=>(e k (by omega)).trans (h.bl.block k hk)⟩,by rw[ho.size];exact hz⟩
theorem cF.kpN{w2:World}{v':Value}(h:cF w0 w db mb kb qb lo cl k ks o tk ys zs qv nv av)(r2:aR (uX nv w.heap.size) w w2)(r3:∀ q,v'.ownBlock=some q->nv.ownBlock=some q∨w.heap.size<=q)(j:Nat):sN lo w (w2.setCell ⟨db,j,none⟩ v') qv nv av qv v' av:=fun r h1 h2 h3 h4 h5 =>
 ⟨(Below.heap_setCell _ _ _ _ (by show r≠db;have:=h.e1.2.1;omega)).trans (lO r2 r h2 h4),h3,fun e=>by rcases r3 r e with q|q<;>first|exact h4 q|omega,h5⟩
theorem cF.kpA{w2:World}{v':Value}(h:cF w0 w db mb kb qb lo cl k ks o tk ys zs qv nv av)(r2:aR (uX av w.heap.size) w w2)(r3:∀ q,v'.ownBlock=some q->av.ownBlock=some q∨w.heap.size<=q)(j:Nat):sN lo w (w2.setCell ⟨db,j,none⟩ v') qv nv av qv nv v':=fun r h1 h2 h3 h4 h5 =>
 ⟨(Below.heap_setCell _ _ _ _ (by show r≠db;have:=h.e1.2.1;omega)).trans (lO r2 r h2 h5),h3,h4,fun e=>by rcases r3 r e with q|q<;>first|exact h5 q|omega⟩
theorem uL(h:cF w0 w db mb kb qb lo cl k ks o tk ys zs qv nv av)(g:Nat->Nat)(e:Bool)(hl:o.length<=100000) :
  Calls prog 54 #[.pointer (some ⟨qb,0,none⟩),pd g e] w fun x w'=>x=.returned (.tuple #[])/\∃ qv',cF w0 w' db mb kb qb lo cl k ks (o++[(g,e)]) tk ys zs qv' nv av/\sN lo w w' qv nv av qv' nv av:=by
 have hz:=h.sz;obtain⟨a1,a2,a3,a4,a5,a6,a7,a8⟩:=h.e1;refine(wG qb lo qv _ o g e w hl h.q h.oq hz (fun e=>by have:=(h.oq.lt _ e).1;omega)).mono ?_;rintro x w' ⟨rfl,v',r1,r2,r3,r4⟩;refine⟨rfl,v',h.pushQ r1 r2 r3 r4,fun r b1 b2 b3 b4 b5=>⟨r3.block r ?_,fun e=>?_,b4,b5⟩⟩
 ·rintro(q|q|q)<;>first|omega|exact b3 q
 rcases r4 r e with q|q<;>first|exact b3 q|omega
theorem CG(h:cF w0 w db mb kb qb lo cl k ks o tk ys zs qv nv av)(g:Nat->Nat)(e:Bool)(hg:Fit g)(hl:ks.length<100000) :
  Calls prog 53 #[.agg #[.map (some mb)],pd g e] w fun x w'=>∃ (i:Nat) (f:Bool),x=.returned (.tuple #[.int .i64 (i:Nat),.bool f])/\
   ((f=false/\(∃ p,ks[i]?=some p/\Ed p=pd g e)/\cF w0 w' db mb kb qb lo cl k ks o tk ys zs qv nv av)∨(f=true/\(∀ p∈ks,Ed p≠pd g e)/\i=ks.length/\cF w0 w' db mb kb qb lo cl k (ks++[(g,e)]) o tk ys zs qv nv av))/\sN lo w w' qv nv av qv nv av:=by
 refine(AB mb g e (ks.map Ed) w h.num hg (by simpa using hl)).mono ?_;rintro x w' ⟨i,ks',f,rfl,hR,hN,hF⟩;refine⟨i,f,rfl,?_,.one hF h.e1.2.2.2.1⟩;rcases hR with ⟨h1,rfl,h2,rfl⟩|⟨h1,rfl,rfl,rfl⟩
 ·refine .inl ⟨rfl,?_,h.looked hF hN⟩;rw[List.getElem?_map]at h2;cases e2:ks[i]? with
  | none=>rw[e2]at h2;cases h2
  | some p=>rw[e2]at h2;exact⟨p,rfl,Option.some.inj h2⟩
 refine .inr ⟨rfl,fun p hp e2=>h1 (List.mem_map.2 ⟨p,hp,e2⟩),by simp,h.looked hF ?_⟩;rw[List.map_append];exact hN
theorem xK(h:cF w0 w db mb kb qb lo cl k ks o tk ys zs qv nv av)(ht:tk<=o.length)(hl:o.length<=100000) :
  Calls prog 55 #[.pointer (some ⟨qb,0,none⟩)] w fun x w'=>(tk=o.length/\x=.returned (.tuple #[pd (fun _=>0) false,.bool false])/\cF w0 w' db mb kb qb lo cl k ks o tk ys zs qv nv av/\sN lo w w' qv nv av qv nv av) ∨
   (∃ s,o[tk]?=some s/\x=.returned (.tuple #[Ed s,.bool true])/\cF w0 w' db mb kb qb lo cl k ks o (tk+1) ys zs qv nv av/\sN lo w w' qv nv av qv nv av):=by
 obtain⟨oa,oc,rfl⟩:=aj h.oq
 by_cases e:tk=o.length
 ·refine(vt qb o.length oc oa w (by rw[<-e];exact e ▸ h.q)).mono ?_;rintro x w' ⟨rfl,hb⟩;exact .inl ⟨e,rfl,h.keep hb,.keep hb⟩
 have hlt:tk<o.length:=by omega
 obtain⟨y,hy⟩ : ∃ y,o[tk]?=some y:=⟨_,List.getElem?_eq_getElem hlt⟩;obtain⟨g,ee⟩:=y;have a:=h.oq;rcases a.2 with ⟨-,hz⟩|⟨gg,cap,cur,e2,-,-,-,-,-,-⟩
 ·omega
 have e3:oa=some ⟨gg,0,none⟩/\oc=cap:=by simpa using e2
 obtain⟨rfl,rfl⟩:=e3;refine(wR qb gg tk o.length oc g ee w hl hlt h.q (aB a gg rfl) (fun j hj=>by rw[a.cellAt _ (by omega)];exact DW o hy hj)).mono ?_;rintro x w' ⟨rfl,hf,hq⟩;exact .inr ⟨(g,ee),hy,rfl,h.popd hf hq,.one hf h.e1.2.2.2.2.2.2.2⟩
end
def Ga(N m:Nat)(st:List Nat×Bool->Nat->List Nat×Bool)(s0:List Nat×Bool)(cl:Value)(x:Ending)(w w':World):Prop:=
 (∃ (nv av:Value) (o:List ((Nat->Nat)×Bool)) (ys:List Nat),x=.returned (.tuple #[.agg #[cl,.int .i64 (m:Nat),nv,av],.bool true])/\eK m st s0 (o.map (fK N)) ys/\ys.length=o.length*m/\o.length<=1024/\w'.ownsRow w.heap.size 3 1 nv ys.length (ys.map mN)/\w'.ownsRow w.heap.size 4 1 av o.length ((o.map Prod.snd).map mT)/\∀ r,nv.ownBlock=some r->av.ownBlock≠some r) ∨
 (∃ (o:List ((Nat->Nat)×Bool)) (ys:List Nat),x=.returned (.tuple #[.agg #[.slice none 0 0,.int .i64 0,.slice none 0 0,.slice none 0 0],.bool false])/\eK m st s0 (o.map (fK N)) ys/\1024<o.length)
def Gq(N m:Nat)(st:List Nat×Bool->Nat->List Nat×Bool)(s0:List Nat×Bool)(w0 w:World)(b0:Nat)(cl:Value)(fv ov:Value):Prop:=
 ∃ (o:List ((Nat->Nat)×Bool)) (tk:Nat) (ys:List Nat) (zs:List Bool) (qv nv av:Value) (fb:Nat) (p:(Nat->Nat)×Bool),fv=.pointer (some ⟨fb,0,none⟩)/\lW w (b0+6) fb qv nv av p/\cF w0 w (b0+1) (b0+3) (b0+4) (b0+5) (b0+6) cl m o o tk ys zs qv nv av/\eK m st s0 (o.map (fK N)) ys/\(∀ x∈o,xj N x.1)/\o.length<=1024/\
  ((ov=.bool false/\tk=o.length/\ys.length=tk*m/\zs=o.map Prod.snd) ∨
   (ov=.bool true/\∃ t,tk=t+1/\o[t]?=some p/\ys.length=t*m/\zs=(o.take t).map Prod.snd))
theorem yp{k N:Nat}{fn:List Nat×Bool->Nat->List Nat×Bool}{s0 r:List Nat×Bool}{x p:(Nat->Nat)×Bool}{o:List ((Nat->Nat)×Bool)}{ys:List Nat}{i e j:Nat}(h:eK k fn s0 (o.map (fK N)) ys)(hd:ys.length / k=i/\ys.length%k=e)(hi:o[i]?=some x)(hr:fn (fK N x) e=r)(hj:o[j]?=some p)(hp:fK N p=r):eK k fn s0 (o.map (fK N)) (ys++[j]):=
 h.old (x:=fK N x) (by rw[hd.1,List.getElem?_map,hi];rfl) (by rw[hd.2,List.getElem?_map,hj,hr,<-hp];rfl)
theorem yO{k N:Nat}{fn:List Nat×Bool->Nat->List Nat×Bool}{s0:List Nat×Bool}{x r:(Nat->Nat)×Bool}{o:List ((Nat->Nat)×Bool)}{ys:List Nat}{i e:Nat}(h:eK k fn s0 (o.map (fK N)) ys)(hd:ys.length / k=i/\ys.length%k=e)(hi:o[i]?=some x)(hr:fn (fK N x) e=fK N r)(hno:∀ p∈o,fK N p≠fK N r):eK k fn s0 ((o++[r]).map (fK N)) (ys++[o.length]):=by
 have:=h.new (x:=fK N x) (by rw[hd.1,List.getElem?_map,hi];rfl) (fun j hj e9=>by
  rw[hd.2,hr,List.getElem?_map]at e9;cases e8:o[j]? with
  | none=>rw[e8]at e9;cases e9
  | some p=>rw[e8]at e9;exact hno p (List.mem_of_getElem? e8) (Option.some.inj e9))
 rw[hd.2,hr,List.length_map]at this;rw[List.map_append];exact this
theorem we(B A N m gc:Nat)(hv fv:Value)(K:Nat->Nat)(hs fs:Nat->Nat->Nat)(b:Bool)(f l:Nat->Nat)(w:World)(hW:Ef w B A N m gc hv fv K hs fs b f l)(hold fol:Nat->Nat->Bool)(last:Nat->Bool)(rep:Nat->Nat)(hN:N<=512)(hm:m<=256)(hm1:1<=m)
  (hh:∀ c,c<m->∀ i,Bt (hs c) i=hold i (rep c))(hf:∀ i j,Bt (fs i) j=fol i j)(hl:∀ i,Bt l i=last i)(hfN:∀ i j,Bt (fs i) j=true->j<N)(hf0:xj N f)(htz:TZ w)(htl:Tryz.laysTZ_ren.g 1<w.heap.size) :
  Calls prog 22 #[.pointer (some ⟨B,0,none⟩)] w fun x w'=>Below w.heap.size w w'/\Ga N m (fun x e=>bN N hold fol last x (rep e)) (fK N (f,b)) (.slice (some ⟨gc,0,none⟩) 256 256) x w w':=by
 obtain⟨i0,gl,gm,gp,gs⟩:=info_parts Tryz.zinInt;obtain⟨st,d6⟩ : ∃ st:List Nat×Bool->Nat->List Nat×Bool,st=fun x e=>bN N hold fol last x (rep e):=⟨_,rfl⟩
 rw[<-d6];have hstep:∀ (Q:Nat->Nat) (e0:Bool) (c:Nat),c<m->xj N Q->st (fK N (Q,e0)) c=fK N (nE fs (gj (cC Q (hs c)) 512),!(xr (cC (cC Q (hs c)) l))):=fun Q e0 c hc hQ=>by
  rw[d6];exact(yy hN hQ (hh c hc) hf hl).symm
 have C:∀ Y,xj N (nE fs Y):=fun Y=>xM hW.fs hfN
 obtain⟨ha,hc,g6⟩ : ∃ ha hc,hv=.slice ha m hc:=aj hW.hol;subst g6;have en:=ae hstep;have ep:=ae C;have eq:=ae hf0;have HW:=ae hW;have g7:Hi (∀ W,Below w.heap.size w W->TZ W):=fun W hW=>htz.below hW htl
 have ca:=hW.box.lt;obtain⟨W1,b3⟩ : ∃ W1,W1=w.alloc (.cells #[.slice none 0 0,.int .i64 0,.slice none 0 0,.slice none 0 0] 33):=⟨_,rfl⟩;have d7:Below w.heap.size w W1:=by rw[b3];exact ai w _
 have cb:W1.heap.size=w.heap.size+1:=by rw[b3,ah]
 have er:aD W1 w.heap.size 33 (.slice none 0 0) (.int .i64 0) (.slice none 0 0) (.slice none 0 0):=by rw[b3];exact aD.new w _ _ _ _ _
 obtain⟨-,k1,k2⟩:=(hW.box.keep (d7.block B ca)).cells;have d8:=ae d7;have es:=ae er;have b4:=ae cb;have et:=ae b3;clear d6 hstep C hf0 hW htz hh hf hl hfN d7 er b3 cb
 go_enter func22,ntmps22
 have k1a:∀ o:Obj,(W1.alloc o).cell? ⟨B,1,none⟩=some (.slice (some ⟨gc,0,none⟩) 256 256):=fun o=>by rw[(ai W1 o).cell (p:=⟨B,1,none⟩) (by have:=b4.u;show B<_;omega)];exact k1
 have k2a:∀ o:Obj,(W1.alloc o).cell? ⟨B,2,none⟩=some (.slice ha m hc):=fun o=>by rw[(ai W1 o).cell (p:=⟨B,2,none⟩) (by have:=b4.u;show B<_;omega)];exact k2
 go_upto_region 1 with fail
 rw[<-et.u]
 go_region
 go_wp2_with fail;refine(wI _).mono ?_;have d9:((W1.alloc (.cells #[.slice (some ⟨gc,0,none⟩) 256 256,.int .i64 (m:Nat),.slice none 0 0,.slice none 0 0] 33)).drew).heap.size=w.heap.size+2:=(ah W1 _).trans (by rw[b4.u]);have db:aD ((W1.alloc (.cells #[.slice (some ⟨gc,0,none⟩) 256 256,.int .i64 (m:Nat),.slice none 0 0,.slice none 0 0] 33)).drew) (w.heap.size+1) 33 (.slice (some ⟨gc,0,none⟩) 256 256) (.int .i64 (m:Nat)) (.slice none 0 0) (.slice none 0 0):=by
  have:=aD.new W1 33 (.slice (some ⟨gc,0,none⟩) 256 256) (.int .i64 (m:Nat)) (.slice none 0 0) (.slice none 0 0);rw[b4.u]at this;exact this
 have ds:aD ((W1.alloc (.cells #[.slice (some ⟨gc,0,none⟩) 256 256,.int .i64 (m:Nat),.slice none 0 0,.slice none 0 0] 33)).drew) w.heap.size 33 (.slice none 0 0) (.int .i64 0) (.slice none 0 0) (.slice none 0 0):=es.u.alloc _;have e3:Below w.heap.size w ((W1.alloc (.cells #[.slice (some ⟨gc,0,none⟩) 256 256,.int .i64 (m:Nat),.slice none 0 0,.slice none 0 0] 33)).drew):=(d8.u.alloc d8.u.size _).drew;rw[show W1.heap.size=w.heap.size+1 from b4.u];generalize (W1.alloc (.cells #[.slice (some ⟨gc,0,none⟩) 256 256,.int .i64 (m:Nat),.slice none 0 0,.slice none 0 0] 33)).drew=W2 at d9 db ds e3 ⊢;rintro e w4 ⟨rfl,e4,e5,ev⟩;rw[d9]at e4 e5 ⊢;obtain⟨W6,ax⟩ : ∃ W6,W6=(w4.alloc (.cells #[.map (some (w.heap.size+2+1))] 119)).alloc (.cells #[.slice none 0 0,.int .i64 0] 123):=⟨_,rfl⟩;have b0:cF w W6 (w.heap.size+1) (w.heap.size+3) (w.heap.size+4) (w.heap.size+5) (w.heap.size+6) (.slice (some ⟨gc,0,none⟩) 256 256) m [] [] 0 [] [] (.slice none 0 0) (.slice none 0 0) (.slice none 0 0):=by
  have ex:Below w4.heap.size w4 W6:=by rw[ax];exact aH w4 _ _
  have b5:Below W2.heap.size W2 W6:=ev.trans (ex.mono (by omega));refine⟨by omega,by omega,⟨_,World.rowIs.of_block ds (b5.block _ (by omega))⟩,db.below b5 (by omega),e4.keep (ex.block _ (by omega)),?_,?_,World.ownsRow_nil _ _ _ _,World.ownsRow_nil _ _ _ _,World.ownsRow_nil _ _ _ _,(fun r hr=>by cases hr),(fun r hr=>by cases hr),e3.trans (b5.mono (by omega)),by rw[ax,ah,ah];omega⟩
  ·have:=World.rowIs_alloc w4 #[.map (some (w.heap.size+2+1))] 119 (fun _=>.map (some (w.heap.size+2+1))) (fun j hj=>by
    match j,hj with
    | 0,_=>rfl)
   rw[e5]at this;rw[ax];exact this.alloc _
  have:=eJ.new (w4.alloc (.cells #[.map (some (w.heap.size+2+1))] 119)) 123 (.slice none 0 0) (.int .i64 ((0:Nat):Int));rw[ah,e5]at this;rw[ax];exact this
 have u0:W6.cell? ⟨w.heap.size+4,0,none⟩=some (.map (some (w.heap.size+3))):=b0.kn.cell (by omega);have g8:=b0.sz;have cc:Hi (∀ V:World,Below w.heap.size w V->Calls prog 50 #[.pointer (some ⟨B,0,none⟩)] V fun e w'=>e=.returned (pd f b)/\Below V.heap.size V w'):=fun V hV=>oX B A N _ _ fv fs b f l V (HW.u.box.keep (hV.block B ca)) (HW.u.aut.keep hV lR)
 have e6:=ae ((cc.u W6.drew b0.bl.drew).mono (R':=fun e w7=>e=.returned (pd f b)/\Below W6.heap.size W6 w7) (fun e w7 h=>⟨h.1,⟨h.2.os,h.2.tape,h.2.output,h.2.size,fun k hk=>h.2.block k hk⟩⟩));have a8:Hi (∀ V:World,Below W6.heap.size W6 V->Calls prog 53 #[.agg #[.map (some (w.heap.size+3))],pd f b] V fun x w'=>∃ (i:Nat),x=.returned (.tuple #[.int .i64 (i:Nat),.bool true])/\w'.cell? ⟨w.heap.size+4,0,none⟩=some (.map (some (w.heap.size+3)))/\cF w w' (w.heap.size+1) (w.heap.size+3) (w.heap.size+4) (w.heap.size+5) (w.heap.size+6) (.slice (some ⟨gc,0,none⟩) 256 256) m [(f,b)] [] 0 [] [] (.slice none 0 0) (.slice none 0 0) (.slice none 0 0)):=fun V hV=>by
  refine(CG (b0.keep hV) f b eq.u.1 (by decide)).mono ?_;rintro e w' ⟨i,ff,rfl,⟨rfl,⟨p,hp,-⟩,-⟩|⟨rfl,-,rfl,h⟩,-⟩
  ·cases hp
  exact⟨_,rfl,h.kn.cell (by omega),h⟩
 have hS:Hi (∀ V:World,Below W6.heap.size W6 V->V.cell? ⟨w.heap.size+4,0,none⟩=some (.map (some (w.heap.size+3)))):=fun V hV=>(b0.keep hV).kn.cell (by omega)
 unfold pd at e6 a8;have ey:=ae ax;clear b0 ax es ev e4 db ds e3 d9 k1a k2a k1 k2 et d8
 go_upto_region 4 with fail
 rw[<-ey.u];clear ey;simp only[Nat.add_assoc,Nat.reduceAdd]
 go_cut [5] (fun kv wx=>kv=.pointer (some ⟨w.heap.size+4,0,none⟩)/\cF w wx (w.heap.size+1) (w.heap.size+3) (w.heap.size+4) (w.heap.size+5) (w.heap.size+6) (.slice (some ⟨gc,0,none⟩) 256 256) m [(f,b)] [] 0 [] [] (.slice none 0 0) (.slice none 0 0) (.slice none 0 0))
 case first =>
  go_region_held3 (fun V=>V.cell? ⟨w.heap.size+4,0,none⟩=some (.map (some (w.heap.size+3))))
   (first|(with_reducible exact g9)|(with_reducible exact hS.u _ f0)|go_keep)
   (first
    | (go_at_call 50;(with_reducible refine e6.u.mono ?_);rintro e w7 ⟨rfl,f0⟩)
    | (go_at_call 53;(with_reducible refine(a8.u _ f0).mono ?_);rintro e w8 ⟨i8,rfl,g9,b6⟩))
  all_goals go_wp2_with fail
  all_goals go_meet
  all_goals exact⟨rfl,b6⟩
 obtain⟨rfl,b6⟩:=hcut;have e7:=ae (cc.u wc b6.bl);have f1:=ae b6;unfold pd at e7;clear b6 e6 a8 hS u0 g8
 go_wp2_with fail;refine e7.u.mono ?_;rintro e w9 ⟨rfl,f2⟩;have a9:=ae (uL (f1.u.keep f2) f b (by decide));unfold pd at a9;clear f2 f1 e7
 go_wp2_with fail;refine a9.u.mono ?_;rintro e w10 ⟨rfl,qv10,b7,-⟩;rw[List.nil_append]at b7;have b8:=ae (xK b7 (by simp) (by simp));clear b7 a9
 go_wp2_with fail;refine b8.u.mono ?_;rintro e w11 aa;have al:∃ p:(Nat->Nat)×Bool,e=.returned (.tuple #[.agg (c9 p.1 p.2),.bool true])/\Gq N m st (fK N (f,b)) w (w11.alloc (.cells (c9 p.1 p.2) 114)) w.heap.size (.slice (some ⟨gc,0,none⟩) 256 256) (.pointer (some ⟨w11.heap.size,0,none⟩)) (.bool true):=by
  rcases aa with ⟨h1,-⟩|⟨s,h1,rfl,h2,-⟩
  ·cases h1
  refine⟨s,rfl,[(f,b)],1,[],[],_,_,_,w11.heap.size,s,rfl,h2.fresh s,h2.keep (ai w11 _),eK.start _ _ _,(fun x hx=>by rw[List.mem_singleton]at hx;rw[hx];exact eq.u),by simp,.inr ⟨rfl,0,rfl,h1,by simp,by simp⟩⟩
 obtain⟨p11,rfl,al⟩:=al;have cf:=ae al;clear aa al b8
 go_wp2_with fail
 go_loopw [7,8] (fun fv ov wr=>Gq N m st (fK N (f,b)) w wr w.heap.size (.slice (some ⟨gc,0,none⟩) 256 256) fv ov) (fun _ ov wr=>2*(1024-fw (w.heap.size+5) wr)+xZ ov)
 case atStart=>exact cf.u
 clear cf;obtain⟨o,tk,ys,zs,qv,nv,av,fb,p,rfl,hF,hR,U,C,hol,⟨rfl,b1,I,H⟩|⟨rfl,t,b1,hp,I,H⟩⟩:=hrel
 ·obtain⟨g0,g1,g2,g3,-⟩:=hR.d.facts;obtain⟨F,z⟩:=hR.res;have x0:=z.cell (i:=0) (by omega);have x1:=z.cell (i:=1) (by omega);have x2:=z.cell (i:=2) (by omega);have x3:=z.cell (i:=3) (by omega);have z0:=z.frozen 0;have z1:=z.frozen 1;have z2:=z.frozen 2;have z3:=z.frozen 3;obtain⟨na,nc,e1⟩:=aj hR.on;subst e1;obtain⟨va,vc,e2⟩:=aj hR.oa;subst e2;have c5:zs.length=o.length:=by rw[H,List.length_map]
  have HR:=ae hR;have X:=ae U;have ea:=ae z;have Z:=ae I;have ga:=ae b1;have O:=ae H;have gf:=ae c5;clear hR U z I b1 H c5 hF;go_wp2;refine bodyPost_ret (dq (dp ea.u _ _ _ _) rfl _ rfl rfl) rfl ?_;have ab:=ei wr w.heap.size (.slice (some ⟨gc,0,none⟩) 256 256) (.int .i64 (m:Nat)) (.slice na ys.length nc) (.slice va zs.length vc);have hR:=HR.u;refine⟨hR.bl.trans (ab.bel lR),.inl ⟨_,_,o,ys,rfl,X.u,by rw[Z.u,ga.u],hol,aS (ak hR.on (fun q hq=>ab.block q (by have:=(hR.on.lt q hq).1;omega))) (by omega),?_,hR.na⟩⟩;rw[<-O.u,<-gf.u];exact aS (ak hR.oa (fun q hq=>ab.block q (by have:=(hR.oa.lt q hq).1;omega))) (by omega)
 obtain⟨P,y⟩:=p;have b9:t<o.length:=da hp;have f3:xj N P:=C _ (List.mem_of_getElem? hp);obtain⟨g0,g1,g2,g3,-⟩:=hR.d.facts;have p8:=(eG hF.blk).cell (i:=8) (by omega);simp only[ka,Nat.lt_irrefl,if_false]at p8;obtain⟨va,vc,e2⟩:=aj hR.oa;subst e2;have c5:zs.length<=1024:=by rw[H,List.length_map,List.length_take];omega
 have bc:fw (w.heap.size+5) wr=t+1:=by
  rw[fw,World.rowIs.cell hR.q (by omega),b1];simp[intOf]
 have gg:=ae bc;rw[b1]at hR;have f4:=ae hR.oa;have HR:=ae hR;have HF:=ae hF;have X:=ae U;have Z:=ae I;have O:=ae H;have a0:=ae C;have HP:=ae hp;clear hR hF U I H C hp bc b1
 go_wp2_with (first|(at_builtin;refine tZ rfl _ _ rfl (w.heap.size+6) (.slice va zs.length vc) rfl y rfl zs f4.u HR.u.sz (by omega) ?_)|fail);intro v12 w12 r1 r2 r3;obtain⟨z1,z2,an⟩:=HR.u.pushA (x:=y) (by rw[List.length_append,List.map_append];exact r1) r2 r3;have ch:=HF.u.on (HR.u.kpA r2 r3 3);obtain⟨zs2,J⟩ : ∃ zs2,zs2=zs++[y]:=⟨_,rfl⟩;have r1:w12.ownsRow (w.heap.size+6) 4 1 v12 zs2.length (zs2.map mT):=by rw[J,List.length_append,List.map_append];exact r1
 rw[<-J]at an;have f5:zs2=(o.take (t+1)).map Prod.snd:=by rw[J,O.u,List.take_add_one,HP.u,List.map_append];rfl
 obtain⟨pa,pc,e8⟩:=aj r1;subst e8;obtain⟨-,d1,-⟩:=an.d.facts;obtain⟨w13,ci⟩ : ∃ w13,w13=w12.setCell ⟨w.heap.size+1,3,none⟩ (.slice pa zs2.length pc):=⟨_,rfl⟩;have bd:=ae ci;have bf:=ae an;have bi:=ae ch;have f6:=ae f5;clear r1 r2 r3 an ch J f5 HR HF f4 g0 g1 g2 g3 p8 O ci
 go_wp2_with fail;rw[<-bd.u];rw[<-bd.u]at bf bi;clear bd z1 z2 d1
 go_loopw [49] (fun cv wx=>∃ (c:Nat) (o:List ((Nat->Nat)×Bool)) (ys:List Nat) (zs:List Bool) (qv nv av:Value),c<=m/\cv=.int .i64 (c:Nat)/\cF w wx (w.heap.size+1) (w.heap.size+3) (w.heap.size+4) (w.heap.size+5) (w.heap.size+6) (.slice (some ⟨gc,0,none⟩) 256 256) m o o (t+1) ys zs qv nv av/\lW wx (w.heap.size+6) fb qv nv av (P,y)/\eK m st (fK N (f,b)) (o.map (fK N)) ys/\(∀ x∈o,xj N x.1)/\o[t]?=some (P,y)/\ys.length=t*m+c/\zs=(o.take (t+1)).map Prod.snd/\o.length<=1024) (fun cv _=>m-(intOf cv).toNat)
 case atStart=>exact⟨0,o,ys,_,_,_,_,by omega,rfl,bf.u,bi.u,X.u,a0.u,HP.u,Z.u,f6.u,hol⟩
 clear bf bi X a0 HP Z f6 hol b9 c5;obtain⟨c,o,ys,zs,qv,nv,av,h0,rfl,hR,hF,U,C,hp,I,H,hol⟩:=hrel;obtain⟨w14,rfl⟩ : ∃ w14,w14=wr:=⟨_,rfl⟩;have b9:t<o.length:=da hp
 by_cases hcl:c<m
 ·have f7:(c:Int)<(m:Int):=by omega
  have G:=HW.u.keep hR.bl lR;have f8:ys.length / m=t/\ys.length%m=c:=by rw[I];exact eg hcl
  have h4:ys.length<=262144:=by
   have h1:=gO (k:=m) (Nat.lt_of_lt_of_le b9 hol) hcl;have h2:1024*m<=1024*256:=Nat.mul_le_mul_left _ hm;omega
  have c6:=ae (qK B A N c m _ (.slice ha m hc) fv hs fs b f l P y w14 G.box G.aut G.hol hcl f3.1 (G.fh _ hcl) G.fl G.fs (G.inn _ hcl) (g7.u _ hR.bl) (by have:=hR.bl.size;omega));have bj:=en.u P y c hcl f3;have bn:=ep.u (gj (cC P (hs c)) 512);obtain⟨P',eb⟩ : ∃ P',P'=nE fs (gj (cC P (hs c)) 512):=⟨_,rfl⟩;obtain⟨y',f9⟩ : ∃ y',y' = !(xr (cC (cC P (hs c)) l)):=⟨_,rfl⟩;rw[<-eb,<-f9]at c6 bj;rw[<-eb]at bn;unfold pd at c6;have c7:=ae hF.blk;have bo:=ae bj;have ao:=ae bn;have HR:=ae hR;have HF:=ae hF;have X:=ae U;have Z:=ae I;have O:=ae H;have a0:=ae C;have HP:=ae hp;have fa:=ae f8;clear hR hF U I H C hp G bj bn eb f9 f8
  go_wp2_with (first|(refine wpList_load_row rfl 114 (.tmp 7) rfl fb rfl 114 (c9 P y) (0,0) _ c7.u underlying114 rfl (by kernel_rfl) ?_)|fail)
  refine c6.u.mono ?_;rintro e w15 ⟨rfl,bq⟩;have R:=HR.u.keep bq;have a1:=R.fresh (P',y');obtain⟨w16,a2⟩ : ∃ w16,w16=w15.alloc (.cells (c9 P' y') 114):=⟨_,rfl⟩;have br:Below w15.heap.size w15 w16:=by rw[a2];exact ai w15 _
  have S:=R.keep br;have T:=(HF.u.on (sN.keep bq)).on (sN.keep br);have a1:lW w16 (w.heap.size+6) w15.heap.size qv nv av (P',y'):=by rw[a2];exact a1
  have u0:w16.cell? ⟨w.heap.size+4,0,none⟩=some (.map (some (w.heap.size+3))):=S.kn.cell (by omega);have bs:=ae a1.blk;have a8:=ae (CG S P' y' ao.u.1 (by omega));unfold pd at a8;have ck:=ae a2;have a3:=ae T;have cl:=ae a1;rw[a2]at u0;clear bq R a1 br S T a2 c6 HR HF c7
  go_wp2_with (first|(rw[<-ck.u];refine wpList_load_row rfl 114 (.tmp 10) rfl w15.heap.size rfl 114 (c9 P' y') (0,0) _ bs.u underlying114 rfl (by kernel_rfl) ?_)|fail);refine a8.u.mono ?_;rintro e w17 ⟨num,fr,rfl,aa,ec⟩;have co:=a3.u.on ec;have bt:=cl.u.on ec;have ap:=ae co;clear co ec a3 cl a8 ck u0 bs;rcases aa with ⟨rfl,⟨p2,b2,fc⟩,L⟩|⟨rfl,fd,rfl,L⟩
  ·have u0:w17.cell? ⟨w.heap.size+4,0,none⟩=some (.map (some (w.heap.size+3))):=L.kn.cell (by omega);have ad:=kU (w.heap.size+3) _ w17 L.num;rw[List.length_map]at ad;have af:=ae ad;have fg:fK N p2=fK N (P',y'):=(uT hN (a0.u _ (List.mem_of_getElem? b2)) ao.u).1 fc;have gh:=ae fg;have ee:=ae b2;have cp:=ae L;have cr:¬ (1024:Int)<(o.length:Int):=by omega
   clear fg b2 fc L ad bt
   go_wp2_with fail;refine af.u.mono ?_;rintro e w19 ⟨rfl,E⟩;have v:=ae (cp.u.keep E);have bv:=ae (ap.u.on (sN.keep E));clear E cp ap af u0;obtain⟨na,nc,e1⟩:=aj v.u.on;subst e1;obtain⟨-,-,g2,-⟩:=v.u.d.facts;have bx:=ae v.u.on;have ek:=v.u.sz
   go_wp2_with (first|(at_builtin;refine dw rfl _ _ rfl (w.heap.size+6) (.slice na ys.length nc) rfl num rfl ys bx.u ek ?_ ?_)|fail)
   ·omega
   intro v16 w21 r1 r2 r3;obtain⟨z1,z2,M⟩:=v.u.pushN (x:=num) (by rw[List.length_append,List.map_append];exact r1) r2 r3;have a4:=bv.u.on (v.u.kpN r2 r3 2);obtain⟨ys2,D⟩ : ∃ ys2,ys2=ys++[num]:=⟨_,rfl⟩;have r1:w21.ownsRow (w.heap.size+6) 3 1 v16 ys2.length (ys2.map mN):=by rw[D,List.length_append,List.map_append];exact r1
   rw[<-D]at M;obtain⟨pa,pc,e8⟩:=aj r1;subst e8;have a5:ys2.length=t*m+(c+1):=by rw[D,List.length_append,Z.u];rfl
   have a6:eK m st (fK N (f,b)) (o.map (fK N)) ys2:=by rw[D];exact yp X.u fa.u HP.u bo.u ee.u gh.u
   have bz:=ae M;have c0:=ae a4;have c1:=ae a5;have c2:=ae a6;clear r1 r2 r3 M a4 D a5 a6 bx g2;go_wp2
   go_roundw
   case rel=>exact⟨c+1,o,ys2,zs,_,_,_,by omega,by go_num,bz.u,c0.u,c2.u,a0.u,HP.u,c1.u,O.u,hol⟩
   simp[intOf];omega
  have bs:=ae bt.blk;have a9:=ae (uL L P' y' (by omega));unfold pd at a9;have fi:∀ p∈o,fK N p≠fK N (P',y'):=fun p hp e9=>fd p hp ((uT hN (a0.u _ hp) ao.u).2 e9)
  have fj:=yO X.u fa.u HP.u bo.u fi;have el:=ae fj;clear fi fj fd L bt
  go_wp2_with (first|(refine wpList_load_row rfl 114 (.tmp 10) rfl w15.heap.size rfl 114 (c9 P' y') (0,0) _ bs.u underlying114 rfl (by kernel_rfl) ?_)|fail)
  refine a9.u.mono ?_;rintro e w18 ⟨rfl,qv18,a7,cs⟩;obtain⟨o2,ag⟩ : ∃ o2,o2=o++[(P',y')]:=⟨_,rfl⟩;rw[<-ag]at a7 el;have ct:=ap.u.on cs;have u0:w18.cell? ⟨w.heap.size+4,0,none⟩=some (.map (some (w.heap.size+3))):=a7.kn.cell (by omega);have ad:=kU (w.heap.size+3) _ w18 a7.num;rw[List.length_map]at ad;have af:=ae ad;have cw:∀ x∈o2,xj N x.1:=fun x hx=>by
   rw[ag]at hx;rcases List.mem_append.1 hx with h|h
   ·exact a0.u x h
   rw[List.mem_singleton]at h;rw[h];exact ao.u
  have b2:o2[t]?=some (P,y):=by rw[ag,List.getElem?_append_left b9];exact HP.u
  have J:zs=(o2.take (t+1)).map Prod.snd:=by rw[O.u,ag,List.take_append_of_le_length b9]
  have aq:o2.length=o.length+1:=by rw[ag,List.length_append];rfl
  have fk:=ae cw;have ee:=ae b2;have fn:=ae J;have ar:=ae a7;have c3:=ae ct;have h5:=ae ag;clear a7 cs ct ad cw b2 J ag a9 bs ap
  by_cases cr:1024<o2.length
  ·have em:(1024:Int)<(o2.length:Int):=by omega
   have fo:=ae aq;clear aq
   go_wp2_with fail;refine af.u.mono ?_;rintro e w19 ⟨rfl,E⟩;have c4:=ar.u.keep E;obtain⟨F,z⟩:=c4.res;have x0:=z.cell (i:=0) (by omega);have x1:=z.cell (i:=1) (by omega);have x2:=z.cell (i:=2) (by omega);have x3:=z.cell (i:=3) (by omega);have z0:=z.frozen 0;have z1:=z.frozen 1;have z2:=z.frozen 2;have z3:=z.frozen 3;have ea:=ae z;have v:=ae c4;clear E ar c3 af u0 c4 z;go_wp2;refine bodyPost_ret (dq (dp ea.u _ _ _ _) rfl _ rfl rfl) rfl ?_;exact⟨v.u.bl.trans ((ei w19 w.heap.size (.slice none 0 0) (.int .i64 0) (.slice none 0 0) (.slice none 0 0)).bel lR),.inr ⟨o2,_,rfl,el.u,cr⟩⟩
  have em:¬ (1024:Int)<(o2.length:Int):=by omega
  have fp:o2.length<=1024:=by omega
  have fo:=ae aq;clear aq
  go_wp2_with fail;refine af.u.mono ?_;rintro e w19 ⟨rfl,E⟩;have v:=ae (ar.u.keep E);have bv:=ae (c3.u.on (sN.keep E));clear E ar c3 af u0;obtain⟨na,nc,e1⟩:=aj v.u.on;subst e1;obtain⟨-,-,g2,-⟩:=v.u.d.facts;have bx:=ae v.u.on;have ek:=v.u.sz
  go_wp2_with (first|(at_builtin;refine dw rfl _ _ rfl (w.heap.size+6) (.slice na ys.length nc) rfl o.length rfl ys bx.u ek ?_ ?_)|fail)
  ·omega
  intro v16 w21 r1 r2 r3;obtain⟨z1,z2,M⟩:=v.u.pushN (x:=o.length) (by rw[List.length_append,List.map_append];exact r1) r2 r3;have a4:=bv.u.on (v.u.kpN r2 r3 2);obtain⟨ys2,D⟩ : ∃ ys2,ys2=ys++[o.length]:=⟨_,rfl⟩;have r1:w21.ownsRow (w.heap.size+6) 3 1 v16 ys2.length (ys2.map mN):=by rw[D,List.length_append,List.map_append];exact r1
  rw[<-D]at M;obtain⟨pa,pc,e8⟩:=aj r1;subst e8;have a5:ys2.length=t*m+(c+1):=by rw[D,List.length_append,Z.u];rfl
  have a6:eK m st (fK N (f,b)) (o2.map (fK N)) ys2:=by rw[D];exact el.u
  have bz:=ae M;have c0:=ae a4;have c1:=ae a5;have c2:=ae a6;clear r1 r2 r3 M a4 D a5 a6 bx g2;go_wp2
  go_roundw
  case rel=>exact⟨c+1,o2,ys2,zs,_,_,_,by omega,by go_num,bz.u,c0.u,c2.u,fk.u,ee.u,c1.u,fn.u,fp⟩
  simp[intOf];omega
 have f7:¬ (c:Int)<(m:Int):=by omega
 obtain rfl:c=m:=by omega
 have cx:=hR.fresh (P,y);obtain⟨w15,aw⟩ : ∃ w15,w15=w14.alloc (.cells (c9 P y) 114):=⟨_,rfl⟩;have R:cF w w15 (w.heap.size+1) (w.heap.size+3) (w.heap.size+4) (w.heap.size+5) (w.heap.size+6) (.slice (some ⟨gc,0,none⟩) 256 256) c o o (t+1) ys zs qv nv av:=by rw[aw];exact hR.keep (ai w14 _)
 have cy:lW w15 (w.heap.size+6) w14.heap.size qv nv av (P,y):=by rw[aw];exact cx
 have b8:=ae (xK R (by omega) (by omega));have c7:=ae hF.blk;have d0:=ae cy;have d2:=ae aw;have X:=ae U;have Z:=ae I;have O:=ae H;have a0:=ae C;clear hR hF U I H C hp cx R cy aw
 go_wp2_with (first|(refine wpList_load_row rfl 114 (.tmp 7) rfl fb rfl 114 (c9 P y) (0,0) _ c7.u underlying114 rfl (by kernel_rfl) ?_)|fail)
 rw[<-d2.u];clear d2;refine b8.u.mono ?_;rintro e w16 aa;have fx:∃ (P3:Nat->Nat) (y3 bb:Bool),e=.returned (.tuple #[.agg (c9 P3 y3),.bool bb])/\∃ tk3,cF w w16 (w.heap.size+1) (w.heap.size+3) (w.heap.size+4) (w.heap.size+5) (w.heap.size+6) (.slice (some ⟨gc,0,none⟩) 256 256) c o o tk3 ys zs qv nv av/\sN (w.heap.size+6) w15 w16 qv nv av qv nv av/\((bb=false/\tk3=t+1/\t+1=o.length)∨(bb=true/\tk3=t+2/\o[t+1]?=some (P3,y3))):=by
  rcases aa with ⟨h1,rfl,h2,h3⟩|⟨s,h1,rfl,h2,h3⟩
  ·exact⟨fun _=>0,false,false,rfl,_,h2,h3,.inl ⟨rfl,rfl,h1⟩⟩
  exact⟨s.1,s.2,true,rfl,_,h2,h3,.inr ⟨rfl,rfl,h1⟩⟩
 obtain⟨P3,y3,bb,rfl,tk3,S,d3,d4⟩:=fx;have T:=d0.u.on d3;have fz:=ae T.blk;have d5:=ae S;have a3:=ae T;have g4:=ae d4;clear aa S d3 T d4 b8 d0
 go_wp2_with (first|(refine wpList_store_row rfl 114 (.tmp 7) (.tmp 38) rfl w14.heap.size (c9 P3 y3) rfl rfl 114 _ fz.u (by kernel_rfl) rfl (Dw _ _) ?_)|fail)
 go_roundw
 case rel =>
  have ab:cd w14.heap.size w16 (w16.setRow w14.heap.size (c9 P3 y3)):=⟨rfl,rfl,rfl,by simp[World.setRow],fun k hk=>setRow_other _ _ k _ hk⟩;have hF:=a3.u;refine⟨o,tk3,ys,zs,qv,nv,av,w14.heap.size,(P3,y3),rfl,⟨setRow_heap _ _ _ _ _ _ fz.u,hF.lo,hF.q,hF.n,hF.a⟩,d5.u.over hF ab,X.u,a0.u,hol,?_⟩;have g5:ys.length=(t+1)*c:=by rw[Z.u,Nat.add_mul,Nat.one_mul]
  rcases g4.u with ⟨rfl,rfl,h3⟩|⟨rfl,rfl,h3⟩
  ·exact .inl ⟨rfl,h3,g5,by rw[O.u,h3,List.take_length]⟩
  exact .inr ⟨rfl,t+1,rfl,h3,g5,O.u⟩
 have ab:cd w14.heap.size w16 (w16.setRow w14.heap.size (c9 P3 y3)):=⟨rfl,rfl,rfl,by simp[World.setRow],fun k hk=>setRow_other _ _ k _ hk⟩;have hq:=(d5.u.over a3.u ab).q;rw[gg.u];have e1:fw (w.heap.size+5) (w16.setRow w14.heap.size (c9 P3 y3))=tk3:=by
  rw[fw,World.rowIs.cell hq (by omega)];simp[intOf]
 rw[e1];rcases g4.u with ⟨rfl,rfl,h3⟩|⟨rfl,rfl,h3⟩
 ·show 2*(1024-(t+1))+0<2*(1024-(t+1))+1;omega
 have:=da h3;show 2*(1024-(t+2))+1<2*(1024-(t+1))+1;omega
def yx(l r:Bool)(xs:List El)(w:World)(e:Ending)(w':World):Prop:=
 ∃ (cv nv av:Value) (K code:Int) (X Y:List Int) (Z:List Bool),e=.returned (.tuple #[.agg #[cv,.int .i64 K,nv,av],.int .i64 code])/\Ag (io cv) (io nv) (io av) w' cv nv av X Y Z/\(∀ j,io cv j∨io nv j∨io av j->w.heap.size<=j/\j<w'.heap.size)/\
   (∀ j,io cv j->¬ io nv j/\¬ io av j)/\(∀ j,io nv j->¬ io av j)/\DS l r xs code K X Y Z/\X.length<=1048576/\Y.length<=1048576/\Z.length<=1048576/\Below w.heap.size w w'
theorem kW{l r:Bool}{xs:List El}{w w':World}{code:Int}(h:DS l r xs code 0 [] [] [])(hb:Below w.heap.size w w'):yx l r xs w (.returned (.tuple #[.agg #[.slice none 0 0,.int .i64 0,.slice none 0 0,.slice none 0 0],.int .i64 code])) w':=by
 refine⟨_,_,_,0,code,[],[],[],rfl,⟨⟨0,0,⟨none,0,rfl,by simp,by simp⟩,fun k _ h=>by omega⟩,⟨0,0,⟨none,0,rfl,by simp,by simp⟩,fun k _ h=>by omega⟩,⟨0,0,⟨none,0,rfl,by simp,by simp⟩,fun k _ h=>by omega⟩⟩,?_,?_,?_,h,by simp,by simp,by simp,hb⟩
 ·intro j hj;rcases hj with h|h|h<;>cases h
 ·intro j hj;cases hj
 intro j hj;cases hj
theorem Fx{k:Nat}{o:List (List Nat×Bool)}{ys:List Nat}(hl:ys.length=o.length*k){q c:Nat}(hq:q<o.length)(hc:c<k):ys[q*k+c]?=some (ys[q*k+c]?.getD 0):=by
 rw[List.getElem?_eq_getElem (by rw[hl];exact gO hq hc)];rfl
theorem EC{o:List (List Nat×Bool)}{q:Nat}(hq:q<o.length):(o.map Prod.snd)[q]?=some ((o[q]?.map Prod.snd).getD false):=by
 rw[List.getElem?_map,List.getElem?_eq_getElem hq];rfl
theorem rQ{pst:List Nat×Bool->Nat->List Nat×Bool}{s0:List Nat×Bool}{k:Nat}{cls rep:Nat->Nat}{o:List (List Nat×Bool)}{ys:List Nat}(h:fL pst s0 k cls rep o ys)(hl:ys.length=o.length*k)(ho:o.length<=1024)(hk:k<=256)(gc base:Nat)(nv av:Value)(w:World)(hrow:w.rowIs gc 3 256 (fun x=>.int .i64 (cls x:Nat)))(hn:w.ownsRow base 3 1 nv ys.length (ys.map mN))(ha:w.ownsRow base 4 1 av o.length ((o.map Prod.snd).map mT)) :
  Calls prog 23 #[.agg #[.slice (some ⟨gc,0,none⟩) 256 256,.int .i64 (k:Nat),nv,av]] w fun e w'=>∃ (cv nv av:Value) (K:Int) (X Y:List Int) (Z:List Bool),e=.returned (.agg #[cv,.int .i64 K,nv,av])/\Ag (io cv) (io nv) (io av) w' cv nv av X Y Z/\(∀ j,io cv j∨io nv j∨io av j->w.heap.size<=j/\j<w'.heap.size)/\
   (∀ j,io cv j->¬ io nv j/\¬ io av j)/\(∀ j,io nv j->¬ io av j)/\(∃ (kk:Nat) (o2 ys2:List Nat) (m:Nat) (num Fn mg G:Nat->Nat),cQ (bE k cls Prod.snd o ys) o2 ys2 m num Fn kk mg G/\K=(kk:Nat)/\X=mP (cQ.out (bE k cls Prod.snd o ys) o2 ys2 m num Fn kk mg G)/\Y=py (cQ.out (bE k cls Prod.snd o ys) o2 ys2 m num Fn kk mg G)/\Z=uV (cQ.out (bE k cls Prod.snd o ys) o2 ys2 m num Fn kk mg G))/\X.length<=1048576/\Y.length<=1048576/\Z.length<=1048576/\Below w.heap.size w w':=by
 have hp:=h.pre hl Prod.snd;have d:=h.bfs.pos;have f:=h.kpos;obtain⟨nb,ncap,rfl,-,n,g,a⟩:=dA hn (by rw[hl];exact Nat.mul_pos d f);obtain⟨ab,acap,rfl,-,p,-,b⟩:=dA ha d;have r:=hrow.lt;rw[hl]at g ⊢;refine(pS (bE k cls Prod.snd o ys) gc 0 256 nb 0 ncap ab 0 acap w hp.wf hp.clUp hp.clAll ho ⟨f,hk⟩ g n (fun q c hq hc=>⟨hp.wf.nxt q c hq hc,?_⟩) r (fun q hq=>?_) p (fun q hq=>?_)).mono ?_
 ·rw[Nat.zero_add];have i:q<o.length:=hq;have l:c<k:=hc;have e1:w.cell? ⟨nb,q*k+c,none⟩=(ys.map mN)[q*k+c]? :=a _ (by rw[hl];exact gO i l);have e2:=Fx hl i l;show w.cell? ⟨nb,q*k+c,none⟩=some (mN (ys[q*k+c]?.getD 0));rw[e1,List.getElem?_map,e2]
  rfl
 ·rw[Nat.zero_add,hrow.cell hq];rfl
 ·rw[Nat.zero_add,b q hq,List.getElem?_map,EC hq]
  rfl
 rintro e w' ⟨xv,nv,av,kk,rfl,hB,o2,ys2,m,num,F,mg,G,hs,hm,s,o1,o2',o3,d1,d2⟩;have t:m*kk<=1024*256:=Nat.mul_le_mul hm s;have e1:=o1.1;have e2:=o2'.1;have e3:=o3.1;rw[List.length_map,Nat.mul_one]at e1 e2 e3;refine⟨xv,nv,av,(kk:Nat),_,_,_,rfl,⟨lH o1 (by unfold maxLen;omega),lH o2' (by unfold maxLen;omega),sI o3 (by unfold maxLen;omega)⟩,?_,fun j hj=>d1 j hj,fun j hj=>d2 j hj,⟨kk,o2,ys2,m,num,F,mg,G,hs,rfl,rfl,rfl,rfl⟩,by omega,by omega,by omega,hB⟩;intro j hj;rcases hj with h|h|h
 ·exact o1.lt j h
 ·exact o2'.lt j h
 exact o3.lt j h
theorem pL(l r:Bool)(v:Value)(xs:List El)(w:World)(hv:az 0 w.heap.size w v xs)(htz:TZ w)(htl:Tryz.laysTZ_ren.g 1<w.heap.size) :
  Calls prog 9 #[.agg #[.bool l,.bool r,v]] w fun e w'=>yx l r xs w e w':=by
 obtain⟨a,cp,rfl,-,-⟩:=id hv;have Hv:=ae hv;have c6:Hi (∀ W,Below w.heap.size w W->TZ W):=fun W hW=>htz.below hW htl
 obtain⟨W0,J⟩ : ∃ W0,W0=(w.alloc (.cells #[.bool l,.bool r,.slice a xs.length cp] 25)).alloc (.cells #[.slice none 0 0,.int .i64 0,.slice none 0 0,.slice none 0 0] 33):=⟨_,rfl⟩;have eq:W0.heap.size=w.heap.size+2:=by rw[J,ah,ah]
 have b9:Below w.heap.size w W0:=by rw[J];exact aH w _ _
 have c7:aD W0 (w.heap.size+1) 33 (.slice none 0 0) (.int .i64 0) (.slice none 0 0) (.slice none 0 0):=by
  have:=aD.new (w.alloc (.cells #[.bool l,.bool r,.slice a xs.length cp] 25)) 33 (.slice none 0 0) (.int .i64 0) (.slice none 0 0) (.slice none 0 0);rw[ah]at this;rw[J];exact this
 have ca:=ae c7;have cb:=ae J;clear hv htz J c7
 go_enter func9,ntmps9
 go_wp2_with fail;rw[<-cb.u];clear cb;refine(iW bS l r _ xs _ (Hv.u.below b9 lR)).mono ?_;rintro e w1 ⟨M,a7⟩;have er:=a7.size;have a8:Hi (Below w.heap.size w w1):=b9.trans (a7.mono (by omega));have a9:=ca.u.below a7 (by omega);have bb:=ae a9;clear a7 b9 ca;rcases M with ⟨U,L,rfl,⟨T,x,rfl⟩,hok,cc,hL,hQ⟩|⟨rfl,ap⟩
 ·clear a9;obtain⟨A,ln,ss,c,aq,e7,e8,ab,cf,ar,ch,ci⟩:=hQ;have ck:=lG l r L;have aw:=jr (fS l r L);rw[ch.ws]at aw;have s:aO (fS l r L)<=512:=by omega
  have e9:=a8.u.size;have bc:=ae (gQ aq s w1 (c6.u _ a8.u) (by omega));have B:Hi (mz l r xs (bu (fS l r L)) A.nl (cZ A false 0) (cZ A true 0) (eT ln (aO (fS l r L)))):=Or.inl ⟨hok,L,A,ln,ss,cc,hL,ab,rfl,rfl,rfl,rfl,rfl⟩;have ad:Hi ((bu (fS l r L)).length=aO (fS l r L)):=dv _;have bd:=ae ab.sets;have bf:=ae ab.lkb;have C:=ae cf;have co:=ae ar;have cr:=ae hok;obtain⟨N,cs⟩ : ∃ N,N=aO (fS l r L):=⟨_,rfl⟩;obtain⟨S,ct⟩ : ∃ S,S=bu (fS l r L):=⟨_,rfl⟩;rw[<-cs]at bc bf C s B ad;rw[<-ct]at B ad bd;clear aq ab cf ch e7 e8 ar ci hok cc hL ck aw cs ct
  go_wp2_with fail;refine bc.u.mono ?_;rintro e w2 ⟨f,l2,rfl,ax,hf,cw,af⟩;obtain⟨sv,gs,fv,fs,c0,cx,bi,bj,bl,b0,b1⟩:=ax.rd;have ea:w1.heap.size<w2.heap.size:=by obtain⟨⟨F,h1,-⟩,-⟩:=bl;exact h1.lt
  have cy:=ae (jH w1.heap.size N sv gs w2 c0 ea cx (fun i hi=>(bj i hi).1) s);have d0:Hi (Below w.heap.size w w2):=a8.u.trans (af.mono e9);have d3:=ae (bb.u.below af (by omega));have eb:=ae bl;have HF:=ae hf;have d4:=ae cw;have d5:=ae b0;have b2:=ae b1;have b3:=ae bj;have es:=af.size;clear ax hf cw af c0 cx bi bj bl b0 b1 bc bb
  go_wp2_with fail;refine cy.u.mono ?_;rintro e w3 ⟨⟨gc,mm,K,hs,hv,ks,H,rfl,t,O,E,hH⟩,P⟩;have et:=P.size;obtain⟨d6,d7,rfl⟩:=aj O;obtain⟨W,hW⟩ : ∃ W,W=w3.alloc (.cells #[.pointer (some ⟨w1.heap.size,0,none⟩),.slice (some ⟨gc,0,none⟩) 256 256,.slice d6 mm d7] 54):=⟨_,rfl⟩;have bn:=xP eb.u P hW t O E hH HF.u.1 d4.u.1 d5.u;have bo:Below w.heap.size w w3:=d0.u.trans (P.mono d0.u.size);have Q:Below w3.heap.size w3 W:=by rw[hW];exact ai w3 _
  have ag:Below w.heap.size w W:=by rw[hW];exact bo.alloc bo.size _
  have ev:w3.heap.size+1<=W.heap.size:=by rw[hW,ah];omega
  have bq:=ae ((d3.u.below P (by omega)).below Q (by omega));obtain⟨rep,n⟩:=E.num1;have d8:mm<=256:=E.le;have d9:1<=mm:=(n.zero (by decide)).2.2;have R:∀ x,x<256->∀ i,Bt (H x) i=li S i x:=fun x hx i=>by
   rw[Bool.eq_iff_iff,(hH x hx).2 i,jF,ad.u]
   constructor
   ·rintro⟨q1,q2⟩;rw[jy (b3.u i q1),bd.u]at q2;exact⟨q1,q2⟩
   rintro⟨q1,q2⟩;refine⟨q1,?_⟩;rw[jy (b3.u i q1),bd.u];exact q2
  have D:∀ x,x<256->∀ i,Bt (hs (K x)) i=li S i x:=fun x hx i=>by
   rw[<-R x hx i]
   by_cases e:i<512
   ·exact(Cy (E.cl x hx).2 i e).symm
   have h1:∀ b:Bool,(b=true->i<N)->b=false:=fun b hb=>by
    cases b
    ·rfl
    have:=hb rfl;omega
   rw[h1 _ (fun q=>bn.inn _ (E.cl x hx).1 i q),h1 _ (fun q=>((hH x hx).2 i).1 q |>.1)]
  have b4:∀ i j,Bt (fs i) j=mZ (eT ln N) i j:=fun i j=>by rw[b2.u,pw bf.u]
  have b5:∀ i,Bt l2 i=nO (cZ A true 0) i:=fun i=>by rw[d4.u.2,Bs]
  have b6:gj f N=(cZ A false 0).map Int.toNat:=by
   rw[Ce,<-EZ HF.u co.u.1 (fun y hy=>by have:=C.u.1 y hy;omega)];unfold gj;have V:∀ i,Bt f i=true->i<N:=fun i hi=>by rw[HF.u.2,List.contains_iff_mem]at hi;exact C.u.1 i hi
   exact(zw (by omega) V).symm
  have db:xj N f:=⟨HF.u.1,fun i hi=>by rw[HF.u.2,List.contains_iff_mem]at hi;exact C.u.1 i hi⟩;have br:=ae (we w3.heap.size w1.heap.size N mm gc (.slice d6 mm d7) fv K hs fs A.nl f l2 W bn (li S) (mZ (eT ln N)) (nO (cZ A true 0)) rep s d8 d9 (fun c hc i=>by
   have:=n.fst c hc;rw[<-D (rep c) this.1 i,this.2]) b4 b5 (fun i j h=>by rw[b2.u]at h;exact(gP bf.u h).2) db (c6.u _ ag) (by have:=ag.size;omega))
  have a0:∀ b,b<256->∀ x,nY S (cZ A true 0) (eT ln N) x (rep (K b))=nY S (cZ A true 0) (eT ln N) x b:=fun b hb x=>by
   unfold nY;refine mD x fun i _=>?_
   have hk:=n.fst (K b) (n.lt b hb);rw[<-D b hb i,<-D _ hk.1 i,hk.2]
  have al:Hi (∀ (o:List ((Nat->Nat)×Bool)) (ys:List Nat),eK mm (fun x e=>bN N (li S) (mZ (eT ln N)) (nO (cZ A true 0)) x (rep e)) (fK N (f,A.nl)) (o.map (fK N)) ys->fL (nY S (cZ A true 0) (eT ln N)) (nK (cZ A false 0) A.nl) mm K rep (o.map (fK N)) ys):=fun o ys hB=>by
   refine⟨n,a0,?_⟩;have e1:nK (cZ A false 0) A.nl=fK N (f,A.nl):=by unfold nK fK;rw[b6]
   rw[e1];unfold nY;rw[ad.u];exact hB
  have a1:=ae (t.of_block (Q.block _ t.lt));have ec:gc<W.heap.size:=by have:=t.lt;omega
  have bs:=ae ag;have HW:=ae hW;clear bn t O E hH P bo ag hW cy Q n R D b4 b5 b6 db a0 d3
  go_wp2_with fail;rw[<-HW.u];clear HW;refine br.u.mono ?_;rintro e w4 ⟨G,M⟩;have ex:=G.size;have p:Below w.heap.size w w4:=bs.u.trans (G.mono bs.u.size);have an:=bq.u.below G (by omega);have ey:=bs.u.size;rcases M with ⟨nv,av,o,ys,rfl,a2,bt,ds,bv,bx,ee⟩|⟨o,ys,rfl,a2,b7⟩
  ·obtain⟨na,nc,rfl⟩:=aj bv;obtain⟨aa,ac,rfl⟩:=aj bx;obtain⟨w5,m⟩ : ∃ w5,w5=w4.alloc (.cells #[.slice (some ⟨gc,0,none⟩) 256 256,.int .i64 (mm:Nat),.slice na ys.length nc,.slice aa o.length ac] 33):=⟨_,rfl⟩;have d:Below w4.heap.size w4 w5:=by rw[m];exact ai w4 _
   have e0:aD w5 w4.heap.size 33 (.slice (some ⟨gc,0,none⟩) 256 256) (.int .i64 (mm:Nat)) (.slice na ys.length nc) (.slice aa o.length ac):=by rw[m];exact aD.new w4 _ _ _ _ _
   have I:=an.below d (by omega);have a3:Below w.heap.size w w5:=p.trans (d.mono (by have:=p.size;omega));have f0:=d.size;have bz:=al.u o ys a2;have a4:(o.map (fK N)).length=o.length:=by simp
   have b8:w5.ownsRow W.heap.size 4 1 (.slice aa o.length ac) (o.map (fK N)).length (((o.map (fK N)).map Prod.snd).map mT):=by
    rw[a4,show(o.map (fK N)).map Prod.snd=o.map Prod.snd by rw[List.map_map];rfl];exact aG bx d lR
   have e2:=ae (rQ bz (by rw[a4];exact bt) (by rw[a4];exact ds) d8 gc W.heap.size _ _ w5 (a1.u.of_block ((d.block _ (by omega)).trans (G.block _ ec))) (aG bv d lR) b8);have e3:=ae bz;have e4:=ae a4;have ek:=ae bt;obtain⟨g0,g1,g2,g3,-⟩:=e0.facts;have ao:=ae m;have c1:=ae a3;have c2:=ae I;rw[m]at g0 g1 g2 g3;clear d e0 I a3 m bz a4 b8 a2 bt bv bx ee an p G br al bq a1
   go_wp2_with fail;rw[<-ao.u];clear ao g0 g1 g2 g3;refine e2.u.mono ?_;rintro e w6 ⟨cv,nv6,av6,KK,X,Y,Z,rfl,a5,hT,d1,d2,e5,q1,q2,q3,c3⟩;obtain⟨u1,v1,rfl⟩:=a5.x.val;obtain⟨u2,v2,rfl⟩:=a5.y.val;obtain⟨u3,v3,rfl⟩:=a5.z.val;have c4:=c2.u.below c3 (by omega);obtain⟨x0,x1,x2,x3,z0,z1,z2,z3⟩:=c4.facts;have a6:Hi (DS l r xs 0 KK X Y Z):=Or.inr ⟨cr.u,_,_,_,_,_,B.u,Or.inr ⟨_,_,_,_,_,e3.u,by rw[e4.u];exact ek.u,by rw[e4.u];exact ds,rfl,e5⟩⟩;have el:=ae c4;have em:=ae a5;have HT:=ae hT;have en:=ae d1;have ep:=ae d2;have e6:=ae c3;clear c4 a5 hT d1 d2 c3 e5 e2;go_wp2;refine bodyPost_ret (dq (dp el.u _ _ _ _) rfl _ rfl rfl) rfl ?_;have c5:=ei w6 (w.heap.size+1) (.slice u1 X.length v1) (.int .i64 KK) (.slice u2 Y.length v2) (.slice u3 Z.length v3);have f1:=e6.u.size;have V:∀ j,io (.slice u1 X.length v1) j∨io (.slice u2 Y.length v2) j∨io (.slice u3 Z.length v3) j->j≠w.heap.size+1:=fun j hj=>by have:=(HT.u j hj).1;omega
   refine⟨_,_,_,KK,0,X,Y,Z,rfl,em.u.same (fun k hk=>c5.block k (V k hk)),fun j hj=>⟨by have:=(HT.u j hj).1;omega,by rw[c5.size];exact(HT.u j hj).2⟩,en.u,ep.u,a6.u,q1,q2,q3,(c1.u.trans (e6.u.mono (by omega))).trans (c5.bel (by omega))⟩
  obtain⟨w5,m⟩ : ∃ w5,w5=w4.alloc (.cells #[.slice none 0 0,.int .i64 0,.slice none 0 0,.slice none 0 0] 33):=⟨_,rfl⟩;have d:Below w4.heap.size w4 w5:=by rw[m];exact ai w4 _
  have I:=an.below d (by omega);have a3:Below w.heap.size w w5:=p.trans (d.mono (by have:=p.size;omega));have a6:Hi (DS l r xs 3 0 [] [] []):=Or.inr ⟨cr.u,_,_,_,_,_,B.u,Or.inl ⟨_,_,_,_,_,al.u o ys a2,by rw[List.length_map];exact b7,rfl,rfl,rfl,rfl,rfl⟩⟩;obtain⟨x0,x1,x2,x3,z0,z1,z2,z3⟩:=I.facts;have ao:=ae m;have c1:=ae a3;have c2:=ae I;rw[m]at x0 x1 x2 x3 z0 z1 z2 z3;clear d I a3 m a2 b7 an p G br al bq a1;go_wp2;rw[<-ao.u];refine bodyPost_ret (dq (dp c2.u _ _ _ _) rfl _ rfl rfl) rfl ?_;exact kW a6.u (c1.u.trans ((ei w5 (w.heap.size+1) (.slice none 0 0) (.int .i64 0) (.slice none 0 0) (.slice none 0 0)).bel (by omega)))
 obtain⟨x0,x1,x2,x3,z0,z1,z2,z3⟩:=a9.facts;have a6:Hi (DS l r xs 4 0 [] [] []):=Or.inl ⟨ap,rfl,rfl,rfl,rfl,rfl⟩;clear a9 ap;go_wp2;refine bodyPost_ret (dq (dp bb.u _ _ _ _) rfl _ rfl rfl) rfl ?_;exact kW a6.u (a8.u.trans ((ei w1 (w.heap.size+1) (.slice none 0 0) (.int .i64 0) (.slice none 0 0) (.slice none 0 0)).bel (by omega)))
theorem az.form{lo n:Nat}{w:World}{v:Value}{xs:List El}(h:az lo n w v xs):∃ a c,v=.slice a xs.length c:=by
 obtain⟨a,c,e,-⟩:=h;exact⟨a,c,e⟩
theorem zF{cs:List Int}(h:oO cs):bZ (cs.take 600):=fun x hx=>by
 have a:=List.mem_of_mem_take hx;obtain⟨i,hi,e⟩:=List.getElem_of_mem a;have:=h i;rw[List.getElem?_eq_getElem hi,Option.getD_some,e]at this;exact this
theorem lj.put{w:World}{b:Nat}{t:TypeId}{c0 c1 c2 u0 u1 u2:Value}(h:lj w b t c0 c1 c2):lj (((w.setCell ⟨b,0,none⟩ u0).setCell ⟨b,1,none⟩ u1).setCell ⟨b,2,none⟩ u2) b t u0 u1 u2:=
 (World.rowIs.set (World.rowIs.set (World.rowIs.set h 0 u0) 1 u1) 2 u2).congr (fun i hi=>by
  match i,hi with
  | 0,_=>rfl
  | 1,_=>rfl
  | 2,_=>rfl)
theorem vC{bs:List Int}(h:bZ bs):oO bs:=fun i=>by
 by_cases hi:i<bs.length
 ·rw[List.getElem?_eq_getElem hi];exact h _ (List.getElem_mem hi)
 rw[List.getElem?_eq_none (by omega)];simp
theorem sT(cv:Value)(cs:List Int)(w:World)(hv:aP mB 0 0 w.heap.size w cv cs)(hcap:dj cv)(hb:oO cs)(htz:TZ w)(hlt:Tryz.laysTZ_ren.g 1<w.heap.size) :
  Calls prog 3 #[cv] w fun e w'=>e=.returned (.bool true)/\Below w.heap.size w w':=by
 have HV:=ae hv;have T:=ae hcap;have HX:=ae (zF hb);have x:Hi (∀ W,Below w.heap.size w W->TZ W/\Tryz.laysTZ_ren.g 1<W.heap.size):=fun W hW=>⟨htz.below hW hlt,by have:=hW.size;omega⟩
 obtain⟨ca,cc,rfl,-⟩:=hv;clear hcap hb htz hlt
 by_cases hlen:(1048576:Int)<(cs.length:Int)
 ·go_enter func3,ntmps3
  go_wp2;go_ret;exact⟨rfl,Below.refl _ _⟩
 obtain⟨bs,I⟩:=pW cs;obtain⟨l,r,X,hR⟩ : ∃ (l r:Bool) (X:List El),iy (cs.take 600)=((l,r),X):=⟨_,_,_,rfl⟩;rw[hR]at I;have J:Hi (∀ W,Below w.heap.size w W->Calls prog 4 #[.slice ca cs.length cc] W (CS W ((l,r),X) bs)):=fun W hW=>I _ W (HV.u.cut hW lR) T.u HX.u
 clear hR I HV T HX
 go_enter func3,ntmps3
 go_wp2_with fail;refine(J.u w (Below.refl _ _)).mono ?_;rintro e w1 ⟨v1,lv,rfl,j,a,U,bq,K⟩;have ap:=ae (j.mono (lo':=0) (Nat.zero_le _) lR);obtain⟨a1,c1,rfl⟩:=j.form;have aq:=ae (eu a (by unfold maxLen;omega));obtain⟨la,lc,rfl⟩:=aj a;have y:=ae U;have ar:=K.size;have av:=ae K;have HP:=ae (lj.new w1 25 (.bool l) (.bool r) (.slice a1 X.length c1));have L:=ae (ai w1 (.cells #[.bool l,.bool r,.slice a1 X.length c1] 25));have b0:(w1.alloc (.cells #[.bool l,.bool r,.slice a1 X.length c1] 25)).heap.size=w1.heap.size+1:=ah _ _;clear j K a U
 go_wp2_with fail;generalize w1.alloc (.cells #[.bool l,.bool r,.slice a1 X.length c1] 25)=W1 at *;have V:=ae (ap.u.below L.u lR);have b1:=ae (aq.u.cut L.u lR);have Y:w1.heap.size<W1.heap.size:=by omega
 clear b0;refine(eh l r _ X W1 V.u).mono ?_;rintro e w2 ⟨m,h⟩;have br:=h.size;have Z:=ae (av.u.trans ((L.u.mono ar).trans (h.mono (by omega))));have a0:=ae (HP.u.below h Y);have a2:=ae (V.u.below h lR);have b2:=ae (b1.u.cut h lR);clear h;rcases m.cases with ⟨rfl,hok⟩|⟨rfl,a3⟩
 ·obtain⟨p0,p1,p2⟩:=a0.u.facts;clear m
  go_wp2_with fail;refine(nu l r _ _ X bs w2 a2.u b2.u y.u (by omega)).mono ?_;rintro e w3 ⟨⟨bi,rfl,a4⟩,n⟩;have a6:=ae a4;have bt:=n.size;have b3:=ae (Z.u.trans (n.mono (by omega)));have b4:=ae (a0.u.below n (by omega));have b5:=ae (a2.u.below n lR);clear n a4 p0 p1 p2;obtain⟨p0,p1,p2⟩:=b4.u.facts
  go_wp2_with fail;refine(pK l r _ X w3 b5.u).mono ?_;rintro e w4 ⟨cw,nw,aw,K1,code,X1,Y1,Z1,rfl,s1,s2,s3,a8,M⟩;obtain⟨p1,d1,rfl,-,-⟩:=id s1;obtain⟨p2,d2,rfl,-,-⟩:=id s2;obtain⟨p3,d3,rfl,-,-⟩:=id s3;have b6:=ae a8;have bv:=M.size;have a9:=ae (b3.u.trans (M.mono (by omega)));have b7:=ae (ai w4 (.cells #[.slice p1 X1.length d1,.int .i64 K1,.slice p2 Y1.length d2,.slice p3 Z1.length d3] 33));have bx:(w4.alloc (.cells #[.slice p1 X1.length d1,.int .i64 K1,.slice p2 Y1.length d2,.slice p3 Z1.length d3] 33)).heap.size=w4.heap.size+1:=ah _ _;clear M a8 s1 s2 s3
  go_wp2_with fail;generalize w4.alloc (.cells #[.slice p1 X1.length d1,.int .i64 K1,.slice p2 Y1.length d2,.slice p3 Z1.length d3] 33)=W4 at *;have p:=ae (a9.u.trans (b7.u.mono a9.u.size));refine(J.u W4 p.u).mono ?_;rintro e w5 ⟨v5,lv5,rfl,q,c,-,-,O⟩;have b8:=ae (q.mono (lo':=0) (Nat.zero_le _) lR);obtain⟨a5,c5,rfl⟩:=q.form;have b9:=ae (eu c (by unfold maxLen;omega));obtain⟨la5,lc5,rfl⟩:=aj c;have bz:=O.size;have P:=ae (p.u.trans (O.mono p.u.size));have bb:=ae (lj.new w5 25 (.bool l) (.bool r) (.slice a5 X.length c5));have Q:=ae (ai w5 (.cells #[.bool l,.bool r,.slice a5 X.length c5] 25));have c0:(w5.alloc (.cells #[.bool l,.bool r,.slice a5 X.length c5] 25)).heap.size=w5.heap.size+1:=ah _ _;clear q O c
  go_wp2_with fail;generalize w5.alloc (.cells #[.bool l,.bool r,.slice a5 X.length c5] 25)=W5 at *;have f:=ae (P.u.trans (Q.u.mono P.u.size));refine(nR l r _ _ X bs W5 (b8.u.below Q.u lR) (b9.u.cut Q.u lR) y.u (by omega) (x.u W5 f.u).1 (x.u W5 f.u).2).mono ?_;rintro e w6 ⟨⟨bj,rfl,aa⟩,z⟩;obtain rfl:bj=bi:=Bool.eq_iff_iff.2 (aa.trans a6.u.symm);have c2:=z.size;have R:=ae (f.u.trans (z.mono f.u.size));have bc:=ae (bb.u.below z (by omega));have S:w.heap.size<=w5.heap.size:=P.u.size;clear z aa
  go_wp2_with fail;refine(J.u w6 R.u).mono ?_;rintro e w7 ⟨v7,lv7,rfl,s,d,-,-,A⟩;have BP:=bc.u.below A (by omega);obtain⟨f0,f1,f2⟩:=BP.facts;have z0:=World.rowIs.frozen BP 0;have z1:=World.rowIs.frozen BP 1;have z2:=World.rowIs.frozen BP 2;have c3:=A.size;obtain⟨a7,c7,rfl⟩:=s.form;obtain⟨la7,lc7,rfl⟩:=aj d;have ab:=ae (BP.put (u0:=.bool l) (u1:=.bool r) (u2:=.slice a7 X.length c7));have ad:=ae ((s.mono (lo':=w5.heap.size+1) (by omega) lR).put3 (lo:=0) (u0:=.bool l) (u1:=.bool r) (u2:=.slice a7 X.length c7) (Nat.zero_le _));have af:=ae (gB (B:=w5.heap.size) (o:=2) (u:=.slice a7 X.length c7) (gB (B:=w5.heap.size) (o:=1) (u:=.bool r) (gB (B:=w5.heap.size) (o:=0) (u:=.bool l) d (by omega)) (by omega)) (by omega));have C:=ae (aI (b:=w5.heap.size) (o:=2) (aI (b:=w5.heap.size) (o:=1) (aI (b:=w5.heap.size) (o:=0) (R.u.trans (A.mono R.u.size)) S (.bool l)) S (.bool r)) S (.slice a7 X.length c7));obtain⟨g0,g1,g2⟩:=ab.u.facts;have c4:(((w7.setCell ⟨w5.heap.size,0,none⟩ (.bool l)).setCell ⟨w5.heap.size,1,none⟩ (.bool r)).setCell ⟨w5.heap.size,2,none⟩ (.slice a7 X.length c7)).heap.size=w7.heap.size:=by simp only[aJ]
  clear BP s A d
  go_wp2_with fail;generalize ((w7.setCell ⟨w5.heap.size,0,none⟩ (.bool l)).setCell ⟨w5.heap.size,1,none⟩ (.bool r)).setCell ⟨w5.heap.size,2,none⟩ (.slice a7 X.length c7)=W8 at *;have bd:=ae (eu af.u (by unfold maxLen;omega));refine(pL l r _ X W8 ad.u (x.u W8 C.u).1 (x.u W8 C.u).2).mono ?_;rintro e w9 ⟨cx,nx,ax,K2,code2,X2,Y2,Z2,rfl,⟨t1,t2,t3⟩,D,-,-,t,c6,cb,bl,E⟩;have e1:=yR b6.u t;subst e1;have s1:=t1.at (N:=w9.heap.size) (fun k hk=>(D k (Or.inl hk)).2);have s2:=t2.at (N:=w9.heap.size) (fun k hk=>(D k (Or.inr (Or.inl hk))).2);have s3:=t3.at (N:=w9.heap.size) (fun k hk=>(D k (Or.inr (Or.inr hk))).2);have bf:=ae (bd.u.cut E lR);have T1:=ae s1;have T2:=ae s2;have T3:=ae s3;obtain⟨q1,e1,rfl,-,-⟩:=id s1;obtain⟨q2,e2,rfl,-,-⟩:=id s2;obtain⟨q3,e3,rfl,-,-⟩:=id s3;have ag:=ae t;have cf:=E.size;have F:=ae (C.u.trans (E.mono C.u.size));have i:=ae (ai w9 (.cells #[.slice q1 X2.length e1,.int .i64 K2,.slice q2 Y2.length e2,.slice q3 Z2.length e3] 33));have ch:(w9.alloc (.cells #[.slice q1 X2.length e1,.int .i64 K2,.slice q2 Y2.length e2,.slice q3 Z2.length e3] 33)).heap.size=w9.heap.size+1:=ah _ _;obtain⟨m0,m1,m2,m3,-⟩:=(aD.new w9 33 (.slice q1 X2.length e1) (.int .i64 K2) (.slice q2 Y2.length e2) (.slice q3 Z2.length e3)).facts;clear E t t1 t2 t3 s1 s2 s3 D f0 f1 f2 g0 g1 g2 z0 z1 z2 ab ad af
  by_cases h0:code=0
  ·subst h0
   go_wp2_with fail;generalize w9.alloc (.cells #[.slice q1 X2.length e1,.int .i64 K2,.slice q2 Y2.length e2,.slice q3 Z2.length e3] 33)=W9 at *;refine(qx _ _ _ _ X2 Y2 bs Z2 K2 W9 (T1.u.cut i.u lR) (T2.u.cut i.u lR) (T3.u.cut i.u lR) (bf.u.cut i.u lR) (vC y.u) (by omega)).mono ?_;obtain⟨k1,k2⟩:=Cb ag.u y.u (by omega);rintro e w10 ⟨⟨hn,-⟩|⟨-,tv,rfl,al⟩,G⟩
   ·exact absurd k1 hn
   have H:Z2[(kM X2 Y2 bs K2 bs.length).toNat]?.getD false=bj:=Bool.eq_iff_iff.2 (k2.trans a6.u.symm);rw[H];have an:=ae (F.u.trans ((i.u.trans (G.mono (by omega))).mono F.u.size));obtain⟨ta,tc,rfl,-,v⟩:=al.at;obtain⟨b,off,rfl,-,-,ao⟩:=v (by rw[kD];omega);have d0:w10.cell? ⟨b,off,none⟩=some (.int .i64 0):=by
    have:=ao 0 (by rw[kD];omega);rw[vQ _ _ _ _ _ _ (by omega)]at this;exact this
   rw[kD];have bn:0<bs.length+1:=by omega
   have bo:((bs.length+1:Nat):Int)=(bs.length:Int)+1:=by omega
   clear v ao al H k1 k2 G;go_wp2;go_ret;exact⟨rfl,an.u⟩
  have ci:(code==0)=false:=beq_eq_false_iff_ne.2 h0;go_wp2;go_ret;exact⟨rfl,F.u.trans (i.u.mono F.u.size)⟩
 clear m a3;go_wp2;go_ret;exact⟨rfl,Z.u⟩
open Go.ChangeShapes Go.WideShapes Go.ChangeAt Go.RowKit
theorem Fu:prog.globalNamed "math/bits.deBruijn64tab" = some 0:=by kernel_rfl
theorem Am:(prog.globals[0]?).map (·.type)=some 191:=by kernel_rfl
theorem zV:prog.cellsOf 191=64:=by kernel_rfl
theorem Bh:prog.cellsOf 5=1:=by kernel_rfl
theorem zf:prog.underlying 191=some (.array 64 5):=by kernel_rfl
theorem vV:prog.underlying 5=some (.int .u8):=by kernel_rfl
theorem BW:Rows.fnDfaRow.laid.filter (fun x=>x.1 == "math/bits.deBruijn64tab")=[("math/bits.deBruijn64tab",Lib.tabData .u8 (Lib.deBruijn64tab.map Int.ofNat))]:=by kernel_rfl
theorem CC{W:World}(h:laidMetH prog Rows.fnDfaRow.laid W):Lib.TabIs prog W "math/bits.deBruijn64tab" .u8 (Lib.deBruijn64tab.map Int.ofNat):=by
 have h2:=laidMetH.filter (fun x=>x.1 == "math/bits.deBruijn64tab") h
 rw[BW]at h2;exact Lib.tabIs_of_head (rest:=[]) Fu Am zf vV Bh zV h2
theorem CE:Tryz.laysTZ_ren.g 1=0:=by kernel_rfl
theorem Ct{W:World}(h:Lib.TabIs prog W "math/bits.deBruijn64tab" .u8 (Lib.deBruijn64tab.map Int.ofNat)):TZ W/\Tryz.laysTZ_ren.g 1<W.heap.size:=by
 unfold Lib.TabIs World.var? at h;rw[Fu]at h;simp only[Option.bind_some]at h;have hlt:0<W.heap.size:=by
  rcases Nat.lt_or_ge 0 W.heap.size with h' | h'
  ·exact h'
  rw[Array.getElem?_eq_none h']at h;simp at h
 refine⟨fun j hj=>?_,by rw[CE];exact hlt⟩;rw[CE];cases hg:W.heap[0]? with
 | none=>rw[hg]at h;cases h
 | some o =>
  rw[hg]at h;cases o with
  | cells cs t fr =>
   have e:cs=((Lib.deBruijn64tab.map Int.ofNat).map fun z=>Value.int .u8 z).toArray:=Option.some.inj h;rw[cell_of_row W 0 j cs t fr hg,e];simp[hj]
  | _=>cases h
def kg:DataW Unit->Array Value
 | .agg ps=>(ps.map fun | .lit (.int k z)=>Value.int k z|_=>undef).toArray
 | _=>#[]
def xG(cs:Array Value):Obj->Obj
 | .cells _ t frozen=>.cells cs t frozen
 | o=>o
theorem xY(os:Os):laidMet prog Rows.fnDfaRow.laid (({ World.holding prog os ⟨#[],#[],[]⟩ with heap:=(World.holding prog os ⟨#[],#[],[]⟩).heap.modify 0 (xG (kg Rows.laid_math_bits_deBruijn64tab)) }:World).forCall (fun _ _=>0) ⟨#[],#[.slice none 0 0],[]⟩).memory:=
 laidMet_of_run' 8 (by kernel_rfl) (by kernel_rfl)
theorem reads(os:Os){H:Type}(enc:TypeId×Value->H):∃ places,DataW.whole enc prog (({ World.holding prog os ⟨#[],#[],[]⟩ with heap:=(World.holding prog os ⟨#[],#[],[]⟩).heap.modify 0 (xG (kg Rows.laid_math_bits_deBruijn64tab)) }:World).forCall (fun _ _=>0) ⟨#[],#[.slice none 0 0],[]⟩).memory Tryz.f3.params.toList Rows.fnDfaSpec.vars false #[Value.slice none 0 0].toList 8=some ([.nil],[],places):=
 ⟨[],by kernel_rfl⟩
theorem sU(os:Os)(started:os.Started)(H:Type)(enc:TypeId×Value->H)(F:Stop.Interp) :
  ReturnsInHanded {} Tryz.checked os 3 .any ((OpenSpec.ofChange Rows.fnDfaSpec).preRow enc prog Tryz.f3 Rows.fnDfaRow.domain false Rows.fnDfaRow.laid) (((OpenSpec.ofChange Rows.fnDfaSpec).at F).post enc prog Tryz.f3 false true false false):=by
 obtain⟨places,hx⟩:=reads os enc;refine returnsInHanded_of_row (C:=Tryz.checked) (s:=OpenSpec.ofChange Rows.fnDfaSpec) Tryz.own started (by kernel_rfl) func3
  (witness_row_at (enc:=enc) (C:=Tryz.checked) false ({ World.holding prog os ⟨#[],#[],[]⟩ with heap:=(World.holding prog os ⟨#[],#[],[]⟩).heap.modify 0 (xG (kg Rows.laid_math_bits_deBruijn64tab)) }:World) #[.slice none 0 0] rfl (by kernel_rfl) (by kernel_rfl) (by kernel_rfl)
   (OpenSpec.preRow_of_cond 8 hx (by kernel_rfl) (fun k hk=>by cases hk) (by kernel_rfl) (xY os))) ?_
 intro W base args ds gs before hval0 hW _ _ _ hL _ _;have hval:∀ (j:Nat) t v,Tryz.f3.params[j]?=some t->args[j]?=some v->Value.okWide prog W .any base t v:=hval0;have d:=hW;obtain⟨p,q,b,hV,rfl,n,o⟩:=hW;have hA:DataW.TrodAll enc prog W 0 (fun _=>true) true Tryz.f3.params.toList args.toList ds p:=b;rw[params3]at hA hval;obtain⟨v1,vs1,d1,ds1,p1,q1,hargs,rfl,rfl,h1,r1⟩:=trodAll_cons hA;obtain⟨rfl,rfl,rfl⟩:=trodAll_nil r1;obtain rfl:args=#[v1]:=by cases args;simp_all
 obtain⟨rfl,rfl⟩:=trodVars_none hV;have k1:=h1;have lt1:∀ x∈p1,x.block<W.heap.size:=by obtain⟨m,hm⟩:=k1;exact DataW.trod_lt m _ _ _ hm
 obtain⟨a,l,c,rfl⟩:=okWide_slice underlying22 (hval 0 22 v1 rfl rfl);obtain⟨bs,f,g,i⟩ : ∃ bs,aP mB 0 0 W.heap.size W (.slice a l c) bs/\dj (.slice a l c)/\oO bs:=by
  obtain⟨fuel,hf⟩:=h1;exact vF (by simpa[Value.cells]using hf)
 clear b hval0;refine(sT _ bs W f g i (Ct (CC hL)).1 (Ct (CC hL)).2).mono fun e W' ⟨he,bel⟩=>?_
 subst he;exact⟨_,rfl,_,_,_,[],_,[],d,trodAll_mk1 (shut_bool underlying4 _),(trodAll_cons_mk (Below.trod Tryz.laidOut (by kernel_rfl) (of_decide_eq_true (by kernel_rfl)) k1 bel lt1) trodAll_mk0),rfl,bel.frame _,fun h=>by cases h⟩
theorem tX:Rows.FnDfaSaid:=
 OpenClaim.holds_of_cond 3 Tryz.f3 rfl rfl rfl rfl rfl rfl rfl ⟨rfl,rfl,rfl,rfl,rfl⟩ rfl rfl rfl rfl rfl (by kernel_rfl) func3 (by kernel_rfl)
  (of_decide_eq_true (by kernel_rfl)) (by unfold Func.isWrapper;first|(rw[if_pos (by decide +kernel)];kernel_rfl)|(rw[if_neg (by decide +kernel)];exact⟨rfl,rfl⟩))
  (fun os started H enc _ F=>by rw[OpenClaim.pre_eq_preRow];exact sU os started H enc F)
theorem vv(f:FuncId)(fn:Func)(hf:Tryz.pinned.checked.prog.funcNamed "loop.example/s0027/laws.FnDfa" = some f)(hfn:Tryz.pinned.checked.prog.funcs[f]?=some fn) :
  true=Tryz.pinned.checked.prog.looks []/\∀ (j:Nat) t,fn.params[j]?=some t->Tryz.pinned.checked.prog.wantsStandIn t=false:=by
 obtain rfl:f=3:=Option.some.inj ((show prog.funcNamed "loop.example/s0027/laws.FnDfa" = some 3 by kernel_rfl).symm.trans hf) |>.symm
 obtain rfl:fn=Tryz.f3:=(Option.some.inj (func3.symm.trans hfn)).symm;refine⟨by kernel_rfl,fun j t ht=>?_⟩;rw[params3]at ht;obtain rfl:t=22:=by simpa using Array.mem_of_getElem? ht
 exact(show prog.wantsStandIn 22=false by kernel_rfl)
theorem dfa_holds:Rows.FnDfaCardSaid:=
 Claim7.holds_tied_plain_at .later [] _ _ _ _ tX (fun _ h=>by cases h) (by kernel_rfl) (fun _ h=>by cases h) fnDfa_row_tie rfl ⟨rfl,rfl⟩ (by kernel_rfl) rfl vv (by kernel_rfl)
#print axioms dfa_holds
end Go.Proofs.YtpmcjimgkabpeaaGreatDoor
