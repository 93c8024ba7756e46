import Derived.Test.YtidfkbghlkcbeaaGreatDoorPk37
namespace Go.Proofs.YtidfkbghlkcbeaaGreatDoor
open Go.RowKit Go.Proofs.Tryz
set_option maxHeartbeats 16000000
set_option maxRecDepth 100000
structure tu (out:Nat->Nat) (b:Nat) (cls:Nat->Nat) (fs:List Nat):Prop where
 sf:∀ (j x:Nat),fs[j]?=some x->x<b/\out x=x/\cls x=j
 up:∀ (i j x y:Nat),i<j->fs[i]?=some x->fs[j]?=some y->x<y
 cl:∀ x,x<b->fs[cls x]?=some (out x)
def oI(f:Nat->Nat)(b v:Nat):Nat->Nat:=fun x=>if x=b then v else f x
theorem pB(f:Nat->Nat)(b v:Nat):oI f b v b=v:=by simp[oI]
theorem lZ(f:Nat->Nat){b v x:Nat}(h:x≠b):oI f b v x=f x:=by simp[oI,h]
theorem tu.start(out cls:Nat->Nat):tu out 0 cls []:=⟨fun j x h=>by simp at h,fun i j x y _ h=>by simp at h,fun x hx=>by omega⟩
theorem tu.le{out cls:Nat->Nat}{b:Nat}{fs:List Nat}(h:tu out b cls fs):fs.length<=b:=by
 refine bT b fs ?_ (fun x hx=>?_)
 ·rw[List.nodup_iff_pairwise_ne,List.pairwise_iff_getElem];intro i j hi hj a e;have:=h.up i j _ _ a (List.getElem?_eq_getElem hi) (List.getElem?_eq_getElem hj);omega
 obtain⟨j,hj⟩:=List.getElem?_of_mem hx;exact(h.sf j x hj).1
theorem tu.new{out cls:Nat->Nat}{b:Nat}{fs:List Nat}(h:tu out b cls fs)(hb:out b=b):tu out (b+1) (oI cls b fs.length) (fs++[b]):=by
 refine⟨fun j x hx=>?_,fun i j x y hij hx hy=>?_,fun x hx=>?_⟩
 ·by_cases hj:j<fs.length
  ·rw[List.getElem?_append_left hj]at hx;obtain⟨h1,h2,h3⟩:=h.sf j x hx;exact⟨by omega,h2,by rw[lZ _ (by omega)];exact h3⟩
  rw[List.getElem?_append_right (by omega)]at hx;have:j=fs.length/\x=b:=by
   by_cases e:j=fs.length
   ·subst e;simp at hx;exact⟨rfl,hx.symm⟩
   rw[List.getElem?_eq_none (by simp;omega)]at hx;cases hx
  obtain⟨rfl,rfl⟩:=this;exact⟨by omega,hb,pB _ _ _⟩
 ·have hi:i<fs.length:=by
   have:=(List.getElem?_eq_some_iff.1 hy).1;simp at this;omega
  rw[List.getElem?_append_left hi]at hx
  by_cases hj:j<fs.length
  ·rw[List.getElem?_append_left hj]at hy;exact h.up i j x y hij hx hy
  rw[List.getElem?_append_right (by omega)]at hy;have:=(h.sf i x hx).1;have a:y=b:=by
   have hm:=List.mem_of_getElem? hy
   simpa using hm
  omega
 by_cases e:x=b
 ·subst e;rw[pB,hb];simp
 rw[lZ _ e];have:=h.cl x (by omega);rw[List.getElem?_append_left (List.getElem?_eq_some_iff.1 this).1];exact this
theorem tu.old{out cls:Nat->Nat}{b:Nat}{fs:List Nat}(h:tu out b cls fs)(hlt:out b<b)(hid:out (out b)=out b):tu out (b+1) (oI cls b (cls (out b))) fs:=by
 refine⟨fun j x hx=>?_,h.up,fun x hx=>?_⟩
 ·obtain⟨h1,h2,h3⟩:=h.sf j x hx;exact⟨by omega,h2,by rw[lZ _ (by omega)];exact h3⟩
 by_cases e:x=b
 ·subst e;rw[pB,h.cl _ hlt,hid]
 rw[lZ _ e];exact h.cl x (by omega)
theorem tu.num1{out cls:Nat->Nat}{fs:List Nat}(h:tu out 256 cls fs)(hle:∀ x,x<256->out x<=x):fO 256 fs.length cls (fun e=>fs[e]?.getD 0):=by
 refine⟨fun s hs=>(List.getElem?_eq_some_iff.1 (h.cl s hs)).1,fun j hj=>?_,fun s hs=>?_,fun i j hij hj=>?_⟩
 ·have:=h.sf j _ (List.getElem?_eq_getElem hj);simp only[List.getElem?_eq_getElem hj,Option.getD_some];exact⟨this.1,this.2.2⟩
 ·simp only[h.cl s hs,Option.getD_some];exact hle s hs
 have hi:i<fs.length:=by omega
 simp only[List.getElem?_eq_getElem hi,List.getElem?_eq_getElem hj,Option.getD_some];exact h.up i j _ _ hij (List.getElem?_eq_getElem hi) (List.getElem?_eq_getElem hj)
theorem tu.rep{out cls:Nat->Nat}{fs:List Nat}(h:tu out 256 cls fs){x:Nat}(hx:x<256):fs[cls x]?.getD 0=out x:=by rw[h.cl x hx];rfl
theorem Tryz.zinLp:(prog.info? 79).map (fun i=>(i.zero,i.size,i.bytes))=some (some (.agg #[.slice none 0 0,.bool false]),2,32):=by kernel_rfl
theorem pM{w w':World}{v:Value}{X:List Nat}(h:aK mI 0 0 w.heap.size w v (iL X))(hz:w.heap.size<=w'.heap.size)(hb:0<X.length->∀ b off n c,v=.slice (some ⟨b,off,none⟩) n c->w'.heap[b]?=w.heap[b]?):aK mI 0 0 w'.heap.size w' v (iL X):=by
 obtain⟨a,c,rfl,hl,hc⟩:=h;refine⟨a,c,rfl,hl,fun hp=>?_⟩;obtain⟨b,off,rfl,h1,h2,h3⟩:=hc hp;refine⟨b,off,rfl,h1,by omega,fun i hi=>?_⟩;rw[World.cell?_of_block (a:=⟨b,off+i,none⟩) (hb (by simpa[iL]using hp) b off _ _ rfl)];exact h3 i hi
theorem kC{w:World}{v:Value}{X:List Nat}(h:aK mI 0 0 w.heap.size w v (iL X))(hp:0<X.length){b off n c:Nat}(e:v=.slice (some ⟨b,off,none⟩) n c):b<w.heap.size:=by
 obtain⟨a,c',rfl,hl,hc⟩:=h;obtain⟨b',off',rfl,h1,h2,-⟩:=hc (by simpa[iL]using hp);cases e;exact h2
theorem DF{w:World}{ops:Array Oper}{rest:List Oper}{o:Oper}{a:Act}{Q:Exit->Act->World->Prop}(hgd:o.guard=none)(s x:Operand)
  (ho:o.op=.call { callee:=.builtin .append,args:=#[s,x],argTypes:=#[80,80] })(base:Nat)(lv:Value)(hs:a.eval s=lv)(oa:Option Addr)(on oc:Nat)(X:List Nat)(e:Bool)(hx:a.eval x=.slice (some ⟨w.heap.size,0,none⟩) 1 1)(ps:List (Value×List Nat×Bool))
  (h1:ED w base lv ps)(hov:aK mI 0 0 w.heap.size w (.slice oa on oc) (iL X))(hfar:0<X.length->∀ b off n c,(Value.slice oa on oc)=.slice (some ⟨b,off,none⟩) n c->lv.ownBlock≠some b)(hb:base<=w.heap.size)(hl:ps.length<=1000000)
  (h:∀ lv' w',ED w' base lv' (ps++[(.slice oa on oc,X,e)])->aT (ut lv w.heap.size) w w'->(∀ q,lv'.ownBlock=some q->lv.ownBlock=some q∨w.heap.size<=q)->wpList prog ops Q rest (a.put o.dst lv') w'):wpList prog ops Q (o::rest) a (w.alloc (.cells #[.slice oa on oc,.bool e] 79)):=by
 obtain⟨i0,hi,g,i,l⟩:=info_parts Tryz.zinLp;refine wpList_append_own_at _ hgd s x 80 ho base 79 i0 (.agg #[.slice none 0 0,.bool false]) 2 32 underlying80 hi g i l rfl (by decide) lv ps.length (AL ps) hs (h1.own.alloc _) ⟨w.heap.size,0,none⟩ 1 1 [.slice oa on oc,.bool e] hx rfl (fun j u hu=>?_) (fun u hu=>?_) (by unfold maxLen;omega) (by omega) (by rw[ah];omega) ?_
 ·have hr:=eO.new w 79 (.slice oa on oc) (.bool e)
  match j,hu with
  | 0,hu=>simp at hu;subst hu;exact hr.cells.1
  | 1,hu=>simp at hu;subst hu;exact hr.cells.2
 ·simp only[List.mem_cons,List.not_mem_nil,or_false]at hu;rcases hu with rfl|rfl<;>rfl
 intro lv' w' r1 r2 _ r3;have d:=tL r2;have f:∀ q,lv'.ownBlock=some q->lv.ownBlock=some q∨w.heap.size<=q:=fun q hq=>by
  rcases r3 with k|k
  ·rw[k]at hq;exact .inl hq
  rw[k]at hq;cases hq;rw[ah];exact .inr (by omega)
 refine h lv' w' ⟨?_,fun p hp=>?_⟩ d f
 ·rw[As,List.length_append];exact r1
 have hold:aK mI 0 0 w.heap.size w p.1 (iL p.2.1)/\(0<p.2.1.length->∀ b off n c,p.1=.slice (some ⟨b,off,none⟩) n c->lv.ownBlock≠some b):=by
  rcases List.mem_append.1 hp with hp|hp
  ·exact h1.at_ p hp
  rw[List.mem_singleton]at hp;subst hp;exact⟨hov,hfar⟩
 refine⟨pM hold.1 d.size (fun hp b off n c he=>d.block b (fun hg=>?_)),fun hp b off n c he hq=>?_⟩
 ·rcases hg with k|k
  ·exact hold.2 hp b off n c he k
  have:=kC hold.1 hp he;omega
 rcases f b hq with k|k
 ·exact hold.2 hp b off n c he k
 have:=kC hold.1 hp he;omega
def FO(pst:List Nat×Bool->Nat->List Nat×Bool)(s0:List Nat×Bool)(x:Ending)(w w':World):Prop:=
 (∃ (cb k:Nat) (nv av:Value) (cls rep:Nat->Nat) (o:List (List Nat×Bool)) (ys:List Nat),x=.returned (.tuple #[.agg #[.slice (some ⟨cb,0,none⟩) 256 256,.int .i64 (k:Nat),nv,av],.bool true])/\eP pst s0 k cls rep o ys/\ys.length=o.length*k/\o.length<=1024/\k<=256/\w'.rowIs cb 3 256 (fun x=>.int .i64 (cls x:Nat))/\w'.ownsRow w.heap.size 3 1 nv ys.length (ys.map mN)/\w'.ownsRow w.heap.size 4 1 av o.length ((o.map Prod.snd).map mT)) ∨
 (∃ (k:Nat) (cls rep:Nat->Nat) (o:List (List Nat×Bool)) (ys:List Nat),x=.returned (.tuple #[.agg #[.slice none 0 0,.int .i64 0,.slice none 0 0,.slice none 0 0],.bool false])/\eP pst s0 k cls rep o ys/\1024<o.length)
structure xw (w7 wr:World) (lv nv:Value) (ps:List (Value×List Nat×Bool)) (ys:List Nat):Prop where
 l:ED wr w7.heap.size lv ps
 n:wr.ownsRow w7.heap.size 3 1 nv ys.length (ys.map mN)
 ap:Ap lv nv
 far:∀ p∈ps,0<p.2.1.length->∀ b off n c,p.1=.slice (some ⟨b,off,none⟩) n c->nv.ownBlock≠some b
 lo:Below w7.heap.size w7 wr
theorem xw.keep{w7 wr wr':World}{lv nv:Value}{ps:List (Value×List Nat×Bool)}{ys:List Nat}(h:xw w7 wr lv nv ps ys)(hb:Below wr.heap.size wr wr'):xw w7 wr' lv nv ps ys where
 l:=⟨aG h.l.own hb lR,fun p hp=>⟨(h.l.at_ p hp).1.below hb lR,(h.l.at_ p hp).2⟩⟩
 n:=aG h.n hb lR
 ap:=h.ap
 far:=h.far
 lo:=h.lo.trans (hb.mono h.lo.size)
theorem FZ{w10 w11:World}(h:Below ((w10.alloc (.cells #[.slice none 0 0,.bool false] 79)).drew).heap.size ((w10.alloc (.cells #[.slice none 0 0,.bool false] 79)).drew) w11):eO w11 w10.heap.size 79 (.slice none 0 0) (.bool false):=
 (eO.new w10 79 (.slice none 0 0) (.bool false)).on (h.block w10.heap.size (by show w10.heap.size<(w10.alloc (.cells #[.slice none 0 0,.bool false] 79)).heap.size;rw[ah];omega))
theorem zk{w:World}{b:Nat}(h:eO w b 79 (.slice none 0 0) (.bool false)):w.cell? ⟨b,0,none⟩=some (.slice none 0 0)/\w.cell? ⟨b,1,none⟩=some (.bool false)/\w.frozen? ⟨b,0,none⟩=false/\w.frozen? ⟨b,1,none⟩=false:=⟨h.cells.1,h.cells.2,World.rowIs.frozen h 0,World.rowIs.frozen h 1⟩
theorem DM{w:World}{ops:Array Oper}{rest:List Oper}{o:Oper}{a:Act}{Q:Exit->Act->World->Prop}(H:Nat)(hH:w.heap.size=H)(hgd:o.guard=none)(s x:Operand)
  (ho:o.op=.call { callee:=.builtin .append,args:=#[s,x],argTypes:=#[27,27] })(base:Nat)(v:Value)(hs:a.eval s=v)(y:Nat)(hx:a.eval x=.slice (some ⟨H,0,none⟩) 1 1)(xs:List Nat)
  (h1:w.ownsRow base 3 1 v xs.length (xs.map mN))(hb:base<=w.heap.size)(hl:xs.length<=1000000)
  (h:∀ v' w',w'.ownsRow base 3 1 v' (xs++[y]).length ((xs++[y]).map mN)->aT (ut v w.heap.size) w w'->(∀ q,v'.ownBlock=some q->v.ownBlock=some q∨w.heap.size<=q)->wpList prog ops Q rest (a.put o.dst v') w'):wpList prog ops Q (o::rest) a (w.alloc (.cells #[.int .i64 (y:Nat)] 3)):=by
 subst hH;exact dz hgd s x ho base v hs y hx xs h1 hb hl h
def xJ(w10 wx:World)(bx:Value)(R1:List Nat)(R2:Bool):Prop:=∃ (rb:Nat) (oa:Option Addr) (oc:Nat),bx=.pointer (some ⟨rb,0,none⟩)/\w10.heap.size<=rb/\eO wx rb 79 (.slice oa R1.length oc) (.bool R2)/\aK mI 0 0 wx.heap.size wx (.slice oa R1.length oc) (iL R1)/\(0<R1.length->∀ b off n c,Value.slice oa R1.length oc=.slice (some ⟨b,off,none⟩) n c->w10.heap.size<=b)/\Below w10.heap.size w10 wx
theorem yz{w:World}{base:Nat}{v:Value}{X:List Nat}(h:w.ownsRow base 3 1 v X.length (X.map mN))(hl:X.length<=1048576):aK mI 0 0 w.heap.size w v (iL X):=by
 have h2:w.ownsRow base 3 1 v (iL X).length ((iL X).map mI):=by
  have e1:(iL X).length=X.length:=by simp[iL]
  have e2:(iL X).map mI=X.map mN:=by simp[iL,mN]
  rw[e1,e2];exact h
 exact(bW h2 (Nat.zero_le _) (by have e9:(iL X).length=X.length:=by { simp[iL] };unfold maxLen;omega)).at
theorem nG{w:World}{base n:Nat}{oa:Option Addr}{l oc:Nat}{xs:List Value}(h:w.ownsRow base 3 1 (.slice oa l oc) n xs):∀ b off m c,Value.slice oa l oc=.slice (some ⟨b,off,none⟩) m c->base<=b:=fun b off m c e=>(h.lt b (by cases e;rfl)).1
theorem Bc{w10 w11:World}{oa:Option Addr}{oc:Nat}{R1:List Nat}{R2:Bool}(hown:w11.ownsRow w10.heap.size 3 1 (.slice oa R1.length oc) R1.length (R1.map mN))(hl:R1.length<=512)(hb:Below w10.heap.size w10 w11):xJ w10 (w11.alloc (.cells #[.slice oa R1.length oc,.bool R2] 79)) (.pointer (some ⟨w11.heap.size,0,none⟩)) R1 R2:=by
 have a:=ai w11 (.cells #[.slice oa R1.length oc,.bool R2] 79);exact⟨_,oa,oc,rfl,hb.size,eO.new _ _ _ _,(yz hown (by omega)).below a lR,fun _=>nG hown,hb.trans (a.mono hb.size)⟩
theorem BK{w10 w11:World}{oa:Option Addr}{oc:Nat}{R1:List Nat}{R2:Bool}(hown:w11.ownsRow (w10.heap.size+1) 3 1 (.slice oa R1.length oc) R1.length (R1.map mN))(hl:R1.length<=512)(hR:eO w11 w10.heap.size 79 (.slice none 0 0) (.bool false))(hb:Below w10.heap.size w10 w11):xJ w10 ((w11.setCell ⟨w10.heap.size,0,none⟩ (.slice oa R1.length oc)).setCell ⟨w10.heap.size,1,none⟩ (.bool R2)) (.pointer (some ⟨w10.heap.size,0,none⟩)) R1 R2:=by
 have ho:ce w10.heap.size w11 ((w11.setCell ⟨w10.heap.size,0,none⟩ (.slice oa R1.length oc)).setCell ⟨w10.heap.size,1,none⟩ (.bool R2)):=(am _ _).trans (am _ _);refine⟨_,oa,oc,rfl,Nat.le_refl _,hR.put0.put1,pM (yz hown (by omega)) (Nat.le_of_eq ho.size.symm) (fun _ b off n c e=>ho.block b (by have:=nG hown b off n c e;omega)),fun _ b off n c e=>by have:=nG hown b off n c e;omega,hb.trans (ho.bel lR)⟩
theorem Ge(w:World):(w.alloc (.cells #[.slice none 0 0,.bool false] 79)).cell? ⟨w.heap.size,0,none⟩=some (.slice none 0 0)/\(w.alloc (.cells #[.slice none 0 0,.bool false] 79)).cell? ⟨w.heap.size,1,none⟩=some (.bool false)/\(w.alloc (.cells #[.slice none 0 0,.bool false] 79)).frozen? ⟨w.heap.size,0,none⟩=false/\(w.alloc (.cells #[.slice none 0 0,.bool false] 79)).frozen? ⟨w.heap.size,1,none⟩=false:=zk (eO.new w _ _ _)
theorem wm(N:Nat)(hold fol:Nat->Nat->Bool)(last:Nat->Bool)(x:List Nat×Bool)(b:Nat):(bN N hold fol last x b).1.length<=N/\∀ y∈(bN N hold fol last x b).1,y<N:=by
 refine⟨Nat.le_trans (List.length_filter_le _ _) (by simp),fun y hy=>?_⟩;exact List.mem_range.1 (List.mem_filter.1 hy).1
theorem rj{N:Nat}{S:List (List Int)}{hold fol:Nat->Nat->Bool}{last:Nat->Bool}(hSn:S.length=N)(hh:∀ b,b<256->∀ i,i<N->(hold i b=true↔eF (S[i]?.getD []) (b:Int)))(hho:∀ i b,N<=i->hold i b=false){a b:Nat}(ha:a<256)(hb:b<256)(h:xi S a b)(x:List Nat×Bool):bN N hold fol last x a=bN N hold fol last x b:=by
 refine mG x fun i _=>?_
 by_cases hi:i<N
 ·rw[Bool.eq_iff_iff,hh a ha i hi,hh b hb i hi];exact h i (by omega)
 rw[hho i a (by omega),hho i b (by omega)]
theorem An{w w':World}{h:Nat}(hb:Below (w.drew).heap.size w.drew w')(hh:h=w.heap.size):Below h w w':=by subst hh;exact⟨hb.os,hb.tape,hb.output,hb.size,fun k hk=>hb.block k hk⟩
theorem Aa{k:Nat}{fn:List Nat×Bool->Nat->List Nat×Bool}{s0 x r:List Nat×Bool}{ps:List (Value×List Nat×Bool)}{ys:List Nat}{i e j:Nat}{pv:Value}{p:Value×List Nat×Bool}(h:eM k fn s0 (ps.map Prod.snd) ys)(hd:ys.length / k=i/\ys.length%k=e)(hi:ps[i]?=some (pv,x))(hr:fn x e=r)(hj:ps[j]?=some p)(hp:p.2=r):eM k fn s0 (ps.map Prod.snd) (ys++[j]):=
 h.old (x:=x) (by rw[hd.1,List.getElem?_map,hi];rfl) (by rw[hd.2,List.getElem?_map,hj,hr,<-hp];rfl)
theorem yF{k:Nat}{fn:List Nat×Bool->Nat->List Nat×Bool}{s0 x r:List Nat×Bool}{ps:List (Value×List Nat×Bool)}{ys:List Nat}{i e:Nat}{pv:Value}(h:eM k fn s0 (ps.map Prod.snd) ys)(hd:ys.length / k=i/\ys.length%k=e)(hi:ps[i]?=some (pv,x))(hr:fn x e=r)(hno:∀ (i:Nat) (p:Value×List Nat×Bool),ps[i]?=some p->p.2≠r)(ov:Value):eM k fn s0 ((ps++[(ov,r)]).map Prod.snd) (ys++[ps.length]):=by
 have:=h.new (x:=x) (by rw[hd.1,List.getElem?_map,hi];rfl) (fun j hj e9=>by
  rw[hd.2,hr,List.getElem?_map]at e9;cases e8:ps[j]? with
  | none=>rw[e8]at e9;cases e9
  | some p=>rw[e8]at e9;exact hno j p e8 (Option.some.inj e9))
 rw[hd.2,hr,List.length_map]at this;rw[List.map_append];exact this
theorem xw.pushL{w7 w w':World}{lv lv' nv ov:Value}{ps:List (Value×List Nat×Bool)}{ys:List Nat}{X:List Nat}{e:Bool}(h:xw w7 w lv nv ps ys)(hl:ED w' w7.heap.size lv' (ps++[(ov,X,e)]))(hf:aT (ut lv w.heap.size) w w')(hg:∀ q,lv'.ownBlock=some q->lv.ownBlock=some q∨w.heap.size<=q)(hfar:0<X.length->∀ b off n c,ov=.slice (some ⟨b,off,none⟩) n c->nv.ownBlock≠some b):xw w7 w' lv' nv (ps++[(ov,X,e)]) ys where
 l:=hl
 n:=hf.own h.n h.ap.symm
 ap:=(h.ap.symm.grow h.n hg).symm
 far:=fun p hp hx b off n c he=>by
  rcases List.mem_append.1 hp with hp|hp
  ·exact h.far p hp hx b off n c he
  rw[List.mem_singleton]at hp;subst hp;exact hfar hx b off n c he
 lo:=h.lo.trans (hf.belowG h.l.own lR h.lo.size)
theorem xw.pushN{w7 w w':World}{lv nv nv':Value}{ps:List (Value×List Nat×Bool)}{ys ys':List Nat}(h:xw w7 w lv nv ps ys)(hn:w'.ownsRow w7.heap.size 3 1 nv' ys'.length (ys'.map mN))(hf:aT (ut nv w.heap.size) w w')(hg:∀ q,nv'.ownBlock=some q->nv.ownBlock=some q∨w.heap.size<=q):xw w7 w' lv nv' ps ys' where
 l:=⟨hf.own h.l.own h.ap,fun p hp=>⟨pM (h.l.at_ p hp).1 hf.size (fun hx b off n c he=>hf.block b (fun k=>by
  rcases k with k|k
  ·exact h.far p hp hx b off n c he k
  have:=kC (h.l.at_ p hp).1 hx he;omega)),(h.l.at_ p hp).2⟩⟩
 n:=hn
 ap:=h.ap.grow h.l.own hg
 far:=fun p hp hx b off n c he e=>by
  rcases hg b e with k|k
  ·exact h.far p hp hx b off n c he k
  have:=kC (h.l.at_ p hp).1 hx he;omega
 lo:=h.lo.trans (hf.belowG h.n lR h.lo.size)
theorem nR(l r:Bool)(v:Value)(xs:List El)(w:World)(hv:aA 0 w.heap.size w v xs)(S W:List (List Int))(nl:Bool)(X0:List Nat)(L:List Int)(N:Nat)(hold fol:Nat->Nat->Bool)(last:Nat->Bool)
  (hA:∀ S' b' F' L' W',nI l r xs S' b' F' L' W'->S'=S/\b'=nl/\F'=iL X0/\L'=L/\W'=W)
  (hSn:S.length=N)(hWn:W.length=N)(hN:N<=512)(hX:∀ x∈X0,x<N)(hSl:∀ i:Nat,i<N->(S[i]?.getD []).length<=1048576)(hh:∀ b,b<256->∀ i,i<N->(hold i b=true↔eF (S[i]?.getD []) (b:Int)))(hf:∀ i,i<N->W[i]?.getD []=((List.range N).filter (fol i)).map fun (j:Nat)=>(j:Int))(hl:∀ i:Nat,i<N->(last i=true↔(i:Int)∈L))(hho:∀ i b,N<=i->hold i b=false) :
  Calls prog 20 #[.agg #[.bool l,.bool r,v]] w fun x w'=>Below w.heap.size w w'/\FO (bN N hold fol last) (X0,nl) x w w':=by
 obtain⟨a,cp,rfl,-,-⟩:=id hv;obtain⟨W2,ar⟩ : ∃ W2,W2=(w.alloc (.cells #[.bool l,.bool r,.slice a xs.length cp] 25)).alloc (.cells #[.slice none 0 0,.int .i64 0,.slice none 0 0,.slice none 0 0] 30):=⟨_,rfl⟩;have ek:Below w.heap.size w W2:=by rw[ar];exact aI w _ _
 have lk:W2.heap.size=w.heap.size+2:=by rw[ar,ah,ah]
 have fd:aC W2 (w.heap.size+1) 30 (.slice none 0 0) (.int .i64 0) (.slice none 0 0) (.slice none 0 0):=by
  have:=aC.new (w.alloc (.cells #[.bool l,.bool r,.slice a xs.length cp] 25)) 30 (.slice none 0 0) (.int .i64 0) (.slice none 0 0) (.slice none 0 0);rw[ah]at this;rw[ar];exact this
 have ff:=ae (rW l r _ xs W2 (hv.below ek lR));have fg:=run_make_row' (P:=prog) 27 3 (.int .i64 0) 8 underlying27 Tryz.zinInt rfl .i64 .i64 256 (by omega) (by omega);simp only[show((256:Nat):Int)=256 from rfl]at fg;have HA:=ae hA;have HX:=ae hX;have aw:=ae hSl;have HH:=ae hh;have HF:=ae hf;have it:=ae hl;have fh:=ae hho;have ax:=ae hSn;have iu:=ae hWn;have fi:=ae ar;have fj:=ae ek;have c7:=ae fd;clear hA hX hSl hh hf hl hho hSn hWn ar ek fd hv
 go_enter func20,ntmps20
 go_wp2_with fail;rw[<-fi.u];refine ff.u.mono ?_;rintro e w3 ⟨v',S',nl',F',L',WW,rfl,ct,⟨sv,fv,lv,wv,rfl,s1,s2,s3,s4⟩,ca⟩;obtain⟨rfl,rfl,rfl,rfl,rfl⟩:=HA.u _ _ _ _ _ ct;have ll:=ca.size;obtain⟨w4,an⟩ : ∃ w4,w4=w3.alloc (.cells #[sv,.bool nl',fv,lv,wv] 75):=⟨_,rfl⟩;have a2:Below w3.heap.size w3 w4:=by rw[an];exact ai w3 _
 have lm:w3.heap.size+1<=w4.heap.size:=by rw[an,ah];omega
 have el:cg w4 w3.heap.size sv nl' fv lv wv:=by rw[an];exact cg.new w3 _ _ _ _ _
 have fk:Below w.heap.size w w4:=fj.u.trans ((ca.mono (by omega)).trans (a2.mono (by omega)));have fl:=(c7.u.below ca (by omega)).below a2 (by omega);have em:lM mI 0 w4.heap.size w4 sv S'/\aK mI 0 0 w4.heap.size w4 fv (iL X0)/\aK mI 0 0 w4.heap.size w4 lv L'/\lM mI 0 w4.heap.size w4 wv WW:=⟨s1.below a2 lR,s2.below a2 lR,s3.below a2 lR,s4.below a2 lR⟩;have fn:=ae (ru sv S' w4 em.1 (by rw[ax.u];omega) (by rw[ax.u];exact aw.u));obtain⟨q1,qc1,rfl,-,-⟩:=id s1;obtain⟨q2,qc2,rfl,-,-⟩:=id s2;obtain⟨q3,qc3,rfl,-,-⟩:=id s3;obtain⟨q4,qc4,rfl,-,-⟩:=id s4;have b4:=ae em;have iw:=ae el;have fo:=ae fk;have j0:=ae fl;have fp:=ae an;obtain⟨f0,f1,f2,f3,f4⟩:=el.facts;rw[an]at f0 f1 f2 f3 f4;clear s1 s2 s3 s4 ca a2 el fk fl em an ct ff fi fj c7 HA
 go_wp2_with fail;rw[<-fp.u];clear fp f0 f1 f2 f3 f4;refine fn.u.mono ?_;rintro e w5 ⟨av,out,rfl,b5,j1,a7,en⟩;have j2:=en.size;obtain⟨ag,acap,rfl,-,-,-,a8⟩:=dC b5 (by omega);obtain⟨w6,b6⟩ : ∃ w6,w6=w5.alloc (.cells (madeCells #[.int .i64 0] 256) 3):=⟨_,rfl⟩;have fr:w6.rowIs w5.heap.size 3 256 (fun _=>.int .i64 (((0:Nat):Nat):Int)):=by rw[b6];exact World.rowIs_made w5 _ 256 _
 have fx:w5.heap.size+1<=w6.heap.size:=by rw[b6,ah];omega
 have fz:Below w5.heap.size w5 w6:=by rw[b6];exact ai w5 _
 obtain⟨outf,t⟩ : ∃ outf:Nat->Nat,outf=fun x=>out[x]?.getD 0:=⟨_,rfl⟩
 have cv:∀ x,x<256->outf x<=x:=fun x hx=>by rw[t];exact(a7 x hx).le
 have cw:∀ x,x<256->outf (outf x)=outf x:=fun x hx=>by
  rw[t];rcases a7 x hx with ⟨k1,-,k3,-⟩|⟨k1,-⟩
  ·exact k3
  show out[out[x]?.getD 0]?.getD 0=out[x]?.getD 0;rw[k1,k1]
 have cx:∀ x,x<256->xi S' (outf x) x:=fun x hx=>by
  rw[t];rcases a7 x hx with ⟨-,-,-,k4,-⟩|⟨k1,-⟩
  ·exact k4
  show xi S' (out[x]?.getD 0) x;rw[k1];exact(Bi S').rfl' x trivial
 have F:∀ x,x<256->w5.cell? ⟨ag,x,none⟩=some (.int .i64 (outf x:Nat)):=fun x hx=>by
  rw[a8 x (by omega),List.getElem?_map,List.getElem?_eq_getElem (by omega:x<out.length),t];simp only[List.getElem?_eq_getElem (by omega:x<out.length),Option.getD_some]
  rfl
 have g5:ag<w5.heap.size:=World.block_lt_of_cell? _ _ (F 0 (by omega));have M:=ae cv;have g6:=ae cw;have cy:=ae cx;have j3:=ae F;have g7:=ae fr;have g8:=ae fz;have g9:=ae en;have ga:=ae b6;clear cv cw cx F fr fz en b6 t a7 j1 b5 a8 fn
 go_wp2_with fail;rw[<-ga.u];clear ga fg
 go_loopw [6,8] (fun rv bv wr=>∃ (b:Nat) (fs:List Nat) (cls:Nat->Nat),b<=256/\bv=.int .i64 (b:Nat)/\wr.ownsRow (w5.heap.size+1) 3 1 rv fs.length (fs.map mN)/\wr.rowIs w5.heap.size 3 256 (fun x=>.int .i64 (cls x:Nat))/\Below w5.heap.size w5 wr/\w5.heap.size+1<=wr.heap.size/\tu outf b cls fs) (fun _ bv _=>256-(intOf bv).toNat)
 case atStart=>exact⟨0,[],fun _=>0,by omega,rfl,World.ownsRow_nil _ _ _ _,g7.u,g8.u,fx,tu.start _ _⟩
 clear g7 g8 fx;obtain⟨b,fs,cls,hb,rfl,f,hP,hB,j4,hC⟩:=hrel;obtain⟨w7,rfl⟩ : ∃ w7,w7=wr:=⟨_,rfl⟩;have cb:=hC.le;obtain⟨ra,rc,rfl⟩:=aj f
 by_cases hlt:b<256
 ·have gc:(b:Int)<256:=by omega
  have y0:w7.cell? ⟨ag,b,none⟩=some (.int .i64 (outf b:Nat)):=by rw[hB.cell (p:=⟨ag,b,none⟩) g5];exact j3.u b hlt
  have eq:=M.u b hlt;have cc:=g6.u b hlt;obtain⟨ob,s⟩ : ∃ ob,ob=outf b:=⟨_,rfl⟩;rw[<-s]at y0 eq cc;have y1:=hP.cell (i:=b) hlt;have y2:=hP.frozen b;have y3:=hP.cell (i:=ob) (by omega);have l1:(ob:Int)<256:=by omega
  by_cases heq:ob=b
  ·have ao:=hC.new (by rw[<-s];exact heq);obtain⟨w8,G⟩ : ∃ w8,w8=w7.setCell ⟨w5.heap.size,b,none⟩ (.int .i64 (fs.length:Nat)):=⟨_,rfl⟩;have b7:w8.rowIs w5.heap.size 3 256 (fun x=>.int .i64 (oI cls b fs.length x:Nat)):=by
    rw[G];exact(World.rowIs.set hP b _).congr (fun j _=>by by_cases e:j=b<;>simp[oI,e])
   have d:ce w5.heap.size w7 w8:=by rw[G];exact am _ _
   have ln:=Nat.le_of_eq d.size.symm;have er:=ae d.size;have z:=ak f (fun q hq=>d.block q (by have:=(f.lt q hq).1;omega));have b8:Below w5.heap.size w5 w8:=hB.trans d.blw;rw[heq]at y0;have cf:=ae ao;have es:=ae b7;have ch:=ae z;have et:=ae b8;have ci:=ae G;clear f hP hB hC ao b7 z b8 G s cc eq y3 heq d
   go_wp2_with (at_builtin;rw[<-ci.u];refine DM w7.heap.size er.u rfl _ _ rfl (w5.heap.size+1) (.slice ra fs.length rc) rfl b rfl fs ch.u (by omega) (by omega) ?_)
   intro rv9 w9 r1 r2 r3;have ck:Below (w5.heap.size+1) w8 w9:=r2.belowG ch.u lR (by omega);obtain⟨fs2,b9⟩ : ∃ fs2,fs2=fs++[b]:=⟨_,rfl⟩;have r1:w9.ownsRow (w5.heap.size+1) 3 1 rv9 fs2.length (fs2.map mN):=by rw[b9,List.length_append,List.map_append];exact r1
   rw[<-b9]at cf;have gf:=es.u.of_block (ck.block w5.heap.size (by omega));have gg:Below w5.heap.size w5 w9:=et.u.trans (ck.mono (by omega));have j5:=ck.size;have j6:=ae r1;have j7:=ae gf;have j8:=ae gg;clear r1 r2 r3 ck gf gg b9 y0 y1 y2;go_wp2
   go_roundw
   case rel=>exact⟨b+1,fs2,_,by omega,by go_num,j6.u,j7.u,j8.u,by omega,cf.u⟩
   simp[intOf];omega
  have gh:ob<b:=by omega
  have hne:¬ (ob:Int)=(b:Int):=by omega
  have ao:=hC.old (by rw[<-s];exact gh) (by rw[<-s];rw[cc]);rw[<-s]at ao;have b7:(w7.setCell ⟨w5.heap.size,b,none⟩ (.int .i64 (cls ob:Nat))).rowIs w5.heap.size 3 256 (fun x=>.int .i64 (oI cls b (cls ob) x:Nat)):=(World.rowIs.set hP b _).congr (fun j _=>by by_cases e:j=b<;>simp[oI,e]);have d:ce w5.heap.size w7 (w7.setCell ⟨w5.heap.size,b,none⟩ (.int .i64 (cls ob:Nat))):=am _ _;have z:=ak f (fun q hq=>d.block q (by have:=(f.lt q hq).1;omega));have b8:=hB.trans d.blw;have er:Hi (w5.heap.size+1<=(w7.setCell ⟨w5.heap.size,b,none⟩ (.int .i64 (cls ob:Nat))).heap.size):=by show _<=_;rw[d.size];exact j4
  have cf:=ae ao;have es:=ae b7;have ch:=ae z;have et:=ae b8;clear f hP hB hC ao b7 z b8 s cc eq heq d;go_wp2
  go_roundw
  case rel=>exact⟨b+1,fs,_,by omega,by go_num,ch.u,es.u,et.u,er.u,cf.u⟩
  simp[intOf];omega
 have gc:¬ (b:Int)<256:=by omega
 obtain rfl:b=256:=by omega
 have lp:=hB.size;have ex:=iw.u.on (w':=w7) ((hB.block _ (by omega)).trans (g9.u.block _ (by omega)));obtain⟨f0,f1,f2,f3,f4⟩:=ex.facts;have O:Below w4.heap.size w4 w7:=g9.u.trans (hB.mono j2);obtain⟨w8,G⟩ : ∃ w8,w8=w7.alloc (.cells #[.slice q2 (iL X0).length qc2,.bool nl'] 79):=⟨_,rfl⟩;have ey:Below w7.heap.size w7 w8:=by rw[G];exact ai w7 _
 have f5:=b4.u.2.1.below O lR;have gl:xw w7 w8 (.slice (some ⟨w7.heap.size,0,none⟩) 1 1) (.slice none 0 0) [(.slice q2 (iL X0).length qc2,X0,nl')] []:=by
  refine⟨⟨?_,fun p hp=>?_⟩,World.ownsRow_nil _ _ _ _,fun q _ h=>(by cases h),fun p _ _ b off n c _ h=>(by cases h),ey⟩
  ·refine⟨rfl,.inr ⟨_,1,#[.slice q2 (iL X0).length qc2,.bool nl'],rfl,Nat.le_refl _,?_,Nat.le_refl _,by unfold maxLen;omega,rfl,rfl⟩⟩;rw[G];exact(MapKept.heap_alloc _ _).1
  rw[List.mem_singleton]at hp;subst hp;refine⟨f5.below ey lR,fun hp b off n c he hq=>?_⟩;have h1:=kC f5 hp he;have j9:some w7.heap.size=some b:=hq;have:=Option.some.inj j9;omega
 have k0:=ae f;have k5:=ae hP;have lr:=ae hB;have HC:=ae hC;have gm:=ae ex;have go:=ae O;have gp:=ae (j0.u.below O (by omega));have d5:Hi (Below w.heap.size w w7):=fo.u.trans (O.mono fo.u.size);have gs:=ae gl;have ci:=ae G;clear f hP hB hC ex O ey gl G f5
 go_wp2_with fail;rw[<-ci.u];clear ci f0 f1 f2 f3 f4
 go_loopw [9,10,11] (fun lv nv iv wr=>∃ (i:Nat) (ps:List (Value×List Nat×Bool)) (ys:List Nat),i<=ps.length/\iv=.int .i64 (i:Nat)/\xw w7 wr lv nv ps ys/\eM fs.length (fun x e=>bN N hold fol last x (fs[e]?.getD 0)) (X0,nl') (ps.map Prod.snd) ys/\ys.length=i*fs.length/\ps.length<=1024/\∀ p∈ps,∀ x∈p.2.1,x<N) (fun _ _ iv _=>1024-(intOf iv).toNat)
 case atStart=>exact⟨0,_,[],by simp,rfl,gs.u,eM.start _ _ _,by simp,by simp,fun p hp=>by rw[List.mem_singleton]at hp;subst hp;exact HX.u⟩
 clear gs;obtain⟨i,ps,ys,hi,rfl,hM,a3,H,a4,Q⟩:=hrel;obtain⟨w9,rfl⟩ : ∃ w9,w9=wr:=⟨_,rfl⟩;obtain⟨la,lc,e1⟩:=aj hM.l.own;subst e1;obtain⟨na,nc,e2⟩:=aj hM.n;subst e2;have h0:ys.length<=1024*256:=by rw[H];exact Nat.mul_le_mul (Nat.le_trans hi a4) cb
 have HM:=ae hM;have R:=ae a3;have I:=ae H;have a5:=ae Q;clear hM a3 H Q
 by_cases hlt2:i<ps.length
 ·have bb:(i:Int)<(ps.length:Int):=by omega
  obtain⟨p,C⟩ : ∃ p,ps[i]?=some p:=⟨_,List.getElem?_eq_getElem hlt2⟩;have a6:=ae C;clear C
  go_wp2_with fail
  go_loopw [9,10,12] (fun lv nv ev wr=>∃ (e:Nat) (ps:List (Value×List Nat×Bool)) (ys:List Nat),e<=fs.length/\ev=.int .i64 (e:Nat)/\ps[i]?=some p/\xw w7 wr lv nv ps ys/\eM fs.length (fun x e=>bN N hold fol last x (fs[e]?.getD 0)) (X0,nl') (ps.map Prod.snd) ys/\ys.length=i*fs.length+e/\ps.length<=1024/\∀ p∈ps,∀ x∈p.2.1,x<N) (fun _ _ ev _=>fs.length-(intOf ev).toNat)
  case atStart=>exact⟨0,ps,ys,by omega,rfl,a6.u,HM.u,R.u,by rw[I.u];rfl,a4,a5.u⟩
  clear HM R I a5 a6 hlt2 bb hi a4 h0;obtain⟨e,ps,ys,he,rfl,C,hM,a3,H,a4,Q⟩:=hrel;obtain⟨w10,rfl⟩ : ∃ w10,w10=wr:=⟨_,rfl⟩;have d6:=cU C;have h0:ys.length<=1024*256+256:=by
   rw[H];exact Nat.add_le_add (Nat.mul_le_mul (Nat.le_trans (Nat.le_of_lt d6) a4) cb) (Nat.le_trans he cb)
  have l2:=hM.lo.size
  by_cases hel:e<fs.length
  ·have h5:(e:Int)<(fs.length:Int):=by omega
   obtain⟨y,hy⟩ : ∃ y,fs[e]?=some y:=⟨_,List.getElem?_eq_getElem hel⟩;have h6:=HC.u.sf e y hy;have k6:(i:Int)<(ps.length:Int):=by omega
   obtain⟨lg,lcap,e9,-,ap,k⟩:=jA hM.l.own (by omega);subst e9;obtain⟨pv,X,ep⟩:=p;obtain⟨c1,c2⟩:=tQ ps C;have y0:w10.cell? ⟨lg,i*2,none⟩=some pv:=by rw[k _ (by omega),c1]
   have y1:w10.cell? ⟨lg,i*2+1,none⟩=some (.bool ep):=by rw[k _ (by omega),c2]
   obtain⟨d7,-⟩:=hM.l.at_ _ (List.mem_of_getElem? C);have f6:aK mI 0 0 w10.heap.size w10 pv (iL X):=d7;clear d7;obtain⟨pa,pc,e8,-,-⟩:=id f6;subst e8;obtain⟨rg,rcap,e7,-,k7,-,a9⟩:=dC k0.u (by omega);have h7:ra=some ⟨rg,0,none⟩/\rc=rcap:=by simpa using e7
   obtain⟨era,erc⟩:=h7;have y2:w10.cell? ⟨rg,e,none⟩=some (.int .i64 (y:Nat)):=by
    rw[hM.lo.cell (p:=⟨rg,e,none⟩) k7,a9 e hel,List.getElem?_map,hy];rfl
   have bc:Below w4.heap.size w4 w10:=go.u.trans (hM.lo.mono (by omega));obtain⟨f0,f1,f2,f3,f4⟩:=(gm.u.on (hM.lo.block _ (by omega))).facts;have A:=ae (gm.u.on (hM.lo.block _ (by omega)));have bd:rg<w10.heap.size:=by omega
   have g0:∀ o:Obj,(w10.alloc o).cell? ⟨w3.heap.size,0,none⟩=some (.slice q1 S'.length qc1):=fun o=>(A.u.on ((ai w10 o).block _ (by omega))).facts.1
   have g1:∀ o:Obj,(w10.alloc o).cell? ⟨w3.heap.size,1,none⟩=some (.bool nl'):=fun o=>(A.u.on ((ai w10 o).block _ (by omega))).facts.2.1
   have g2:∀ o:Obj,(w10.alloc o).cell? ⟨w3.heap.size,2,none⟩=some (.slice q2 (iL X0).length qc2):=fun o=>(A.u.on ((ai w10 o).block _ (by omega))).facts.2.2.1
   have g3:∀ o:Obj,(w10.alloc o).cell? ⟨w3.heap.size,3,none⟩=some (.slice q3 L'.length qc3):=fun o=>(A.u.on ((ai w10 o).block _ (by omega))).facts.2.2.2.1
   have g4:∀ o:Obj,(w10.alloc o).cell? ⟨w3.heap.size,4,none⟩=some (.slice q4 WW.length qc4):=fun o=>(A.u.on ((ai w10 o).block _ (by omega))).facts.2.2.2.2
   have y0a:∀ o:Obj,(w10.alloc o).cell? ⟨lg,i*2,none⟩=some (.slice pa (iL X).length pc):=fun o=>by rw[(ai w10 o).cell (p:=⟨lg,i*2,none⟩) ap];exact y0
   have y1a:∀ o:Obj,(w10.alloc o).cell? ⟨lg,i*2+1,none⟩=some (.bool ep):=fun o=>by rw[(ai w10 o).cell (p:=⟨lg,i*2+1,none⟩) ap];exact y1
   have y2a:∀ o:Obj,(w10.alloc o).cell? ⟨rg,e,none⟩=some (.int .i64 (y:Nat)):=fun o=>by rw[(ai w10 o).cell (p:=⟨rg,e,none⟩) bd];exact y2
   have ab:Hi (∀ V:World,Below w10.heap.size w10 V->Calls prog 39 #[.agg #[.slice q1 S'.length qc1,.bool nl',.slice q2 (iL X0).length qc2,.slice q3 L'.length qc3,.slice q4 WW.length qc4],.agg #[.slice pa (iL X).length pc,.bool ep],.int .i64 (y:Nat)] V fun x w'=>∃ ov:Value,x=.returned (.agg #[ov,.bool (bN N hold fol last (X,ep) y).2])/\w'.ownsRow V.heap.size 3 1 ov (bN N hold fol last (X,ep) y).1.length ((bN N hold fol last (X,ep) y).1.map mN)/\Below V.heap.size V w'):=fun V hV=>by
    have h4:Below w4.heap.size w4 V:=bc.trans (hV.mono (by omega));exact tE S' WW (iL X0) L' nl' ep _ _ _ _ _ X y N hold fol last V (b4.u.1.below h4 lR) (b4.u.2.1.below h4 lR) (b4.u.2.2.1.below h4 lR) (b4.u.2.2.2.below h4 lR) (f6.below hV lR) ax.u iu.u hN (Q _ (List.mem_of_getElem? C)) aw.u (HH.u y h6.1) HF.u it.u
   obtain⟨R1,cl⟩ : ∃ R1,R1=(bN N hold fol last (X,ep) y).1:=⟨_,rfl⟩;obtain⟨R2,f7⟩ : ∃ R2,R2=(bN N hold fol last (X,ep) y).2:=⟨_,rfl⟩;rw[<-cl,<-f7]at ab;have h8:R1.length<=512/\∀ y∈R1,y<N:=by rw[cl];have:=wm N hold fol last (X,ep) y;exact⟨by omega,this.2⟩
   have d8:=ae ((ab.u w10.drew (Below.refl _ _).drew).mono (R':=fun x w11=>∃ (oa:Option Addr) (oc:Nat),x=.returned (.agg #[.slice oa R1.length oc,.bool R2])/\w11.ownsRow w10.heap.size 3 1 (.slice oa R1.length oc) R1.length (R1.map mN)/\Below w10.heap.size w10 w11) (fun x w11 ⟨ov,h1,h2,h3⟩=>by
    obtain⟨oa,oc,e6⟩:=aj h2;subst e6;exact⟨oa,oc,h1,h2,An h3 rfl⟩))
   have d9:=ae ((ab.u (w10.alloc (.cells #[.slice none 0 0,.bool false] 79)).drew (ai w10 _).drew).mono (R':=fun x w11=>∃ (oa:Option Addr) (oc:Nat),x=.returned (.agg #[.slice oa R1.length oc,.bool R2])/\w11.ownsRow (w10.heap.size+1) 3 1 (.slice oa R1.length oc) R1.length (R1.map mN)/\eO w11 w10.heap.size 79 (.slice none 0 0) (.bool false)/\Below w10.heap.size w10 w11) (fun x w11 ⟨ov,h1,h2,h3⟩=>by
    obtain⟨oa,oc,e6⟩:=aj h2;subst e6;have k8:(w10.alloc (.cells #[.slice none 0 0,.bool false] 79)).drew.heap.size=w10.heap.size+1:=ah w10 _;rw[k8]at h2;refine⟨oa,oc,h1,h2,FZ h3,?_⟩;exact(ai w10 _).trans ((An h3 (ah w10 _).symm).mono (by omega))))
   have k9:=ae cl;have kb:=ae f7;have f8:=ae h8;clear cl f7 ab h8;obtain⟨na,nc,e2⟩:=aj hM.n;subst e2;subst era;subst erc;have hS:Hi (∀ W':World,Below w10.heap.size w10 W'->W'.cell? ⟨w3.heap.size,0,none⟩=some (.slice q1 S'.length qc1)/\W'.cell? ⟨w3.heap.size,1,none⟩=some (.bool nl')/\W'.cell? ⟨w3.heap.size,2,none⟩=some (.slice q2 (iL X0).length qc2)/\W'.cell? ⟨w3.heap.size,3,none⟩=some (.slice q3 L'.length qc3)/\W'.cell? ⟨w3.heap.size,4,none⟩=some (.slice q4 WW.length qc4)/\W'.cell? ⟨lg,i*2,none⟩=some (.slice pa (iL X).length pc)/\W'.cell? ⟨lg,i*2+1,none⟩=some (.bool ep)/\W'.cell? ⟨rg,e,none⟩=some (.int .i64 (y:Nat))):=fun V hV=>by
    obtain⟨d0,d1,d2,d3,d4⟩:=(A.u.on (hV.block _ (by omega))).facts;exact⟨d0,d1,d2,d3,d4,by rw[hV.cell (p:=⟨lg,i*2,none⟩) ap];exact y0,by rw[hV.cell (p:=⟨lg,i*2+1,none⟩) ap];exact y1,by rw[hV.cell (p:=⟨rg,e,none⟩) bd];exact y2⟩
   have db:∀ o:Obj,Below w10.heap.size w10 (w10.alloc o):=fun o=>ai _ o
   have HM:=ae hM;have R:=ae a3;have I:=ae H;have a5:=ae Q;have a6:=ae C;have HY:=ae hy;clear hM a3 H Q C hy k a9 c1 c2 f6 bc e7 h6
   go_upto_region 20 with fail
   go_cut [13] (fun bx wx=>xJ w10 wx bx R1 R2)
   case first =>
    go_region_held3 (fun W'=>W'.cell? ⟨w3.heap.size,0,none⟩=some (.slice q1 S'.length qc1)/\W'.cell? ⟨w3.heap.size,1,none⟩=some (.bool nl')/\W'.cell? ⟨w3.heap.size,2,none⟩=some (.slice q2 (iL X0).length qc2)/\W'.cell? ⟨w3.heap.size,3,none⟩=some (.slice q3 L'.length qc3)/\W'.cell? ⟨w3.heap.size,4,none⟩=some (.slice q4 WW.length qc4)/\W'.cell? ⟨lg,i*2,none⟩=some (.slice pa (iL X).length pc)/\W'.cell? ⟨lg,i*2+1,none⟩=some (.bool ep)/\W'.cell? ⟨rg,e,none⟩=some (.int .i64 (y:Nat)))
     (first|(with_reducible exact hS.u _ J)|(with_reducible exact hS.u _ (df _))|(with_reducible exact hS.u _ (db _))|(with_reducible exact hS.u _ kc)|go_keep)
     (first
      | (go_at_call 39;(with_reducible refine d9.u.mono ?_);rintro x w11 ⟨oa,oc,rfl,K,T,J⟩;obtain⟨b0,b1,b2,b3⟩:=zk T;have kc:=J.trans (((am (w:=w11) (b:=w10.heap.size) 0 (.slice oa R1.length oc)).trans (am 1 (.bool R2))).bel lR);have df:∀ o:Obj,Below w10.heap.size w10 (w11.alloc o):=fun o=>J.alloc J.size o)
      | (go_at_call 39;(with_reducible refine d8.u.mono ?_);rintro x w11 ⟨oa,oc,rfl,K,J⟩;obtain⟨b0,b1,b2,b3⟩:=Ge w11;have df:∀ o:Obj,Below w10.heap.size w10 (w11.alloc o):=fun o=>J.alloc J.size o))
    all_goals go_wp2_with fail
    all_goals go_meet
    all_goals first
     | exact BK K f8.u.1 T J
     | exact Bc K f8.u.1 J
   obtain⟨rb,oa,oc,rfl,ls,T,cr,be,ad⟩:=hcut;obtain⟨w11,ds⟩ : ∃ w11,w11=wc:=⟨_,rfl⟩;rw[<-ds]at T cr ad ⊢;have bf:=HM.u.keep ad;have l3:=ad.size;have kd:=World.rowIs.lt T;have e0:∀ b,w10.heap.size<=b->(Value.slice na ys.length nc).ownBlock≠some b:=fun b hb e9=>by have:=aB HM.u.n b e9;omega
   have bl:0<R1.length->∀ b off n c,Value.slice oa R1.length oc=.slice (some ⟨b,off,none⟩) n c->(Value.slice na ys.length nc).ownBlock≠some b:=fun hp b off n c he=>e0 b (be hp b off n c he)
   have bn:0<R1.length->∀ b off n c,Value.slice oa R1.length oc=.slice (some ⟨b,off,none⟩) n c->(Value.slice (some ⟨lg,0,none⟩) ps.length lcap).ownBlock≠some b:=fun hp b off n c he hq=>by
    have:=be hp b off n c he;have h9:some lg=some b:=hq;have:=Option.some.inj h9;omega
   obtain⟨c0,c1⟩:=T.cells;have ha:=ae (tH w7.heap.size _ _ ps R1 R2 w11 bf.l (by omega) cr);have hc:=ae T;have aw:=ae cr;have kf:=ae bl;have hd:=ae bn;have e3:=ae bf;clear T cr be ad bf ds hS db d8 d9 f0 f1 f2 f3 f4 g0 g1 g2 g3 g4 y0 y1 y2 y0a y1a y2a e0 bl bn HM A
   go_wp2_with fail;refine ha.u.mono ?_;rintro x w12 ⟨U,kk⟩;have e4:=e3.u.keep U;have l4:=U.size;have bo:=aw.u.below U lR;obtain⟨c0,c1⟩:=(hc.u.on (U.block _ kd)).cells;have e5:fs[e]?.getD 0=y:=by rw[HY.u];rfl
   have hg:bN N hold fol last (X,ep) (fs[e]?.getD 0)=(R1,R2):=by rw[e5,k9.u,kb.u]
   have hk:=ae hg;have hm:ys.length / fs.length=i/\ys.length%fs.length=e:=by rw[I.u];exact eh hel
   have hn:=ae hm;have Y:=ae e4;have bp:=ae bo;clear U e4 bo aw e3 hc ha e5 hg hm;rcases kk with ⟨rfl,ho⟩|⟨j,rfl,p2,hr,hs⟩
   ·have kl:=ae ho;clear ho
    go_wp2_with (at_builtin;refine DF rfl _ _ rfl w7.heap.size (.slice (some ⟨lg,0,none⟩) ps.length lcap) rfl oa R1.length oc R1 R2 rfl ps Y.u.l bp.u hd.u ?_ ?_ ?_)
    ·omega
    ·omega
    intro lv13 w13 r1 r2 r3;have Z:=Y.u.pushL r1 r2 r3 kf.u;have l5:=r2.size;obtain⟨ps2,D⟩ : ∃ ps2,ps2=ps++[(Value.slice oa R1.length oc,R1,R2)]:=⟨_,rfl⟩;have f9:=yF R.u hn.u a6.u hk.u kl.u (.slice oa R1.length oc);have af:ps2.length=ps.length+1:=by rw[D,List.length_append];rfl
    have ea:ps2[i]?=some (.slice pa (iL X).length pc,X,ep):=by rw[D,List.getElem?_append_left d6];exact a6.u
    have eb:∀ p∈ps2,∀ x∈p.2.1,x<N:=fun p hp=>by
     rw[D]at hp;rcases List.mem_append.1 hp with hp|hp
     ·exact a5.u p hp
     rw[List.mem_singleton]at hp;subst hp;exact f8.u.2
    rw[<-D]at Z f9;obtain⟨la3,lc3,e13⟩:=aj Z.l.own;subst e13;have ec:=gp.u.below Z.lo (by omega);have al:=ae Z;have ht:=ae f9;have hu:=ae ea;have hw:=ae eb;have l6:=ae D;have E:=ae ec;clear r1 r2 r3 Z f9 ea eb D Y bp hd c0 c1 ec
    by_cases hbig:1024<ps2.length
    ·have bq:(1024:Int)<(ps2.length:Int):=by omega
     obtain⟨z0,z1,z2,z3,-⟩:=E.u.facts;have t0:=World.rowIs.frozen E.u 0;have t1:=World.rowIs.frozen E.u 1;have t2:=World.rowIs.frozen E.u 2;have t3:=World.rowIs.frozen E.u 3;have hz:=ae af;have l7:=al.u.lo.size;clear af;go_wp2;refine bodyPost_ret (dv (dr E.u (.slice none 0 0) (.int .i64 0) (.slice none 0 0) (.slice none 0 0)) rfl _ rfl rfl) rfl ?_;have br:=d5.u;refine⟨(br.trans (al.u.lo.mono br.size)).trans ((eC w13 (w.heap.size+1) _ _ _ _).bel (by omega)),.inr ⟨fs.length,_,_,_,_,rfl,⟨HC.u.num1 M.u,?_,ht.u⟩,by rw[List.length_map];exact hbig⟩⟩;intro b hb x;show bN N hold fol last x (fs[_]?.getD 0)=_;rw[HC.u.rep hb];exact rj ax.u HH.u fh.u (by have:=M.u b hb;omega) hb (cy.u b hb) x
    have bq:¬ (1024:Int)<(ps2.length:Int):=by omega
    have l8:ps2.length<=1024:=by omega
    have hz:=ae af;clear af;have bs:=ae al.u.n
    go_wp2_with (at_builtin;refine dz rfl _ _ rfl w7.heap.size (.slice na ys.length nc) rfl ps.length rfl ys bs.u ?_ ?_ ?_)
    ·omega
    ·omega
    intro nv14 w14 r1 r2 r3;obtain⟨ys2,g⟩ : ∃ ys2,ys2=ys++[ps.length]:=⟨_,rfl⟩;have r1:w14.ownsRow w7.heap.size 3 1 nv14 ys2.length (ys2.map mN):=by rw[g,List.length_append,List.map_append];exact r1
    have a0:=al.u.pushN r1 r2 r3;obtain⟨na4,nc4,e14⟩:=aj r1;subst e14;have m:ys2.length=i*fs.length+(e+1):=by rw[g,List.length_append,I.u];rfl
    have a1:eM fs.length (fun x e=>bN N hold fol last x (fs[e]?.getD 0)) (X0,nl') (ps2.map Prod.snd) ys2:=by rw[g];exact ht.u
    have bt:=ae a0;have bz:=ae m;have c3:=ae a1;clear a0 m a1 r1 r2 r3 g bs;go_wp2
    go_roundw
    case rel=>exact⟨e+1,ps2,ys2,by omega,by go_num,hu.u,bt.u,c3.u,bz.u,by omega,hw.u⟩
    simp[intOf];omega
   have ly:¬ (j:Int)<0:=by omega
   have bq:¬ (1024:Int)<(ps.length:Int):=by omega
   have kn:=ae hr;have c7:=ae hs;clear hr hs;have bs:=ae Y.u.n
   go_wp2_with (at_builtin;refine dz rfl _ _ rfl w7.heap.size (.slice na ys.length nc) rfl j rfl ys bs.u ?_ ?_ ?_)
   ·omega
   ·omega
   intro nv14 w14 r1 r2 r3;obtain⟨ys2,g⟩ : ∃ ys2,ys2=ys++[j]:=⟨_,rfl⟩;have r1:w14.ownsRow w7.heap.size 3 1 nv14 ys2.length (ys2.map mN):=by rw[g,List.length_append,List.map_append];exact r1
   have a0:=Y.u.pushN r1 r2 r3;obtain⟨na4,nc4,e14⟩:=aj r1;subst e14;have m:ys2.length=i*fs.length+(e+1):=by rw[g,List.length_append,I.u];rfl
   have a1:eM fs.length (fun x e=>bN N hold fol last x (fs[e]?.getD 0)) (X0,nl') (ps.map Prod.snd) ys2:=by rw[g];exact Aa R.u hn.u a6.u hk.u kn.u c7.u
   have bt:=ae a0;have bz:=ae m;have c3:=ae a1;clear a0 m a1 r1 r2 r3 g bs;go_wp2
   go_roundw
   case rel=>exact⟨e+1,ps,ys2,by omega,by go_num,a6.u,bt.u,c3.u,bz.u,by omega,a5.u⟩
   simp[intOf];omega
  have h5:¬ (e:Int)<(fs.length:Int):=by omega
  have i0:e=fs.length:=by omega
  have m:ys.length=(i+1)*fs.length:=by rw[H,i0,Nat.add_mul,Nat.one_mul]
  obtain⟨la,lc,e1⟩:=aj hM.l.own;subst e1;obtain⟨na,nc,e2⟩:=aj hM.n;subst e2;have HM:=ae hM;have R:=ae a3;have I:=ae m;have a5:=ae Q;clear hM a3 H m Q C i0;go_wp2
  go_roundw
  case rel=>exact⟨i+1,ps,ys,by omega,by go_num,HM.u,R.u,I.u,a4,a5.u⟩
  simp[intOf];omega
 have bb:¬ (i:Int)<(ps.length:Int):=by omega
 have i1:i=ps.length:=by omega
 have j5:=HM.u.lo.size;have kr:=ae i1;clear i1
 go_wp2_with fail
 go_loopw [15,16] (fun av jv wr=>∃ (j:Nat) (zs:List Bool),j<=ps.length/\jv=.int .i64 (j:Nat)/\wr.ownsRow w9.heap.size 4 1 av zs.length (zs.map mT)/\zs=((ps.map Prod.snd).map Prod.snd).take j/\Below w9.heap.size w9 wr) (fun _ jv _=>ps.length-(intOf jv).toNat)
 case atStart=>exact⟨0,[],by omega,rfl,World.ownsRow_nil _ _ _ _,by simp,Below.refl _ _⟩
 obtain⟨j,zs,hj,rfl,c4,c5,hB⟩:=hrel;obtain⟨w15,rfl⟩ : ∃ w15,w15=wr:=⟨_,rfl⟩;have i2:=hB.size;have cs:zs.length=j:=by rw[c5];simp;omega
 have lb:zs.length<=1024:=by omega
 obtain⟨aa,ac,e15⟩:=aj c4;subst e15
 by_cases hjl:j<ps.length
 ·have i3:(j:Int)<(ps.length:Int):=by omega
  obtain⟨p,fa⟩ : ∃ p,ps[j]?=some p:=⟨_,List.getElem?_eq_getElem hjl⟩;obtain⟨lg,lcap,e9,-,ap,k⟩:=jA HM.u.l.own (by omega);have i4:la=some ⟨lg,0,none⟩/\lc=lcap:=by simpa using e9
  obtain⟨rfl,rfl⟩:=i4;obtain⟨-,k2⟩:=tQ ps fa;have y1:w15.cell? ⟨lg,j*2+1,none⟩=some (.bool p.2.2):=by rw[hB.cell (p:=⟨lg,j*2+1,none⟩) ap,k _ (by omega),k2]
  obtain⟨px,fb⟩ : ∃ px,px=p.2.2:=⟨_,rfl⟩;rw[<-fb]at y1;obtain⟨zs2,c6⟩ : ∃ zs2,zs2=zs++[px]:=⟨_,rfl⟩;have i5:zs2=((ps.map Prod.snd).map Prod.snd).take (j+1):=by rw[c6,c5,fb,List.take_add_one,List.getElem?_map,List.getElem?_map,fa];rfl
  have ks:=ae i5;have kt:=ae c6;have aq:=ae c4;have HB:=ae hB;clear c4 hB c5 k k2 e9 fa fb i5 c6 cs
  go_wp2_with (at_builtin;refine tX rfl _ _ rfl w9.heap.size (.slice aa zs.length ac) rfl px rfl zs aq.u ?_ ?_ ?_)
  ·omega
  ·omega
  intro av16 w16 r1 r2 r3;have r1:w16.ownsRow w9.heap.size 4 1 av16 zs2.length (zs2.map mT):=by rw[kt.u,List.length_append,List.map_append];exact r1
  have ee:Below w9.heap.size w9 w16:=HB.u.trans (r2.belowG aq.u lR i2);obtain⟨aa7,ac7,e16⟩:=aj r1;subst e16;have i6:=ae r1;have i7:=ae ee;clear r1 r2 r3 ee y1 aq HB;go_wp2
  go_roundw
  case rel=>exact⟨j+1,zs2,by omega,by go_num,i6.u,ks.u,i7.u⟩
  simp[intOf];omega
 have i3:¬ (j:Int)<(ps.length:Int):=by omega
 have fc:j=ps.length:=by omega
 have B:=(gp.u.below HM.u.lo (by omega)).below hB (by omega);obtain⟨z0,z1,z2,z3,-⟩:=B.facts;have t0:=World.rowIs.frozen B 0;have t1:=World.rowIs.frozen B 1;have t2:=World.rowIs.frozen B 2;have t3:=World.rowIs.frozen B 3;have i8:zs=(ps.map Prod.snd).map Prod.snd:=by rw[c5,fc,List.take_of_length_le (by simp)]
 have kv:=ae i8;have aq:=ae c4;have HB:=ae hB;have i9:=ae B;have ih:=cs;have ky:=ae cs;have l0:=ae fc;clear c4 hB c5 B fc i8 cs ih;go_wp2;refine bodyPost_ret (dv (dr i9.u _ _ _ _) rfl _ rfl rfl) rfl ?_;have br:=d5.u;have ip:=HM.u.lo;have iq:=br.size;have s:=eC w15 (w.heap.size+1) (.slice (some ⟨w5.heap.size,0,none⟩) 256 256) (.int .i64 (fs.length:Nat)) (.slice na ys.length nc) (.slice aa zs.length ac);refine⟨((br.trans (ip.mono iq)).trans (HB.u.mono (by omega))).trans (s.bel (by omega)),.inl ⟨w5.heap.size,fs.length,_,_,cls,fun e=>fs[e]?.getD 0,ps.map Prod.snd,ys,rfl,⟨HC.u.num1 M.u,?_,R.u⟩,?_,?_,cb,?_,?_,?_⟩⟩
 ·intro b hb x;show bN N hold fol last x (fs[_]?.getD 0)=_;rw[HC.u.rep hb];exact rj ax.u HH.u fh.u (by have:=M.u b hb;omega) hb (cy.u b hb) x
 ·rw[List.length_map,I.u,kr.u]
 ·rw[List.length_map];exact a4
 ·exact k5.u.of_block ((s.block _ (by omega)).trans ((HB.u.block _ (by omega)).trans (ip.block _ (by omega))))
 ·exact aO (ak (aG HM.u.n HB.u lR) (fun q hq=>s.block q (by have:=(HM.u.n.lt q hq).1;omega))) (by omega)
 rw[<-kv.u,show(ps.map Prod.snd).length=zs.length by rw[List.length_map,ky.u,l0.u]];exact aO (ak aq.u (fun q hq=>s.block q (by have:=(aq.u.lt q hq).1;omega))) (by omega)
end Go.Proofs.YtidfkbghlkcbeaaGreatDoor
