import Derived.Test.YtidfkbghlkcbeaaGreatDoorPk24
namespace Go.Proofs.YtidfkbghlkcbeaaGreatDoor
open Go.RowKit Go.Proofs.Tryz
set_option maxHeartbeats 16000000
set_option maxRecDepth 100000
theorem vJ{u0 u1 u2 u4 u5 u6 u7 u8 u10 u12 u13 u14 u15 u16 u17 u18 u19 u20 u21 u22 u23 u24 u25 u26 u27 u28 u29 u30 u31 u32 u33 u34 u35 u36 u37 u38 u39 u40 u41 u42 u43 u44 u45 u46 u47 u48 u49 u50 u51 u52 u53 u54 u55 u56 u57 u58 u59 u60 u61 u62 u63 u64 u65 u66 u67 u68 u69 u70 u71 u72 u73 u74 u75 u76 u77 u78 u79 u80 u81 u82 u83 u84 u85 u86 u87 u88 u89 u90 u91 u92 u93 u94 u95 u96 u97 u98 u99 u100 u101 u102 u103 u104 u105:Value}{K K2 L1:Act->World->Prop}{n1 n2:Nat}{R:Ending->World->Prop}(w7:World)(ob rb n ca s x N oc lo:Nat)(oa:Option Addr)(xs:List Value)(hs:s<n)(hob:ob<w7.heap.size)(hlo:lo<=w7.heap.size)(hN:N<=1000000)
  (y3:w7.cell? ⟨ob,0,none⟩=some (.slice oa N oc))(k0:w7.cell? ⟨rb,s,none⟩=some (.int .i64 (x:Nat)))
  (hrk:w7.ownsRow lo 3 1 (.slice oa N oc) N xs)
  (hps:∀ (WA w8:World) (gg cap:Nat),w8.ownsRow lo 3 1 (.slice (some ⟨gg,0,none⟩) (N+1) cap) (N+1) (xs++[.int .i64 (x:Nat)])->WA.grownBy w8 (Value.slice oa N oc).ownBlock->((Value.slice oa N oc).ownBlock=some gg∨gg=w7.heap.size+1)->aH w7 WA (.cells #[.int .i64 (x:Nat)] 3)->
   w8.cell? ⟨ob,0,none⟩=some (.slice oa N oc)/\w8.frozen? ⟨ob,0,none⟩=false/\K { tmps:=#[u0,u1,u2,.slice (some ⟨rb,0,none⟩) n ca,u4,u5,u6,u7,u8,.pointer (some ⟨ob,0,none⟩),u10,.int .i64 (s:Nat),u12,u13,u14,u15,u16,u17,u18,u19,u20,u21,u22,u23,u24,u25,u26,u27,u28,u29,u30,u31,u32,u33,u34,u35,u36,u37,u38,u39,u40,u41,u42,u43,u44,u45,u46,u47,u48,u49,u50,u51,u52,u53,u54,u55,u56,u57,u58,u59,u60,u61,u62,u63,.pointer (some ⟨ob,0,none⟩),.slice oa N oc,.slice (some ⟨rb,0,none⟩) n ca,.int .i64 (s:Nat),.pointer (some ⟨rb,s,none⟩),.int .i64 (x:Nat),.slice (some ⟨w7.heap.size,0,none⟩) 1 1,.slice (some ⟨gg,0,none⟩) (N+1) cap,.pointer (some ⟨ob,0,none⟩),u73,u74,u75,u76,u77,u78,u79,u80,u81,u82,u83,u84,u85,u86,u87,u88,u89,u90,u91,u92,u93,u94,u95,u96,u97,u98,u99,u100,u101,u102,u103,u104,u105],defers:=[] } (w8.setCell ⟨ob,0,none⟩ (.slice (some ⟨gg,0,none⟩) (N+1) cap))) :
  Code.wp prog (Code.region 18 #[{ dst:=some 64,op:=Op.fieldAddr 30 (Operand.tmp 9) 0,type:=0,pos:= "l2_dfa.go:485",after:=#[],guard:=none },{ dst:=some 65,op:=Op.load 27 (Operand.tmp 64),type:=27,pos:= "l2_dfa.go:485",after:=#[{ on:=0,ground:=Ground.data }],guard:=none },{ dst:=some 66,op:=Op.move (Operand.tmp 3),type:=27,pos:= "l2_dfa.go:485",after:=#[],guard:=none },{ dst:=some 67,op:=Op.move (Operand.tmp 11),type:=3,pos:= "l2_dfa.go:485",after:=#[],guard:=none },{ dst:=some 68,op:=Op.indexAddr 27 (Operand.tmp 66) (Operand.tmp 67),type:=0,pos:= "l2_dfa.go:485",after:=#[{ on:=2,ground:=Ground.data },{ on:=3,ground:=Ground.data }],guard:=none },{ dst:=some 69,op:=Op.load 3 (Operand.tmp 68),type:=3,pos:= "l2_dfa.go:485",after:=#[{ on:=4,ground:=Ground.data }],guard:=none },{ dst:=some 70,op:=Op.buildSlice 27 1 #[(0,Operand.tmp 69)],type:=27,pos:= "l2_dfa.go:485",after:=#[{ on:=5,ground:=Ground.data }],guard:=none },{ dst:=some 71,op:=Op.call { callee:=Callee.builtin Builtin.append,args:=#[Operand.tmp 65,Operand.tmp 70],argTypes:=#[27,27] },type:=27,pos:= "l2_dfa.go:485",after:=#[{ on:=1,ground:=Ground.data },{ on:=6,ground:=Ground.data }],guard:=none },{ dst:=some 72,op:=Op.fieldAddr 30 (Operand.tmp 9) 0,type:=0,pos:= "l2_dfa.go:485",after:=#[{ on:=0,ground:=Ground.phase },{ on:=1,ground:=Ground.phase },{ on:=2,ground:=Ground.phase },{ on:=3,ground:=Ground.phase },{ on:=4,ground:=Ground.phase },{ on:=5,ground:=Ground.phase },{ on:=6,ground:=Ground.phase },{ on:=7,ground:=Ground.phase }],guard:=none },{ dst:=none,op:=Op.store 27 (Operand.tmp 72) (Operand.tmp 71),type:=0,pos:= "l2_dfa.go:485",after:=#[{ on:=8,ground:=Ground.data },{ on:=7,ground:=Ground.data },{ on:=7,ground:=Ground.chain },{ on:=0,ground:=Ground.phase },{ on:=1,ground:=Ground.phase },{ on:=2,ground:=Ground.phase },{ on:=3,ground:=Ground.phase },{ on:=4,ground:=Ground.phase },{ on:=5,ground:=Ground.phase },{ on:=6,ground:=Ground.phase },{ on:=7,ground:=Ground.phase }],guard:=none }] true) (Exit.inBlock n1 (Exit.then K (Exit.then L1 (Exit.inBlock n2 (Exit.then K2 (bodyPost prog Tryz.f57 R)))))) { tmps:=#[u0,u1,u2,.slice (some ⟨rb,0,none⟩) n ca,u4,u5,u6,u7,u8,.pointer (some ⟨ob,0,none⟩),u10,.int .i64 (s:Nat),u12,u13,u14,u15,u16,u17,u18,u19,u20,u21,u22,u23,u24,u25,u26,u27,u28,u29,u30,u31,u32,u33,u34,u35,u36,u37,u38,u39,u40,u41,u42,u43,u44,u45,u46,u47,u48,u49,u50,u51,u52,u53,u54,u55,u56,u57,u58,u59,u60,u61,u62,u63,u64,u65,u66,u67,u68,u69,u70,u71,u72,u73,u74,u75,u76,u77,u78,u79,u80,u81,u82,u83,u84,u85,u86,u87,u88,u89,u90,u91,u92,u93,u94,u95,u96,u97,u98,u99,u100,u101,u102,u103,u104,u105],defers:=[] } w7:=by
 obtain⟨j0,a,b,c,d⟩:=info_parts Tryz.zinInt;have y3':=(ai w7 (.cells #[.int .i64 (x:Nat)] 3)).cell (p:=⟨ob,0,none⟩) hob;rw[y3]at y3';have g:(s:Int)<(n:Int):=by omega
 have e:=ae hps;have f:=ae hrk;clear hps hrk
 go_region_law (
  (refine step_append_lies _ rfl (.tmp 65) (.tmp 70) 27 rfl lo 3 j0 (.int .i64 0) 1 8 underlying27 a b c d rfl (by decide) (.slice oa N oc) N xs (by first|(simp[Act.eval];done)|(simp[Act.eval,Act.put];done)) (by refine aH.own (w:=w7) (o:=.cells #[.int .i64 (x:Nat)] 3) ?_ f.u;exact⟨rfl,rfl,rfl,rfl⟩) ⟨w7.heap.size,0,none⟩ 1 1 [.int .i64 (x:Nat)] (by first|(simp[Act.eval];done)|(simp[Act.eval,Act.put];done)) rfl (by refine aH.news (w:=w7) (cs:=#[.int .i64 (x:Nat)]) (t:=3) ?_;exact⟨rfl,rfl,rfl,rfl⟩) (by intro u hu;simp only[List.mem_cons,List.not_mem_nil,or_false]at hu;subst hu;rfl) (by decide) (by unfold maxLen;omega) (by omega) (by have hq:=ah w7 (.cells #[.int .i64 (x:Nat)] 3);exact Nat.le_trans hlo (Nat.le_of_lt (Nat.lt_of_lt_of_eq (Nat.lt_succ_self _) hq.symm))) (w7.heap.size+1) (ah w7 _) (fun gg cap w8 r1 r2 r3 r4=>?_);have h8:=ae (e.u _ w8 gg cap r1 r2 r3 (by exact⟨rfl,rfl,rfl,rfl⟩));obtain⟨c7,z7,-⟩:=h8.u;clear r1 r2 r3 r4))
 all_goals exact h8.u.2.2
def lP(ac:Nat->Bool)(m:Nat):List Nat:=(List.range m).filter ac
theorem wG(ac:Nat->Bool)(m:Nat):lP ac (m+1)=if ac m=true then lP ac m++[m] else lP ac m:=by
 unfold lP;rw[List.range_succ,List.filter_append];cases h:ac m<;>simp[h]
theorem nJ{ac:Nat->Bool}{m p:Nat}:p∈lP ac m↔p<m/\ac p=true:=by simp[lP]
theorem uo(ac:Nat->Bool)(m:Nat):(lP ac m).Nodup:=List.nodup_range.filter _
theorem yh(ac:Nat->Bool)(m:Nat):(lP ac m).length<=m:=by
 have:=List.length_filter_le ac (List.range m);rw[List.length_range]at this;exact this
def jQ(nx:Nat->Nat->Nat)(n c lo:Nat)(ms:Nat->Nat):Nat->List Nat
 | 0=>[]
 | i+1=>jQ nx n c lo ms i++jg nx n (ms (lo+i)) c
theorem jW{nx:Nat->Nat->Nat}{n c lo:Nat}{ms:Nat->Nat}{p:Nat}:∀ i,p∈jQ nx n c lo ms i↔p<n/\∃ j,j<i/\nx p c=ms (lo+j)
 | 0=>by simp[jQ]
 | i+1=>by
  rw[jQ,List.mem_append,jW i,qP]
  constructor
  ·rintro(⟨h,j,hj,e⟩|⟨h,e⟩)
   ·exact⟨h,j,by omega,e⟩
   exact⟨h,i,by omega,e⟩
  rintro⟨h,j,hj,e⟩
  by_cases q:j=i
  ·subst q;exact .inr ⟨h,e⟩
  exact .inl ⟨h,j,by omega,e⟩
theorem jw{nx:Nat->Nat->Nat}{n c lo m:Nat}{ms:Nat->Nat}(hi:∀ a b,a<m->b<m->ms (lo+a)=ms (lo+b)->a=b):∀ i,i<=m->(jQ nx n c lo ms i).Nodup
 | 0,_=>List.nodup_nil
 | i+1,h=>by
  rw[jQ,List.nodup_append];refine⟨jw hi i (by omega),ug _ _ _ _,fun x hx y hy e=>?_⟩;subst e;obtain⟨-,j,hj,e1⟩:=(jW i).1 hx;have e2:=(qP.1 hy).2;have:=hi j i (by omega) (by omega) (e1.symm.trans e2);omega
theorem oW{base:Nat}{w:World}{v:Value}{S:List Nat}{O:Nat->Prop}(h:w.ownsRow base 3 1 v S.length (S.map mN))(hO:∀ k,base<=k->k<w.heap.size->¬ O k) :
  ∃ a c,v=.slice a S.length c/\(0<S.length->∃ b o,a=some ⟨b,o,none⟩/\b<w.heap.size/\¬ O b/\∀ i s,S[i]?=some s->w.cell? ⟨b,o+i,none⟩=some (.int .i64 (s:Nat))):=by
 obtain⟨oa,oc,rfl⟩:=aj h;refine⟨oa,oc,rfl,fun hp=>?_⟩;obtain⟨g,cap,e,hc⟩:=eu h hp;cases e;have hl:=h.lt g rfl;refine⟨g,0,rfl,hl.2,hO g hl.1 hl.2,fun i s hs=>?_⟩;rw[Nat.zero_add,hc i (List.getElem?_eq_some_iff.1 hs).1,List.getElem?_map,hs]
 rfl
theorem qG.mono{O O':Nat->Prop}{g mb mc pb pc bb bc:Nat}{A:Tb}{w:World}{N:Nat}{ms ps bs fr mk tt:Nat->Nat}{kb kc:Nat}{qv:Value}{qs:List Int}{tk:Nat}{T:Nat->Prop}{c:Nat}(h:qG O g mb mc pb pc bb bc A w N ms ps bs fr mk tt kb kc qv qs tk T c)(e:∀ k,O k->O' k):qG O' g mb mc pb pc bb bc A w N ms ps bs fr mk tt kb kc qv qs tk T c:=
 ⟨h.pt.mono e,h.pi,h.um,h.ql,h.tl,h.qn,h.hop⟩
theorem qG.keep{O:Nat->Prop}{g mb mc pb pc bb bc:Nat}{A:Tb}{w w':World}{N:Nat}{ms ps bs fr mk tt:Nat->Nat}{kb kc:Nat}{qv:Value}{qs:List Int}{tk:Nat}{T:Nat->Prop}{c:Nat}(h:qG O g mb mc pb pc bb bc A w N ms ps bs fr mk tt kb kc qv qs tk T c)(e:∀ k,O k->k<w.heap.size->w'.heap[k]?=w.heap[k]?):qG O g mb mc pb pc bb bc A w' N ms ps bs fr mk tt kb kc qv qs tk T c:=
 ⟨h.pt.keep e,h.pi,h.um,h.ql,h.tl,h.qn,h.hop⟩
theorem qG.skip{O:Nat->Prop}{g mb mc pb pc bb bc:Nat}{A:Tb}{w w':World}{N:Nat}{ms ps bs fr mk tt:Nat->Nat}{kb kc:Nat}{qv:Value}{qs:List Int}{tk:Nat}{T:Nat->Prop}{c:Nat}(h:qG O g mb mc pb pc bb bc A w N ms ps bs fr mk tt kb kc qv qs tk T c)(hb:Below w.heap.size w w'):qG (Sk O w.heap.size w'.heap.size) g mb mc pb pc bb bc A w' N ms ps bs fr mk tt kb kc qv qs tk T c:=
 ⟨h.pt.skip hb,h.pi,h.um,h.ql,h.tl,h.qn,h.hop⟩
def wk(g:Nat)(w:World):Nat:=(intOf ((w.cell? ⟨g,5,none⟩).getD undef)).toNat
theorem aU.tk{O:Nat->Prop}{g mb mc pb pc bb bc:Nat}{w:World}{n N:Nat}{ms ps bs fr mk tt:Nat->Nat}{kb kc:Nat}{qv:Value}{qs:List Int}{tk:Nat}(h:aU O g mb mc pb pc bb bc w n N ms ps bs fr mk tt kb kc qv qs tk):wk g w=tk:=by
 obtain⟨-,-,-,-,-,c5,-⟩:=h.facts;rw[wk,c5];simp[intOf]
def FI(O:Nat->Prop)(g mb mc pb pc bb bc:Nat)(A:Tb)(w:World)(nv ov:Value):Prop:=
 ∃ (N:Nat) (ms ps bs fr mk tt:Nat->Nat) (kb kc:Nat) (qv:Value) (qs:List Int) (tk:Nat),
  (ov=.bool false/\tk=qs.length/\∃ T,qG O g mb mc pb pc bb bc A w N ms ps bs fr mk tt kb kc qv qs tk T A.k) ∨
  (ov=.bool true/\∃ b:Nat,b<N/\nv=.int .i64 (b:Nat)/\qG O g mb mc pb pc bb bc A w N ms ps bs fr mk tt kb kc qv qs tk (fun q=>bs q=b) 0)
def DX:Value->Nat
 | .bool true=>1
 | _=>0
theorem nQ(A:Tb)(cl:Value)(b off cN ab ao ca:Nat)(w:World)(hw:A.Wf)(hf:A.Full)(hn:A.n<=1024)(hk:1<=A.k/\A.k<=256)(hcN:A.n*A.k<=cN)(hb:b<w.heap.size)(hx:kw w b off A.n A.k A.nx)
  (hab:ab<w.heap.size)(hac:∀ q,q<A.n->w.cell? ⟨ab,ao+q,none⟩=some (.bool (A.ac q))) :
  Calls prog 94 #[.agg #[cl,.int .i64 (A.k:Nat),.slice (some ⟨b,off,none⟩) (A.n*A.k) cN,.slice (some ⟨ab,ao,none⟩) A.n ca]] w fun e w'=>∃ bb bc,e=.returned (.slice (some ⟨bb,0,none⟩) A.n bc)/\Below w.heap.size w w'/\w.heap.size<=bb/\
   ∃ bs,dp w' bb A.n bs/\(∀ p q,p<A.n->q<A.n->(bs p=bs q↔cW A A p q))/\∀ p,p<A.n->bs p<A.n:=by
 obtain⟨i0,e4,e5,e6,e7⟩:=info_parts Tryz.zinInt;have b2:1<=A.n:=hw.pos;have e8:A.n*A.k<=1024*256:=Nat.mul_le_mul hn hk.2;obtain⟨W1,G⟩ : ∃ W1,W1=w.alloc (.cells #[cl,.int .i64 (A.k:Nat),.slice (some ⟨b,off,none⟩) (A.n*A.k) cN,.slice (some ⟨ab,ao,none⟩) A.n ca] 30):=⟨_,rfl⟩;have a6:aC W1 w.heap.size 30 cl (.int .i64 (A.k:Nat)) (.slice (some ⟨b,off,none⟩) (A.n*A.k) cN) (.slice (some ⟨ab,ao,none⟩) A.n ca):=by rw[G];exact aC.new w _ _ _ _ _
 have ep:W1.heap.size=w.heap.size+1:=by rw[G,ah]
 have b3:Below w.heap.size w W1:=by rw[G];exact ai w _
 obtain⟨L,hL⟩ : ∃ L,L=A.n*A.k:=⟨_,rfl⟩;rw[<-hL]at hcN e8 a6 G ⊢;obtain⟨e0,e1,e2,e3,-⟩:=a6.facts;have br:=ae (kI A.n W1 b2 hn);have J:=fun (w2:World) (h2:Below W1.heap.size W1 w2)=>oC cl (some ⟨ab,ao,none⟩) b off cN ca A.n A.k A.nx w2 ⟨b2,hn⟩ hk (by rw[<-hL];exact hcN) (by have:=h2.size;omega) (fun q c hq hc=>⟨(hx q c hq hc).1,by rw[(b3.trans (h2.mono (by omega))).cell (p:=⟨b,off+(q*A.k+c),none⟩) hb];exact(hx q c hq hc).2⟩)
 rw[<-hL]at J;have HS:=ae J;have bt:=ae G;have b4:=ae a6;have bv:=ae b3;have HL:=ae hL;have HX:=ae hx;have bx:=ae hac;clear hL hx hac G a6 b3 J
 go_enter func94,ntmps94
 go_wp2_with fail;rw[<-bt.u];refine br.u.mono ?_;rintro e w2 ⟨g,rfl,a7,mb,mc,pb,pc,bb,bc,kb,kc,bz⟩;obtain⟨f0,f1,f2,f3,-⟩:=(b4.u.below a7 (by omega)).facts;have HC:=ae (HS.u w2 a7);have K:=ae a7;have c0:=ae bz;clear br bt a7 bz e0 e1 e2 e3 HS
 go_wp2_with fail;refine HC.u.mono ?_;rintro e w3 ⟨B,rfl,a8,ev,lo,vs,a9⟩;have b5:=(b4.u.below K.u (by omega)).below a8 (by have:=K.u.size;omega);obtain⟨x0,x1,x2,x3,-⟩:=b5.facts;have c1:=ae a8;have c2:=ae a9;have ea:=ae b5;have eq:=a9.row.lt;have er:=a9.lt;have es:=K.u.size;have et:=a8.size;clear HC a8 a9 b5 f0 f1 f2 f3
 go_wp2_with fail
 go_loopw [5,24] (fun tv iv wr=>∃ i:Nat,i<=A.n/\iv=.int .i64 (i:Nat)/\wr.ownsRow w3.heap.size 3 1 tv (lP A.ac i).length ((lP A.ac i).map mN)/\Below w3.heap.size w3 wr) (fun _ iv _=>A.n-(intOf iv).toNat)
 case atStart=>exact⟨0,by omega,rfl,World.ownsRow_nil _ _ _ _,Below.refl _ _⟩
 obtain⟨i,hi,rfl,f,v⟩:=hrel
 by_cases hlt:i<A.n
 ·have c3:(i:Int)<(A.n:Int):=by omega
  have c4:Below w.heap.size w wr:=bv.u.trans ((K.u.mono (by omega)).trans ((c1.u.mono (by omega)).trans (v.mono (by omega))));have y0:wr.cell? ⟨ab,ao+i,none⟩=some (.bool (A.ac i)):=by rw[c4.cell (p:=⟨ab,ao+i,none⟩) hab];exact bx.u i hlt
  have c5:=yh A.ac i;have c6:=wG A.ac i;obtain⟨oa,oc,rfl⟩:=aj f;have H:=ae f;have b6:=ae v;have c7:=ae c6;have ex:=v.size;clear f v c4 c6;cases hacc:A.ac i with
  | true =>
   rw[hacc]at y0;have M:=ae hacc;clear hacc
   go_wp2_with (at_builtin;refine wpList_append_own_at _ rfl _ _ 27 rfl w3.heap.size 3 i0 (.int .i64 0) 1 8 underlying27 e4 e5 e6 e7 rfl (by decide) _ _ _ rfl (H.u.alloc _) ⟨wr.heap.size,0,none⟩ 1 1 [.int .i64 (i:Nat)] rfl rfl ?_ ?_ ?_ ?_ ?_ ?_)
   ·exact ef (dt _ _ _)
   ·intro u hu;simp at hu;subst hu;rfl
   ·unfold maxLen;omega
   ·omega
   ·rw[ah];omega
   intro v' w5 r1 r2 _ r3;have cb:Below w3.heap.size w3 w5:=b6.u.trans (((ai wr _).mono (by omega)).grown r2 (by rw[ah];omega) (fun k hk=>(H.u.lt k hk).1));obtain⟨va,vc,rfl⟩:=aj r1;have HV:=ae r1;have eb:=ae cb;clear r1 r2 r3 cb;go_wp2
   go_roundw
   case rel =>
    have e:=c7.u;rw[if_pos M.u]at e;refine⟨i+1,by omega,by go_num,?_,eb.u⟩;rw[e,List.length_append,List.map_append];exact HV.u
   simp[intOf];omega
  | false =>
   rw[hacc]at y0;have M:=ae hacc;clear hacc;go_wp2
   go_roundw
   case rel =>
    have e:=c7.u;rw[if_neg (by rw[M.u];decide)]at e;refine⟨i+1,by omega,by go_num,?_,b6.u⟩;rw[e];exact H.u
   simp[intOf];omega
 have c3:¬ (i:Int)<(A.n:Int):=by omega
 obtain rfl:i=A.n:=by omega
 obtain⟨w4,rfl⟩ : ∃ w4,w4=wr:=⟨_,rfl⟩;have ey:=v.size;obtain⟨oa,oc,rfl⟩:=aj f;have P:Below w2.heap.size w2 w4:=c1.u.trans (v.mono (by omega));obtain⟨O,hO⟩ : ∃ O,O=Sk (fun k=>W1.heap.size<=k) w2.heap.size w4.heap.size:=⟨_,rfl⟩;have b7:=c0.u.skip P;rw[<-hO]at b7;have hT:∀ k,w4.heap.size<=k->O k:=fun k hk=>by rw[hO];exact⟨by omega,.inr hk⟩
 have aa:∀ k,w2.heap.size<=k->k<w4.heap.size->¬ O k:=fun k h1 h2=>by rw[hO];rintro⟨-,h3⟩;omega
 have cc:∀ k,k<W1.heap.size->¬ O k:=fun k h1=>by rw[hO];rintro⟨h3,-⟩;omega
 have cf:=eW.start (n:=A.n) (fr:=fun _=>0) (mk:=fun _=>0) (tt:=fun _=>A.n) b2 rfl rfl rfl;have ag:=ae (oY O g mb mc pb pc bb bc w4 A.n 1 (fun i=>i) (fun i=>i) (fun _=>0) (fun _=>0) (fun _=>0) (fun _=>A.n) kb kc (.slice none 0 0) [] 0 (.slice oa (lP A.ac A.n).length oc) (lP A.ac A.n) b7 cf (fun _ _=>rfl) hT hn rfl lR (oW f (fun k h1 h2=>aa k (by omega) h2)) (uo _ _) (fun s hs=>(nJ.1 hs).1));have b8:Hi (∀ W,aT O w4 W->aC W w.heap.size 30 cl (.int .i64 (A.k:Nat)) (.slice (some ⟨b,off,none⟩) L cN) (.slice (some ⟨ab,ao,none⟩) A.n ca)/\fP lo B L W vs (fun i=>jg A.nx A.n (i / A.k) (i%A.k))/\Below w.heap.size w W):=fun W hW=>by
  have h1:Below W1.heap.size W1 W:=K.u.trans (((P.mono (by omega)).trans (hW.below cc)));have h3:∀ k,w2.heap.size<=k->k<w3.heap.size->W.heap[k]?=w3.heap[k]? :=fun k k1 k2=>(hW.block k (aa k k1 (by omega))).trans (v.block k k2)
  exact⟨b4.u.below h1 (by omega),c2.u.keep (fun k hk=>h3 k (by rcases hk with hk|hk<;>omega) (by rcases hk with hk|hk<;>omega)),bv.u.trans (h1.mono (by omega))⟩
 have ch:∀ k,O k->W1.heap.size<=k:=fun k hk=>by rw[hO]at hk;exact hk.1
 have OW:=ae ch;have T4:=ae hT;have NO4:=ae aa;have b6:=ae v;clear b7 hT aa cc cf ch hO v f P x0 x1 x2 x3 bx HX ea c0 c2
 go_wp2_with fail;refine ag.u.mono ?_;rintro e w5 ⟨rfl,ci,N5,ms5,ps5,bs5,fr5,mk5,tt5,kb5,kc5,qv5,l5,p1,p2,p3,p4,p5,p6,p7,p8⟩;rw[List.nil_append]at p1 p4 p6;have d:qG O g mb mc pb pc bb bc A w5 N5 ms5 ps5 bs5 fr5 mk5 tt5 kb5 kc5 qv5 l5 0 (fun _=>False) A.k:=
  ⟨p1,p2,p3,p4,Nat.zero_le _,p5,xg.start ⟨fun p q hp hq=>by rw[p6.same p q hp hq,nJ,nJ];simp[hp,hq],fun p hp k=>k.elim,p6.new⟩ hw⟩
 have ec:=ae ci;have z:=ae (xD d hn);clear ag ci p1 p2 p3 p4 p5 p6 p7 p8 d
 go_wp2_with fail;refine z.u.mono ?_;rintro e w6 ⟨ck,Q⟩;have ad:∃ nv ov,e=.returned (.tuple #[nv,.bool ov])/\FI O g mb mc pb pc bb bc A w6 nv (.bool ov):=by
  rcases Q with ⟨h1,rfl,h2⟩|⟨h1,b',h2,rfl,h3⟩
  ·exact⟨_,_,rfl,_,_,_,_,_,_,_,_,_,_,_,_,.inl ⟨rfl,h1,_,h2⟩⟩
  exact⟨_,_,rfl,_,_,_,_,_,_,_,_,_,_,_,_,.inr ⟨rfl,b',h2,rfl,h3⟩⟩
 obtain⟨nv6,ov6,rfl,ad⟩:=ad;have cp:=ae (ec.u.trans ck);have cr:=ae ad;clear ck Q ad z
 go_wp2_with fail
 go_loopw [8,9] (fun nv ov wr=>FI O g mb mc pb pc bb bc A wr nv ov/\aT O w4 wr) (fun _ ov wr=>2*(A.n-wk g wr)+DX ov)
 case atStart=>exact⟨cr.u,cp.u⟩
 clear cr cp;obtain⟨hH,hF⟩:=hrel;obtain⟨w7,rfl⟩ : ∃ w7,w7=wr:=⟨_,rfl⟩;obtain⟨N,ms,ps,bs,fr,mk,tt,kb7,kc7,qv,qs,tk,⟨rfl,ee,T,d⟩|⟨rfl,num,D,rfl,d⟩⟩:=hH
 ·obtain⟨-,-,d2,-⟩:=d.pt.facts;have l:=ae d;have HF:=ae hF;clear d hF;go_wp2;go_ret;obtain⟨-,-,ek⟩:=b8.u w7 HF.u;have cs:=l.u.pi.few;refine⟨bb,_,rfl,ek,?_,bs,l.u.pt.rb,?_,fun p hp=>?_⟩
  ·have:=OW.u bb l.u.pt.oo.2.2.2.1;omega
  ·exact l.u.hop.fin hw (fun x hx=>by rw[ee,List.drop_length]at hx;cases hx)
  have:=(l.u.pi.s1 p hp).1;omega
 have R:=d.pi.b1 num D;obtain⟨d0,-,-,d3,-⟩:=d.pt.facts;obtain⟨k0,k1,k2,-⟩:=d.pt.blk D;have C:FE A.n ps bs (fun q=>bs q=num) (fr num) (tt num):=⟨⟨R.2.2.1,R.2.2.2⟩,fun t ht=>⟨fun h=>d.pi.s2 t num ht D h.1 h.2,fun h=>by have:=d.pi.s1 t ht;rw[h]at this;exact this.2⟩,fun p q _ _ e=>by rw[e]⟩;have ct:=ae (jq g mb 0 kb7 0 A.n N mc kc7 num (fr num) (mk num) (tt num) w7 D R.2.2.1 R.2.2.2 d.pt.cap d.pt.lt d0 d3 (by rw[Nat.zero_add];exact k0) (by rw[Nat.zero_add];exact k1) (by rw[Nat.zero_add];exact k2));have S:wk g w7=tk:=d.pt.tk;have f4:=d.tl;have f5:=d.ql;have cs:=d.pi.few;have l:=ae d;have HF:=ae hF;have U:=ae C;clear d hF C d0 d3 k0 k1 k2
 go_wp2_with fail;refine ct.u.mono ?_;rintro e w8 ⟨rfl,b9⟩;rw[Nat.zero_add];have V:=l.u.keep (w':=w8) (fun k _ hk=>b9.block k hk);have bd:aT O w4 w8:=HF.u.trans (bC b9 (fun k hk=>T4.u k (by have:=HF.u.size;omega)));obtain⟨f0,f1,f2,f3,-⟩:=(b8.u w8 bd).1.facts;obtain⟨lo8,Z⟩ : ∃ x,x=fr num:=⟨_,rfl⟩;obtain⟨o,a0⟩ : ∃ x,x=tt num:=⟨_,rfl⟩;obtain⟨T8,be⟩ : ∃ T:Nat->Prop,T=fun q=>bs q=num:=⟨_,rfl⟩
 rw[<-Z,<-a0]at R ⊢;have a5:=U.u;rw[<-Z,<-a0,<-be]at a5;rw[<-be]at V;have al:=ae V;have cw:=ae bd;have an:=ae a5;clear ct l HF U b9 V bd a5 Z a0 be
 go_wp2_with fail
 go_loopw [58] (fun cv wx=>∃ (c N:Nat) (ms ps bs fr mk tt:Nat->Nat) (kb kc:Nat) (qv:Value) (qs:List Int),c<=A.k/\cv=.int .i64 (c:Nat)/\qG O g mb mc pb pc bb bc A wx N ms ps bs fr mk tt kb kc qv qs tk T8 c/\FE A.n ps bs T8 lo8 o/\aT O w4 wx) (fun cv _=>A.k-(intOf cv).toNat)
 case atStart=>exact⟨0,_,_,_,_,_,_,_,_,_,_,_,by omega,rfl,al.u,an.u,cw.u⟩
 clear al cw an;obtain⟨c,N9,ms9,ps9,bs9,fr9,mk9,tt9,kb9,kc9,qv9,qs9,hc,rfl,d,C,hF⟩:=hrel;obtain⟨w9,rfl⟩ : ∃ w9,w9=wr:=⟨_,rfl⟩
 by_cases hcl:c<A.k
 ·have cx:(c:Int)<(A.k:Int):=by omega
  have c5:=C.le;have l:=ae d;have U:=ae C;have HF:=ae hF;have f6:=hF.size;clear d C hF f0 f1 f2 f3
  go_wp2_with fail
  go_loopw [12,63] (fun sv iv wx=>∃ i:Nat,i<=o-lo8/\iv=.int .i64 (i:Nat)/\wx.ownsRow w9.heap.size 3 1 sv (jQ A.nx A.n c lo8 ms9 i).length ((jQ A.nx A.n c lo8 ms9 i).map mN)/\Below w9.heap.size w9 wx) (fun _ iv _=>o-lo8-(intOf iv).toNat)
  case atStart=>exact⟨0,by omega,rfl,World.ownsRow_nil _ _ _ _,Below.refl _ _⟩
  obtain⟨i,hi,rfl,f,r⟩:=hrel;have E:∀ a b,a<o-lo8->b<o-lo8->ms9 (lo8+a)=ms9 (lo8+b)->a=b:=fun a b ha hb' e=>by
   have e1:=(l.u.pi.m1 (lo8+a) (by omega)).2;have e2:=(l.u.pi.m1 (lo8+b) (by omega)).2;rw[e,e2]at e1;omega
  have bf:∀ j,j<=o-lo8->(jQ A.nx A.n c lo8 ms9 j).length<=A.n:=fun j hj=>bT A.n _ (jw E j hj) (fun x hx=>((jW j).1 hx).1)
  by_cases hli:i<o-lo8
  ·have cy:(i:Int)<((o-lo8:Nat):Int):=by omega
   obtain⟨m1,m2⟩:=l.u.pi.m1 (lo8+i) (by omega);have y0:wr.cell? ⟨mb,lo8+i,none⟩=some (.int .i64 (ms9 (lo8+i):Nat)):=by
    rw[r.cell (p:=⟨mb,lo8+i,none⟩) l.u.pt.rm.lt];exact l.u.pt.rm.cell (by omega)
   obtain⟨hR,bl,-⟩:=b8.u w9 HF.u;have d1:=hR.below r (by have:=hR.lt;exact this);have bn:=bl.keep (w':=wr) (fun k hk=>r.block k (by have:=bl.row.lt;rcases hk with hk|hk<;>omega));obtain⟨f0,f1,f2,f3,-⟩:=d1.facts;have af:ms9 (lo8+i)*A.k+c<L:=by rw[HL.u];exact cO m1 hcl
   have bo:(ms9 (lo8+i)*A.k+c) / A.k=ms9 (lo8+i):=by rw[Nat.add_comm,Nat.add_mul_div_right _ _ (by omega),Nat.div_eq_of_lt hcl,Nat.zero_add]
   have bp:(ms9 (lo8+i)*A.k+c)%A.k=c:=by rw[Nat.add_comm,Nat.add_mul_mod_self_right,Nat.mod_eq_of_lt hcl]
   obtain⟨m,t,a1,ht,af,a2,a3,a4⟩:=cP (by omega) af;rw[<-ht]at bo bp;have I:=bn.own t af;have z0:=bn.row.cell (i:=t) af;rw[bo,bp]at I;obtain⟨sa,sc,e9⟩:=aj I;rw[e9]at z0 I;have el:=bf i hi;have em:=nh A.nx A.n (ms9 (lo8+i)) c;have d4:Hi (jQ A.nx A.n c lo8 ms9 (i+1)=jQ A.nx A.n c lo8 ms9 i++jg A.nx A.n (ms9 (lo8+i)) c):=rfl;obtain⟨X,hX⟩ : ∃ X,X=jQ A.nx A.n c lo8 ms9 i:=⟨_,rfl⟩;obtain⟨Y,hY⟩ : ∃ Y,Y=jg A.nx A.n (ms9 (lo8+i)) c:=⟨_,rfl⟩;obtain⟨y,hy⟩ : ∃ y,y=ms9 (lo8+i):=⟨_,rfl⟩;rw[<-hX,<-hY]at d4;rw[<-hX]at f el;rw[<-hY]at I z0 em;rw[<-hy]at y0 a1 m1;obtain⟨oa,oc,rfl⟩:=aj f;have H:=ae f;have J:=ae I;have bq:=ae r;have en:=r.size;clear f I r hR bl d1 bn bo bp ht hX hY hy e9 m2 f0 f2 f3 bf E
   go_wp2_with (at_builtin;refine ye rfl _ _ rfl w9.heap.size lo _ _ rfl rfl X Y H.u J.u (by omega) (by omega) ?_)
   intro v' w11 r1 r2 r3;obtain⟨va,vc,rfl⟩:=aj r1;have ap:Below w9.heap.size w9 w11:=bq.u.trans ((Below.refl w9.heap.size wr).grown r2 (by omega) (fun k hk=>(H.u.lt k hk).1));have HV:=ae r1;have d5:=ae ap;clear r1 r2 r3 ap;go_wp2
   go_roundw
   case rel =>
    refine⟨i+1,by omega,by go_num,?_,d5.u⟩;rw[d4.u,List.length_append,List.map_append];exact HV.u
   simp[intOf];omega
  have cy:¬ (i:Int)<((o-lo8:Nat):Int):=by omega
  obtain rfl:i=o-lo8:=by omega
  obtain⟨w11,rfl⟩ : ∃ w11,w11=wr:=⟨_,rfl⟩;have en:=r.size;obtain⟨oa,oc,rfl⟩:=aj f;have aq:∀ p,p∈jQ A.nx A.n c lo8 ms9 (o-lo8)↔p<A.n/\T8 (A.nx p c):=fun p=>by
   rw[jW];refine and_congr_right fun hp=>?_
   have hx:=hw.nxt p c hp hcl;rw[<-U.u.mem _ hx]
   constructor
   ·rintro⟨j,hj,e⟩;rw[e,(l.u.pi.m1 (lo8+j) (by omega)).2];omega
   rintro⟨k1,k2⟩;exact⟨ps9 (A.nx p c)-lo8,by omega,by rw[show lo8+(ps9 (A.nx p c)-lo8)=ps9 (A.nx p c) by omega];exact(l.u.pi.p1 _ hx).2.symm⟩
  have d6:=ae (xL (l.u.skip r) U.u hw hf hn hcl (fun k hk=>⟨T4.u k (by omega),.inr hk⟩) (.slice oa (jQ A.nx A.n c lo8 ms9 (o-lo8)).length oc) _ (jw E _ lR) aq (oW f (fun k k1 k2=>fun h=>by rcases h.2 with h|h<;>omega)));have bq:=ae r;clear f r aq bf E
  go_wp2_with fail;refine d6.u.mono ?_;rintro e w12 ⟨rfl,ar,N',ms',ps',bs',fr',mk',tt',kb',kc',qv',qs',av,aw⟩;have d7:=ae (av.mono Sk.sub);have d8:=ae aw;have d9:=ae (HF.u.trans ((bC bq.u (fun k hk=>T4.u k (by omega))).trans (ar.mono Sk.sub)));clear av aw ar d6;go_wp2
  go_roundw
  case rel=>exact⟨c+1,_,_,_,_,_,_,_,_,_,_,_,by omega,by go_num,d7.u,d8.u,d9.u⟩
  simp[intOf];omega
 have cx:¬ (c:Int)<(A.k:Int):=by omega
 obtain rfl:c=A.k:=by omega
 have z:=ae (xD d hn);have f7:=d.ql;have f8:=d.pi.few;have f9:=d.tl;have HF:=ae hF;clear d C hF
 go_wp2_with fail;refine z.u.mono ?_;rintro e w10 ⟨ax,Q⟩;have F:∃ nv ov,e=.returned (.tuple #[nv,.bool ov])/\FI O g mb mc pb pc bb bc A w10 nv (.bool ov)/\2*(A.n-wk g w10)+DX (.bool ov)<2*(A.n-wk g w7)+1:=by
  rcases Q with ⟨h1,rfl,h2⟩|⟨h1,b',h2,rfl,h3⟩
  ·refine⟨_,_,rfl,⟨_,_,_,_,_,_,_,_,_,_,_,_,.inl ⟨rfl,h1,_,h2⟩⟩,?_⟩;rw[h2.pt.tk,S];show 2*(A.n-tk)+0<_;omega
  refine⟨_,_,rfl,⟨_,_,_,_,_,_,_,_,_,_,_,_,.inr ⟨rfl,b',h2,rfl,h3⟩⟩,?_⟩;rw[h3.pt.tk,S];show 2*(A.n-(tk+1))+1<_;omega
 obtain⟨nv10,ov10,rfl,F,b0⟩:=F;have db:=ae (HF.u.trans ax);have df:=ae F;have ds:=ae b0;clear ax Q F b0 z HF;go_wp2
 go_roundw
 case rel=>exact⟨df.u,db.u⟩
 exact ds.u
theorem wR{u0 u1 u2 u3 u5 u7 u8 u9 u10 u11 u12 u13 u14 u16 u17 u18 u19 u20 u21 u22 u23 u24 u25 u26 u27 u28 u29 u30 u31 u32 u33 u34 u35 u36 u37 u38 u39 u40 u41 u42 u43 u44 u45 u46 u47 u48 u49 u50 u51 u52 u53 u54 u55 u56 u57 u58 u59 u60 u61 u62 u63 u64 u65 u66 u67 u68 u69 u70 u71 u72 u73 u74 u75 u76 u77 u78 u79 u80 u81 u82 u83 u84 u85:Value}{K K2 K3 L1 L2:Act->World->Prop}{n1 n2 n3 n4:Nat}{R:Ending->World->Prop}(w7:World)(ob rb n ca s x N oc lo:Nat)(oa:Option Addr)(xs:List Value)(hs:s<n)(hob:ob<w7.heap.size)(hlo:lo<=w7.heap.size)(hN:N<=1000000)
  (y3:w7.cell? ⟨ob,2,none⟩=some (.slice oa N oc))(k0:w7.cell? ⟨rb,s,none⟩=some (.int .i64 (x:Nat)))
  (hrk:w7.ownsRow lo 3 1 (.slice oa N oc) N xs)
  (hps:∀ (WA w8:World) (gg cap:Nat),w8.ownsRow lo 3 1 (.slice (some ⟨gg,0,none⟩) (N+1) cap) (N+1) (xs++[.int .i64 (x:Nat)])->WA.grownBy w8 (Value.slice oa N oc).ownBlock->((Value.slice oa N oc).ownBlock=some gg∨gg=w7.heap.size+1)->aH w7 WA (.cells #[.int .i64 (x:Nat)] 3)->
   w8.cell? ⟨ob,2,none⟩=some (.slice oa N oc)/\w8.frozen? ⟨ob,2,none⟩=false/\K { tmps:=#[u0,u1,u2,u3,.pointer (some ⟨ob,0,none⟩),u5,.slice (some ⟨rb,0,none⟩) n ca,u7,u8,u9,u10,u11,u12,u13,u14,.int .i64 (s:Nat),u16,u17,u18,u19,u20,u21,u22,u23,u24,u25,u26,u27,u28,u29,u30,u31,u32,u33,u34,u35,u36,u37,u38,u39,u40,u41,u42,u43,u44,u45,u46,u47,u48,u49,u50,u51,u52,u53,u54,u55,u56,u57,u58,u59,u60,u61,u62,u63,u64,u65,u66,u67,u68,u69,u70,u71,u72,u73,.pointer (some ⟨ob,2,none⟩),.slice oa N oc,.slice (some ⟨rb,0,none⟩) n ca,.int .i64 (s:Nat),.pointer (some ⟨rb,s,none⟩),.int .i64 (x:Nat),.slice (some ⟨w7.heap.size,0,none⟩) 1 1,.slice (some ⟨gg,0,none⟩) (N+1) cap,.pointer (some ⟨ob,2,none⟩),u83,u84,u85],defers:=[] } (w8.setCell ⟨ob,2,none⟩ (.slice (some ⟨gg,0,none⟩) (N+1) cap))) :
  Code.wp prog (Code.region 21 #[{ dst:=some 74,op:=Op.fieldAddr 30 (Operand.tmp 4) 2,type:=0,pos:= "l2_dfa.go:466",after:=#[],guard:=none },{ dst:=some 75,op:=Op.load 27 (Operand.tmp 74),type:=27,pos:= "l2_dfa.go:466",after:=#[{ on:=0,ground:=Ground.data }],guard:=none },{ dst:=some 76,op:=Op.move (Operand.tmp 6),type:=27,pos:= "l2_dfa.go:466",after:=#[],guard:=none },{ dst:=some 77,op:=Op.move (Operand.tmp 15),type:=3,pos:= "l2_dfa.go:466",after:=#[],guard:=none },{ dst:=some 78,op:=Op.indexAddr 27 (Operand.tmp 76) (Operand.tmp 77),type:=0,pos:= "l2_dfa.go:466",after:=#[{ on:=2,ground:=Ground.data },{ on:=3,ground:=Ground.data }],guard:=none },{ dst:=some 79,op:=Op.load 3 (Operand.tmp 78),type:=3,pos:= "l2_dfa.go:466",after:=#[{ on:=4,ground:=Ground.data }],guard:=none },{ dst:=some 80,op:=Op.buildSlice 27 1 #[(0,Operand.tmp 79)],type:=27,pos:= "l2_dfa.go:466",after:=#[{ on:=5,ground:=Ground.data }],guard:=none },{ dst:=some 81,op:=Op.call { callee:=Callee.builtin Builtin.append,args:=#[Operand.tmp 75,Operand.tmp 80],argTypes:=#[27,27] },type:=27,pos:= "l2_dfa.go:466",after:=#[{ on:=1,ground:=Ground.data },{ on:=6,ground:=Ground.data }],guard:=none },{ dst:=some 82,op:=Op.fieldAddr 30 (Operand.tmp 4) 2,type:=0,pos:= "l2_dfa.go:466",after:=#[{ on:=0,ground:=Ground.phase },{ on:=1,ground:=Ground.phase },{ on:=2,ground:=Ground.phase },{ on:=3,ground:=Ground.phase },{ on:=4,ground:=Ground.phase },{ on:=5,ground:=Ground.phase },{ on:=6,ground:=Ground.phase },{ on:=7,ground:=Ground.phase }],guard:=none },{ dst:=none,op:=Op.store 27 (Operand.tmp 82) (Operand.tmp 81),type:=0,pos:= "l2_dfa.go:466",after:=#[{ on:=8,ground:=Ground.data },{ on:=7,ground:=Ground.data },{ on:=7,ground:=Ground.chain },{ on:=0,ground:=Ground.phase },{ on:=1,ground:=Ground.phase },{ on:=2,ground:=Ground.phase },{ on:=3,ground:=Ground.phase },{ on:=4,ground:=Ground.phase },{ on:=5,ground:=Ground.phase },{ on:=6,ground:=Ground.phase },{ on:=7,ground:=Ground.phase }],guard:=none }] true) (Exit.inBlock n1 (Exit.then K (Exit.then L1 (Exit.inBlock n2 (Exit.inBlock n3 (Exit.then K2 (Exit.then L2 (Exit.inBlock n4 (Exit.then K3 (bodyPost prog Tryz.f58 R)))))))))) { tmps:=#[u0,u1,u2,u3,.pointer (some ⟨ob,0,none⟩),u5,.slice (some ⟨rb,0,none⟩) n ca,u7,u8,u9,u10,u11,u12,u13,u14,.int .i64 (s:Nat),u16,u17,u18,u19,u20,u21,u22,u23,u24,u25,u26,u27,u28,u29,u30,u31,u32,u33,u34,u35,u36,u37,u38,u39,u40,u41,u42,u43,u44,u45,u46,u47,u48,u49,u50,u51,u52,u53,u54,u55,u56,u57,u58,u59,u60,u61,u62,u63,u64,u65,u66,u67,u68,u69,u70,u71,u72,u73,u74,u75,u76,u77,u78,u79,u80,u81,u82,u83,u84,u85],defers:=[] } w7:=by
 obtain⟨j0,a,b,c,d⟩:=info_parts Tryz.zinInt;have y3':=(ai w7 (.cells #[.int .i64 (x:Nat)] 3)).cell (p:=⟨ob,2,none⟩) hob;rw[y3]at y3';have g:(s:Int)<(n:Int):=by omega
 have e:=ae hps;have f:=ae hrk;clear hps hrk
 go_region_law (
  (refine step_append_lies _ rfl (.tmp 75) (.tmp 80) 27 rfl lo 3 j0 (.int .i64 0) 1 8 underlying27 a b c d rfl (by decide) (.slice oa N oc) N xs (by first|(simp[Act.eval];done)|(simp[Act.eval,Act.put];done)) (by refine aH.own (w:=w7) (o:=.cells #[.int .i64 (x:Nat)] 3) ?_ f.u;exact⟨rfl,rfl,rfl,rfl⟩) ⟨w7.heap.size,0,none⟩ 1 1 [.int .i64 (x:Nat)] (by first|(simp[Act.eval];done)|(simp[Act.eval,Act.put];done)) rfl (by refine aH.news (w:=w7) (cs:=#[.int .i64 (x:Nat)]) (t:=3) ?_;exact⟨rfl,rfl,rfl,rfl⟩) (by intro u hu;simp only[List.mem_cons,List.not_mem_nil,or_false]at hu;subst hu;rfl) (by decide) (by unfold maxLen;omega) (by omega) (by have hq:=ah w7 (.cells #[.int .i64 (x:Nat)] 3);exact Nat.le_trans hlo (Nat.le_of_lt (Nat.lt_of_lt_of_eq (Nat.lt_succ_self _) hq.symm))) (w7.heap.size+1) (ah w7 _) (fun gg cap w8 r1 r2 r3 r4=>?_);have h8:=ae (e.u _ w8 gg cap r1 r2 r3 (by exact⟨rfl,rfl,rfl,rfl⟩));obtain⟨c7,z7,-⟩:=h8.u;clear r1 r2 r3 r4))
 all_goals exact h8.u.2.2
end Go.Proofs.YtidfkbghlkcbeaaGreatDoor
