import Derived.Test.YtidfkbghlkcbeaaGreatDoorPk20
import Derived.Test.YtidfkbghlkcbeaaGreatDoorPk25
namespace Go.Proofs.YtidfkbghlkcbeaaGreatDoor
open Go.RowKit Go.Proofs.Tryz
set_option maxHeartbeats 16000000
set_option maxRecDepth 100000
theorem Tryz.lawPd:Maps.Keyed prog 118:=Maps.Keyed.of_law (deep_law_laid Tryz.laidOutN (m:=4) (by omega) (of_decide_eq_true (by kernel_rfl)) (by kernel_rfl) (by rw[underlying118]))
theorem Am{g:Nat->Nat}(h:Fit g)(e:Bool):gU 118 (pd g e):=by
 have c0:prog.cellsOf 118=9:=by kernel_rfl
 have c1:prog.cellsOf 102=8:=by kernel_rfl
 have c2:prog.cellsOf 86=1:=by kernel_rfl
 have c3:prog.cellsOf 4=1:=by kernel_rfl
 have hk:prog.keyType 118=true:=by kernel_rfl
 obtain⟨m,hm⟩ : ∃ m,prog.types.size=m+1+1:=⟨prog.types.size-2,by have:2<prog.types.size:=of_decide_eq_true (by kernel_rfl);omega⟩;unfold gU keyOf;simp only[underlying118];rw[if_pos (by simp[hk,Value.formed,underlying118,c0,pd]),hm];unfold Program.keyLits;simp only[underlying118,Value.cells,pd]
 first
  | rw[if_pos (by rw[c0];rfl)]
  | skip
 simp[List.range_succ,Program.keyLits,underlying102,underlying86,underlying4,c0,c1,c2,c3,gu (h 0),gu (h 1),gu (h 2),gu (h 3),gu (h 4),gu (h 5),gu (h 6),gu (h 7)]
theorem vE(w:World):Calls prog 50 #[] w fun e w'=>e=.returned (.agg #[.map (some (w.heap.size+1))])/\bj 118 w' (w.heap.size+1) []/\w'.heap.size=w.heap.size+2/\Below w.heap.size w w':=by
 have a:=@run_makeMap prog;have hN:=ko 118 (w.alloc (.cells #[.map (some (w.heap.size+1))] 115));rw[ah]at hN;have hB:=aI w (.cells #[.map (some (w.heap.size+1))] 115) (.map #[] 0);have HN:=ae hN;have HB:=ae hB;clear hN hB
 go_enter func50,ntmps50
 go_wp2;refine bodyPost_ret (v:=.agg #[.map (some (w.heap.size+1))]) (by simp[results,results50,go_sem]) rfl ?_;refine⟨rfl,HN.u,by rw[ah,ah],HB.u⟩
theorem Ai(b:Nat)(g:Nat->Nat)(e:Bool)(ks:List Value)(w:World)(h:bj 118 w b ks)(hg:Fit g)(hn:ks.length<100000) :
  Calls prog 51 #[.agg #[.map (some b)],pd g e] w fun e1 w'=>∃ i ks' f,e1=.returned (.tuple #[.int .i64 (i:Nat),.bool f])/\lT ks (pd g e) ks' i f/\bj 118 w' b ks'/\aT (dM w b) w w':=by
 have hB:=aI w (.cells #[.map (some b)] 115) (.cells #[.int .u64 (g 0:Nat),.int .u64 (g 1:Nat),.int .u64 (g 2:Nat),.int .u64 (g 3:Nat),.int .u64 (g 4:Nat),.int .u64 (g 5:Nat),.int .u64 (g 6:Nat),.int .u64 (g 7:Nat),.bool e] 118);have hlt:=h.lt;have hW:=h.keep (hB.block b hlt);have hz:((w.alloc (.cells #[.map (some b)] 115)).alloc (.cells #[.int .u64 (g 0:Nat),.int .u64 (g 1:Nat),.int .u64 (g 2:Nat),.int .u64 (g 3:Nat),.int .u64 (g 4:Nat),.int .u64 (g 5:Nat),.int .u64 (g 6:Nat),.int .u64 (g 7:Nat),.bool e] 118)).heap.size=w.heap.size+2:=by rw[ah,ah]
 have c:Hi (aT (dM w b) w ((w.alloc (.cells #[.map (some b)] 115)).alloc (.cells #[.int .u64 (g 0:Nat),.int .u64 (g 1:Nat),.int .u64 (g 2:Nat),.int .u64 (g 3:Nat),.int .u64 (g 4:Nat),.int .u64 (g 5:Nat),.int .u64 (g 6:Nat),.int .u64 (g 7:Nat),.bool e] 118))):=bC hB (fun k hk=>Or.inr hk);rcases hW.look Tryz.lawPd underlying113 (Am hg e) with ⟨i,hi,hl⟩|⟨a,hl⟩
 ·have HW:=ae hW;have HI:=ae hi;clear hW hi h hB;unfold pd at hl ⊢
  go_enter func51,ntmps51
  go_wp2
  go_ret2;exact⟨i,ks,false,rfl,Or.inl ⟨List.mem_of_getElem? HI.u,rfl,HI.u,rfl⟩,HW.u,c.u⟩
 have p:=fun ty=>hW.len underlying113 ty
 obtain⟨w3,d,j,l⟩:=hW.put Tryz.lawPd underlying113 hn (Am hg e) a;have m:=ae j;have n:=ae (c.u.trans (l.fro (Or.inl rfl)));have o:=ae a;clear hW a h hB j l;unfold pd at hl d ⊢
 go_enter func51,ntmps51
 go_wp2
 go_ret2;exact⟨ks.length,ks++[pd g e],true,rfl,Or.inr ⟨o.u,rfl,rfl,rfl⟩,m.u,n.u⟩
theorem lA(b:Nat)(ks:List Value)(w:World)(h:bj 118 w b ks) :
  Calls prog 56 #[.agg #[.map (some b)]] w fun e w'=>e=.returned (.int .i64 (ks.length:Nat))/\Below w.heap.size w w':=by
 have hB:=ai w (.cells #[.map (some b)] 115);have hW:=h.keep (hB.block b h.lt);have a:=fun ty=>hW.len underlying113 ty
 have HB:=ae hB;clear hW h hB
 go_enter func56,ntmps56
 go_wp2;go_ret;exact⟨rfl,HB.u⟩
def eO(w:World)(b:Nat)(t:TypeId)(c0 c1:Value):Prop:=w.rowIs b t 2 (fun j=>[c0,c1].getD j undef)
theorem eO.new(w:World)(t:TypeId)(c0 c1:Value):eO (w.alloc (.cells #[c0,c1] t)) w.heap.size t c0 c1:=
 World.rowIs_alloc w #[c0,c1] t _ (fun i hi=>by
  match i,hi with
  | 0,_=>rfl
  | 1,_=>rfl)
theorem eO.alloc{w:World}{b:Nat}{t:TypeId}{c0 c1:Value}(h:eO w b t c0 c1)(o:Obj):eO (w.alloc o) b t c0 c1:=World.rowIs.alloc h o
theorem eO.on{w w':World}{b:Nat}{t:TypeId}{c0 c1:Value}(h:eO w b t c0 c1)(e:w'.heap[b]?=w.heap[b]?):eO w' b t c0 c1:=World.rowIs.of_block h e
theorem eO.put0{w:World}{b:Nat}{t:TypeId}{c0 c1 u:Value}(h:eO w b t c0 c1):eO (w.setCell ⟨b,0,none⟩ u) b t u c1:=(World.rowIs.set h 0 u).congr (fun i hi=>by
  match i,hi with
  | 0,_=>rfl
  | 1,_=>rfl)
theorem eO.put1{w:World}{b:Nat}{t:TypeId}{c0 c1 u:Value}(h:eO w b t c0 c1):eO (w.setCell ⟨b,1,none⟩ u) b t c0 u:=(World.rowIs.set h 1 u).congr (fun i hi=>by
  match i,hi with
  | 0,_=>rfl
  | 1,_=>rfl)
theorem eO.cells{w:World}{b:Nat}{t:TypeId}{c0 c1:Value}(h:eO w b t c0 c1):w.cell? ⟨b,0,none⟩=some c0/\w.cell? ⟨b,1,none⟩=some c1:=⟨World.rowIs.cell h (i:=0) (by omega),World.rowIs.cell h (i:=1) (by omega)⟩
theorem ce.bel{g m:Nat}{a b:World}(h:ce g a b)(hm:m<=g):Below m a b:=⟨h.os,h.tape,h.output,by rw[h.size];exact Nat.le_refl _,fun k hk=>h.block k (by omega)⟩
theorem ki(w:World)(B:Nat)(v0 v1 v2 v3 v4 v5 v6 v7 v8:Value):ce B w (((((((((w.setCell ⟨B,0,none⟩ v0).setCell ⟨B,1,none⟩ v1).setCell ⟨B,2,none⟩ v2).setCell ⟨B,3,none⟩ v3).setCell ⟨B,4,none⟩ v4).setCell ⟨B,5,none⟩ v5).setCell ⟨B,6,none⟩ v6).setCell ⟨B,7,none⟩ v7).setCell ⟨B,8,none⟩ v8):=
 ((((((((am _ _).trans (am _ _)).trans (am _ _)).trans (am _ _)).trans (am _ _)).trans (am _ _)).trans (am _ _)).trans (am _ _)).trans (am _ _)
theorem rz{w:World}{B:Nat}{t:TypeId}{f:Nat->Value}(h:w.rowIs B t 9 f)(g:Nat->Nat)(e:Bool):(((((((((w.setCell ⟨B,0,none⟩ (.int .u64 (g 0:Nat))).setCell ⟨B,1,none⟩ (.int .u64 (g 1:Nat))).setCell ⟨B,2,none⟩ (.int .u64 (g 2:Nat))).setCell ⟨B,3,none⟩ (.int .u64 (g 3:Nat))).setCell ⟨B,4,none⟩ (.int .u64 (g 4:Nat))).setCell ⟨B,5,none⟩ (.int .u64 (g 5:Nat))).setCell ⟨B,6,none⟩ (.int .u64 (g 6:Nat))).setCell ⟨B,7,none⟩ (.int .u64 (g 7:Nat))).setCell ⟨B,8,none⟩ (.bool e)).rowIs B t 9 (lG g e):=by
 refine(World.rowIs.set (World.rowIs.set (World.rowIs.set (World.rowIs.set (World.rowIs.set (World.rowIs.set (World.rowIs.set (World.rowIs.set (World.rowIs.set h 0 _) 1 _) 2 _) 3 _) 4 _) 5 _) 6 _) 7 _) 8 _).congr (fun i hi=>?_)
 match i,hi with
 | 0,_=>rfl
 | 1,_=>rfl
 | 2,_=>rfl
 | 3,_=>rfl
 | 4,_=>rfl
 | 5,_=>rfl
 | 6,_=>rfl
 | 7,_=>rfl
 | 8,_=>rfl
theorem vZ(q l c:Nat)(a:Option Addr)(w:World)(h:eO w q 121 (.slice a l c) (.int .i64 (l:Nat))) :
  Calls prog 54 #[.pointer (some ⟨q,0,none⟩)] w fun e w'=>e=.returned (.tuple #[pd (fun _=>0) false,.bool false])/\Below w.heap.size w w':=by
 have b:=ai w (.cells #[.int .u64 0,.int .u64 0,.int .u64 0,.int .u64 0,.int .u64 0,.int .u64 0,.int .u64 0,.int .u64 0,.bool false] 118);have h1:=h.alloc (.cells #[.int .u64 0,.int .u64 0,.int .u64 0,.int .u64 0,.int .u64 0,.int .u64 0,.int .u64 0,.int .u64 0,.bool false] 118);have c0:(w.alloc (.cells #[.int .u64 0,.int .u64 0,.int .u64 0,.int .u64 0,.int .u64 0,.int .u64 0,.int .u64 0,.int .u64 0,.bool false] 118)).cell? ⟨q,0,none⟩=some (.slice a l c):=World.rowIs.cell h1 (i:=0) (by omega);have c1:(w.alloc (.cells #[.int .u64 0,.int .u64 0,.int .u64 0,.int .u64 0,.int .u64 0,.int .u64 0,.int .u64 0,.int .u64 0,.bool false] 118)).cell? ⟨q,1,none⟩=some (.int .i64 (l:Nat)):=World.rowIs.cell h1 (i:=1) (by omega);have HB:=ae b;clear h h1 b
 go_enter func54,ntmps54
 go_wp2_with fail
 go_quiet (fail);go_wp2;refine bodyPost_ret (v:=.tuple #[pd (fun _=>0) false,.bool false]) (by simp[results,results54,go_sem,pd]) rfl ?_;exact⟨rfl,(below_drewN HB.u _).trans ((ki _ _ _ _ _ _ _ _ _ _ _).bel lR)⟩
theorem vD(q b t l c:Nat)(g:Nat->Nat)(e:Bool)(w:World)(hl:l<=100000)(ht:t<l)(h:eO w q 121 (.slice (some ⟨b,0,none⟩) l c) (.int .i64 (t:Nat)))(hb:b<w.heap.size)(hit:∀ j,j<9->w.cell? ⟨b,t*9+j,none⟩=some (lG g e j)) :
  Calls prog 54 #[.pointer (some ⟨q,0,none⟩)] w fun x w'=>x=.returned (.tuple #[pd g e,.bool true])/\aT (dM w q) w w'/\eO w' q 121 (.slice (some ⟨b,0,none⟩) l c) (.int .i64 ((t+1:Nat):Int)):=by
 have hq:=World.rowIs.lt h;obtain⟨W1,m⟩ : ∃ W1,W1=w.alloc (.cells #[.int .u64 0,.int .u64 0,.int .u64 0,.int .u64 0,.int .u64 0,.int .u64 0,.int .u64 0,.int .u64 0,.bool false] 118):=⟨_,rfl⟩;have n:Below w.heap.size w W1:=by rw[m];exact ai w _
 have B:w.heap.size+1<=W1.heap.size:=by rw[m,ah];omega
 have h1:eO W1 q 121 (.slice (some ⟨b,0,none⟩) l c) (.int .i64 (t:Nat)):=h.on (n.block q hq);have a:W1.rowIs w.heap.size 118 9 (lG (fun _=>0) false):=by rw[m];exact gx (ay w _).new
 obtain⟨c0,c1⟩:=h1.cells;have c2:=World.rowIs.frozen h1 1;have d:∀ j,j<9->W1.cell? ⟨b,t*9+j,none⟩=some (lG g e j):=fun j hj=>by rw[n.cell (p:=⟨b,t*9+j,none⟩) hb];exact hit j hj
 have i0:=d 0 (by omega);have i1:=d 1 (by omega);have i2:=d 2 (by omega);have i3:=d 3 (by omega);have i4:=d 4 (by omega);have i5:=d 5 (by omega);have i6:=d 6 (by omega);have i7:=d 7 (by omega);have i8:=d 8 (by omega);simp only[lG,wd,Nat.reduceLT,if_true,if_false,Nat.add_zero]at i0 i1 i2 i3 i4 i5 i6 i7 i8;have r0:=a.cell (i:=0) (by omega);have r1:=a.cell (i:=1) (by omega);have r2:=a.cell (i:=2) (by omega);have r3:=a.cell (i:=3) (by omega);have r4:=a.cell (i:=4) (by omega);have r5:=a.cell (i:=5) (by omega);have r6:=a.cell (i:=6) (by omega);have r7:=a.cell (i:=7) (by omega);have r8:=a.cell (i:=8) (by omega);have z0:=a.frozen 0;have z1:=a.frozen 1;have z2:=a.frozen 2;have z3:=a.frozen 3;have z4:=a.frozen 4;have z5:=a.frozen 5;have z6:=a.frozen 6;have z7:=a.frozen 7;have z8:=a.frozen 8;have C:¬ (t:Int)=(l:Int):=by omega
 have D:(t:Int)<(l:Int):=by omega
 have hw:wrap64 ((t:Int)+1)=(t:Int)+1:=CB (by omega) (by omega);have o:=ae m;have r:=ae n;have H1:=ae h1;have s:=ae a;clear h h1 n a m hit d
 go_enter func54,ntmps54
 go_wp2_with fail;rw[<-o.u]
 go_quiet (fail)
 go_wp2_with fail;refine aX 10 (by kernel_rfl) (by kernel_rfl) ?_;simp only[List.take_succ_cons,List.take_zero,List.drop_succ_cons,List.drop_zero]
 repeat (first|go_big_quiet_skip|(go_big_quiet_want;go_big_quiet_op;go_big_quiet_on))
 refine wpQuiet_nil ?_;go_wp2;generalize hWf:World.setCell _ _ _=Wf;have f:Wf.rowIs w.heap.size 118 9 (lG g e):=by
  rw[<-hWf];exact rz (World.rowIs.setOther (rz (s.u.of_block rfl) g e) (by show w.heap.size≠q;omega) _) g e
 have y:eO Wf q 121 (.slice (some ⟨b,0,none⟩) l c) (.int .i64 ((t+1:Nat):Int)):=by
  rw[<-hWf];show eO _ q _ _ (.int .i64 ((t:Int)+1));exact eO.on (eO.put1 (eO.on (eO.on H1.u rfl) ((ki (W1.drewN (nq+1)) w.heap.size _ _ _ _ _ _ _ _ _).block q (by omega)))) ((ki _ w.heap.size _ _ _ _ _ _ _ _ _).block q (by omega))
 have z:aT (dM w q) w Wf:=by
  rw[<-hWf];have A:aT (dM w q) W1 (W1.drewN (nq+1)):=⟨rfl,rfl,rfl,Nat.le_refl _,fun _ _=>rfl⟩;exact aT.trans ((bC r.u (fun k hk=>.inr hk)).trans A) (aT.trans (aT.trans (ce.fro (ki _ w.heap.size _ _ _ _ _ _ _ _ _) (.inr lR)) (ce.fro (am (b:=q) 1 _) (.inl rfl))) (ce.fro (ki _ w.heap.size _ _ _ _ _ _ _ _ _) (.inr lR)))
 clear hWf i0 i1 i2 i3 i4 i5 i6 i7 i8 r0 r1 r2 r3 r4 r5 r6 r7 r8 z0 z1 z2 z3 z4 z5 z6 z7 z8 c0 c1 c2;have x0:=f.cell (i:=0) (by omega);have x1:=f.cell (i:=1) (by omega);have x2:=f.cell (i:=2) (by omega);have x3:=f.cell (i:=3) (by omega);have x4:=f.cell (i:=4) (by omega);have x5:=f.cell (i:=5) (by omega);have x6:=f.cell (i:=6) (by omega);have x7:=f.cell (i:=7) (by omega);have x8:=f.cell (i:=8) (by omega);simp only[lG,wd,Nat.reduceLT,if_true,if_false]at x0 x1 x2 x3 x4 x5 x6 x7 x8;refine bodyPost_ret (v:=.tuple #[pd g e,.bool true]) (by simp[results,results54,go_sem,pd,x0,x1,x2,x3,x4,x5,x6,x7,x8]) rfl ?_;exact⟨rfl,z,y⟩
theorem Tryz.zinPd:(prog.info? 118).map (fun i=>(i.zero,i.size,i.bytes))=some (some (.agg #[.int .u64 0,.int .u64 0,.int .u64 0,.int .u64 0,.int .u64 0,.int .u64 0,.int .u64 0,.int .u64 0,.bool false]),9,72):=by kernel_rfl
def l9(p:(Nat->Nat)×Bool):List Value:=(c9 p.1 p.2).toList
def wV(ps:List ((Nat->Nat)×Bool)):List Value:=ps.flatMap l9
theorem Dm(ps:List ((Nat->Nat)×Bool)){t j:Nat}{g:Nat->Nat}{e:Bool}(ht:ps[t]?=some (g,e))(hj:j<9):(wV ps)[t*9+j]?=some (lG g e j):=by
 induction ps generalizing t with
 | nil=>simp at ht
 | cons p ps ih =>
  cases t with
  | zero =>
   simp at ht;subst ht;simp only[wV,List.flatMap_cons];rw[List.getElem?_append_left (by simp[l9];omega)]
   match j,hj with
   | 0,_=>rfl
   | 1,_=>rfl
   | 2,_=>rfl
   | 3,_=>rfl
   | 4,_=>rfl
   | 5,_=>rfl
   | 6,_=>rfl
   | 7,_=>rfl
   | 8,_=>rfl
  | succ t =>
   simp only[List.getElem?_cons_succ]at ht;have:=ih ht;simp only[wV,List.flatMap_cons]at this ⊢;rw[List.getElem?_append_right (by simp[l9];omega)];rw[<-this]
   congr 1
   simp[l9];omega
theorem zg(ps:List ((Nat->Nat)×Bool))(g:Nat->Nat)(e:Bool):wV (ps++[(g,e)])=wV ps++[.int .u64 (g 0:Nat),.int .u64 (g 1:Nat),.int .u64 (g 2:Nat),.int .u64 (g 3:Nat),.int .u64 (g 4:Nat),.int .u64 (g 5:Nat),.int .u64 (g 6:Nat),.int .u64 (g 7:Nat),.bool e]:=by simp[wV,l9]
theorem wA(q base:Nat)(v tk:Value)(ps:List ((Nat->Nat)×Bool))(g:Nat->Nat)(e:Bool)(w:World)(hl:ps.length<=100000)(h:eO w q 121 v tk)(hown:w.ownsRow base 118 9 v ps.length (wV ps))(hb:base<=w.heap.size)(j:v.ownBlock≠some q) :
  Calls prog 53 #[.pointer (some ⟨q,0,none⟩),pd g e] w fun x w'=>x=.returned (.tuple #[])/\∃ v',w'.ownsRow base 118 9 v' (ps++[(g,e)]).length (wV (ps++[(g,e)]))/\eO w' q 121 v' tk/\aT (fun k=>k=q∨v.ownBlock=some k∨w.heap.size<=k) w w'/\∀ k,v'.ownBlock=some k->v.ownBlock=some k∨w.heap.size<=k:=by
 obtain⟨j0,m,n,p,r⟩:=info_parts Tryz.zinPd;obtain⟨oa,oc,rfl⟩:=aj hown;have hq:=World.rowIs.lt h;unfold pd;obtain⟨W1,d⟩ : ∃ W1,W1=w.alloc (.cells #[.int .u64 (g 0:Nat),.int .u64 (g 1:Nat),.int .u64 (g 2:Nat),.int .u64 (g 3:Nat),.int .u64 (g 4:Nat),.int .u64 (g 5:Nat),.int .u64 (g 6:Nat),.int .u64 (g 7:Nat),.bool e] 118):=⟨_,rfl⟩;have c:Below w.heap.size w W1:=by rw[d];exact ai w _
 have B:W1.heap.size=w.heap.size+1:=by rw[d,ah]
 have h1:eO W1 q 121 (.slice oa ps.length oc) tk:=h.on (c.block q hq);have a:W1.rowIs w.heap.size 118 9 (lG g e):=by rw[d];exact gx (ay w _).new
 have f:=aG hown c lR;obtain⟨c0,c1⟩:=h1.cells;have x0:=a.cell (i:=0) (by omega);have x1:=a.cell (i:=1) (by omega);have x2:=a.cell (i:=2) (by omega);have x3:=a.cell (i:=3) (by omega);have x4:=a.cell (i:=4) (by omega);have x5:=a.cell (i:=5) (by omega);have x6:=a.cell (i:=6) (by omega);have x7:=a.cell (i:=7) (by omega);have x8:=a.cell (i:=8) (by omega);simp only[lG,wd,Nat.reduceLT,if_true,if_false]at x0 x1 x2 x3 x4 x5 x6 x7 x8;have d0:∀ o:Obj,(W1.alloc o).cell? ⟨q,0,none⟩=some (.slice oa ps.length oc):=fun o=>(h1.alloc o).cells.1
 have s:=ae f;have y:Hi (∀ (WA w7:World) (gg cap:Nat),w7.ownsRow base 118 9 (.slice (some ⟨gg,0,none⟩) (ps.length+1) cap) (ps.length+1) (wV ps++[.int .u64 (g 0:Nat),.int .u64 (g 1:Nat),.int .u64 (g 2:Nat),.int .u64 (g 3:Nat),.int .u64 (g 4:Nat),.int .u64 (g 5:Nat),.int .u64 (g 6:Nat),.int .u64 (g 7:Nat),.bool e])->WA.grownBy w7 (Value.slice oa ps.length oc).ownBlock->((Value.slice oa ps.length oc).ownBlock=some gg∨gg=W1.heap.size+1)->aH W1 WA (.cells #[.int .u64 (g 0:Nat),.int .u64 (g 1:Nat),.int .u64 (g 2:Nat),.int .u64 (g 3:Nat),.int .u64 (g 4:Nat),.int .u64 (g 5:Nat),.int .u64 (g 6:Nat),.int .u64 (g 7:Nat),.bool e] 118)->w7.cell? ⟨q,0,none⟩=some (.slice oa ps.length oc)/\w7.frozen? ⟨q,0,none⟩=false/\
   ((w7.setCell ⟨q,0,none⟩ (.slice (some ⟨gg,0,none⟩) (ps.length+1) cap)).ownsRow base 118 9 (.slice (some ⟨gg,0,none⟩) (ps.length+1) cap) (ps++[(g,e)]).length (wV (ps++[(g,e)]))/\eO (w7.setCell ⟨q,0,none⟩ (.slice (some ⟨gg,0,none⟩) (ps.length+1) cap)) q 121 (.slice (some ⟨gg,0,none⟩) (ps.length+1) cap) tk/\aT (fun k=>k=q∨(Value.slice oa ps.length oc).ownBlock=some k∨w.heap.size<=k) w (w7.setCell ⟨q,0,none⟩ (.slice (some ⟨gg,0,none⟩) (ps.length+1) cap))/\∀ k,(Value.slice (some ⟨gg,0,none⟩) (ps.length+1) cap).ownBlock=some k->(Value.slice oa ps.length oc).ownBlock=some k∨w.heap.size<=k)):=fun WA w7 gg cap r1 r2 r3 hP=>by
  have C:=hP.size;have l:w7.heap[q]?=W1.heap[q]? :=(r2.block q (by omega) (fun z=>j z.symm)).trans (hP.old (by omega));have h7:=h1.on l;have D:gg≠q:=by
   rcases r3 with k|k
   ·intro z;rw[z]at k;exact j k
   omega
  refine⟨h7.cells.1,World.rowIs.frozen h7 0,?_,h7.put0,⟨?_,?_,?_,?_,fun k hk=>?_⟩,fun k hk=>?_⟩
  ·rw[zg,List.length_append];exact ak r1 (fun k hk=>(am 0 _).block k (by
    have:k=gg:=by cases hk;rfl
    omega))
  ·exact(am (w:=w7) (b:=q) 0 _).os.trans (r2.os.trans (hP.os.trans c.os))
  ·exact(am (w:=w7) (b:=q) 0 _).tape.trans (r2.tape.trans (hP.tape.trans c.tape))
  ·exact(am (w:=w7) (b:=q) 0 _).output.trans (r2.output.trans (hP.output.trans c.output))
  ·rw[(am (w:=w7) (b:=q) 0 _).size];have:=r2.size;omega
  ·have k1:k≠q:=fun z=>hk (.inl z)
   have k2:(Value.slice oa ps.length oc).ownBlock≠some k:=fun z=>hk (.inr (.inl z))
   have k3:k<w.heap.size:=by apply Nat.lt_of_not_le;intro z;exact hk (.inr (.inr z))
   rw[(am (w:=w7) (b:=q) 0 _).block k k1,r2.block k (by omega) (fun z=>k2 z.symm),hP.old (by omega),c.block k k3]
  have:k=gg:=by cases hk;rfl
  subst this;rcases r3 with z|z
  ·exact .inl z
  exact .inr (by omega)
 have A:=ae d;have E:=ae c;have H1:=ae h1;clear h h1 c a d hown f
 go_enter func53,ntmps53
 go_wp2_with fail;rw[<-A.u]
 go_region_law (
  (refine step_append_lies _ rfl (.tmp 8) (.tmp 10) 119 rfl base 118 j0 (.agg #[.int .u64 0,.int .u64 0,.int .u64 0,.int .u64 0,.int .u64 0,.int .u64 0,.int .u64 0,.int .u64 0,.bool false]) 9 72 underlying119 m n p r rfl (by decide) (.slice oa ps.length oc) ps.length (wV ps) (by first|(simp[Act.eval];done)|(simp[Act.eval,Act.put];done)) (by refine aH.own (w:=W1) (o:=.cells #[.int .u64 (g 0:Nat),.int .u64 (g 1:Nat),.int .u64 (g 2:Nat),.int .u64 (g 3:Nat),.int .u64 (g 4:Nat),.int .u64 (g 5:Nat),.int .u64 (g 6:Nat),.int .u64 (g 7:Nat),.bool e] 118) ?_ s.u;exact⟨rfl,rfl,rfl,rfl⟩) ⟨W1.heap.size,0,none⟩ 1 1 [.int .u64 (g 0:Nat),.int .u64 (g 1:Nat),.int .u64 (g 2:Nat),.int .u64 (g 3:Nat),.int .u64 (g 4:Nat),.int .u64 (g 5:Nat),.int .u64 (g 6:Nat),.int .u64 (g 7:Nat),.bool e] (by first|(simp[Act.eval];done)|(simp[Act.eval,Act.put];done)) rfl (by refine aH.news (w:=W1) (cs:=#[.int .u64 (g 0:Nat),.int .u64 (g 1:Nat),.int .u64 (g 2:Nat),.int .u64 (g 3:Nat),.int .u64 (g 4:Nat),.int .u64 (g 5:Nat),.int .u64 (g 6:Nat),.int .u64 (g 7:Nat),.bool e]) (t:=118) ?_;exact⟨rfl,rfl,rfl,rfl⟩) (by intro u hu;simp only[List.mem_cons,List.not_mem_nil,or_false]at hu;rcases hu with rfl|rfl|rfl|rfl|rfl|rfl|rfl|rfl|rfl<;>rfl) (by decide) (by unfold maxLen;omega) (by omega) (by show base<=(World.alloc _ _).heap.size;rw[ah];omega) (W1.heap.size+1) (ah W1 _) (fun gg cap w7 r1 r2 r3 r4=>?_);have h7:=ae (y.u _ w7 gg cap r1 r2 r3 (by exact⟨rfl,rfl,rfl,rfl⟩));obtain⟨c7,z7,-⟩:=h7.u;clear r1 r2 r3 r4))
 all_goals
  go_wp2
  first|(refine bodyPost_ret (results_none rfl _ _ _) rfl ?_)|(refine bodyPost_end (results_none rfl _ _ _) rfl ?_)
  obtain⟨-,-,h8⟩:=h7.u;exact⟨rfl,_,h8⟩
theorem dr{w:World}{B:Nat}{t:TypeId}{F:Nat->Value}(h:w.rowIs B t 4 F)(u0 u1 u2 u3:Value):aC ((((w.setCell ⟨B,0,none⟩ u0).setCell ⟨B,1,none⟩ u1).setCell ⟨B,2,none⟩ u2).setCell ⟨B,3,none⟩ u3) B t u0 u1 u2 u3:=
 (World.rowIs.set (World.rowIs.set (World.rowIs.set (World.rowIs.set h 0 u0) 1 u1) 2 u2) 3 u3).congr (fun j hj=>by
  match j,hj with
  | 0,_=>rfl
  | 1,_=>rfl
  | 2,_=>rfl
  | 3,_=>rfl)
theorem eC(w:World)(B:Nat)(u0 u1 u2 u3:Value):ce B w ((((w.setCell ⟨B,0,none⟩ u0).setCell ⟨B,1,none⟩ u1).setCell ⟨B,2,none⟩ u2).setCell ⟨B,3,none⟩ u3):=(((am _ _).trans (am _ _)).trans (am _ _)).trans (am _ _)
theorem dv{w:World}{B:Nat}{c0 c1 c2 c3 x:Value}(h:aC w B 30 c0 c1 c2 c3){fn:Func}{p q:Tmp}(hr:fn.results=#[.cell p 30,.tmp q])(tmps:Array Value)(hp:tmps.getD p undef=.pointer (some ⟨B,0,none⟩))(hq:tmps.getD q undef=x):(results fn tmps).run prog w=.ok (.tuple #[.agg #[c0,c1,c2,c3],x]) w:=by
 obtain⟨c,hb,hs,hc⟩:=h;have e:c=#[c0,c1,c2,c3]:=by
  apply Array.ext_getElem?
  intro i
  by_cases hi:i<4
  ·rw[hc i hi]
   match i,hi with
   | 0,_=>rfl
   | 1,_=>rfl
   | 2,_=>rfl
   | 3,_=>rfl
  rw[Array.getElem?_eq_none (by omega),Array.getElem?_eq_none (by simp;omega)]
 subst e;have a:tmps[p]?.getD undef=.pointer (some ⟨B,0,none⟩):=by simpa using hp
 have b:tmps[q]?.getD undef=x:=by simpa using hq
 have hl:=run_loadVar_row (P:=prog) w B 30 30 #[c0,c1,c2,c3] (0,0) _ hb underlying30 rfl (by kernel_rfl);simp[results,hr,a,b,asAddr,hl]
end Go.Proofs.YtidfkbghlkcbeaaGreatDoor
