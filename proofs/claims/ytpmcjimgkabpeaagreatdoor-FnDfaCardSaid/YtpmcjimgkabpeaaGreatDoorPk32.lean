import Derived.Test.YtpmcjimgkabpeaaGreatDoorPk31
import Derived.Test.YtpmcjimgkabpeaaGreatDoorPk30
namespace Go.Proofs.YtpmcjimgkabpeaaGreatDoor
open Go.RowKit Go.Proofs.Tryz
set_option maxHeartbeats 16000000
set_option maxRecDepth 100000
theorem Tryz.lawPd:Maps.Keyed prog 114:=Maps.Keyed.of_law (deep_law_laid Tryz.laidOutN (m:=4) (by omega) (of_decide_eq_true (by kernel_rfl)) (by kernel_rfl) (by rw[underlying114]))
theorem yT{g:Nat->Nat}(h:Fit g)(e:Bool):gS 114 (pd g e):=by
 have c0:prog.cellsOf 114=9:=by kernel_rfl
 have c1:prog.cellsOf 102=8:=by kernel_rfl
 have c2:prog.cellsOf 86=1:=by kernel_rfl
 have c3:prog.cellsOf 4=1:=by kernel_rfl
 have hk:prog.keyType 114=true:=by kernel_rfl
 obtain⟨m,hm⟩ : ∃ m,prog.types.size=m+1+1:=⟨prog.types.size-2,by have:2<prog.types.size:=of_decide_eq_true (by kernel_rfl);omega⟩;unfold gS keyOf;simp only[underlying114];rw[if_pos (by simp[hk,Value.formed,underlying114,c0,pd]),hm];unfold Program.keyLits;simp only[underlying114,Value.cells,pd]
 first
  | rw[if_pos (by rw[c0];rfl)]
  | skip
 simp[List.range_succ,Program.keyLits,underlying102,underlying86,underlying4,c0,c1,c2,c3,gC (h 0),gC (h 1),gC (h 2),gC (h 3),gC (h 4),gC (h 5),gC (h 6),gC (h 7)]
theorem wI(w:World):Calls prog 52 #[] w fun e w'=>e=.returned (.agg #[.map (some (w.heap.size+1))])/\ba 114 w' (w.heap.size+1) []/\w'.heap.size=w.heap.size+2/\Below w.heap.size w w':=by
 have a:=@run_makeMap prog;have hN:=jR 114 (w.alloc (.cells #[.map (some (w.heap.size+1))] 119));rw[ah]at hN;have hB:=aH w (.cells #[.map (some (w.heap.size+1))] 119) (.map #[] 0);have HN:=ae hN;have HB:=ae hB;clear hN hB
 go_enter func52,ntmps52
 go_wp2;refine bodyPost_ret (v:=.agg #[.map (some (w.heap.size+1))]) (by simp[results,results52,go_sem]) rfl ?_;refine⟨rfl,HN.u,by rw[ah,ah],HB.u⟩
theorem AB(b:Nat)(g:Nat->Nat)(e:Bool)(ks:List Value)(w:World)(h:ba 114 w b ks)(hg:Fit g)(hn:ks.length<100000) :
  Calls prog 53 #[.agg #[.map (some b)],pd g e] w fun e1 w'=>∃ i ks' f,e1=.returned (.tuple #[.int .i64 (i:Nat),.bool f])/\lB ks (pd g e) ks' i f/\ba 114 w' b ks'/\aR (dD w b) w w':=by
 have hB:=aH w (.cells #[.map (some b)] 119) (.cells #[.int .u64 (g 0:Nat),.int .u64 (g 1:Nat),.int .u64 (g 2:Nat),.int .u64 (g 3:Nat),.int .u64 (g 4:Nat),.int .u64 (g 5:Nat),.int .u64 (g 6:Nat),.int .u64 (g 7:Nat),.bool e] 114);have hlt:=h.lt;have hW:=h.keep (hB.block b hlt);have hz:((w.alloc (.cells #[.map (some b)] 119)).alloc (.cells #[.int .u64 (g 0:Nat),.int .u64 (g 1:Nat),.int .u64 (g 2:Nat),.int .u64 (g 3:Nat),.int .u64 (g 4:Nat),.int .u64 (g 5:Nat),.int .u64 (g 6:Nat),.int .u64 (g 7:Nat),.bool e] 114)).heap.size=w.heap.size+2:=by rw[ah,ah]
 have c:Hi (aR (dD w b) w ((w.alloc (.cells #[.map (some b)] 119)).alloc (.cells #[.int .u64 (g 0:Nat),.int .u64 (g 1:Nat),.int .u64 (g 2:Nat),.int .u64 (g 3:Nat),.int .u64 (g 4:Nat),.int .u64 (g 5:Nat),.int .u64 (g 6:Nat),.int .u64 (g 7:Nat),.bool e] 114))):=bh hB (fun k hk=>Or.inr hk);rcases hW.look Tryz.lawPd underlying117 (yT hg e) with ⟨i,hi,hl⟩|⟨a,hl⟩
 ·have HW:=ae hW;have HI:=ae hi;clear hW hi h hB;unfold pd at hl ⊢
  go_enter func53,ntmps53
  go_wp2
  go_ret2;exact⟨i,ks,false,rfl,Or.inl ⟨List.mem_of_getElem? HI.u,rfl,HI.u,rfl⟩,HW.u,c.u⟩
 have p:=fun ty=>hW.len underlying117 ty
 obtain⟨w3,d,j,l⟩:=hW.put Tryz.lawPd underlying117 hn (yT hg e) a;have m:=ae j;have n:=ae (c.u.trans (l.fro (Or.inl rfl)));have o:=ae a;clear hW a h hB j l;unfold pd at hl d ⊢
 go_enter func53,ntmps53
 go_wp2
 go_ret2;exact⟨ks.length,ks++[pd g e],true,rfl,Or.inr ⟨o.u,rfl,rfl,rfl⟩,m.u,n.u⟩
theorem kU(b:Nat)(ks:List Value)(w:World)(h:ba 114 w b ks) :
  Calls prog 56 #[.agg #[.map (some b)]] w fun e w'=>e=.returned (.int .i64 (ks.length:Nat))/\Below w.heap.size w w':=by
 have hB:=ai w (.cells #[.map (some b)] 119);have hW:=h.keep (hB.block b h.lt);have a:=fun ty=>hW.len underlying117 ty
 have HB:=ae hB;clear hW h hB
 go_enter func56,ntmps56
 go_wp2;go_ret;exact⟨rfl,HB.u⟩
def eJ(w:World)(b:Nat)(t:TypeId)(c0 c1:Value):Prop:=w.rowIs b t 2 (fun j=>[c0,c1].getD j undef)
theorem eJ.new(w:World)(t:TypeId)(c0 c1:Value):eJ (w.alloc (.cells #[c0,c1] t)) w.heap.size t c0 c1:=
 World.rowIs_alloc w #[c0,c1] t _ (fun i hi=>by
  match i,hi with
  | 0,_=>rfl
  | 1,_=>rfl)
theorem eJ.alloc{w:World}{b:Nat}{t:TypeId}{c0 c1:Value}(h:eJ w b t c0 c1)(o:Obj):eJ (w.alloc o) b t c0 c1:=World.rowIs.alloc h o
theorem eJ.on{w w':World}{b:Nat}{t:TypeId}{c0 c1:Value}(h:eJ w b t c0 c1)(e:w'.heap[b]?=w.heap[b]?):eJ w' b t c0 c1:=World.rowIs.of_block h e
theorem eJ.put0{w:World}{b:Nat}{t:TypeId}{c0 c1 u:Value}(h:eJ w b t c0 c1):eJ (w.setCell ⟨b,0,none⟩ u) b t u c1:=(World.rowIs.set h 0 u).congr (fun i hi=>by
  match i,hi with
  | 0,_=>rfl
  | 1,_=>rfl)
theorem eJ.put1{w:World}{b:Nat}{t:TypeId}{c0 c1 u:Value}(h:eJ w b t c0 c1):eJ (w.setCell ⟨b,1,none⟩ u) b t c0 u:=(World.rowIs.set h 1 u).congr (fun i hi=>by
  match i,hi with
  | 0,_=>rfl
  | 1,_=>rfl)
theorem eJ.cells{w:World}{b:Nat}{t:TypeId}{c0 c1:Value}(h:eJ w b t c0 c1):w.cell? ⟨b,0,none⟩=some c0/\w.cell? ⟨b,1,none⟩=some c1:=⟨World.rowIs.cell h (i:=0) (by omega),World.rowIs.cell h (i:=1) (by omega)⟩
theorem cd.bel{g m:Nat}{a b:World}(h:cd g a b)(hm:m<=g):Below m a b:=⟨h.os,h.tape,h.output,by rw[h.size];exact Nat.le_refl _,fun k hk=>h.block k (by omega)⟩
theorem jD(w:World)(B:Nat)(v0 v1 v2 v3 v4 v5 v6 v7 v8:Value):cd B w (((((((((w.setCell ⟨B,0,none⟩ v0).setCell ⟨B,1,none⟩ v1).setCell ⟨B,2,none⟩ v2).setCell ⟨B,3,none⟩ v3).setCell ⟨B,4,none⟩ v4).setCell ⟨B,5,none⟩ v5).setCell ⟨B,6,none⟩ v6).setCell ⟨B,7,none⟩ v7).setCell ⟨B,8,none⟩ v8):=
 ((((((((am _ _).trans (am _ _)).trans (am _ _)).trans (am _ _)).trans (am _ _)).trans (am _ _)).trans (am _ _)).trans (am _ _)).trans (am _ _)
theorem rW{w:World}{B:Nat}{t:TypeId}{f:Nat->Value}(h:w.rowIs B t 9 f)(g:Nat->Nat)(e:Bool):(((((((((w.setCell ⟨B,0,none⟩ (.int .u64 (g 0:Nat))).setCell ⟨B,1,none⟩ (.int .u64 (g 1:Nat))).setCell ⟨B,2,none⟩ (.int .u64 (g 2:Nat))).setCell ⟨B,3,none⟩ (.int .u64 (g 3:Nat))).setCell ⟨B,4,none⟩ (.int .u64 (g 4:Nat))).setCell ⟨B,5,none⟩ (.int .u64 (g 5:Nat))).setCell ⟨B,6,none⟩ (.int .u64 (g 6:Nat))).setCell ⟨B,7,none⟩ (.int .u64 (g 7:Nat))).setCell ⟨B,8,none⟩ (.bool e)).rowIs B t 9 (ka g e):=by
 refine(World.rowIs.set (World.rowIs.set (World.rowIs.set (World.rowIs.set (World.rowIs.set (World.rowIs.set (World.rowIs.set (World.rowIs.set (World.rowIs.set h 0 _) 1 _) 2 _) 3 _) 4 _) 5 _) 6 _) 7 _) 8 _).congr (fun i hi=>?_)
 match i,hi with
 | 0,_=>rfl
 | 1,_=>rfl
 | 2,_=>rfl
 | 3,_=>rfl
 | 4,_=>rfl
 | 5,_=>rfl
 | 6,_=>rfl
 | 7,_=>rfl
 | 8,_=>rfl
theorem vt(q l c:Nat)(a:Option Addr)(w:World)(h:eJ w q 123 (.slice a l c) (.int .i64 (l:Nat))) :
  Calls prog 55 #[.pointer (some ⟨q,0,none⟩)] w fun e w'=>e=.returned (.tuple #[pd (fun _=>0) false,.bool false])/\Below w.heap.size w w':=by
 have b:=ai w (.cells #[.int .u64 0,.int .u64 0,.int .u64 0,.int .u64 0,.int .u64 0,.int .u64 0,.int .u64 0,.int .u64 0,.bool false] 114);have h1:=h.alloc (.cells #[.int .u64 0,.int .u64 0,.int .u64 0,.int .u64 0,.int .u64 0,.int .u64 0,.int .u64 0,.int .u64 0,.bool false] 114);have c0:(w.alloc (.cells #[.int .u64 0,.int .u64 0,.int .u64 0,.int .u64 0,.int .u64 0,.int .u64 0,.int .u64 0,.int .u64 0,.bool false] 114)).cell? ⟨q,0,none⟩=some (.slice a l c):=World.rowIs.cell h1 (i:=0) (by omega);have c1:(w.alloc (.cells #[.int .u64 0,.int .u64 0,.int .u64 0,.int .u64 0,.int .u64 0,.int .u64 0,.int .u64 0,.int .u64 0,.bool false] 114)).cell? ⟨q,1,none⟩=some (.int .i64 (l:Nat)):=World.rowIs.cell h1 (i:=1) (by omega);have HB:=ae b;clear h h1 b
 go_enter func55,ntmps55
 go_wp2_with fail
 go_quiet (fail);go_wp2;refine bodyPost_ret (v:=.tuple #[pd (fun _=>0) false,.bool false]) (by simp[results,results55,go_sem,pd]) rfl ?_;exact⟨rfl,(below_drewN HB.u _).trans ((jD _ _ _ _ _ _ _ _ _ _ _).bel lR)⟩
theorem wR(q b t l c:Nat)(g:Nat->Nat)(e:Bool)(w:World)(hl:l<=100000)(ht:t<l)(h:eJ w q 123 (.slice (some ⟨b,0,none⟩) l c) (.int .i64 (t:Nat)))(hb:b<w.heap.size)(hit:∀ j,j<9->w.cell? ⟨b,t*9+j,none⟩=some (ka g e j)) :
  Calls prog 55 #[.pointer (some ⟨q,0,none⟩)] w fun x w'=>x=.returned (.tuple #[pd g e,.bool true])/\aR (dD w q) w w'/\eJ w' q 123 (.slice (some ⟨b,0,none⟩) l c) (.int .i64 ((t+1:Nat):Int)):=by
 have hq:=World.rowIs.lt h;obtain⟨W1,m⟩ : ∃ W1,W1=w.alloc (.cells #[.int .u64 0,.int .u64 0,.int .u64 0,.int .u64 0,.int .u64 0,.int .u64 0,.int .u64 0,.int .u64 0,.bool false] 114):=⟨_,rfl⟩;have n:Below w.heap.size w W1:=by rw[m];exact ai w _
 have B:w.heap.size+1<=W1.heap.size:=by rw[m,ah];omega
 have h1:eJ W1 q 123 (.slice (some ⟨b,0,none⟩) l c) (.int .i64 (t:Nat)):=h.on (n.block q hq);have a:W1.rowIs w.heap.size 114 9 (ka (fun _=>0) false):=by rw[m];exact eG (au w _).new
 obtain⟨c0,c1⟩:=h1.cells;have c2:=World.rowIs.frozen h1 1;have d:∀ j,j<9->W1.cell? ⟨b,t*9+j,none⟩=some (ka g e j):=fun j hj=>by rw[n.cell (p:=⟨b,t*9+j,none⟩) hb];exact hit j hj
 have i0:=d 0 (by omega);have i1:=d 1 (by omega);have i2:=d 2 (by omega);have i3:=d 3 (by omega);have i4:=d 4 (by omega);have i5:=d 5 (by omega);have i6:=d 6 (by omega);have i7:=d 7 (by omega);have i8:=d 8 (by omega);simp only[ka,wd,Nat.reduceLT,if_true,if_false,Nat.add_zero]at i0 i1 i2 i3 i4 i5 i6 i7 i8;have r0:=a.cell (i:=0) (by omega);have r1:=a.cell (i:=1) (by omega);have r2:=a.cell (i:=2) (by omega);have r3:=a.cell (i:=3) (by omega);have r4:=a.cell (i:=4) (by omega);have r5:=a.cell (i:=5) (by omega);have r6:=a.cell (i:=6) (by omega);have r7:=a.cell (i:=7) (by omega);have r8:=a.cell (i:=8) (by omega);have z0:=a.frozen 0;have z1:=a.frozen 1;have z2:=a.frozen 2;have z3:=a.frozen 3;have z4:=a.frozen 4;have z5:=a.frozen 5;have z6:=a.frozen 6;have z7:=a.frozen 7;have z8:=a.frozen 8;have C:¬ (t:Int)=(l:Int):=by omega
 have D:(t:Int)<(l:Int):=by omega
 have hw:wrap64 ((t:Int)+1)=(t:Int)+1:=xx (by omega) (by omega);have o:=ae m;have r:=ae n;have H1:=ae h1;have s:=ae a;clear h h1 n a m hit d
 go_enter func55,ntmps55
 go_wp2_with fail;rw[<-o.u]
 go_quiet (fail)
 go_wp2_with fail;refine aL 10 (by kernel_rfl) (by kernel_rfl) ?_;simp only[List.take_succ_cons,List.take_zero,List.drop_succ_cons,List.drop_zero]
 repeat (first|go_big_quiet_skip|(go_big_quiet_want;go_big_quiet_op;go_big_quiet_on))
 refine wpQuiet_nil ?_;go_wp2;generalize hWf:World.setCell _ _ _=Wf;have f:Wf.rowIs w.heap.size 114 9 (ka g e):=by
  rw[<-hWf];exact rW (World.rowIs.setOther (rW (s.u.of_block rfl) g e) (by show w.heap.size≠q;omega) _) g e
 have y:eJ Wf q 123 (.slice (some ⟨b,0,none⟩) l c) (.int .i64 ((t+1:Nat):Int)):=by
  rw[<-hWf];show eJ _ q _ _ (.int .i64 ((t:Int)+1));exact eJ.on (eJ.put1 (eJ.on (eJ.on H1.u rfl) ((jD (W1.drewN (nq+1)) w.heap.size _ _ _ _ _ _ _ _ _).block q (by omega)))) ((jD _ w.heap.size _ _ _ _ _ _ _ _ _).block q (by omega))
 have z:aR (dD w q) w Wf:=by
  rw[<-hWf];have A:aR (dD w q) W1 (W1.drewN (nq+1)):=⟨rfl,rfl,rfl,Nat.le_refl _,fun _ _=>rfl⟩;exact aR.trans ((bh r.u (fun k hk=>.inr hk)).trans A) (aR.trans (aR.trans (cd.fro (jD _ w.heap.size _ _ _ _ _ _ _ _ _) (.inr lR)) (cd.fro (am (b:=q) 1 _) (.inl rfl))) (cd.fro (jD _ w.heap.size _ _ _ _ _ _ _ _ _) (.inr lR)))
 clear hWf i0 i1 i2 i3 i4 i5 i6 i7 i8 r0 r1 r2 r3 r4 r5 r6 r7 r8 z0 z1 z2 z3 z4 z5 z6 z7 z8 c0 c1 c2;have x0:=f.cell (i:=0) (by omega);have x1:=f.cell (i:=1) (by omega);have x2:=f.cell (i:=2) (by omega);have x3:=f.cell (i:=3) (by omega);have x4:=f.cell (i:=4) (by omega);have x5:=f.cell (i:=5) (by omega);have x6:=f.cell (i:=6) (by omega);have x7:=f.cell (i:=7) (by omega);have x8:=f.cell (i:=8) (by omega);simp only[ka,wd,Nat.reduceLT,if_true,if_false]at x0 x1 x2 x3 x4 x5 x6 x7 x8;refine bodyPost_ret (v:=.tuple #[pd g e,.bool true]) (by simp[results,results55,go_sem,pd,x0,x1,x2,x3,x4,x5,x6,x7,x8]) rfl ?_;exact⟨rfl,z,y⟩
theorem Tryz.zinPd:(prog.info? 114).map (fun i=>(i.zero,i.size,i.bytes))=some (some (.agg #[.int .u64 0,.int .u64 0,.int .u64 0,.int .u64 0,.int .u64 0,.int .u64 0,.int .u64 0,.int .u64 0,.bool false]),9,72):=by kernel_rfl
def l9(p:(Nat->Nat)×Bool):List Value:=(c9 p.1 p.2).toList
def vL(ps:List ((Nat->Nat)×Bool)):List Value:=ps.flatMap l9
theorem DW(ps:List ((Nat->Nat)×Bool)){t j:Nat}{g:Nat->Nat}{e:Bool}(ht:ps[t]?=some (g,e))(hj:j<9):(vL ps)[t*9+j]?=some (ka g e j):=by
 induction ps generalizing t with
 | nil=>simp at ht
 | cons p ps ih =>
  cases t with
  | zero =>
   simp at ht;subst ht;simp only[vL,List.flatMap_cons];rw[List.getElem?_append_left (by simp[l9];omega)]
   match j,hj with
   | 0,_=>rfl
   | 1,_=>rfl
   | 2,_=>rfl
   | 3,_=>rfl
   | 4,_=>rfl
   | 5,_=>rfl
   | 6,_=>rfl
   | 7,_=>rfl
   | 8,_=>rfl
  | succ t =>
   simp only[List.getElem?_cons_succ]at ht;have:=ih ht;simp only[vL,List.flatMap_cons]at this ⊢;rw[List.getElem?_append_right (by simp[l9];omega)];rw[<-this]
   congr 1
   simp[l9];omega
theorem AJ(ps:List ((Nat->Nat)×Bool))(g:Nat->Nat)(e:Bool):vL (ps++[(g,e)])=vL ps++[.int .u64 (g 0:Nat),.int .u64 (g 1:Nat),.int .u64 (g 2:Nat),.int .u64 (g 3:Nat),.int .u64 (g 4:Nat),.int .u64 (g 5:Nat),.int .u64 (g 6:Nat),.int .u64 (g 7:Nat),.bool e]:=by simp[vL,l9]
theorem wG(q base:Nat)(v tk:Value)(ps:List ((Nat->Nat)×Bool))(g:Nat->Nat)(e:Bool)(w:World)(hl:ps.length<=100000)(h:eJ w q 123 v tk)(hown:w.ownsRow base 114 9 v ps.length (vL ps))(hb:base<=w.heap.size)(j:v.ownBlock≠some q) :
  Calls prog 54 #[.pointer (some ⟨q,0,none⟩),pd g e] w fun x w'=>x=.returned (.tuple #[])/\∃ v',w'.ownsRow base 114 9 v' (ps++[(g,e)]).length (vL (ps++[(g,e)]))/\eJ w' q 123 v' tk/\aR (fun k=>k=q∨v.ownBlock=some k∨w.heap.size<=k) w w'/\∀ k,v'.ownBlock=some k->v.ownBlock=some k∨w.heap.size<=k:=by
 obtain⟨j0,m,n,p,r⟩:=info_parts Tryz.zinPd;obtain⟨oa,oc,rfl⟩:=aj hown;have hq:=World.rowIs.lt h;unfold pd;obtain⟨W1,d⟩ : ∃ W1,W1=w.alloc (.cells #[.int .u64 (g 0:Nat),.int .u64 (g 1:Nat),.int .u64 (g 2:Nat),.int .u64 (g 3:Nat),.int .u64 (g 4:Nat),.int .u64 (g 5:Nat),.int .u64 (g 6:Nat),.int .u64 (g 7:Nat),.bool e] 114):=⟨_,rfl⟩;have c:Below w.heap.size w W1:=by rw[d];exact ai w _
 have B:W1.heap.size=w.heap.size+1:=by rw[d,ah]
 have h1:eJ W1 q 123 (.slice oa ps.length oc) tk:=h.on (c.block q hq);have a:W1.rowIs w.heap.size 114 9 (ka g e):=by rw[d];exact eG (au w _).new
 have f:=aG hown c lR;obtain⟨c0,c1⟩:=h1.cells;have x0:=a.cell (i:=0) (by omega);have x1:=a.cell (i:=1) (by omega);have x2:=a.cell (i:=2) (by omega);have x3:=a.cell (i:=3) (by omega);have x4:=a.cell (i:=4) (by omega);have x5:=a.cell (i:=5) (by omega);have x6:=a.cell (i:=6) (by omega);have x7:=a.cell (i:=7) (by omega);have x8:=a.cell (i:=8) (by omega);simp only[ka,wd,Nat.reduceLT,if_true,if_false]at x0 x1 x2 x3 x4 x5 x6 x7 x8;have d0:∀ o:Obj,(W1.alloc o).cell? ⟨q,0,none⟩=some (.slice oa ps.length oc):=fun o=>(h1.alloc o).cells.1
 have s:=ae f;have y:Hi (∀ (WA w7:World) (gg cap:Nat),w7.ownsRow base 114 9 (.slice (some ⟨gg,0,none⟩) (ps.length+1) cap) (ps.length+1) (vL ps++[.int .u64 (g 0:Nat),.int .u64 (g 1:Nat),.int .u64 (g 2:Nat),.int .u64 (g 3:Nat),.int .u64 (g 4:Nat),.int .u64 (g 5:Nat),.int .u64 (g 6:Nat),.int .u64 (g 7:Nat),.bool e])->WA.grownBy w7 (Value.slice oa ps.length oc).ownBlock->((Value.slice oa ps.length oc).ownBlock=some gg∨gg=W1.heap.size+1)->aK W1 WA (.cells #[.int .u64 (g 0:Nat),.int .u64 (g 1:Nat),.int .u64 (g 2:Nat),.int .u64 (g 3:Nat),.int .u64 (g 4:Nat),.int .u64 (g 5:Nat),.int .u64 (g 6:Nat),.int .u64 (g 7:Nat),.bool e] 114)->w7.cell? ⟨q,0,none⟩=some (.slice oa ps.length oc)/\w7.frozen? ⟨q,0,none⟩=false/\
   ((w7.setCell ⟨q,0,none⟩ (.slice (some ⟨gg,0,none⟩) (ps.length+1) cap)).ownsRow base 114 9 (.slice (some ⟨gg,0,none⟩) (ps.length+1) cap) (ps++[(g,e)]).length (vL (ps++[(g,e)]))/\eJ (w7.setCell ⟨q,0,none⟩ (.slice (some ⟨gg,0,none⟩) (ps.length+1) cap)) q 123 (.slice (some ⟨gg,0,none⟩) (ps.length+1) cap) tk/\aR (fun k=>k=q∨(Value.slice oa ps.length oc).ownBlock=some k∨w.heap.size<=k) w (w7.setCell ⟨q,0,none⟩ (.slice (some ⟨gg,0,none⟩) (ps.length+1) cap))/\∀ k,(Value.slice (some ⟨gg,0,none⟩) (ps.length+1) cap).ownBlock=some k->(Value.slice oa ps.length oc).ownBlock=some k∨w.heap.size<=k)):=fun WA w7 gg cap r1 r2 r3 hP=>by
  have C:=hP.size;have l:w7.heap[q]?=W1.heap[q]? :=(r2.block q (by omega) (fun z=>j z.symm)).trans (hP.old (by omega));have h7:=h1.on l;have D:gg≠q:=by
   rcases r3 with k|k
   ·intro z;rw[z]at k;exact j k
   omega
  refine⟨h7.cells.1,World.rowIs.frozen h7 0,?_,h7.put0,⟨?_,?_,?_,?_,fun k hk=>?_⟩,fun k hk=>?_⟩
  ·rw[AJ,List.length_append];exact ak r1 (fun k hk=>(am 0 _).block k (by
    have:k=gg:=by cases hk;rfl
    omega))
  ·exact(am (w:=w7) (b:=q) 0 _).os.trans (r2.os.trans (hP.os.trans c.os))
  ·exact(am (w:=w7) (b:=q) 0 _).tape.trans (r2.tape.trans (hP.tape.trans c.tape))
  ·exact(am (w:=w7) (b:=q) 0 _).output.trans (r2.output.trans (hP.output.trans c.output))
  ·rw[(am (w:=w7) (b:=q) 0 _).size];have:=r2.size;omega
  ·have k1:k≠q:=fun z=>hk (.inl z)
   have k2:(Value.slice oa ps.length oc).ownBlock≠some k:=fun z=>hk (.inr (.inl z))
   have k3:k<w.heap.size:=by apply Nat.lt_of_not_le;intro z;exact hk (.inr (.inr z))
   rw[(am (w:=w7) (b:=q) 0 _).block k k1,r2.block k (by omega) (fun z=>k2 z.symm),hP.old (by omega),c.block k k3]
  have:k=gg:=by cases hk;rfl
  subst this;rcases r3 with z|z
  ·exact .inl z
  exact .inr (by omega)
 have A:=ae d;have E:=ae c;have H1:=ae h1;clear h h1 c a d hown f
 go_enter func54,ntmps54
 go_wp2_with fail;rw[<-A.u]
 go_region_law (
  (refine step_append_lies _ rfl (.tmp 8) (.tmp 10) 121 rfl base 114 j0 (.agg #[.int .u64 0,.int .u64 0,.int .u64 0,.int .u64 0,.int .u64 0,.int .u64 0,.int .u64 0,.int .u64 0,.bool false]) 9 72 underlying121 m n p r rfl (by decide) (.slice oa ps.length oc) ps.length (vL ps) (by first|(simp[Act.eval];done)|(simp[Act.eval,Act.put];done)) (by refine aK.own (w:=W1) (o:=.cells #[.int .u64 (g 0:Nat),.int .u64 (g 1:Nat),.int .u64 (g 2:Nat),.int .u64 (g 3:Nat),.int .u64 (g 4:Nat),.int .u64 (g 5:Nat),.int .u64 (g 6:Nat),.int .u64 (g 7:Nat),.bool e] 114) ?_ s.u;exact⟨rfl,rfl,rfl,rfl⟩) ⟨W1.heap.size,0,none⟩ 1 1 [.int .u64 (g 0:Nat),.int .u64 (g 1:Nat),.int .u64 (g 2:Nat),.int .u64 (g 3:Nat),.int .u64 (g 4:Nat),.int .u64 (g 5:Nat),.int .u64 (g 6:Nat),.int .u64 (g 7:Nat),.bool e] (by first|(simp[Act.eval];done)|(simp[Act.eval,Act.put];done)) rfl (by refine aK.news (w:=W1) (cs:=#[.int .u64 (g 0:Nat),.int .u64 (g 1:Nat),.int .u64 (g 2:Nat),.int .u64 (g 3:Nat),.int .u64 (g 4:Nat),.int .u64 (g 5:Nat),.int .u64 (g 6:Nat),.int .u64 (g 7:Nat),.bool e]) (t:=114) ?_;exact⟨rfl,rfl,rfl,rfl⟩) (by intro u hu;simp only[List.mem_cons,List.not_mem_nil,or_false]at hu;rcases hu with rfl|rfl|rfl|rfl|rfl|rfl|rfl|rfl|rfl<;>rfl) (by decide) (by unfold maxLen;omega) (by omega) (by show base<=(World.alloc _ _).heap.size;rw[ah];omega) (W1.heap.size+1) (ah W1 _) (fun gg cap w7 r1 r2 r3 r4=>?_);have h7:=ae (y.u _ w7 gg cap r1 r2 r3 (by exact⟨rfl,rfl,rfl,rfl⟩));obtain⟨c7,z7,-⟩:=h7.u;clear r1 r2 r3 r4))
 all_goals
  go_wp2
  first|(refine bodyPost_ret (results_none rfl _ _ _) rfl ?_)|(refine bodyPost_end (results_none rfl _ _ _) rfl ?_)
  obtain⟨-,-,h8⟩:=h7.u;exact⟨rfl,_,h8⟩
abbrev CO (w:World) (B gc:Nat):Nat->Prop:=fun k=>k=B∨k=gc∨w.heap.size<=k
structure jo (w wr:World) (B A gc:Nat) (hv:Value) (mm:Nat) (K:Nat->Nat) (hs:Nat->Nat->Nat) (ks:List Value):Prop where
 box:fR wr B A (.slice (some ⟨gc,0,none⟩) 256 256) hv
 row:wr.rowIs gc 3 256 (fun x=>.int .i64 (K x:Nat))
 hol:wr.ownsRow (w.heap.size+3) 102 8 hv mm (be 8 mm hs)
 num:ba 102 wr (w.heap.size+1) ks
 nb:wr.heap[w.heap.size+2]?=some (.cells #[.map (some (w.heap.size+1))] 154 (0,0))
 fr:aR (CO w B gc) w wr
 sz:w.heap.size+3<=wr.heap.size
structure kS (w wr:World) (B A gc:Nat) (hv:Value) (b mm:Nat) (K:Nat->Nat) (hs:Nat->Nat->Nat) (ks:List Value) (H:Nat->Nat->Nat):Prop where
 p:jo w wr B A gc hv mm K hs ks
 cls:tB H b mm K hs ks
section
variable {w wr wr':World} {B A gc b mm c:Nat} {hv:Value} {K:Nat->Nat} {hs:Nat->Nat->Nat} {ks ks':List Value}
theorem jo.below(h:jo w wr B A gc hv mm K hs ks)(hb:Below wr.heap.size wr wr'):jo w wr' B A gc hv mm K hs ks:=
 ⟨h.box.keep (hb.block B h.box.lt),h.row.of_block (hb.block gc h.row.lt),aG h.hol hb lR,h.num.keep (hb.block _ h.num.lt),(hb.block _ (Array.getElem?_eq_some_iff.1 h.nb).1).trans h.nb,h.fr.trans (bh hb (fun k hk=>Or.inr (Or.inr (by have:=h.fr.size;omega)))),Nat.le_trans h.sz hb.size⟩
theorem jo.put(h:jo w wr B A gc hv mm K hs ks)(b c:Nat)(hBg:B≠gc)(hgw:gc<w.heap.size):jo w (wr.setCell ⟨gc,b,none⟩ (.int .i64 (c:Nat))) B A gc hv mm (iP K b c) hs ks:=by
 have hk:∀ k,k≠gc->(wr.setCell ⟨gc,b,none⟩ (.int .i64 (c:Nat))).heap[k]?=wr.heap[k]? :=fun k hk=>Below.heap_setCell _ _ _ _ hk
 refine⟨h.box.keep (hk B hBg),(h.row.set b _).congr (fun x _=>?_),ak h.hol (fun q hq=>hk q (by have:=(h.hol.lt q hq).1;omega)),h.num.keep (hk _ (by omega)),(hk _ (by omega)).trans h.nb,h.fr.trans ((am b _).fro (Or.inr (Or.inl rfl))),by rw[aJ];exact h.sz⟩;unfold iP
 by_cases e:x=b
 ·rw[if_pos e,if_pos e]
 rw[if_neg e,if_neg e]
theorem jo.num'(h:jo w wr B A gc hv mm K hs ks)(hn:ba 102 wr' (w.heap.size+1) ks')(hf:aR (dD wr (w.heap.size+1)) wr wr')(hgw:gc<w.heap.size)(hBw:B<w.heap.size):jo w wr' B A gc hv mm K hs ks':=by
 have hk:∀ k,k<wr.heap.size->k≠w.heap.size+1->wr'.heap[k]?=wr.heap[k]? :=fun k h1 h2=>hf.block k (by rintro(q|q)<;>omega)
 have hz:=h.sz;exact⟨h.box.keep (hk B h.box.lt (by omega)),h.row.of_block (hk gc h.row.lt (by omega)),ak h.hol (fun q hq=>hk q (h.hol.lt q hq).2 (by have:=(h.hol.lt q hq).1;omega)),hn,(hk _ (by omega) (by omega)).trans h.nb,h.fr.trans (hf.mono (fun k q=>by have:=h.fr.size;rcases q with q|q;exact Or.inr (Or.inr (by omega));exact Or.inr (Or.inr (by omega)))),Nat.le_trans h.sz hf.size⟩
theorem jo.push{w7:World}{gg cap:Nat}{x:Nat->Nat}(h:jo w wr B A gc hv mm K hs ks)(r1:w7.ownsRow (w.heap.size+3) 102 8 (.slice (some ⟨gg,0,none⟩) (mm+1) cap) (mm+1) (be 8 (mm+1) (fun i=>if i=mm then x else hs i)))(hf:aR (fun k=>hv.ownBlock=some k∨wr.heap.size<=k) wr w7)(hgw:gc<w.heap.size)(hBw:B<w.heap.size)(hBg:B≠gc) :
  jo w (w7.setCell ⟨B,2,none⟩ (.slice (some ⟨gg,0,none⟩) (mm+1) cap)) B A gc (.slice (some ⟨gg,0,none⟩) (mm+1) cap) (mm+1) K (fun i=>if i=mm then x else hs i) ks/\w7.cell? ⟨B,2,none⟩=some hv/\w7.frozen? ⟨B,2,none⟩=false:=by
 have hz:=h.sz;have h7:∀ k,k<w.heap.size+3->w7.heap[k]?=wr.heap[k]? :=fun k hk=>hf.block k (by rintro(q|q);(have:=(h.hol.lt k q).1;omega);omega)
 have hk:∀ k,k≠B->(w7.setCell ⟨B,2,none⟩ (.slice (some ⟨gg,0,none⟩) (mm+1) cap)).heap[k]?=w7.heap[k]? :=fun k hk=>Below.heap_setCell _ _ _ _ hk
 have b:fR w7 B A (.slice (some ⟨gc,0,none⟩) 256 256) hv:=h.box.keep (h7 B (by omega));have a:w7.rowIs B 54 3 (fun k=>if k=0 then .pointer (some ⟨A,0,none⟩) else if k=1 then .slice (some ⟨gc,0,none⟩) 256 256 else hv):=⟨_,b,rfl,fun i hi=>by
  match i,hi with
  | 0,_=>rfl
  | 1,_=>rfl
  | 2,_=>rfl⟩
 refine⟨⟨?_,h.row.of_block ((hk gc (fun e=>hBg e.symm)).trans (h7 gc (by omega))),ak r1 (fun q hq=>hk q (by have:=(r1.lt q hq).1;omega)),h.num.keep ((hk _ (by omega)).trans (h7 _ (by omega))),(hk _ (by omega)).trans ((h7 _ (by omega)).trans h.nb),?_,by rw[aJ];exact Nat.le_trans h.sz hf.size⟩,a.cell (i:=2) (by omega),a.frozen 2⟩
 ·obtain⟨cc,h1,h2,h3⟩:=a.set 2 (.slice (some ⟨gg,0,none⟩) (mm+1) cap);refine h1.trans ?_
  congr 2
  refine Array.ext (by rw[h2];rfl) (fun i i1 i2=>?_)
  have h4:=h3 i (by omega);rw[Array.getElem?_eq_getElem i1]at h4;rw[Option.some.inj h4];have i3:i<3:=by omega
  match i,i3 with
  | 0,_=>rfl
  | 1,_=>rfl
  | 2,_=>rfl
 refine h.fr.trans ((hf.mono (fun k q=>?_)).trans ((am 2 _).fro (Or.inl rfl)));rcases q with q|q
 ·exact Or.inr (Or.inr (by have:=(h.hol.lt k q).1;omega))
 exact Or.inr (Or.inr (by have:=h.fr.size;omega))
end
theorem qi(B A gc m:Nat)(sv pv:Value)(ds ps:Nat->Nat->Nat)(w:World)(hbox:fR w B A (.slice (some ⟨gc,0,none⟩) 256 256) (.slice none 0 0))(s:w.rowIs gc 3 256 (fun _=>.int .i64 0))(hBg:B≠gc)(hm:m<=512)(hs:Ec w sv m ds)(hp:AK w pv m ps)(hds:∀ j,j<m->Fit (ds j))(C:∀ j,j<m->Fit (ps j))(hsB:∀ q,sv.ownBlock=some q->q≠B/\q≠gc)(hpB:∀ q,pv.ownBlock=some q->q≠B/\q≠gc) :
  Calls prog 48 #[.pointer (some ⟨B,0,none⟩),sv,pv] w fun e w'=>∃ mm K hs hv ks,e=.returned (.tuple #[])/\kS w w' B A gc hv 256 mm K hs ks (fun x=>bY ds ps x m):=by
 obtain⟨sa,sc,rfl⟩:=aj hs;obtain⟨pa,pc,rfl⟩:=aj hp;have D:=s.lt;have Z:=hbox.lt;have aq:=ae hbox;have ar:=ae s;have HS:=ae hs;have HP:=ae hp;have av:=ae hds;have a9:=ae C;have aw:=ae hsB;have ax:=ae hpB;have aa:=ae (vP w);clear hbox s hs hp hds C hsB hpB
 go_enter func48,ntmps48
 go_wp2_with fail;refine aa.u.mono ?_;rintro e w1 ⟨rfl,ab,a0,P⟩;have ad:Hi (kS w (w1.alloc (.cells #[.map (some (w.heap.size+1))] 154)) B A gc (.slice none 0 0) 0 0 (fun _=>0) (fun _ _=>0) [] (fun x=>bY ds ps x m)):=by
  have l:Below w.heap.size w (w1.alloc (.cells #[.map (some (w.heap.size+1))] 154)):=P.alloc (by omega) _;refine⟨⟨aq.u.keep (l.block B Z),ar.u.of_block (l.block gc D),World.ownsRow_nil _ _ _ _,ab.keep ((ai w1 _).block _ (by omega)),?_,bh l (fun k hk=>Or.inr (Or.inr hk)),by rw[ah];omega⟩,tB.start _ _ _⟩;have:=(au w1 (.cells #[.map (some (w.heap.size+1))] 154)).new;rw[a0]at this;exact this
 have af:w1.heap.size=w.heap.size+2:=a0;have ag:=ae af;clear ab a0 P aa af
 go_wp2_with fail;rw[ag.u]
 go_loopw [12] (fun iv wr=>∃ (b mm:Nat) (K:Nat->Nat) (hs:Nat->Nat->Nat) (hv:Value) (ks:List Value),b<=256/\iv=.int .i64 b/\kS w wr B A gc hv b mm K hs ks (fun x=>bY ds ps x m)) (fun iv _=>256-(intOf iv).toNat)
 case atStart=>exact⟨0,0,_,_,_,_,by omega,rfl,ad.u⟩
 clear ad ag;obtain⟨b,mm,K,hs,hv,ks,hb,rfl,hC⟩:=hrel
 by_cases hlt:b<256
 ·have b8:(b:Int)<256:=by omega
  have HC:=ae hC;have b9:=hC.p.fr.size;have al:Ec wr (.slice sa m sc) m ds:=ak HS.u (fun q hq=>hC.p.fr.block q (by have h1:=aw.u q hq;have h2:=aB HS.u q hq;rintro(h|h|h);exact h1.1 h;exact h1.2 h;omega));have an:AK wr (.slice pa m pc) m ps:=ak HP.u (fun q hq=>hC.p.fr.block q (by have h1:=ax.u q hq;have h2:=aB HP.u q hq;rintro(h|h|h);exact h1.1 h;exact h1.2 h;omega));have HH:=ae (nF b m _ _ ds ps wr hlt hm al an av.u a9.u);obtain⟨h,Q⟩ : ∃ h,h=bY ds ps b m:=⟨_,rfl⟩;rw[<-Q]at HH;have b0:Fit h:=by rw[Q];exact ic a9.u
  unfold gE at HH;have a1:=ae Q;clear hC al an Q
  go_wp2_with fail;refine HH.u.mono ?_;rintro e w2 ⟨rfl,l⟩;obtain⟨X,hX⟩ : ∃ X,X=w2.alloc (.cells #[.int .u64 (h 0:Nat),.int .u64 (h 1:Nat),.int .u64 (h 2:Nat),.int .u64 (h 3:Nat),.int .u64 (h 4:Nat),.int .u64 (h 5:Nat),.int .u64 (h 6:Nat),.int .u64 (h 7:Nat)] 102):=⟨_,rfl⟩;have a2:kS w X B A gc hv b mm K hs ks (fun x=>bY ds ps x m):=⟨HC.u.p.below (by rw[hX];exact l.alloc l.size _),HC.u.cls⟩;have hE:X.rowIs w2.heap.size 102 8 (wd h):=by rw[hX];exact dF w2 _ h
  obtain⟨E,a3⟩ : ∃ E,E=w2.heap.size:=⟨_,rfl⟩;have bd:wr.heap.size<=E:=by have:=l.size;omega
  rw[<-a3]at hE;have HX:=ae hX;have ao:=ae a3;have G:=ae a2;have HE:=ae hE;have bf:=HC.u.p.sz;clear l HH hX a3 HC
  -- the set of the byte,held against that of the byte before
  obtain⟨y,hy⟩ : ∃ y:Bool,y=(if b=0 then false else DP h (hs (K (b-1)))):=⟨_,rfl⟩;obtain⟨-,c1,c2⟩:=a2.p.box.cells;have e0:=hE.cell (i:=0) (by omega);have e1:=hE.cell (i:=1) (by omega);have e2:=hE.cell (i:=2) (by omega);have e3:=hE.cell (i:=3) (by omega);have e4:=hE.cell (i:=4) (by omega);have e5:=hE.cell (i:=5) (by omega);have e6:=hE.cell (i:=6) (by omega);have e7:=hE.cell (i:=7) (by omega);unfold wd at e0 e1 e2 e3 e4 e5 e6 e7;have HY:=ae hy;clear a2 hE
  go_upto_region 5 with fail
  rw[<-HX.u,<-ao.u];clear HX ao
  go_cut [38] (fun cv wx=>cv=.bool y/\∃ q,wx=X.drewN q)
  case first =>
   by_cases a4:b=0
   ·subst a4;have b1:y=false:=by rw[hy,if_pos rfl]
    subst b1;clear hy HY
    go_quiet (fail);go_wp2;go_meet;exact⟨rfl,nq,rfl⟩
   obtain⟨b',rfl⟩ : ∃ b',b=b'+1:=⟨b-1,by omega⟩;have R:=G.u.cls.cl b' (by omega);obtain⟨c,v⟩ : ∃ c,c=K b':=⟨_,rfl⟩;rw[<-v]at R;have S:y=DP h (hs c):=by rw[hy,if_neg (by omega),v];rfl
   have k1:=G.u.p.row.cell (i:=b') (by omega);rw[<-v]at k1;obtain⟨gh,cap,M,F,e,-,s,hM,hF,-⟩:=pB (aS G.u.p.hol (Nat.zero_le _)) R.1;have r:∀ j,j<8->X.cell? ⟨gh,c*8+j,none⟩=some (.int .u64 (hs c j:Nat)):=fun j hj=>by rw[s.cell (by omega),hF j hj];rfl
   have r0:=r 0 (by omega);have r1:=r 1 (by omega);have r2:=r 2 (by omega);have r3:=r 3 (by omega);have r4:=r 4 (by omega);have r5:=r 5 (by omega);have r6:=r 6 (by omega);have r7:=r 7 (by omega);rw[Nat.add_zero]at r0;have es:∀ W,(Op.equalIn 10000 102 (.agg #[.int .u64 (h 0:Nat),.int .u64 (h 1:Nat),.int .u64 (h 2:Nat),.int .u64 (h 3:Nat),.int .u64 (h 4:Nat),.int .u64 (h 5:Nat),.int .u64 (h 6:Nat),.int .u64 (h 7:Nat)]) (.agg #[.int .u64 ((hs c) 0:Nat),.int .u64 ((hs c) 1:Nat),.int .u64 ((hs c) 2:Nat),.int .u64 ((hs c) 3:Nat),.int .u64 ((hs c) 4:Nat),.int .u64 ((hs c) 5:Nat),.int .u64 ((hs c) 6:Nat),.int .u64 ((hs c) 7:Nat)])).run prog W=.ok y W:=fun W=>by rw[S];exact EA _ _ _ _ _ _ _ _ _ _ _ _ _ _ _ _ W
   have ap:(c:Int)<(mm:Int):=by have:=R.1;omega
   have bb:(0:Int)<(b':Int)+1:=by omega
   have P:((b'+1:Nat):Int)-1=(b':Int):=by omega
   have l:(b':Int)+1-1=(b':Int):=by omega
   have b2:(b':Int)<256:=by omega
   clear r s hF hy S HY v R;subst e
   go_quiet (fail);go_wp2;go_meet;exact⟨rfl,nq,rfl⟩
  obtain⟨rfl,q,rfl⟩:=hcut;have T:Below X.heap.size X (X.drewN q):=below_drewN (Below.refl _ _) _;obtain⟨V,hV⟩ : ∃ V,V=X.drewN q:=⟨_,rfl⟩;rw[<-hV]at T ⊢;have a:kS w V B A gc hv b mm K hs ks (fun x=>bY ds ps x m):=⟨G.u.p.below T,G.u.cls⟩;have a5:V.rowIs E 102 8 (wd h):=HE.u.of_block (T.block E HE.u.lt);have bi:=a5.lt;have I:=ae a;have g:=ae a5;obtain⟨-,c1',-⟩:=a.p.box.cells;clear c1 c2 e0 e1 e2 e3 e4 e5 e6 e7 T hV G HE a5 hy;cases y with
  | true =>
   have H:=HY.u;have a4:b≠0:=fun e=>by rw[if_pos e]at H;cases H
   obtain⟨b',rfl⟩ : ∃ b',b=b'+1:=⟨b-1,by omega⟩;rw[if_neg a4,show b'+1-1=b' by omega]at H;obtain⟨c,v⟩ : ∃ c,c=K b':=⟨_,rfl⟩;rw[<-v]at H;have k1:=a.p.row.cell (i:=b') (by omega);rw[<-v]at k1;have k2:=a.p.row.cell (i:=b'+1) (by omega);have k3:=a.p.row.frozen (b'+1);have ap:c<mm:=by rw[v];exact(a.cls.cl b' (by omega)).1
   have z:Hi (kS w ((V.setCell ⟨gc,b'+1,none⟩ (.int .i64 (c:Nat))).drew) B A gc hv (b'+1+1) mm (iP K (b'+1) c) hs ks (fun x=>bY ds ps x m)):=by
    have h1:=(a.p.put (b'+1) c hBg D).below (Below.refl _ _).drew;exact⟨h1,a.cls.again ap (by have:=Da H.symm;rw[a1.u]at this;exact this)⟩
   have P:((b'+1:Nat):Int)-1=(b':Int):=by omega
   have l:(b':Int)+1-1=(b':Int):=by omega
   have b2:(b':Int)<256:=by omega
   have bj:(b':Int)+1<256:=by omega
   clear a H v HY
   go_wp2_with fail;refine aL 14 (by kernel_rfl) (by kernel_rfl) ?_;simp only[List.take_succ_cons,List.take_zero,List.drop_succ_cons,List.drop_zero]
   repeat (first|go_big_quiet_skip|(go_big_quiet_want;go_big_quiet_op;go_big_quiet_on))
   refine wpQuiet_nil ?_;go_wp2
   go_roundw
   case rel=>exact⟨b'+1+1,mm,_,hs,hv,ks,by omega,by go_num,z.u⟩
   simp[intOf];omega
  | false =>
   have n0:V.cell? ⟨w.heap.size+2,0,none⟩=some (.map (some (w.heap.size+1))):=World.news_of_block a.p.nb 0 _ rfl;have e0:=g.u.cell (i:=0) (by omega);have e1:=g.u.cell (i:=1) (by omega);have e2:=g.u.cell (i:=2) (by omega);have e3:=g.u.cell (i:=3) (by omega);have e4:=g.u.cell (i:=4) (by omega);have e5:=g.u.cell (i:=5) (by omega);have e6:=g.u.cell (i:=6) (by omega);have e7:=g.u.cell (i:=7) (by omega);unfold wd at e0 e1 e2 e3 e4 e5 e6 e7;have a6:=ae (Aw (w.heap.size+1) h ks V a.p.num b0 (by rw[a.cls.len];have:=a.cls.le;omega));have J:gE h=gE (bY ds ps b m):=by rw[a1.u]
   rw[J]at a6;have C:gE (bY ds ps b m)=.agg #[.int .u64 (h 0:Nat),.int .u64 (h 1:Nat),.int .u64 (h 2:Nat),.int .u64 (h 3:Nat),.int .u64 (h 4:Nat),.int .u64 (h 5:Nat),.int .u64 (h 6:Nat),.int .u64 (h 7:Nat)]:=by rw[<-J];rfl
   have L:Hi (Calls prog 88 #[.agg #[.map (some (w.heap.size+1))],.agg #[.int .u64 (h 0:Nat),.int .u64 (h 1:Nat),.int .u64 (h 2:Nat),.int .u64 (h 3:Nat),.int .u64 (h 4:Nat),.int .u64 (h 5:Nat),.int .u64 (h 6:Nat),.int .u64 (h 7:Nat)]] V fun e w'=>∃ i ks' f,e=.returned (.tuple #[.int .i64 (i:Nat),.bool f])/\lB ks (gE (bY ds ps b m)) ks' i f/\ba 102 w' (w.heap.size+1) ks'/\aR (dD V (w.heap.size+1)) V w'):=by
    have:=a6.u;rw[C]at this;rw[C];exact this
   have bl:=a.cls.le;clear a HY J C a6 c1'
   go_wp2_with fail;refine L.u.mono ?_;rintro e w3 ⟨i,ks',fl,rfl,a7,a8,U⟩;have d:=I.u.p.num' a8 U D Z;have n:=g.u.of_block (U.block E (by have:=I.u.p.sz;rintro(q|q)<;>omega));obtain⟨-,d1,d2⟩:=d.box.cells;have d3:=d.row.cell hlt;have d4:=d.row.frozen b;rcases I.u.cls.num a7 with ⟨rfl,hi,N⟩|⟨rfl,-,N⟩
   ·have z:Hi (kS w (w3.setCell ⟨gc,b,none⟩ (.int .i64 (i:Nat))) B A gc hv (b+1) mm (iP K b i) hs ks' (fun x=>bY ds ps x m)):=⟨d.put b i hBg D,N⟩;clear a7 a8 U d n N L I g e0 e1 e2 e3 e4 e5 e6 e7 n0;go_wp2
    go_roundw
    case rel=>exact⟨b+1,mm,_,hs,hv,ks',by omega,by go_num,z.u⟩
    simp[intOf];omega
   obtain⟨ha,hc,rfl⟩:=aj d.hol;obtain⟨j0,b3,b4,b5,S⟩:=info_parts Tryz.zinPS;have x0:=n.cell (i:=0) (by omega);have x1:=n.cell (i:=1) (by omega);have x2:=n.cell (i:=2) (by omega);have x3:=n.cell (i:=3) (by omega);have x4:=n.cell (i:=4) (by omega);have x5:=n.cell (i:=5) (by omega);have x6:=n.cell (i:=6) (by omega);have x7:=n.cell (i:=7) (by omega);unfold wd at x0 x1 x2 x3 x4 x5 x6 x7;have d2a:∀ o:Obj,(w3.alloc o).cell? ⟨B,2,none⟩=some (.slice ha mm hc):=fun o=>(d.box.keep ((ai w3 o).block B d.box.lt)).cells.2.2
   have b6:=ae d.hol;have bn:=ae d;have bc:=d.sz;have b7:=ae N;have Y:Hi (∀ (WA w7:World) (gg cap:Nat),w7.ownsRow (w.heap.size+3) 102 8 (.slice (some ⟨gg,0,none⟩) (mm+1) cap) (mm+1) (be 8 mm hs++[wd h 0,wd h 1,wd h 2,wd h 3,wd h 4,wd h 5,wd h 6,wd h 7])->WA.grownBy w7 (Value.slice ha mm hc).ownBlock->aK w3 WA (.cells #[wd h 0,wd h 1,wd h 2,wd h 3,wd h 4,wd h 5,wd h 6,wd h 7] 102)->
     jo w (w7.setCell ⟨B,2,none⟩ (.slice (some ⟨gg,0,none⟩) (mm+1) cap)) B A gc (.slice (some ⟨gg,0,none⟩) (mm+1) cap) (mm+1) K (fun i=>if i=mm then h else hs i) ks'/\w7.cell? ⟨B,2,none⟩=some (.slice ha mm hc)/\w7.frozen? ⟨B,2,none⟩=false):=fun WA w7 gg cap r1 r2 hP=>by
    obtain⟨q1,q2⟩:=oK (x:=h) d.hol hP r1 r2;exact d.push q1 q2 D Z hBg
   clear a7 a8 U d n N L I g e0 e1 e2 e3 e4 e5 e6 e7 n0 d1 d3 d4
   go_wp2_with fail
   go_region_law (
    (refine step_append_lies _ rfl (.tmp 64) (.tmp 66) 52 rfl (w.heap.size+3) 102 j0 (.agg #[.int .u64 0,.int .u64 0,.int .u64 0,.int .u64 0,.int .u64 0,.int .u64 0,.int .u64 0,.int .u64 0]) 8 64 underlying52 b3 b4 b5 S rfl (by decide) (.slice ha mm hc) mm (be 8 mm hs) (by first|(simp[Act.eval];done)|(simp[Act.eval,Act.put];done)) (by refine aK.own (w:=w3) (o:=.cells #[wd h 0,wd h 1,wd h 2,wd h 3,wd h 4,wd h 5,wd h 6,wd h 7] 102) ?_ b6.u;exact⟨rfl,rfl,rfl,rfl⟩) ⟨w3.heap.size,0,none⟩ 1 1 [wd h 0,wd h 1,wd h 2,wd h 3,wd h 4,wd h 5,wd h 6,wd h 7] (by first|(simp[Act.eval];done)|(simp[Act.eval,Act.put];done)) rfl (by refine aK.news (w:=w3) (cs:=#[wd h 0,wd h 1,wd h 2,wd h 3,wd h 4,wd h 5,wd h 6,wd h 7]) (t:=102) ?_;exact⟨rfl,rfl,rfl,rfl⟩) (by intro u hu;simp only[List.mem_cons,List.not_mem_nil,or_false]at hu;rcases hu with rfl|rfl|rfl|rfl|rfl|rfl|rfl|rfl<;>rfl) (by decide) (by unfold maxLen;omega) (by omega) (by show w.heap.size+3<=(World.alloc _ _).heap.size;rw[ah];omega) (w3.heap.size+1) (ah w3 _) (fun gg cap w7 r1 r2 r3 r4=>?_);have h7:=ae (Y.u _ w7 gg cap r1 r2 (by exact⟨rfl,rfl,rfl,rfl⟩));obtain⟨-,c7,z7⟩:=h7.u;clear r1 r2 r3 r4))
   all_goals
    obtain⟨O,-,-⟩:=h7.u;clear c7 z7 h7 Y;generalize w7.setCell ⟨B,2,none⟩ (.slice (some ⟨gg,0,none⟩) (mm+1) cap)=w9 at *;obtain⟨-,d1,-⟩:=O.box.cells;have d3:=O.row.cell hlt;have d4:=O.row.frozen b;have z:Hi (kS w (w9.setCell ⟨gc,b,none⟩ (.int .i64 (i:Nat))) B A gc (.slice (some ⟨gg,0,none⟩) (mm+1) cap) (b+1) (mm+1) (iP K b i) (fun i=>if i=mm then h else hs i) ks' (fun x=>bY ds ps x m)):=⟨O.put b i hBg D,by have:=b7.u;simp only[<-a1.u]at this;exact this⟩;clear O;go_wp2
    go_roundw
    case rel=>exact⟨b+1,mm+1,_,_,_,ks',by omega,by go_num,z.u⟩
    simp[intOf];omega
 obtain rfl:b=256:=by omega
 have HC:=ae hC;clear hC;go_wp2
 first|(refine bodyPost_ret (results_none rfl _ _ _) rfl ?_)|(refine bodyPost_end (results_none rfl _ _ _) rfl ?_)
 exact⟨mm,K,hs,hv,ks,rfl,HC.u⟩
def iL(X:List Nat):List Int:=X.map fun (x:Nat)=>(x:Int)
theorem Di{X Y:List Nat}:iL X=iL Y↔X=Y:=by
 constructor
 ·intro h;have:=congrArg (List.map Int.toNat) h
  simpa[iL,Function.comp_def]using this
 intro h;rw[h]
def AM(ps:List (Value×List Nat×Bool)):List Value:=ps.flatMap fun p=>[p.1,.bool p.2.2]
theorem ug(ps:List (Value×List Nat×Bool)){i:Nat}{p:Value×List Nat×Bool}(h:ps[i]?=some p):(AM ps)[i*2]?=some p.1/\(AM ps)[i*2+1]?=some (.bool p.2.2):=by
 induction ps generalizing i with
 | nil=>simp at h
 | cons a ps ih =>
  cases i with
  | zero=>simp at h;subst h;simp[AM]
  | succ i =>
   simp only[List.getElem?_cons_succ]at h;obtain⟨h1,h2⟩:=ih h;have e1:(i+1)*2=i*2+1+1:=by omega
   have e2:(i+1)*2+1=i*2+1+1+1:=by omega
   rw[e1];exact⟨by simpa[AM]using h1,by simpa[AM]using h2⟩
theorem yi(ps:List (Value×List Nat×Bool))(p:Value×List Nat×Bool):AM (ps++[p])=AM ps++[p.1,.bool p.2.2]:=by simp[AM]
structure EH (w:World) (base:Nat) (lv:Value) (ps:List (Value×List Nat×Bool)):Prop where
 own:w.ownsRow base 79 2 lv ps.length (AM ps)
 at_:∀ p∈ps,aP mI 0 0 w.heap.size w p.1 (iL p.2.1)/\(0<p.2.1.length->∀ b off n c,p.1=.slice (some ⟨b,off,none⟩) n c->lv.ownBlock≠some b)
theorem jg{base e n:Nat}{w:World}{v:Value}{xs:List Value}(h:w.ownsRow base e 2 v n xs)(hp:0<n):∃ g cap,v=.slice (some ⟨g,0,none⟩) n cap/\base<=g/\g<w.heap.size/\∀ j,j<n*2->w.cell? ⟨g,j,none⟩=xs[j]? :=by
 rcases h.2 with ⟨rfl,hz⟩|⟨g,cap,cur,rfl,a,hg,c,d,f,b⟩
 ·omega
 exact⟨g,cap,rfl,a,(h.lt g rfl).2,fun j hj=>h.cellAt j hj⟩
def FD(x:Ending)(ps:List (Value×List Nat×Bool))(X:List Nat)(e:Bool):Prop:=
 (x=.returned (.int .i64 (-1))/\∀ (i:Nat) (p:Value×List Nat×Bool),ps[i]?=some p->p.2≠(X,e))∨∃ i:Nat,x=.returned (.int .i64 (i:Nat))/\∃ p,ps[i]?=some p/\p.2=(X,e)
theorem tI(base:Nat)(lv pv:Value)(ps:List (Value×List Nat×Bool))(X:List Nat)(e:Bool)(w:World)(hl:EH w base lv ps)(hn:ps.length<=100000)(hp:aP mI 0 0 w.heap.size w pv (iL X)) :
  Calls prog 40 #[lv,.agg #[pv,.bool e]] w fun x w'=>Below w.heap.size w w'/\FD x ps X e:=by
 obtain⟨pa,pc,rfl,-,-⟩:=id hp;obtain⟨la,lc,rfl⟩:=aj hl.own;obtain⟨W1,c⟩ : ∃ W1,W1=w.alloc (.cells #[.slice pa (iL X).length pc,.bool e] 79):=⟨_,rfl⟩;have r:Below w.heap.size w W1:=by rw[c];exact ai w _
 have s:eJ W1 w.heap.size 79 (.slice pa (iL X).length pc) (.bool e):=by rw[c];exact eJ.new w _ _ _
 have I:w.heap.size+1<=W1.heap.size:=by rw[c,ah];omega
 have HL:=ae hl;have HP:=ae hp;have t:=ae c;have o:=ae r;have G:=ae s;clear hl hp c r s
 go_enter func40,ntmps40
 go_wp2_with fail;rw[<-t.u];clear t
 go_loopw [5] (fun iv wr=>∃ i:Nat,i<=ps.length/\iv=.int .i64 (i:Nat)/\Below W1.heap.size W1 wr/\∀ (j:Nat) (p:Value×List Nat×Bool),j<i->ps[j]?=some p->p.2≠(X,e)) (fun iv _=>ps.length-(intOf iv).toNat)
 case atStart=>exact⟨0,by omega,rfl,Below.refl _ _,fun j p hj=>by omega⟩
 obtain⟨i,hi,rfl,hB,k⟩:=hrel;obtain⟨w2,rfl⟩ : ∃ w2,w2=wr:=⟨_,rfl⟩;have H:=hB.size
 by_cases hlt:i<ps.length
 ·have v:(i:Int)<(ps.length:Int):=by omega
  obtain⟨p,l⟩ : ∃ p,ps[i]?=some p:=⟨_,List.getElem?_eq_getElem hlt⟩;obtain⟨lg,lcap,e9,-,y,a⟩:=jg HL.u.own (by omega);obtain⟨f1,f2⟩:=ug ps l;obtain⟨m,-⟩:=HL.u.at_ p (List.mem_of_getElem? l);have d:Below w.heap.size w w2:=o.u.trans (hB.mono (by omega));have y0:w2.cell? ⟨lg,i*2,none⟩=some p.1:=by rw[d.cell (p:=⟨lg,i*2,none⟩) y,a _ (by omega),f1]
  have y1:w2.cell? ⟨lg,i*2+1,none⟩=some (.bool p.2.2):=by rw[d.cell (p:=⟨lg,i*2+1,none⟩) y,a _ (by omega),f2]
  obtain⟨x0,x1⟩:=(G.u.on (hB.block _ (by omega))).cells;obtain⟨qv,Z,f⟩:=p;simp only at y0 y1 m;obtain⟨qa,qc,rfl,-,-⟩:=id m;have HC:=ae (mC (.slice qa (iL Z).length qc) (.slice pa (iL X).length pc) (iL Z) (iL X) f e w2.drew (m.below d.drew lR) (HP.u.below d.drew lR));have z:=ae l;have q:=ae k;have HB:=ae hB;have A:la=some ⟨lg,0,none⟩/\lc=lcap:=by simpa using e9
  obtain⟨rfl,rfl⟩:=A;clear l k hB a f1 f2 m d e9
  go_wp2_with fail
  go_region_with (go_at_call 79;refine HC.u.mono ?_;rintro x w3 ⟨hr,b⟩;have B:=ae hr;obtain⟨rr,hrr,-⟩:=hr;subst hrr)
  all_goals
   have C:Below w2.heap.size w2 w3:=⟨b.os,b.tape,b.output,b.size,b.block⟩;have g:Below W1.heap.size W1 w3:=HB.u.trans (C.mono H);have n:=ae g;have J:=g.size;obtain⟨r9,h9,D⟩:=B.u;cases h9;have HI:=ae D;clear D b C g B HC y0 y1 x0 x1 HB;cases rr
   ·go_wp2
    go_roundw
    case rel=>exact⟨i+1,by omega,by go_num,n.u,fun j p hj hp=>(by
     by_cases e9:j=i
     ·subst e9;rw[z.u]at hp;cases hp;intro hh;cases hh;have:=HI.u.2 ⟨rfl,rfl⟩;cases this
     exact q.u j p (by omega) hp)⟩
    simp[intOf];omega
   have h:=HI.u.1 rfl;have E:=Di.1 h.1;have F:=h.2;have HZ:=ae E;have HF:=ae F;clear h E F;go_wp2;go_ret;exact⟨o.u.trans (n.u.mono (by omega)),.inr ⟨i,rfl,_,z.u,by rw[<-HZ.u,<-HF.u]⟩⟩
 have v:¬ (i:Int)<(ps.length:Int):=by omega
 obtain rfl:i=ps.length:=by omega
 have q:=ae k;have HB:=ae hB;clear k hB;go_wp2;go_ret;exact⟨o.u.trans (HB.u.mono (by omega)),.inl ⟨rfl,fun j p hp=>q.u j p (List.getElem?_eq_some_iff.1 hp).1 hp⟩⟩
end Go.Proofs.YtpmcjimgkabpeaaGreatDoor
