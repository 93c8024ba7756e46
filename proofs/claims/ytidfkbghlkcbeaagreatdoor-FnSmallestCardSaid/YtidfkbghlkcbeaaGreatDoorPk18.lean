import Derived.Test.YtidfkbghlkcbeaaGreatDoorPk12
import Derived.Laws.CopyOwn
import Derived.Laws.CopyRow
import Derived.Test.YtidfkbghlkcbeaaGreatDoorPk10
namespace Go.Proofs.YtidfkbghlkcbeaaGreatDoor
open Go.RowKit Go.Proofs.Tryz
set_option maxHeartbeats 16000000
set_option maxRecDepth 100000
theorem Tryz.lawBs:Maps.Keyed prog 88:=Maps.Keyed.of_law (deep_law_laid Tryz.laidOutN (m:=2) (by omega) (of_decide_eq_true (by kernel_rfl)) (by kernel_rfl) (by rw[underlying88]))
theorem Tryz.lawPs:Maps.Keyed prog 102:=Maps.Keyed.of_law (deep_law_laid Tryz.laidOutN (m:=2) (by omega) (of_decide_eq_true (by kernel_rfl)) (by kernel_rfl) (by rw[underlying102]))
theorem Ah{g:Nat->Nat}(h:Fit g):gU 88 (gb g):=by
 have c1:prog.cellsOf 88=4:=by kernel_rfl
 have c2:prog.cellsOf 86=1:=by kernel_rfl
 have hk:prog.keyType 88=true:=by kernel_rfl
 obtain⟨m,hm⟩ : ∃ m,prog.types.size=m+1:=⟨prog.types.size-1,by have:0<prog.types.size:=of_decide_eq_true (by kernel_rfl);omega⟩;unfold gU keyOf;simp only[underlying88];rw[if_pos (by simp[hk,Value.formed,underlying88,c1,gb]),hm];unfold Program.keyLits;simp only[underlying88,Value.cells,gb];rw[if_pos (by rw[c1];rfl)];simp[List.range_succ,Program.keyLits,underlying86,c2,gu (h 0),gu (h 1),gu (h 2),gu (h 3)]
theorem Ae{g:Nat->Nat}(h:Fit g):gU 102 (gG g):=by
 have c1:prog.cellsOf 102=8:=by kernel_rfl
 have c2:prog.cellsOf 86=1:=by kernel_rfl
 have hk:prog.keyType 102=true:=by kernel_rfl
 obtain⟨m,hm⟩ : ∃ m,prog.types.size=m+1:=⟨prog.types.size-1,by have:0<prog.types.size:=of_decide_eq_true (by kernel_rfl);omega⟩;unfold gU keyOf;simp only[underlying102];rw[if_pos (by simp[hk,Value.formed,underlying102,c1,gG]),hm];unfold Program.keyLits;simp only[underlying102,Value.cells,gG];rw[if_pos (by rw[c1];rfl)];simp[List.range_succ,Program.keyLits,underlying86,c2,gu (h 0),gu (h 1),gu (h 2),gu (h 3),gu (h 4),gu (h 5),gu (h 6),gu (h 7)]
theorem vQ(w:World):Calls prog 45 #[] w fun e w'=>e=.returned (.agg #[.map (some (w.heap.size+1))])/\bj 88 w' (w.heap.size+1) []/\w'.heap.size=w.heap.size+2/\Below w.heap.size w w':=by
 have a:=@run_makeMap prog;have hN:=ko 88 (w.alloc (.cells #[.map (some (w.heap.size+1))] 98));rw[ah]at hN;have hB:=aI w (.cells #[.map (some (w.heap.size+1))] 98) (.map #[] 0);have HN:=ae hN;have HB:=ae hB;clear hN hB
 go_enter func45,ntmps45
 go_wp2;refine bodyPost_ret (v:=.agg #[.map (some (w.heap.size+1))]) (by simp[results,results45,go_sem]) rfl ?_;refine⟨rfl,HN.u,by rw[ah,ah],HB.u⟩
theorem xO(b:Nat)(g:Nat->Nat)(ks:List Value)(w:World)(h:bj 88 w b ks)(hg:Fit g)(hn:ks.length<100000) :
  Calls prog 46 #[.agg #[.map (some b)],gb g] w fun e w'=>∃ i ks' f,e=.returned (.tuple #[.int .i64 (i:Nat),.bool f])/\lT ks (gb g) ks' i f/\bj 88 w' b ks'/\aT (dM w b) w w':=by
 have hB:=aI w (.cells #[.map (some b)] 98) (.cells #[.int .u64 (g 0:Nat),.int .u64 (g 1:Nat),.int .u64 (g 2:Nat),.int .u64 (g 3:Nat)] 88);have hlt:=h.lt;have hW:=h.keep (hB.block b hlt);have hz:((w.alloc (.cells #[.map (some b)] 98)).alloc (.cells #[.int .u64 (g 0:Nat),.int .u64 (g 1:Nat),.int .u64 (g 2:Nat),.int .u64 (g 3:Nat)] 88)).heap.size=w.heap.size+2:=by rw[ah,ah]
 have c:Hi (aT (dM w b) w ((w.alloc (.cells #[.map (some b)] 98)).alloc (.cells #[.int .u64 (g 0:Nat),.int .u64 (g 1:Nat),.int .u64 (g 2:Nat),.int .u64 (g 3:Nat)] 88))):=bC hB (fun k hk=>Or.inr hk);rcases hW.look Tryz.lawBs underlying96 (Ah hg) with ⟨i,hi,hl⟩|⟨a,hl⟩
 ·have HW:=ae hW;have HI:=ae hi;clear hW hi h hB;unfold gb at hl ⊢
  go_enter func46,ntmps46
  go_wp2
  go_ret2;exact⟨i,ks,false,rfl,Or.inl ⟨List.mem_of_getElem? HI.u,rfl,HI.u,rfl⟩,HW.u,c.u⟩
 have p:=fun ty=>hW.len underlying96 ty
 obtain⟨w3,d,j,l⟩:=hW.put Tryz.lawBs underlying96 hn (Ah hg) a;have m:=ae j;have n:=ae (c.u.trans (l.fro (Or.inl rfl)));have o:=ae a;clear hW a h hB j l;unfold gb at hl d ⊢
 go_enter func46,ntmps46
 go_wp2
 go_ret2;exact⟨ks.length,ks++[gb g],true,rfl,Or.inr ⟨o.u,rfl,rfl,rfl⟩,m.u,n.u⟩
theorem wg(w:World):Calls prog 80 #[] w fun e w'=>e=.returned (.agg #[.map (some (w.heap.size+1))])/\bj 102 w' (w.heap.size+1) []/\w'.heap.size=w.heap.size+2/\Below w.heap.size w w':=by
 have a:=@run_makeMap prog;have hN:=ko 102 (w.alloc (.cells #[.map (some (w.heap.size+1))] 147));rw[ah]at hN;have hB:=aI w (.cells #[.map (some (w.heap.size+1))] 147) (.map #[] 0);have HN:=ae hN;have HB:=ae hB;clear hN hB
 go_enter func80,ntmps80
 go_wp2;refine bodyPost_ret (v:=.agg #[.map (some (w.heap.size+1))]) (by simp[results,results80,go_sem]) rfl ?_;refine⟨rfl,HN.u,by rw[ah,ah],HB.u⟩
theorem yU(b:Nat)(g:Nat->Nat)(ks:List Value)(w:World)(h:bj 102 w b ks)(hg:Fit g)(hn:ks.length<100000) :
  Calls prog 82 #[.agg #[.map (some b)],gG g] w fun e w'=>∃ i ks' f,e=.returned (.tuple #[.int .i64 (i:Nat),.bool f])/\lT ks (gG g) ks' i f/\bj 102 w' b ks'/\aT (dM w b) w w':=by
 have hB:=aI w (.cells #[.map (some b)] 147) (.cells #[.int .u64 (g 0:Nat),.int .u64 (g 1:Nat),.int .u64 (g 2:Nat),.int .u64 (g 3:Nat),.int .u64 (g 4:Nat),.int .u64 (g 5:Nat),.int .u64 (g 6:Nat),.int .u64 (g 7:Nat)] 102);have hlt:=h.lt;have hW:=h.keep (hB.block b hlt);have hz:((w.alloc (.cells #[.map (some b)] 147)).alloc (.cells #[.int .u64 (g 0:Nat),.int .u64 (g 1:Nat),.int .u64 (g 2:Nat),.int .u64 (g 3:Nat),.int .u64 (g 4:Nat),.int .u64 (g 5:Nat),.int .u64 (g 6:Nat),.int .u64 (g 7:Nat)] 102)).heap.size=w.heap.size+2:=by rw[ah,ah]
 have c:Hi (aT (dM w b) w ((w.alloc (.cells #[.map (some b)] 147)).alloc (.cells #[.int .u64 (g 0:Nat),.int .u64 (g 1:Nat),.int .u64 (g 2:Nat),.int .u64 (g 3:Nat),.int .u64 (g 4:Nat),.int .u64 (g 5:Nat),.int .u64 (g 6:Nat),.int .u64 (g 7:Nat)] 102))):=bC hB (fun k hk=>Or.inr hk);rcases hW.look Tryz.lawPs underlying145 (Ae hg) with ⟨i,hi,hl⟩|⟨a,hl⟩
 ·have HW:=ae hW;have HI:=ae hi;clear hW hi h hB;unfold gG at hl ⊢
  go_enter func82,ntmps82
  go_wp2
  go_ret2;exact⟨i,ks,false,rfl,Or.inl ⟨List.mem_of_getElem? HI.u,rfl,HI.u,rfl⟩,HW.u,c.u⟩
 have p:=fun ty=>hW.len underlying145 ty
 obtain⟨w3,d,j,l⟩:=hW.put Tryz.lawPs underlying145 hn (Ae hg) a;have m:=ae j;have n:=ae (c.u.trans (l.fro (Or.inl rfl)));have o:=ae a;clear hW a h hB j l;unfold gG at hl d ⊢
 go_enter func82,ntmps82
 go_wp2
 go_ret2;exact⟨ks.length,ks++[gG g],true,rfl,Or.inr ⟨o.u,rfl,rfl,rfl⟩,m.u,n.u⟩
end Go.Proofs.YtidfkbghlkcbeaaGreatDoor
namespace Go.Proofs.YtidfkbghlkcbeaaGreatDoor
open Go.RowKit Go.Proofs.Tryz
abbrev c8 (g:Nat->Nat):Array Value:=#[.int .u64 (g 0:Nat),.int .u64 (g 1:Nat),.int .u64 (g 2:Nat),.int .u64 (g 3:Nat),.int .u64 (g 4:Nat),.int .u64 (g 5:Nat),.int .u64 (g 6:Nat),.int .u64 (g 7:Nat)]
theorem ij{w:World}{B:Nat}{t:TypeId}{g:Nat->Nat}(h:w.rowIs B t 8 (wd g)):w.heap[B]?=some (.cells (c8 g) t (0,0)):=by
 obtain⟨c,hc,hs,hf⟩:=h;rw[hc]
 congr 2
 refine Array.ext (by simp[hs]) (fun i h1 h2=>?_)
 have h3:=hf i (by omega);rw[Array.getElem?_eq_getElem h1]at h3;have h4:=Option.some.inj h3;rw[h4];have h5:i<8:=by omega
 match i,h5 with
 | 0,_=>rfl
 | 1,_=>rfl
 | 2,_=>rfl
 | 3,_=>rfl
 | 4,_=>rfl
 | 5,_=>rfl
 | 6,_=>rfl
 | 7,_=>rfl
theorem EH(g:Nat->Nat):(c8 g).all (·.oneCell')=true:=by simp[Value.oneCell']
theorem dR(w:World)(t:TypeId)(g:Nat->Nat):(w.alloc (.cells (c8 g) t)).rowIs w.heap.size t 8 (wd g):=kP w t g
theorem zS{w:World}{B:Nat}{g:Nat->Nat}(h:w.heap[B]?=some (.cells (c8 g) 102 (0,0))){fn:Func}{p:Tmp}(hr:fn.results=#[.cell p 102])(tmps:Array Value)(hp:tmps.getD p undef=.pointer (some ⟨B,0,none⟩)):(results fn tmps).run prog w=.ok (gG g) w:=
 results_cell_row hr tmps w B _ _ _ _ hp h underlying102 rfl (by kernel_rfl)
theorem vf(b o n i:Nat)(t:TypeId)(F:Nat->Value)(g:Nat->Nat)(w:World)(hg:Fit g)(hi:i<512)(hrow:w.rowIs b t n F)(hF:∀ j,j<8->F (o+j)=wd g j)(ho:o+8<=n) :
  Calls prog 47 #[.pointer (some ⟨b,o,none⟩),.int .i64 i] w fun e w'=>e=.returned (.tuple #[])/\w'.rowIs b t n (fun k=>if o<=k/\k<o+8 then wd (io g i) (k-o) else F k)/\ce b w w':=by
 have hq:i / 64<8:=by omega
 have c0:=hrow.cell (i:=o+i / 64) (by omega);rw[hF _ hq]at c0;have f0:=hrow.frozen (o+i / 64);unfold wd at c0;have d:((i / 64:Nat):Int)<8:=by omega
 have f:(i:Int) / 64<8:=by omega
 have h:0<=(i:Int) / 64:=by omega
 have a:=uj (g (i / 64)) (i%64) (hg _) (by omega);have c:=ae a;have HR:=ae hrow;have HF:=ae hF;clear hrow a hg hF
 go_enter func47,ntmps47
 go_region
 go_wp2;rw[c.u]
 first|(refine bodyPost_ret (results_none rfl _ _ _) rfl ?_)|(refine bodyPost_end (results_none rfl _ _ _) rfl ?_)
 refine⟨rfl,((HR.u.set (o+i / 64) _).congr (fun k _=>?_)).drew,(am _ _).drew⟩
 by_cases e:k=o+i / 64
 ·subst e;rw[if_pos rfl,if_pos (by omega),show o+i / 64-o=i / 64 by omega];unfold wd io;rw[if_pos rfl]
 rw[if_neg e]
 by_cases e2:o<=k/\k<o+8
 ·rw[if_pos e2];have h1:=HF.u (k-o) (by omega);rw[show o+(k-o)=k by omega]at h1;rw[h1];unfold wd io;rw[if_neg (by omega)]
 rw[if_neg e2]
theorem ce.bel2{g m:Nat}{a b:World}(h:ce g a b)(hm:m<=g):Below m a b:=⟨h.os,h.tape,h.output,by rw[h.size];exact Nat.le_refl _,fun k hk=>h.block k (by omega)⟩
def dO(g h:Nat->Nat):Nat->Nat:=fun j=>g j &&& h j
theorem pz{g h:Nat->Nat}(a:Fit g):Fit (dO g h):=fun j=>Nat.lt_of_le_of_lt Nat.and_le_left (a j)
theorem jG(g h:Nat->Nat)(b:Nat):Bt (dO g h) b=(Bt g b&&Bt h b):=by unfold Bt dO;rw[Nat.testBit_and]
theorem qQ(g h:Nat->Nat)(w:World)(hg:Fit g)(hh:Fit h) :
  Calls prog 87 #[gG g,gG h] w fun e w'=>e=.returned (gG (dO g h))/\Below w.heap.size w w':=by
 obtain⟨W,hW⟩ : ∃ W,W=((w.alloc (.cells (c8 g) 102)).alloc (.cells (c8 h) 102)).alloc (.cells #[.int .u64 0,.int .u64 0,.int .u64 0,.int .u64 0,.int .u64 0,.int .u64 0,.int .u64 0,.int .u64 0] 102):=⟨_,rfl⟩;have d:W.rowIs w.heap.size 102 8 (wd g):=by rw[hW];exact((dR w _ g).alloc _).alloc _
 have a:W.rowIs (w.heap.size+1) 102 8 (wd h):=by
  have:=dR (w.alloc (.cells (c8 g) 102)) 102 h;rw[ah]at this;rw[hW];exact this.alloc _
 have c:W.rowIs (w.heap.size+2) 102 8 (wd (fun _=>0)):=by
  have:=dR ((w.alloc (.cells (c8 g) 102)).alloc (.cells (c8 h) 102)) 102 (fun _=>0);rw[ah,ah]at this;rw[hW];exact this
 have hB:Below w.heap.size w W:=by rw[hW];exact(aI w _ _).alloc (by rw[ah,ah];omega) _
 have HG:=ae hg;have HH:=ae hh;have H0:=ae d;have H1:=ae a;have H2:=ae c;have HB:=ae hB;have HW:=ae hW;clear hg hh d a c hB hW;unfold gG
 go_enter func87,ntmps87
 go_wp2_with fail;rw[<-HW.u];clear HW
 go_loopw [6] (fun iv wr=>∃ i:Nat,i<=8/\iv=.int .i64 i/\wr.rowIs w.heap.size 102 8 (fun k=>if k<i then wd (dO g h) k else wd g k)/\wr.rowIs (w.heap.size+1) 102 8 (wd h)/\wr.rowIs (w.heap.size+2) 102 8 (wd (fun _=>0))/\Below w.heap.size w wr) (fun iv _=>8-(intOf iv).toNat)
 case atStart=>exact⟨0,by omega,rfl,H0.u.congr (fun k _=>by rw[if_neg (by omega)]),H1.u,H2.u,HB.u⟩
 clear H0 H1 H2 HB;obtain⟨i,hi,rfl,hr,a,c,hb⟩:=hrel
 by_cases hlt:i<8
 ·have n:(i:Int)<8:=by omega
  have c0:wr.cell? ⟨w.heap.size,i,none⟩=some (.int .u64 (g i:Nat)):=by rw[hr.cell hlt,if_neg (by omega)];rfl
  have f0:=hr.frozen i;have c1:wr.cell? ⟨w.heap.size+1,i,none⟩=some (.int .u64 (h i:Nat)):=a.cell hlt;have f:=bits_and_u64_nat (g i) (h i) (HG.u i) (HH.u i);have HR:Hi ((wr.setCell ⟨w.heap.size,i,none⟩ (.int .u64 ((g i &&& h i:Nat):Int))).rowIs w.heap.size 102 8 (fun k=>if k<i+1 then wd (dO g h) k else wd g k)):=(hr.set i _).congr (fun k _=>by
   by_cases e:k=i
   ·subst e;rw[if_pos rfl,if_pos (by omega)];rfl
   rw[if_neg e]
   by_cases e2:k<i
   ·rw[if_pos e2,if_pos (by omega)]
   rw[if_neg e2,if_neg (by omega)])
  have j:Hi ((wr.setCell ⟨w.heap.size,i,none⟩ (.int .u64 ((g i &&& h i:Nat):Int))).rowIs (w.heap.size+1) 102 8 (wd h)):=a.setOther (by show w.heap.size+1≠w.heap.size;omega) _;have l:Hi ((wr.setCell ⟨w.heap.size,i,none⟩ (.int .u64 ((g i &&& h i:Nat):Int))).rowIs (w.heap.size+2) 102 8 (wd (fun _=>0))):=c.setOther (by show w.heap.size+2≠w.heap.size;omega) _;have HB:=ae (aD hb lR (b:=w.heap.size) (o:=i) (.int .u64 ((g i &&& h i:Nat):Int)));have m:=ae f;clear hr a c hb f
  go_wp2_with fail
  go_region
  all_goals
   go_wp2;rw[m.u]
   go_roundw
   case rel=>exact⟨i+1,by omega,by go_num,HR.u.drew,j.u.drew,l.u.drew,HB.u.drew⟩
   simp[intOf];omega
 obtain rfl:i=8:=by omega
 have hA:wr.rowIs w.heap.size 102 8 (wd (dO g h)):=hr.congr (fun k hk=>by rw[if_pos hk]);have HA:=ae (ij hA);have HZ:Hi (wr.heap[w.heap.size+1+1]?=_):=ij c;have HB:=ae hb;clear hr a c hb hA
 go_wp2_with (first
  | (refine wpList_load_row rfl 102 (.tmp 2) rfl w.heap.size (by first|(simp[Act.eval];done)|(simp[Act.eval,Act.put];done)) 102 _ _ _ HA.u underlying102 rfl (by kernel_rfl) ?_)
  | (refine wpList_store_row rfl 102 (.tmp 4) (.tmp 18) rfl (w.heap.size+1+1) #[.int .u64 ((dO g h) 0:Nat),.int .u64 ((dO g h) 1:Nat),.int .u64 ((dO g h) 2:Nat),.int .u64 ((dO g h) 3:Nat),.int .u64 ((dO g h) 4:Nat),.int .u64 ((dO g h) 5:Nat),.int .u64 ((dO g h) 6:Nat),.int .u64 ((dO g h) 7:Nat)] (by first|(simp[Act.eval];done)|(simp[Act.eval,Act.put];done)) (by first|(simp[Act.eval];done)|(simp[Act.eval,Act.put];done)) 102 _ HZ.u (by kernel_rfl) rfl (EH _) ?_))
 refine bodyPost_ret (zS (setRow_heap _ _ _ _ _ _ HZ.u) rfl _ rfl) rfl ?_;exact⟨rfl,HB.u.trans (ce.bel2 ⟨rfl,rfl,rfl,by simp[World.setRow],fun k hk=>setRow_other _ _ k _ hk⟩ (by omega))⟩
def bZ(ds ps:Nat->Nat->Nat)(b:Nat):Nat->Nat->Nat
 | 0=>fun _=>0
 | k+1=>if Bt (ds k) b then cD (bZ ds ps b k) (ps k) else bZ ds ps b k
theorem vm:Fit (fun _=>0):=fun _=>by show(0:Nat)<18446744073709551616;decide
theorem iJ{ds ps:Nat->Nat->Nat}{b:Nat}:∀ {m:Nat},(∀ j,j<m->Fit (ps j))->Fit (bZ ds ps b m)
 | 0,_=>vm
 | k+1,h=>by
  unfold bZ
  split
  ·exact qq (iJ (fun j hj=>h j (by omega))) (h k (by omega))
  exact iJ (fun j hj=>h j (by omega))
theorem qr{ds ps:Nat->Nat->Nat}{b:Nat}(i:Nat):∀ m:Nat,Bt (bZ ds ps b m) i=true↔∃ j,j<m/\Bt (ds j) b=true/\Bt (ps j) i=true
 | 0=>by
  constructor
  ·intro h;simp[bZ,Bt]at h
  rintro⟨j,hj,-⟩;omega
 | k+1=>by
  unfold bZ
  by_cases e:Bt (ds k) b=true
  ·rw[if_pos e,vv,Bool.or_eq_true,qr i k]
   constructor
   ·rintro(⟨j,hj,h⟩|h)
    ·exact⟨j,by omega,h⟩
    exact⟨k,by omega,e,h⟩
   rintro⟨j,hj,h⟩
   by_cases e2:j=k
   ·subst e2;exact Or.inr h.2
   exact Or.inl ⟨j,by omega,h⟩
  rw[if_neg e,qr i k]
  constructor
  ·rintro⟨j,hj,h⟩;exact⟨j,by omega,h⟩
  rintro⟨j,hj,h⟩
  by_cases e2:j=k
  ·subst e2;exact absurd h.1 e
  exact⟨j,by omega,h⟩
abbrev DU (w:World) (v:Value) (m:Nat) (ds:Nat->Nat->Nat):Prop:=w.ownsRow 0 88 4 v m (bm 4 m ds)
abbrev AO (w:World) (v:Value) (m:Nat) (ps:Nat->Nat->Nat):Prop:=w.ownsRow 0 102 8 v m (bm 8 m ps)
theorem ze{w:World}{v:Value}{m i:Nat}{ds:Nat->Nat->Nat}(h:DU w v m ds)(hi:i<m):∃ g cap,v=.slice (some ⟨g,0,none⟩) m cap/\g<w.heap.size/\(∀ W:World,W.heap[g]?=w.heap[g]?->∀ j,j<4->W.cell? ⟨g,i*4+j,none⟩=some (wd (ds i) j)):=by
 obtain⟨g,cap,M,F,rfl,hlt,hr,hM,hF,-⟩:=fm h (by omega);refine⟨g,cap,rfl,hlt,fun W hW j hj=>?_⟩;have h1:=hF (i*4+j) (by omega);rw[du _ _ _ (by omega),show(i*4+j) / 4=i by omega,show(i*4+j)%4=j by omega]at h1;rw[World.cell?_of_block (a:=⟨g,i*4+j,none⟩) hW,hr.cell (by omega)];exact h1.symm
theorem pI{w:World}{v:Value}{m i:Nat}{ps:Nat->Nat->Nat}(h:AO w v m ps)(hi:i<m):∃ g cap M F,v=.slice (some ⟨g,0,none⟩) m cap/\g<w.heap.size/\w.rowIs g 102 M F/\i*8+8<=M/\(∀ j,j<8->F (i*8+j)=wd (ps i) j)/\
  ∀ (w':World) (x:Nat->Nat),w'.rowIs g 102 M (fun k=>if i*8<=k/\k<i*8+8 then wd x (k-i*8) else F k)->AO w' v m (fun j=>if j=i then x else ps j):=by
 obtain⟨g,cap,M,F,rfl,hlt,hr,hM,hF,a⟩:=fm h (by omega);refine⟨g,cap,M,F,rfl,hlt,hr,by omega,fun j hj=>?_,fun w' x hr'=>?_⟩
 ·have h1:=hF (i*8+j) (by omega);rw[du _ _ _ (by omega),show(i*8+j) / 8=i by omega,show(i*8+j)%8=j by omega]at h1;exact(Option.some.inj h1).symm
 refine a w' _ _ hr' (lj _ _ _) (fun k hk=>?_)
 rw[du _ _ _ hk]
 by_cases e:i*8<=k/\k<i*8+8
 ·rw[if_pos e,if_pos (by omega),show k%8=k-i*8 by omega]
 rw[if_neg e,if_neg (by omega)];have h2:=hF k hk;rw[du _ _ _ hk]at h2;exact h2
theorem oH(b m:Nat)(sv pv:Value)(ds ps:Nat->Nat->Nat)(w:World)(hb:b<256)(hm:m<=512)(hs:DU w sv m ds)(hp:AO w pv m ps)(hds:∀ j,j<m->Fit (ds j))(hps:∀ j,j<m->Fit (ps j)) :
  Calls prog 81 #[.int .i64 b,sv,pv] w fun e w'=>e=.returned (gG (bZ ds ps b m))/\Below w.heap.size w w':=by
 obtain⟨sa,sc,rfl⟩:=aj hs;obtain⟨pa,pc,rfl⟩:=aj hp;obtain⟨H,hH⟩ : ∃ H,H=bZ ds ps b m:=⟨_,rfl⟩;rw[<-hH];have L:=ae hH;clear hH;obtain⟨W,hW⟩ : ∃ W,W=(w.alloc (.cells #[.int .u64 0,.int .u64 0,.int .u64 0,.int .u64 0,.int .u64 0,.int .u64 0,.int .u64 0,.int .u64 0] 102)).alloc (.cells #[.int .u64 0,.int .u64 0,.int .u64 0,.int .u64 0,.int .u64 0,.int .u64 0,.int .u64 0,.int .u64 0] 102):=⟨_,rfl⟩;have f:W.rowIs w.heap.size 102 8 (wd (fun _=>0)):=by rw[hW];exact(dR w _ (fun _=>0)).alloc _
 have c:W.rowIs (w.heap.size+1) 102 8 (wd (fun _=>0)):=by
  have:=dR (w.alloc (.cells #[.int .u64 0,.int .u64 0,.int .u64 0,.int .u64 0,.int .u64 0,.int .u64 0,.int .u64 0,.int .u64 0] 102)) 102 (fun _=>0);rw[ah]at this;rw[hW];exact this
 have hB:Below w.heap.size w W:=by rw[hW];exact aI w _ _
 have hz:w.heap.size+2<=W.heap.size:=by rw[hW,ah,ah];omega
 have HS:=ae hs;have HP:=ae hp;have N:=ae hds;have E:=ae hps;have H0:=ae f;have H1:=ae c;have HB:=ae hB;have HW:=ae hW;clear hs hp hds hps f c hB hW
 go_enter func81,ntmps81
 go_wp2_with fail;rw[<-HW.u];clear HW
 go_loopw [12] (fun iv wr=>∃ i:Nat,i<=m/\iv=.int .i64 i/\wr.rowIs w.heap.size 102 8 (wd (fun _=>0))/\wr.rowIs (w.heap.size+1) 102 8 (wd (bZ ds ps b i))/\w.heap.size+2<=wr.heap.size/\Below w.heap.size w wr) (fun iv _=>m-(intOf iv).toNat)
 case atStart=>exact⟨0,by omega,rfl,H0.u,H1.u,hz,HB.u⟩
 clear H0 H1 HB hz;obtain⟨i,hi,rfl,f,c,hz,d⟩:=hrel
 by_cases hlt:i<m
 ·have Q:(i:Int)<(m:Int):=by omega
  obtain⟨g,cap,e,hg,a⟩:=ze HS.u hlt;cases e;obtain⟨g2,cap2,M,F,e,O,v,hM,hF,-⟩:=pI HP.u hlt;cases e;have d0:=a wr (d.block g hg) 0 (by omega);have d1:=a wr (d.block g hg) 1 (by omega);have d2:=a wr (d.block g hg) 2 (by omega);have d3:=a wr (d.block g hg) 3 (by omega);unfold wd at d0 d1 d2 d3;rw[Nat.add_zero]at d0;have G:=ai wr (.cells #[.int .u64 (ds i 0:Nat),.int .u64 (ds i 1:Nat),.int .u64 (ds i 2:Nat),.int .u64 (ds i 3:Nat)] 88);have HH:=ae (Ex (ds i) b (wr.alloc (.cells #[.int .u64 (ds i 0:Nat),.int .u64 (ds i 1:Nat),.int .u64 (ds i 2:Nat),.int .u64 (ds i 3:Nat)] 88)) (N.u i hlt) hb);have x:=ae f;have y:=ae c;have o:=ae d;have p:=ae v;have HF:=ae hF;have z:=ae G;unfold gb at HH;clear f c d v hF G a
  go_wp2_with fail;refine HH.u.mono ?_;rintro e w2 ⟨rfl,A⟩;have h:Below wr.heap.size wr w2:=z.u.trans (A.mono (by rw[ah];omega));have r:=x.u.of_block (h.block _ (by omega));have s:=y.u.of_block (h.block _ (by omega));have B:=p.u.of_block ((h.block g2 (by have:=o.u.size;omega)).trans (o.u.block g2 O));have l:Below w.heap.size w w2:=o.u.trans (h.mono o.u.size);have R:=h.size;cases hh:Bt (ds i) b with
  | false =>
   have n:=ae r;have I:Hi (w2.rowIs (w.heap.size+1) 102 8 (wd (bZ ds ps b (i+1)))):=by
    show w2.rowIs _ _ _ (wd (bZ ds ps b (i+1)));unfold bZ;rw[if_neg (by rw[hh];decide)];exact s
   have q:=ae l;clear r s B l A h hh x y o p HF z HH;go_wp2
   go_roundw
   case rel=>exact⟨i+1,by omega,by go_num,n.u,I.u,by omega,q.u⟩
   simp[intOf];omega
  | true =>
   have HJ:=ae (ie (w.heap.size+1) 0 8 g2 (i*8) M _ _ _ F (bZ ds ps b i) (ps i) w2 (iJ (fun j hj=>E.u j (by omega))) (E.u i hlt) (by omega) s (fun j hj=>by rw[Nat.zero_add]) (by omega) B HF.u hM);have n:=ae r;have q:=ae l;have P:=ae hh;clear r s B l A h hh x y o p HF z HH
   go_wp2_with fail;refine HJ.u.mono ?_;rintro e w3 ⟨rfl,J,t⟩;have C:=ae (n.u.of_block (t.block _ (by omega)));have D:Hi (w3.rowIs (w.heap.size+1) 102 8 (wd (bZ ds ps b (i+1)))):=by
    show w3.rowIs _ _ _ (wd (bZ ds ps b (i+1)));unfold bZ;rw[if_pos P.u];exact J.congr (fun k hk=>by rw[if_pos (by omega),Nat.sub_zero])
   have K:=ae (q.u.trans (t.bel2 (by omega)));have S:=t.size;clear J t HJ n;go_wp2
   go_roundw
   case rel=>exact⟨i+1,by omega,by go_num,C.u,D.u,by omega,K.u⟩
   simp[intOf];omega
 obtain rfl:i=m:=by omega
 rw[<-L.u]at c;have HA:Hi (wr.heap[w.heap.size+1]?=_):=ij c;have HZ:Hi (wr.heap[w.heap.size]?=_):=ij f;have HB:=ae d;clear f c d
 go_wp2_with (first
  | (refine wpList_load_row rfl 102 (.tmp 7) rfl (w.heap.size+1) (by first|(simp[Act.eval];done)|(simp[Act.eval,Act.put];done)) 102 _ _ _ HA.u underlying102 rfl (by kernel_rfl) ?_)
  | (refine wpList_store_row rfl 102 (.tmp 6) (.tmp 25) rfl (w.heap.size) #[.int .u64 (H 0:Nat),.int .u64 (H 1:Nat),.int .u64 (H 2:Nat),.int .u64 (H 3:Nat),.int .u64 (H 4:Nat),.int .u64 (H 5:Nat),.int .u64 (H 6:Nat),.int .u64 (H 7:Nat)] (by first|(simp[Act.eval];done)|(simp[Act.eval,Act.put];done)) (by first|(simp[Act.eval];done)|(simp[Act.eval,Act.put];done)) 102 _ HZ.u (by kernel_rfl) rfl (EH _) ?_))
 refine bodyPost_ret (zS (setRow_heap _ _ _ _ _ _ HZ.u) rfl _ rfl) rfl ?_;exact⟨rfl,HB.u.trans (ce.bel2 ⟨rfl,rfl,rfl,by simp[World.setRow],fun k hk=>setRow_other _ _ k _ hk⟩ lR)⟩
end Go.Proofs.YtidfkbghlkcbeaaGreatDoor
