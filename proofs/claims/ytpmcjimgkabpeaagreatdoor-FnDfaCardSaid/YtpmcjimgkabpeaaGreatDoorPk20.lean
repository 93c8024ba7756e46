import Derived.Test.YtpmcjimgkabpeaaGreatDoorPk13
import Derived.Laws.CopyOwn
import Derived.Laws.CopyRow
import Derived.Test.YtpmcjimgkabpeaaGreatDoorPk16
namespace Go.Proofs.YtpmcjimgkabpeaaGreatDoor
open Go.RowKit Go.Proofs.Tryz
set_option maxHeartbeats 16000000
set_option maxRecDepth 100000
theorem Tryz.lawBs:Maps.Keyed prog 88:=Maps.Keyed.of_law (deep_law_laid Tryz.laidOutN (m:=2) (by omega) (of_decide_eq_true (by kernel_rfl)) (by kernel_rfl) (by rw[underlying88]))
theorem Tryz.lawPs:Maps.Keyed prog 102:=Maps.Keyed.of_law (deep_law_laid Tryz.laidOutN (m:=2) (by omega) (of_decide_eq_true (by kernel_rfl)) (by kernel_rfl) (by rw[underlying102]))
theorem zT{g:Nat->Nat}(h:Fit g):gS 88 (fZ g):=by
 have c1:prog.cellsOf 88=4:=by kernel_rfl
 have c2:prog.cellsOf 86=1:=by kernel_rfl
 have hk:prog.keyType 88=true:=by kernel_rfl
 obtain⟨m,hm⟩ : ∃ m,prog.types.size=m+1:=⟨prog.types.size-1,by have:0<prog.types.size:=of_decide_eq_true (by kernel_rfl);omega⟩;unfold gS keyOf;simp only[underlying88];rw[if_pos (by simp[hk,Value.formed,underlying88,c1,fZ]),hm];unfold Program.keyLits;simp only[underlying88,Value.cells,fZ];rw[if_pos (by rw[c1];rfl)];simp[List.range_succ,Program.keyLits,underlying86,c2,gC (h 0),gC (h 1),gC (h 2),gC (h 3)]
theorem yI{g:Nat->Nat}(h:Fit g):gS 102 (gE g):=by
 have c1:prog.cellsOf 102=8:=by kernel_rfl
 have c2:prog.cellsOf 86=1:=by kernel_rfl
 have hk:prog.keyType 102=true:=by kernel_rfl
 obtain⟨m,hm⟩ : ∃ m,prog.types.size=m+1:=⟨prog.types.size-1,by have:0<prog.types.size:=of_decide_eq_true (by kernel_rfl);omega⟩;unfold gS keyOf;simp only[underlying102];rw[if_pos (by simp[hk,Value.formed,underlying102,c1,gE]),hm];unfold Program.keyLits;simp only[underlying102,Value.cells,gE];rw[if_pos (by rw[c1];rfl)];simp[List.range_succ,Program.keyLits,underlying86,c2,gC (h 0),gC (h 1),gC (h 2),gC (h 3),gC (h 4),gC (h 5),gC (h 6),gC (h 7)]
theorem wj(w:World):Calls prog 45 #[] w fun e w'=>e=.returned (.agg #[.map (some (w.heap.size+1))])/\ba 88 w' (w.heap.size+1) []/\w'.heap.size=w.heap.size+2/\Below w.heap.size w w':=by
 have a:=@run_makeMap prog;have hN:=jR 88 (w.alloc (.cells #[.map (some (w.heap.size+1))] 98));rw[ah]at hN;have hB:=aH w (.cells #[.map (some (w.heap.size+1))] 98) (.map #[] 0);have HN:=ae hN;have HB:=ae hB;clear hN hB
 go_enter func45,ntmps45
 go_wp2;refine bodyPost_ret (v:=.agg #[.map (some (w.heap.size+1))]) (by simp[results,results45,go_sem]) rfl ?_;refine⟨rfl,HN.u,by rw[ah,ah],HB.u⟩
theorem xX(b:Nat)(g:Nat->Nat)(ks:List Value)(w:World)(h:ba 88 w b ks)(hg:Fit g)(hn:ks.length<100000) :
  Calls prog 46 #[.agg #[.map (some b)],fZ g] w fun e w'=>∃ i ks' f,e=.returned (.tuple #[.int .i64 (i:Nat),.bool f])/\lB ks (fZ g) ks' i f/\ba 88 w' b ks'/\aR (dD w b) w w':=by
 have hB:=aH w (.cells #[.map (some b)] 98) (.cells #[.int .u64 (g 0:Nat),.int .u64 (g 1:Nat),.int .u64 (g 2:Nat),.int .u64 (g 3:Nat)] 88);have hlt:=h.lt;have hW:=h.keep (hB.block b hlt);have hz:((w.alloc (.cells #[.map (some b)] 98)).alloc (.cells #[.int .u64 (g 0:Nat),.int .u64 (g 1:Nat),.int .u64 (g 2:Nat),.int .u64 (g 3:Nat)] 88)).heap.size=w.heap.size+2:=by rw[ah,ah]
 have c:Hi (aR (dD w b) w ((w.alloc (.cells #[.map (some b)] 98)).alloc (.cells #[.int .u64 (g 0:Nat),.int .u64 (g 1:Nat),.int .u64 (g 2:Nat),.int .u64 (g 3:Nat)] 88))):=bh hB (fun k hk=>Or.inr hk);rcases hW.look Tryz.lawBs underlying96 (zT hg) with ⟨i,hi,hl⟩|⟨a,hl⟩
 ·have HW:=ae hW;have HI:=ae hi;clear hW hi h hB;unfold fZ at hl ⊢
  go_enter func46,ntmps46
  go_wp2
  go_ret2;exact⟨i,ks,false,rfl,Or.inl ⟨List.mem_of_getElem? HI.u,rfl,HI.u,rfl⟩,HW.u,c.u⟩
 have p:=fun ty=>hW.len underlying96 ty
 obtain⟨w3,d,j,l⟩:=hW.put Tryz.lawBs underlying96 hn (zT hg) a;have m:=ae j;have n:=ae (c.u.trans (l.fro (Or.inl rfl)));have o:=ae a;clear hW a h hB j l;unfold fZ at hl d ⊢
 go_enter func46,ntmps46
 go_wp2
 go_ret2;exact⟨ks.length,ks++[fZ g],true,rfl,Or.inr ⟨o.u,rfl,rfl,rfl⟩,m.u,n.u⟩
theorem vP(w:World):Calls prog 86 #[] w fun e w'=>e=.returned (.agg #[.map (some (w.heap.size+1))])/\ba 102 w' (w.heap.size+1) []/\w'.heap.size=w.heap.size+2/\Below w.heap.size w w':=by
 have a:=@run_makeMap prog;have hN:=jR 102 (w.alloc (.cells #[.map (some (w.heap.size+1))] 154));rw[ah]at hN;have hB:=aH w (.cells #[.map (some (w.heap.size+1))] 154) (.map #[] 0);have HN:=ae hN;have HB:=ae hB;clear hN hB
 go_enter func86,ntmps86
 go_wp2;refine bodyPost_ret (v:=.agg #[.map (some (w.heap.size+1))]) (by simp[results,results86,go_sem]) rfl ?_;refine⟨rfl,HN.u,by rw[ah,ah],HB.u⟩
theorem Aw(b:Nat)(g:Nat->Nat)(ks:List Value)(w:World)(h:ba 102 w b ks)(hg:Fit g)(hn:ks.length<100000) :
  Calls prog 88 #[.agg #[.map (some b)],gE g] w fun e w'=>∃ i ks' f,e=.returned (.tuple #[.int .i64 (i:Nat),.bool f])/\lB ks (gE g) ks' i f/\ba 102 w' b ks'/\aR (dD w b) w w':=by
 have hB:=aH w (.cells #[.map (some b)] 154) (.cells #[.int .u64 (g 0:Nat),.int .u64 (g 1:Nat),.int .u64 (g 2:Nat),.int .u64 (g 3:Nat),.int .u64 (g 4:Nat),.int .u64 (g 5:Nat),.int .u64 (g 6:Nat),.int .u64 (g 7:Nat)] 102);have hlt:=h.lt;have hW:=h.keep (hB.block b hlt);have hz:((w.alloc (.cells #[.map (some b)] 154)).alloc (.cells #[.int .u64 (g 0:Nat),.int .u64 (g 1:Nat),.int .u64 (g 2:Nat),.int .u64 (g 3:Nat),.int .u64 (g 4:Nat),.int .u64 (g 5:Nat),.int .u64 (g 6:Nat),.int .u64 (g 7:Nat)] 102)).heap.size=w.heap.size+2:=by rw[ah,ah]
 have c:Hi (aR (dD w b) w ((w.alloc (.cells #[.map (some b)] 154)).alloc (.cells #[.int .u64 (g 0:Nat),.int .u64 (g 1:Nat),.int .u64 (g 2:Nat),.int .u64 (g 3:Nat),.int .u64 (g 4:Nat),.int .u64 (g 5:Nat),.int .u64 (g 6:Nat),.int .u64 (g 7:Nat)] 102))):=bh hB (fun k hk=>Or.inr hk);rcases hW.look Tryz.lawPs underlying152 (yI hg) with ⟨i,hi,hl⟩|⟨a,hl⟩
 ·have HW:=ae hW;have HI:=ae hi;clear hW hi h hB;unfold gE at hl ⊢
  go_enter func88,ntmps88
  go_wp2
  go_ret2;exact⟨i,ks,false,rfl,Or.inl ⟨List.mem_of_getElem? HI.u,rfl,HI.u,rfl⟩,HW.u,c.u⟩
 have p:=fun ty=>hW.len underlying152 ty
 obtain⟨w3,d,j,l⟩:=hW.put Tryz.lawPs underlying152 hn (yI hg) a;have m:=ae j;have n:=ae (c.u.trans (l.fro (Or.inl rfl)));have o:=ae a;clear hW a h hB j l;unfold gE at hl d ⊢
 go_enter func88,ntmps88
 go_wp2
 go_ret2;exact⟨ks.length,ks++[gE g],true,rfl,Or.inr ⟨o.u,rfl,rfl,rfl⟩,m.u,n.u⟩
theorem Tryz.zinBoolM:(prog.info? 4).map (fun i=>(i.zero,i.size,i.bytes))=some (some (.bool false),1,1):=by kernel_rfl
abbrev vB (b n:Nat):Value:=.slice (some ⟨b,0,none⟩) (n+1) (n+1)
def BR(w:World)(n b:Nat)(F:Nat->Bool):Prop:=w.rowIs b 4 (n+1) (fun j=>.bool (F j))
theorem BR.keep{w w':World}{n b:Nat}{F:Nat->Bool}(h:BR w n b F)(e:w'.heap[b]?=w.heap[b]?):BR w' n b F:=World.rowIs.of_block h e
theorem BR.lt{w:World}{n b:Nat}{F:Nat->Bool}(h:BR w n b F):b<w.heap.size:=by
 obtain⟨c,hc,-⟩:=h;exact(Array.getElem?_eq_some_iff.1 hc).1
theorem BR.below{w w':World}{n b m:Nat}{F:Nat->Bool}(h:BR w n b F)(hb:Below m w w')(hm:w.heap.size<=m):BR w' n b F:=h.keep (hb.block b (Nat.lt_of_lt_of_le h.lt hm))
theorem BR.same{w:World}{n b:Nat}{F G:Nat->Bool}(h:BR w n b F)(e:∀ j,j<=n->F j=G j):BR w n b G:=World.rowIs.congr h (fun j hj=>by rw[e j (by omega)])
theorem fT(w:World)(n:Nat):BR (w.alloc (.cells (madeCells #[.bool false] (n+1)) 4)) n w.heap.size (fun _=>false):=World.rowIs_made w (.bool false) (n+1) 4
theorem ja(w:World)(n g s:Nat)(F H:Nat->Bool)(hg:BR w n g F)(hs:BR w n s H) :
  ∃ w':World,(∀ ty,Sem.run prog (Builtin.copy_ #[31,31] ty #[vB g n,vB s n]) w=.ok (goInt (n+1)) w')/\BR w' n g H/\cd g w w':=by
 obtain⟨c,hc,d,-⟩:=hg;have a:((List.range (n+1)).map (fun j=>Value.bool (H j))).length=n+1:=by simp
 have b:(prog.info? 4).map (·.size)=some 1:=by
  have:=congrArg (Option.map (fun x:Option Value×Nat×Nat=>x.2.1)) Tryz.zinBoolM;rw[Option.map_map]at this;exact this
 have hr:∀ ty,Sem.run prog (Builtin.copy_ #[31,31] ty #[vB g n,vB s n]) w=_:=fun ty=>run_copy_row (P:=prog) w 31 31 ty 4 g 0 (n+1) (n+1) ⟨s,0,none⟩ (n+1) (n+1) c 4 ((List.range (n+1)).map (fun j=>Value.bool (H j))) underlying31 b hc (by rw[a];simp) (fun j v hv=>by
  rw[List.getElem?_map]at hv
  by_cases e:j<n+1
  ·rw[List.getElem?_range e]at hv;simp only[Option.map_some,Option.some.injEq]at hv;subst hv;have e3:(⟨s,0,none⟩ : Addr).add j=⟨s,j,none⟩:=by cases j<;>simp[Addr.add]
   rw[e3];exact World.rowIs.cell hs e
  ·rw[List.getElem?_eq_none (by simpa using e)]at hv;cases hv) (by rw[a];omega) (fun v hv=>by
  obtain⟨j,-,rfl⟩:=List.mem_map.1 hv
  rfl)
 rw[a]at hr;refine⟨_,hr,?_,⟨rfl,rfl,rfl,by simp[World.setRow],fun k hk=>setRow_other w g k _ hk⟩⟩;refine⟨_,setRow_heap w g _ _ _ _ hc,by simp;omega,fun i hi=>?_⟩;simp only[List.take_zero,List.nil_append,Nat.zero_add];rw[List.getElem?_toArray,List.getElem?_append_left (by rw[a];exact hi),List.getElem?_map,List.getElem?_range hi]
 rfl
theorem lQ{g m:Nat}{a b:World}(h:cd g a b)(hm:m<=g):Below m a b:=⟨h.os,h.tape,h.output,by rw[h.size];exact Nat.le_refl _,fun k hk=>h.block k (by omega)⟩
abbrev CJ (w:World) (A:Nat):Nat->Prop:=fun k=>k=A∨w.heap.size<=k
theorem tU(n A B:Nat)(F H:Nat->Bool)(w:World)(hA:BR w n A F)(hB:BR w n B H)(hne:A≠B)(hn:n<=100000) :
  Calls prog 73 #[vB A n,vB B n] w fun e w'=>∃ b,e=.returned (.tuple #[vB w.heap.size n,.bool b])/\BR w' n A (fun j=>F j||H j)/\BR w' n w.heap.size (fun j=>H j && !F j)/\(b=true↔∃ j,j<=n/\H j=true/\F j=false)/\aR (CJ w A) w w':=by
 have f:=run_make_row' (P:=prog) 31 4 (.bool false) 1 underlying31 Tryz.zinBoolM rfl .i64 .i64 (n+1) (by omega) (by omega);simp only[Int.natCast_add,Int.natCast_one]at f;have y:=hA.lt;have z:=hB.lt;have h0:=fT w n;have d:=ai w (.cells (madeCells #[.bool false] (n+1)) 4);have g:=hA.below d lR;have l:=hB.below d lR;have m:aR (CJ w A) w (w.alloc (.cells (madeCells #[.bool false] (n+1)) 4)):=bh d (fun k hk=>Or.inr hk);have p:=ae h0;have q:=ae g;have r:=ae l;have s:=ae m;clear h0 d g l m hA hB
 go_enter func73,ntmps73
 go_wp2_with fail
 go_loopw [7,8] (fun sv iv wr=>∃ (i:Nat) (b:Bool),i<=n+1/\iv=.int .i64 i/\sv=.bool b/\(b=true↔∃ j,j<i/\H j=true/\F j=false)/\BR wr n A (fun j=>F j||(decide (j<i)&&H j))/\BR wr n w.heap.size (fun j=>decide (j<i)&&(H j && !F j))/\BR wr n B H/\aR (CJ w A) w wr) (fun _ iv _=>n+1-(intOf iv).toNat)
 case atStart=>exact⟨0,false,Nat.zero_le _,rfl,rfl,⟨fun h=>(by cases h),fun ⟨j,hj,_⟩=>absurd hj (Nat.not_lt_zero _)⟩,q.u.same (fun j _=>by simp),p.u.same (fun j _=>by simp),r.u,s.u⟩
 clear p q r s f;obtain⟨i,b,hi,rfl,rfl,hb,hA,hG,hB,hF⟩:=hrel;have HA:=ae hA;have HG:=ae hG;have HB:=ae hB;have HF:=ae hF;have Hb:=ae hb
 by_cases hlt:i<n+1
 ·have t:(i:Int)<((n+1:Nat):Int):=by omega
  have x:(i:Int)<(n:Int)+1:=by omega
  have c1:=World.rowIs.cell hB hlt;have c2:=World.rowIs.cell hA hlt;simp only[Nat.lt_irrefl,decide_false,Bool.false_and,Bool.or_false]at c2;have c3:=World.rowIs.cell hG hlt;have f2:=World.rowIs.frozen hA i;have f3:=World.rowIs.frozen hG i;have c3':=fun v:Value=>aE (w:=wr) (b:=A) (o:=i) (b':=w.heap.size) (o':=i) (v:=v) (Or.inl (by omega))
  have f3':∀ v:Value,(wr.setCell ⟨A,i,none⟩ v).frozen? ⟨w.heap.size,i,none⟩=false:=fun v=>(World.rowIs.setOther hG (by show w.heap.size≠A;omega) v).frozen i
  clear hA hG hB hF hb;cases hHi:H i with
  | false =>
   rw[hHi]at c1;have a:=ae hHi;clear hHi;go_wp2
   go_roundw
   case rel =>
    refine⟨i+1,b,by omega,by go_num,rfl,?_,HA.u.same (fun j hj=>?_),HG.u.same (fun j hj=>?_),HB.u,HF.u⟩
    ·rw[Hb.u]
     constructor
     ·rintro⟨j,hj,h⟩;exact⟨j,by omega,h⟩
     rintro⟨j,hj,h⟩;refine⟨j,?_,h⟩
     by_cases e:j=i
     ·subst e;rw[a.u]at h;exact absurd h.1 (by decide)
     omega
    ·by_cases e:j=i
     ·subst e;simp[a.u]
     have:(j<i+1)↔(j<i):=by omega
     simp[this]
    by_cases e:j=i
    ·subst e;simp[a.u]
    have:(j<i+1)↔(j<i):=by omega
    simp[this]
   simp[intOf];omega
  | true =>
   rw[hHi]at c1;have a:=ae hHi;clear hHi;cases hFi:F i with
   | true =>
    rw[hFi]at c2;have c:=ae hFi;clear hFi;go_wp2
    go_roundw
    case rel =>
     refine⟨i+1,b,by omega,by go_num,rfl,?_,HA.u.same (fun j hj=>?_),HG.u.same (fun j hj=>?_),HB.u,HF.u⟩
     ·rw[Hb.u]
      constructor
      ·rintro⟨j,hj,h⟩;exact⟨j,by omega,h⟩
      rintro⟨j,hj,h⟩;refine⟨j,?_,h⟩
      by_cases e:j=i
      ·subst e;rw[c.u]at h;exact absurd h.2 (by decide)
      omega
     ·by_cases e:j=i
      ·subst e;simp[c.u]
      have:(j<i+1)↔(j<i):=by omega
      simp[this]
     by_cases e:j=i
     ·subst e;simp[c.u]
     have:(j<i+1)↔(j<i):=by omega
     simp[this]
    simp[intOf];omega
   | false =>
    rw[hFi]at c2;have c:=ae hFi;clear hFi;go_wp2
    go_roundw
    case rel =>
     refine⟨i+1,true,by omega,by go_num,rfl,⟨fun _=>⟨i,by omega,a.u,c.u⟩,fun _=>rfl⟩,?_,?_,?_,?_⟩
     ·refine World.rowIs.congr (World.rowIs.setOther (World.rowIs.set HA.u i (.bool true)) (by show A≠w.heap.size;omega) _) (fun j hj=>?_)
      by_cases e:j=i
      ·subst e;simp[a.u]
      have:(j<i+1)↔(j<i):=by omega
      simp[e,this]
     ·refine World.rowIs.congr (World.rowIs.set (World.rowIs.setOther HG.u (by show w.heap.size≠A;omega) _) i (.bool true)) (fun j hj=>?_)
      by_cases e:j=i
      ·subst e;simp[a.u,c.u]
      have:(j<i+1)↔(j<i):=by omega
      simp[e,this]
     ·exact World.rowIs.setOther (World.rowIs.setOther HB.u (by show B≠A;omega) _) (by show B≠w.heap.size;omega) _
     exact(HF.u.trans ((am i _).fro (Or.inl rfl))).trans ((am i _).fro (Or.inr lR))
    simp[intOf];omega
 have e:i=n+1:=by omega
 subst e;clear hA hG hB hF hb;go_wp2
 go_ret2;refine⟨b,rfl,HA.u.same (fun j hj=>by simp[show j<n+1 by omega]),HG.u.same (fun j hj=>by simp[show j<n+1 by omega]),?_,HF.u⟩;rw[Hb.u];exact⟨fun ⟨j,h1,h2⟩=>⟨j,by omega,h2⟩,fun ⟨j,h1,h2⟩=>⟨j,by omega,h2⟩⟩
end Go.Proofs.YtpmcjimgkabpeaaGreatDoor
namespace Go.Proofs.YtpmcjimgkabpeaaGreatDoor
open Go.RowKit Go.Proofs.Tryz
abbrev c8 (g:Nat->Nat):Array Value:=#[.int .u64 (g 0:Nat),.int .u64 (g 1:Nat),.int .u64 (g 2:Nat),.int .u64 (g 3:Nat),.int .u64 (g 4:Nat),.int .u64 (g 5:Nat),.int .u64 (g 6:Nat),.int .u64 (g 7:Nat)]
theorem gX{w:World}{B:Nat}{t:TypeId}{g:Nat->Nat}(h:w.rowIs B t 8 (wd g)):w.heap[B]?=some (.cells (c8 g) t (0,0)):=by
 obtain⟨c,hc,hs,hf⟩:=h;rw[hc]
 congr 2
 refine Array.ext (by simp[hs]) (fun i h1 h2=>?_)
 have h3:=hf i (by omega);rw[Array.getElem?_eq_getElem h1]at h3;have h4:=Option.some.inj h3;rw[h4];have h5:i<8:=by omega
 match i,h5 with
 | 0,_=>rfl
 | 1,_=>rfl
 | 2,_=>rfl
 | 3,_=>rfl
 | 4,_=>rfl
 | 5,_=>rfl
 | 6,_=>rfl
 | 7,_=>rfl
theorem Ej(g:Nat->Nat):(c8 g).all (·.oneCell')=true:=by simp[Value.oneCell']
theorem dF(w:World)(t:TypeId)(g:Nat->Nat):(w.alloc (.cells (c8 g) t)).rowIs w.heap.size t 8 (wd g):=kC w t g
theorem Ab{w:World}{B:Nat}{g:Nat->Nat}(h:w.heap[B]?=some (.cells (c8 g) 102 (0,0))){fn:Func}{p:Tmp}(hr:fn.results=#[.cell p 102])(tmps:Array Value)(hp:tmps.getD p undef=.pointer (some ⟨B,0,none⟩)):(results fn tmps).run prog w=.ok (gE g) w:=
 results_cell_row hr tmps w B _ _ _ _ hp h underlying102 rfl (by kernel_rfl)
theorem uG(b o n i:Nat)(t:TypeId)(F:Nat->Value)(g:Nat->Nat)(w:World)(hg:Fit g)(hi:i<512)(hrow:w.rowIs b t n F)(hF:∀ j,j<8->F (o+j)=wd g j)(ho:o+8<=n) :
  Calls prog 47 #[.pointer (some ⟨b,o,none⟩),.int .i64 i] w fun e w'=>e=.returned (.tuple #[])/\w'.rowIs b t n (fun k=>if o<=k/\k<o+8 then wd (iA g i) (k-o) else F k)/\cd b w w':=by
 have hq:i / 64<8:=by omega
 have c0:=hrow.cell (i:=o+i / 64) (by omega);rw[hF _ hq]at c0;have f0:=hrow.frozen (o+i / 64);unfold wd at c0;have d:((i / 64:Nat):Int)<8:=by omega
 have f:(i:Int) / 64<8:=by omega
 have h:0<=(i:Int) / 64:=by omega
 have a:=tO (g (i / 64)) (i%64) (hg _) (by omega);have c:=ae a;have HR:=ae hrow;have HF:=ae hF;clear hrow a hg hF
 go_enter func47,ntmps47
 go_region
 go_wp2;rw[c.u]
 first|(refine bodyPost_ret (results_none rfl _ _ _) rfl ?_)|(refine bodyPost_end (results_none rfl _ _ _) rfl ?_)
 refine⟨rfl,((HR.u.set (o+i / 64) _).congr (fun k _=>?_)).drew,(am _ _).drew⟩
 by_cases e:k=o+i / 64
 ·subst e;rw[if_pos rfl,if_pos (by omega),show o+i / 64-o=i / 64 by omega];unfold wd iA;rw[if_pos rfl]
 rw[if_neg e]
 by_cases e2:o<=k/\k<o+8
 ·rw[if_pos e2];have h1:=HF.u (k-o) (by omega);rw[show o+(k-o)=k by omega]at h1;rw[h1];unfold wd iA;rw[if_neg (by omega)]
 rw[if_neg e2]
theorem cd.bel2{g m:Nat}{a b:World}(h:cd g a b)(hm:m<=g):Below m a b:=⟨h.os,h.tape,h.output,by rw[h.size];exact Nat.le_refl _,fun k hk=>h.block k (by omega)⟩
def cC(g h:Nat->Nat):Nat->Nat:=fun j=>g j &&& h j
theorem jp{g h:Nat->Nat}(a:Fit g):Fit (cC g h):=fun j=>Nat.lt_of_le_of_lt Nat.and_le_left (a j)
theorem gi(g h:Nat->Nat)(b:Nat):Bt (cC g h) b=(Bt g b&&Bt h b):=by unfold Bt cC;rw[Nat.testBit_and]
theorem qO(g h:Nat->Nat)(w:World)(hg:Fit g)(hh:Fit h) :
  Calls prog 93 #[gE g,gE h] w fun e w'=>e=.returned (gE (cC g h))/\Below w.heap.size w w':=by
 obtain⟨W,hW⟩ : ∃ W,W=((w.alloc (.cells (c8 g) 102)).alloc (.cells (c8 h) 102)).alloc (.cells #[.int .u64 0,.int .u64 0,.int .u64 0,.int .u64 0,.int .u64 0,.int .u64 0,.int .u64 0,.int .u64 0] 102):=⟨_,rfl⟩;have d:W.rowIs w.heap.size 102 8 (wd g):=by rw[hW];exact((dF w _ g).alloc _).alloc _
 have a:W.rowIs (w.heap.size+1) 102 8 (wd h):=by
  have:=dF (w.alloc (.cells (c8 g) 102)) 102 h;rw[ah]at this;rw[hW];exact this.alloc _
 have c:W.rowIs (w.heap.size+2) 102 8 (wd (fun _=>0)):=by
  have:=dF ((w.alloc (.cells (c8 g) 102)).alloc (.cells (c8 h) 102)) 102 (fun _=>0);rw[ah,ah]at this;rw[hW];exact this
 have hB:Below w.heap.size w W:=by rw[hW];exact(aH w _ _).alloc (by rw[ah,ah];omega) _
 have HG:=ae hg;have HH:=ae hh;have H0:=ae d;have H1:=ae a;have H2:=ae c;have HB:=ae hB;have HW:=ae hW;clear hg hh d a c hB hW;unfold gE
 go_enter func93,ntmps93
 go_wp2_with fail;rw[<-HW.u];clear HW
 go_loopw [6] (fun iv wr=>∃ i:Nat,i<=8/\iv=.int .i64 i/\wr.rowIs w.heap.size 102 8 (fun k=>if k<i then wd (cC g h) k else wd g k)/\wr.rowIs (w.heap.size+1) 102 8 (wd h)/\wr.rowIs (w.heap.size+2) 102 8 (wd (fun _=>0))/\Below w.heap.size w wr) (fun iv _=>8-(intOf iv).toNat)
 case atStart=>exact⟨0,by omega,rfl,H0.u.congr (fun k _=>by rw[if_neg (by omega)]),H1.u,H2.u,HB.u⟩
 clear H0 H1 H2 HB;obtain⟨i,hi,rfl,hr,a,c,hb⟩:=hrel
 by_cases hlt:i<8
 ·have n:(i:Int)<8:=by omega
  have c0:wr.cell? ⟨w.heap.size,i,none⟩=some (.int .u64 (g i:Nat)):=by rw[hr.cell hlt,if_neg (by omega)];rfl
  have f0:=hr.frozen i;have c1:wr.cell? ⟨w.heap.size+1,i,none⟩=some (.int .u64 (h i:Nat)):=a.cell hlt;have f:=bits_and_u64_nat (g i) (h i) (HG.u i) (HH.u i);have HR:Hi ((wr.setCell ⟨w.heap.size,i,none⟩ (.int .u64 ((g i &&& h i:Nat):Int))).rowIs w.heap.size 102 8 (fun k=>if k<i+1 then wd (cC g h) k else wd g k)):=(hr.set i _).congr (fun k _=>by
   by_cases e:k=i
   ·subst e;rw[if_pos rfl,if_pos (by omega)];rfl
   rw[if_neg e]
   by_cases e2:k<i
   ·rw[if_pos e2,if_pos (by omega)]
   rw[if_neg e2,if_neg (by omega)])
  have j:Hi ((wr.setCell ⟨w.heap.size,i,none⟩ (.int .u64 ((g i &&& h i:Nat):Int))).rowIs (w.heap.size+1) 102 8 (wd h)):=a.setOther (by show w.heap.size+1≠w.heap.size;omega) _;have l:Hi ((wr.setCell ⟨w.heap.size,i,none⟩ (.int .u64 ((g i &&& h i:Nat):Int))).rowIs (w.heap.size+2) 102 8 (wd (fun _=>0))):=c.setOther (by show w.heap.size+2≠w.heap.size;omega) _;have HB:=ae (aI hb lR (b:=w.heap.size) (o:=i) (.int .u64 ((g i &&& h i:Nat):Int)));have m:=ae f;clear hr a c hb f
  go_wp2_with fail
  go_region
  all_goals
   go_wp2;rw[m.u]
   go_roundw
   case rel=>exact⟨i+1,by omega,by go_num,HR.u.drew,j.u.drew,l.u.drew,HB.u.drew⟩
   simp[intOf];omega
 obtain rfl:i=8:=by omega
 have hA:wr.rowIs w.heap.size 102 8 (wd (cC g h)):=hr.congr (fun k hk=>by rw[if_pos hk]);have HA:=ae (gX hA);have HZ:Hi (wr.heap[w.heap.size+1+1]?=_):=gX c;have HB:=ae hb;clear hr a c hb hA
 go_wp2_with (first
  | (refine wpList_load_row rfl 102 (.tmp 2) rfl w.heap.size (by first|(simp[Act.eval];done)|(simp[Act.eval,Act.put];done)) 102 _ _ _ HA.u underlying102 rfl (by kernel_rfl) ?_)
  | (refine wpList_store_row rfl 102 (.tmp 4) (.tmp 18) rfl (w.heap.size+1+1) #[.int .u64 ((cC g h) 0:Nat),.int .u64 ((cC g h) 1:Nat),.int .u64 ((cC g h) 2:Nat),.int .u64 ((cC g h) 3:Nat),.int .u64 ((cC g h) 4:Nat),.int .u64 ((cC g h) 5:Nat),.int .u64 ((cC g h) 6:Nat),.int .u64 ((cC g h) 7:Nat)] (by first|(simp[Act.eval];done)|(simp[Act.eval,Act.put];done)) (by first|(simp[Act.eval];done)|(simp[Act.eval,Act.put];done)) 102 _ HZ.u (by kernel_rfl) rfl (Ej _) ?_))
 refine bodyPost_ret (Ab (setRow_heap _ _ _ _ _ _ HZ.u) rfl _ rfl) rfl ?_;exact⟨rfl,HB.u.trans (cd.bel2 ⟨rfl,rfl,rfl,by simp[World.setRow],fun k hk=>setRow_other _ _ k _ hk⟩ (by omega))⟩
def bY(ds ps:Nat->Nat->Nat)(b:Nat):Nat->Nat->Nat
 | 0=>fun _=>0
 | k+1=>if Bt (ds k) b then cD (bY ds ps b k) (ps k) else bY ds ps b k
theorem vg:Fit (fun _=>0):=fun _=>by show(0:Nat)<18446744073709551616;decide
theorem ic{ds ps:Nat->Nat->Nat}{b:Nat}:∀ {m:Nat},(∀ j,j<m->Fit (ps j))->Fit (bY ds ps b m)
 | 0,_=>vg
 | k+1,h=>by
  unfold bY
  split
  ·exact qq (ic (fun j hj=>h j (by omega))) (h k (by omega))
  exact ic (fun j hj=>h j (by omega))
theorem pV{ds ps:Nat->Nat->Nat}{b:Nat}(i:Nat):∀ m:Nat,Bt (bY ds ps b m) i=true↔∃ j,j<m/\Bt (ds j) b=true/\Bt (ps j) i=true
 | 0=>by
  constructor
  ·intro h;simp[bY,Bt]at h
  rintro⟨j,hj,-⟩;omega
 | k+1=>by
  unfold bY
  by_cases e:Bt (ds k) b=true
  ·rw[if_pos e,uW,Bool.or_eq_true,pV i k]
   constructor
   ·rintro(⟨j,hj,h⟩|h)
    ·exact⟨j,by omega,h⟩
    exact⟨k,by omega,e,h⟩
   rintro⟨j,hj,h⟩
   by_cases e2:j=k
   ·subst e2;exact Or.inr h.2
   exact Or.inl ⟨j,by omega,h⟩
  rw[if_neg e,pV i k]
  constructor
  ·rintro⟨j,hj,h⟩;exact⟨j,by omega,h⟩
  rintro⟨j,hj,h⟩
  by_cases e2:j=k
  ·subst e2;exact absurd h.1 e
  exact⟨j,by omega,h⟩
abbrev Ec (w:World) (v:Value) (m:Nat) (ds:Nat->Nat->Nat):Prop:=w.ownsRow 0 88 4 v m (be 4 m ds)
abbrev AK (w:World) (v:Value) (m:Nat) (ps:Nat->Nat->Nat):Prop:=w.ownsRow 0 102 8 v m (be 8 m ps)
theorem zE{w:World}{v:Value}{m i:Nat}{ds:Nat->Nat->Nat}(h:Ec w v m ds)(hi:i<m):∃ g cap,v=.slice (some ⟨g,0,none⟩) m cap/\g<w.heap.size/\(∀ W:World,W.heap[g]?=w.heap[g]?->∀ j,j<4->W.cell? ⟨g,i*4+j,none⟩=some (wd (ds i) j)):=by
 obtain⟨g,cap,M,F,rfl,hlt,hr,hM,hF,-⟩:=fe h (by omega);refine⟨g,cap,rfl,hlt,fun W hW j hj=>?_⟩;have h1:=hF (i*4+j) (by omega);rw[dr _ _ _ (by omega),show(i*4+j) / 4=i by omega,show(i*4+j)%4=j by omega]at h1;rw[World.cell?_of_block (a:=⟨g,i*4+j,none⟩) hW,hr.cell (by omega)];exact h1.symm
theorem pB{w:World}{v:Value}{m i:Nat}{ps:Nat->Nat->Nat}(h:AK w v m ps)(hi:i<m):∃ g cap M F,v=.slice (some ⟨g,0,none⟩) m cap/\g<w.heap.size/\w.rowIs g 102 M F/\i*8+8<=M/\(∀ j,j<8->F (i*8+j)=wd (ps i) j)/\
  ∀ (w':World) (x:Nat->Nat),w'.rowIs g 102 M (fun k=>if i*8<=k/\k<i*8+8 then wd x (k-i*8) else F k)->AK w' v m (fun j=>if j=i then x else ps j):=by
 obtain⟨g,cap,M,F,rfl,hlt,hr,hM,hF,a⟩:=fe h (by omega);refine⟨g,cap,M,F,rfl,hlt,hr,by omega,fun j hj=>?_,fun w' x hr'=>?_⟩
 ·have h1:=hF (i*8+j) (by omega);rw[dr _ _ _ (by omega),show(i*8+j) / 8=i by omega,show(i*8+j)%8=j by omega]at h1;exact(Option.some.inj h1).symm
 refine a w' _ _ hr' (kK _ _ _) (fun k hk=>?_)
 rw[dr _ _ _ hk]
 by_cases e:i*8<=k/\k<i*8+8
 ·rw[if_pos e,if_pos (by omega),show k%8=k-i*8 by omega]
 rw[if_neg e,if_neg (by omega)];have h2:=hF k hk;rw[dr _ _ _ hk]at h2;exact h2
theorem nF(b m:Nat)(sv pv:Value)(ds ps:Nat->Nat->Nat)(w:World)(hb:b<256)(hm:m<=512)(hs:Ec w sv m ds)(hp:AK w pv m ps)(hds:∀ j,j<m->Fit (ds j))(hps:∀ j,j<m->Fit (ps j)) :
  Calls prog 87 #[.int .i64 b,sv,pv] w fun e w'=>e=.returned (gE (bY ds ps b m))/\Below w.heap.size w w':=by
 obtain⟨sa,sc,rfl⟩:=aj hs;obtain⟨pa,pc,rfl⟩:=aj hp;obtain⟨H,hH⟩ : ∃ H,H=bY ds ps b m:=⟨_,rfl⟩;rw[<-hH];have L:=ae hH;clear hH;obtain⟨W,hW⟩ : ∃ W,W=(w.alloc (.cells #[.int .u64 0,.int .u64 0,.int .u64 0,.int .u64 0,.int .u64 0,.int .u64 0,.int .u64 0,.int .u64 0] 102)).alloc (.cells #[.int .u64 0,.int .u64 0,.int .u64 0,.int .u64 0,.int .u64 0,.int .u64 0,.int .u64 0,.int .u64 0] 102):=⟨_,rfl⟩;have f:W.rowIs w.heap.size 102 8 (wd (fun _=>0)):=by rw[hW];exact(dF w _ (fun _=>0)).alloc _
 have c:W.rowIs (w.heap.size+1) 102 8 (wd (fun _=>0)):=by
  have:=dF (w.alloc (.cells #[.int .u64 0,.int .u64 0,.int .u64 0,.int .u64 0,.int .u64 0,.int .u64 0,.int .u64 0,.int .u64 0] 102)) 102 (fun _=>0);rw[ah]at this;rw[hW];exact this
 have hB:Below w.heap.size w W:=by rw[hW];exact aH w _ _
 have hz:w.heap.size+2<=W.heap.size:=by rw[hW,ah,ah];omega
 have HS:=ae hs;have HP:=ae hp;have N:=ae hds;have E:=ae hps;have H0:=ae f;have H1:=ae c;have HB:=ae hB;have HW:=ae hW;clear hs hp hds hps f c hB hW
 go_enter func87,ntmps87
 go_wp2_with fail;rw[<-HW.u];clear HW
 go_loopw [12] (fun iv wr=>∃ i:Nat,i<=m/\iv=.int .i64 i/\wr.rowIs w.heap.size 102 8 (wd (fun _=>0))/\wr.rowIs (w.heap.size+1) 102 8 (wd (bY ds ps b i))/\w.heap.size+2<=wr.heap.size/\Below w.heap.size w wr) (fun iv _=>m-(intOf iv).toNat)
 case atStart=>exact⟨0,by omega,rfl,H0.u,H1.u,hz,HB.u⟩
 clear H0 H1 HB hz;obtain⟨i,hi,rfl,f,c,hz,d⟩:=hrel
 by_cases hlt:i<m
 ·have Q:(i:Int)<(m:Int):=by omega
  obtain⟨g,cap,e,hg,a⟩:=zE HS.u hlt;cases e;obtain⟨g2,cap2,M,F,e,O,v,hM,hF,-⟩:=pB HP.u hlt;cases e;have d0:=a wr (d.block g hg) 0 (by omega);have d1:=a wr (d.block g hg) 1 (by omega);have d2:=a wr (d.block g hg) 2 (by omega);have d3:=a wr (d.block g hg) 3 (by omega);unfold wd at d0 d1 d2 d3;rw[Nat.add_zero]at d0;have G:=ai wr (.cells #[.int .u64 (ds i 0:Nat),.int .u64 (ds i 1:Nat),.int .u64 (ds i 2:Nat),.int .u64 (ds i 3:Nat)] 88);have HH:=ae (Ez (ds i) b (wr.alloc (.cells #[.int .u64 (ds i 0:Nat),.int .u64 (ds i 1:Nat),.int .u64 (ds i 2:Nat),.int .u64 (ds i 3:Nat)] 88)) (N.u i hlt) hb);have x:=ae f;have y:=ae c;have o:=ae d;have p:=ae v;have HF:=ae hF;have z:=ae G;unfold fZ at HH;clear f c d v hF G a
  go_wp2_with fail;refine HH.u.mono ?_;rintro e w2 ⟨rfl,A⟩;have h:Below wr.heap.size wr w2:=z.u.trans (A.mono (by rw[ah];omega));have r:=x.u.of_block (h.block _ (by omega));have s:=y.u.of_block (h.block _ (by omega));have B:=p.u.of_block ((h.block g2 (by have:=o.u.size;omega)).trans (o.u.block g2 O));have l:Below w.heap.size w w2:=o.u.trans (h.mono o.u.size);have R:=h.size;cases hh:Bt (ds i) b with
  | false =>
   have n:=ae r;have I:Hi (w2.rowIs (w.heap.size+1) 102 8 (wd (bY ds ps b (i+1)))):=by
    show w2.rowIs _ _ _ (wd (bY ds ps b (i+1)));unfold bY;rw[if_neg (by rw[hh];decide)];exact s
   have q:=ae l;clear r s B l A h hh x y o p HF z HH;go_wp2
   go_roundw
   case rel=>exact⟨i+1,by omega,by go_num,n.u,I.u,by omega,q.u⟩
   simp[intOf];omega
  | true =>
   have HJ:=ae (il (w.heap.size+1) 0 8 g2 (i*8) M _ _ _ F (bY ds ps b i) (ps i) w2 (ic (fun j hj=>E.u j (by omega))) (E.u i hlt) (by omega) s (fun j hj=>by rw[Nat.zero_add]) (by omega) B HF.u hM);have n:=ae r;have q:=ae l;have P:=ae hh;clear r s B l A h hh x y o p HF z HH
   go_wp2_with fail;refine HJ.u.mono ?_;rintro e w3 ⟨rfl,J,t⟩;have C:=ae (n.u.of_block (t.block _ (by omega)));have D:Hi (w3.rowIs (w.heap.size+1) 102 8 (wd (bY ds ps b (i+1)))):=by
    show w3.rowIs _ _ _ (wd (bY ds ps b (i+1)));unfold bY;rw[if_pos P.u];exact J.congr (fun k hk=>by rw[if_pos (by omega),Nat.sub_zero])
   have K:=ae (q.u.trans (t.bel2 (by omega)));have S:=t.size;clear J t HJ n;go_wp2
   go_roundw
   case rel=>exact⟨i+1,by omega,by go_num,C.u,D.u,by omega,K.u⟩
   simp[intOf];omega
 obtain rfl:i=m:=by omega
 rw[<-L.u]at c;have HA:Hi (wr.heap[w.heap.size+1]?=_):=gX c;have HZ:Hi (wr.heap[w.heap.size]?=_):=gX f;have HB:=ae d;clear f c d
 go_wp2_with (first
  | (refine wpList_load_row rfl 102 (.tmp 7) rfl (w.heap.size+1) (by first|(simp[Act.eval];done)|(simp[Act.eval,Act.put];done)) 102 _ _ _ HA.u underlying102 rfl (by kernel_rfl) ?_)
  | (refine wpList_store_row rfl 102 (.tmp 6) (.tmp 25) rfl (w.heap.size) #[.int .u64 (H 0:Nat),.int .u64 (H 1:Nat),.int .u64 (H 2:Nat),.int .u64 (H 3:Nat),.int .u64 (H 4:Nat),.int .u64 (H 5:Nat),.int .u64 (H 6:Nat),.int .u64 (H 7:Nat)] (by first|(simp[Act.eval];done)|(simp[Act.eval,Act.put];done)) (by first|(simp[Act.eval];done)|(simp[Act.eval,Act.put];done)) 102 _ HZ.u (by kernel_rfl) rfl (Ej _) ?_))
 refine bodyPost_ret (Ab (setRow_heap _ _ _ _ _ _ HZ.u) rfl _ rfl) rfl ?_;exact⟨rfl,HB.u.trans (cd.bel2 ⟨rfl,rfl,rfl,by simp[World.setRow],fun k hk=>setRow_other _ _ k _ hk⟩ lR)⟩
def bu:List El->List (List Int)
 | []=>[]
 | x::r=>(if x.kind=1 then [x.set] else [])++bu r
theorem yD(s:Ms)(x:El):(eU s x).ss=s.ss++(if x.kind=1 then [x.set] else []):=by
 unfold eU
 repeat' split
 all_goals simp_all
theorem AW(L:List El):∀ s:Ms,(bR s L).ss=s.ss++bu L:=by
 induction L with
 | nil=>intro s;simp[bR,bu]
 | cons x r ih=>intro s;simp only[bR,bu];rw[ih,yD,List.append_assoc]
theorem cu.sets{L:List El}{n:Nat}{a:It}{ln:List Lk}{ss:List (List Int)}(h:cu L n a ln ss):ss=bu L:=by
 have h1:=AW L gL;rw[h gL]at h1
 simpa[gL]using h1
theorem dv:∀ L:List El,(bu L).length=aO L
 | []=>rfl
 | x::r=>by
  have:=dv r;simp only[bu,aO,List.length_append]
  split<;>simp<;>omega
def pu(a:It):Prop:=a.fi.Pairwise (· < ·)/\a.la.Pairwise (· < ·)
theorem zY{xs:List Nat}(h:xs.Pairwise (· < ·))(c:Nat):(xs.map (c + ·)).Pairwise (· < ·):=by
 rw[List.pairwise_map];exact h.imp (fun q=>by omega)
theorem lK{xs ys:List Nat}{n:Nat}(hx:xs.Pairwise (· < ·))(hy:ys.Pairwise (· < ·))(b:∀ x∈xs,x<n):(xs++ys.map (n + ·)).Pairwise (· < ·):=by
 rw[List.pairwise_append];refine⟨hx,zY hy n,fun p hp q hq=>?_⟩;obtain⟨z,-,rfl⟩:=List.mem_map.1 hq;have:=b p hp;omega
theorem pu.cat{a b:It}{n:Nat}(ha:pu a)(hb:pu b)(k:ig a n):pu (bV a (b.sh n)):=by
 refine⟨?_,?_⟩
 ·show(a.fi++(if a.nl then b.fi.map (n + ·) else [])).Pairwise (· < ·)
  split
  ·exact lK ha.1 hb.1 k.1
  rw[List.append_nil];exact ha.1
 show((if b.nl then a.la else [])++b.la.map (n + ·)).Pairwise (· < ·)
 split
 ·exact lK ha.2 hb.2 k.2
 rw[List.nil_append];exact zY hb.2 n
theorem pu.alt{a b:It}{n:Nat}(ha:pu a)(hb:pu b)(k:ig a n):pu (cP a (b.sh n)):=⟨lK ha.1 hb.1 k.1,lK ha.2 hb.2 k.2⟩
theorem oN:∀ {xs ys:List Nat},xs.Pairwise (· < ·)->ys.Pairwise (· < ·)->(∀ z,z∈xs↔z∈ys)->xs=ys
 | [],[],_,_,_=>rfl
 | [],y::ys,_,_,h=>by have:=(h y).2 (List.mem_cons_self ..);simp at this
 | x::xs,[],_,_,h=>by have:=(h x).1 (List.mem_cons_self ..);simp at this
 | x::xs,y::ys,hx,hy,h=>by
  rw[List.pairwise_cons]at hx hy;have e:x=y:=by
   have h1:=(h x).1 (List.mem_cons_self ..);have h2:=(h y).2 (List.mem_cons_self ..);rcases List.mem_cons.1 h1 with e|e
   ·exact e
   rcases List.mem_cons.1 h2 with e2|e2
   ·exact e2.symm
   have:=hy.1 x e;have:=hx.1 y e2;omega
  subst e;rw[oN hx.2 hy.2 (fun z=>?_)]
  constructor
  ·intro hz;have:=hx.1 z hz;rcases List.mem_cons.1 ((h z).1 (List.mem_cons_of_mem _ hz)) with e|e
   ·omega
   exact e
  intro hz;have:=hy.1 z hz;rcases List.mem_cons.1 ((h z).2 (List.mem_cons_of_mem _ hz)) with e|e
  ·omega
  exact e
theorem vw(n:Nat):(List.range n).Pairwise (· < ·):=List.pairwise_lt_range
theorem EZ{f:Nat->Nat}{xs:List Nat}(h:bD f xs)(ha:xs.Pairwise (· < ·))(hb:∀ x∈xs,x<512):gj f 512=xs:=by
 refine oN (List.Pairwise.filter _ (vw 512)) ha (fun z=>?_)
 have:=yY h hb z;rw[Bool.eq_iff_iff,List.contains_iff_mem,List.contains_iff_mem]at this;exact this
def fU(L:List El):Prop:=∀ k:Nat,k<L.length->iD (L[k]?.getD dE)
theorem fU.app{a b:List El}(h:fU a)(k:fU b):fU (a++b):=fun i hi=>by
 by_cases e:i<a.length
 ·rw[List.getElem?_append_left e];exact h i e
 rw[List.getElem?_append_right (by omega)];exact k _ (by rw[List.length_append]at hi;omega)
theorem fU.one{x:El}(h:iD x):fU [x]:=fun i hi=>by
 obtain rfl:i=0:=by simpa using hi
 exact h
theorem iG(L R:List El)(k:Int)(hk:k≠1):aO (L++R++[⟨k,[],0,0⟩])=aO L+aO R:=sD L R _ hk
theorem jr:∀ L:List El,2*(aO L:Int)<=L.length+bI L
 | []=>by simp[aO,bI]
 | x::r=>by
  have:=jr r;simp only[aO,bI,List.length_cons];unfold wt
  repeat' split
  all_goals simp_all
  all_goals omega
end Go.Proofs.YtpmcjimgkabpeaaGreatDoor
