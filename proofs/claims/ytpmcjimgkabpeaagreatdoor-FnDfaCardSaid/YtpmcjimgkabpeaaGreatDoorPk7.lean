import Derived.Test.YtpmcjimgkabpeaaGreatDoorPk6
import Derived.Lib.TrailingZeros
namespace Go.Proofs.YtpmcjimgkabpeaaGreatDoor
open Go.RowKit Go.Proofs.Tryz
set_option maxHeartbeats 16000000
set_option maxRecDepth 100000
def gE(g:Nat->Nat):Value:=.agg #[.int .u64 (g 0:Nat),.int .u64 (g 1:Nat),.int .u64 (g 2:Nat),.int .u64 (g 3:Nat),.int .u64 (g 4:Nat),.int .u64 (g 5:Nat),.int .u64 (g 6:Nat),.int .u64 (g 7:Nat)]
def cX(x:Nat):List Nat:=(List.range 64).filter (fun j=>x.testBit j)
def gj(g:Nat->Nat)(n:Nat):List Nat:=(List.range n).filter (Bt g)
theorem jY(k m j:Nat):((2 ^ k*(2*m+1)) &&& (2 ^ k*(2*m+1)-1)).testBit j=((2 ^ k*(2*m+1)).testBit j&&decide (j≠k)):=by
 have hp:0<2 ^ k:=Nat.two_pow_pos k;have e1:2 ^ k*(2*m+1)-1=2 ^ k*(2*m)+(2 ^ k-1):=by rw[Nat.mul_add];omega
 have e2:2 ^ k*(2*m+1)=2 ^ k*(2*m+1)+0:=rfl;rw[Nat.testBit_and,e1,Nat.testBit_two_pow_mul_add _ (by omega)]
 conv=>lhs;lhs;rw[e2,Nat.testBit_two_pow_mul_add _ hp]
 conv=>rhs;lhs;rw[e2,Nat.testBit_two_pow_mul_add _ hp]
 by_cases h:j<k
 ·simp[h]
 simp only[h,if_false]
 by_cases he:j=k
 ·subst he;simp[Nat.testBit_zero]
 obtain⟨d,rfl⟩ : ∃ d,j=k+(d+1):=⟨j-k-1,by omega⟩;rw[show k+(d+1)-k=d+1 by omega,Nat.testBit_succ,Nat.testBit_succ,show(2*m+1) / 2=m by omega,show 2*m / 2=m by omega];simp
theorem yJ(k m:Nat)(hk:k<64):cX (2 ^ k*(2*m+1))=k::cX ((2 ^ k*(2*m+1)) &&& (2 ^ k*(2*m+1)-1)):=by
 have hp:0<2 ^ k:=Nat.two_pow_pos k;have e:List.range 64=List.range k++(k::List.range' (k+1) (63-k)):=by
  rw[List.range_eq_range',List.range_eq_range',show k::List.range' (k+1) (63-k)=List.range' (0+1*k) (63-k+1) by rw[List.range'_succ];simp,List.range'_append]
  congr 1
  omega
 have t:∀ j,(2 ^ k*(2*m+1)).testBit j=if j<k then false else (2*m+1).testBit (j-k):=fun j=>by
  have:=Nat.testBit_two_pow_mul_add (2*m+1) hp j
  simpa using this
 unfold cX;rw[e,List.filter_append,List.filter_append,List.filter_cons,List.filter_cons];have n1:(List.range k).filter (fun j=>(2 ^ k*(2*m+1)).testBit j)=[]:=List.filter_eq_nil_iff.2 (fun j hj=>by rw[t,if_pos (List.mem_range.1 hj)];simp);have n2:(List.range k).filter (fun j=>((2 ^ k*(2*m+1)) &&& (2 ^ k*(2*m+1)-1)).testBit j)=[]:=List.filter_eq_nil_iff.2 (fun j hj=>by rw[jY,t,if_pos (List.mem_range.1 hj)];simp);rw[n1,n2,if_pos (by rw[t,if_neg (Nat.lt_irrefl _)];simp[Nat.testBit_zero]),if_neg (by rw[jY];simp)];simp only[List.nil_append]
 congr 1
 refine List.filter_congr (fun j hj=>?_)
 have:=(List.mem_range'_1.1 hj).1;rw[jY];simp;omega
theorem oD(x:Nat)(h0:x≠0)(hx:x<18446744073709551616):cX x=Lib.ctz 64 x::cX (x &&& (x-1))/\Lib.ctz 64 x<64/\x &&& (x-1)<x:=by
 obtain⟨m,hm,hk⟩:=Lib.ctzFrom_spec 64 x (by omega) hx;have e:Lib.ctz 64 x=Lib.ctzFrom 64 x:=by simp[Lib.ctz,h0]
 rw[e];refine⟨?_,hk,?_⟩
 ·have h:=yJ _ m hk;rw[<-hm]at h;exact h
 have:x &&& (x-1)<=x-1:=Nat.and_le_right;omega
theorem qQ:cX 0=[]:=by unfold cX;exact List.filter_eq_nil_iff.2 (fun j _=>by simp)
theorem xH(x:Nat):(cX x).length<=64:=by unfold cX;exact Nat.le_trans (List.length_filter_le _ _) (by simp)
theorem uu(g:Nat->Nat)(n:Nat):(gj g n).length<=n:=by unfold gj;exact Nat.le_trans (List.length_filter_le _ _) (by simp)
theorem rt(g:Nat->Nat)(i:Nat):gj g (64*(i+1))=gj g (64*i)++(cX (g i)).map (64*i + ·):=by
 unfold gj cX;rw[show 64*(i+1)=64*i+64 by omega,List.range_add,List.filter_append,List.filter_map]
 congr 2
 refine List.filter_congr (fun j hj=>?_)
 have:=List.mem_range.1 hj;simp only[Function.comp,Bt];rw[show(64*i+j) / 64=i by omega,show(64*i+j)%64=j by omega]
def TZ(w:World):Prop:=TabAt (Tryz.laysTZ_ren.g 1) Lib.deBruijn64tab w
theorem zc(x:Nat)(h0:x<18446744073709551616)(w:World)(h:TZ w):Calls prog 95 #[.int .u64 (x:Nat)] w fun e w'=>e=.returned (.int .i64 ((Lib.ctz 64 x:Nat):Int))/\w'=w:=
 Any7.bits_TrailingZeros64 Tryz.laysTZ x h0 w (fun _=>h)
theorem TZ.same{w w':World}(h:TZ w)(e:w'.heap[Tryz.laysTZ_ren.g 1]?=w.heap[Tryz.laysTZ_ren.g 1]?):TZ w':=fun j hj=>by
 rw[World.cell?_of_block (w:=w) (a:=⟨Tryz.laysTZ_ren.g 1,j,none⟩) e];exact h j hj
theorem TZ.below{w w':World}{m:Nat}(h:TZ w)(hb:Below m w w')(hm:Tryz.laysTZ_ren.g 1<m):TZ w':=h.same (hb.block _ hm)
theorem ER(g:Nat->Nat)(i:Nat)(h:i<8)(W:World):(Instr.index 102 (.agg #[.int .u64 (g 0:Nat),.int .u64 (g 1:Nat),.int .u64 (g 2:Nat),.int .u64 (g 3:Nat),.int .u64 (g 4:Nat),.int .u64 (g 5:Nat),.int .u64 (g 6:Nat),.int .u64 (g 7:Nat)]) (.int .i64 (i:Int))).run prog W=.ok (.int .u64 (g i:Nat)) W:=by
 obtain rfl|rfl|rfl|rfl|rfl|rfl|rfl|rfl:i=0∨i=1∨i=2∨i=3∨i=4∨i=5∨i=6∨i=7:=by omega
 all_goals kernel_rfl
theorem yz(g:Nat->Nat)(hf:Fit g)(w:World)(b:TZ w)(h0:Tryz.laysTZ_ren.g 1<w.heap.size) :
  Calls prog 119 #[gE g] w fun e w'=>∃ v',e=.returned v'/\w'.ownsRow w.heap.size 3 1 v' (gj g 512).length (((gj g 512).map Int.ofNat).map mI)/\Below w.heap.size w w':=by
 unfold gE;have q:Hi (∀ W,Below w.heap.size w W->TZ W):=fun W hW=>b.below hW h0
 have HF:=ae hf;have f:=ai w (.cells #[.int .u64 (g 0:Nat),.int .u64 (g 1:Nat),.int .u64 (g 2:Nat),.int .u64 (g 3:Nat),.int .u64 (g 4:Nat),.int .u64 (g 5:Nat),.int .u64 (g 6:Nat),.int .u64 (g 7:Nat)] 102);clear b hf
 go_enter func119,ntmps119
 go_wp2_with fail
 go_loopw [3,7] (fun ov iv wr=>∃ i:Nat,i<=8/\iv=.int .i64 i/\wr.ownsRow w.heap.size 3 1 ov (gj g (64*i)).length (((gj g (64*i)).map Int.ofNat).map mI)/\Below w.heap.size w wr) (fun _ iv _=>8-(intOf iv).toNat)
 case atStart=>exact⟨0,by omega,rfl,World.ownsRow_nil _ _ _ _,f⟩
 clear f;obtain⟨i,hi,rfl,a,hb⟩:=hrel;obtain⟨oa,oc,rfl⟩:=aj a;have HO:=ae a;clear a
 by_cases hlt:i<8
 ·have z:(i:Int)<8:=by omega
  have A:=ER g i hlt;have j:=HF.u i;have l:=ae (rt g i);have B:=uu g (64*i);clear HF
  go_wp2_with fail
  go_loopw [3,5] (fun ov xv wr=>∃ (Y:List Nat) (x:Nat),xv=.int .u64 x/\x<18446744073709551616/\Y.length+(cX x).length<=1000/\gj g (64*(i+1))=Y++(cX x).map (64*i + ·)/\wr.ownsRow w.heap.size 3 1 ov Y.length ((Y.map Int.ofNat).map mI)/\Below w.heap.size w wr) (fun _ xv _=>(intOf xv).toNat)
  case atStart=>exact⟨gj g (64*i),g i,rfl,j,by have:=xH (g i);omega,l.u,HO.u,hb⟩
  clear HO hb l j;obtain⟨Y,x,rfl,hx,c,hE,a,hb⟩:=hrel;obtain⟨oa,oc,rfl⟩:=aj a
  by_cases hx0:x=0
  ·subst hx0;rw[qQ,List.map_nil,List.append_nil]at hE;subst hE;have HO:=ae a;clear a;go_wp2
   go_roundw
   case rel=>exact⟨i+1,by omega,by go_num,HO.u,hb⟩
   simp[intOf];omega
  obtain⟨n1,n2,n3⟩:=oD x hx0 hx;have C:((x:Int)!=0)=true:=by simp;omega
  have D:((x:Int)==0)=false:=by simp;omega
  have a1:IntKind.u64.wrap ((x:Int)-1)=((x-1:Nat):Int):=by rw[IntKind.wrap_u64];omega
  obtain⟨x',m⟩ : ∃ x',x'=x &&& (x-1):=⟨_,rfl⟩;have a2:=bits_and_u64_nat x (x-1) hx (by omega);rw[<-m]at a2 n3 n1;have HO:=ae a;obtain⟨k,hk⟩ : ∃ k,k=Lib.ctz 64 x:=⟨_,rfl⟩;have b:=zc x hx wr (q.u _ hb);rw[<-hk]at b n2 n1;have HT:=ae b;have a3:IntKind.i64.wrap ((i:Int)*64)=(i:Int)*64:=lf (by omega) (by omega);have a4:IntKind.i64.wrap ((i:Int)*64+(k:Int))=(i:Int)*64+(k:Int):=lf (by omega) (by omega);have E:Y.length<=1000:=by omega
  have HL:Hi ((Y++[64*i+k]).length+(cX x').length<=1000):=by show _<=_;rw[n1]at c;simp only[List.length_cons,List.length_append,List.length_nil]at c ⊢;omega
  have HE:Hi (gj g (64*(i+1))=(Y++[64*i+k])++(cX x').map (64*i + ·)):=by show _=_;rw[hE,n1];simp
  have HM:Hi (((Y++[64*i+k]).map Int.ofNat).map mI=(Y.map Int.ofNat).map mI++[.int .i64 ((i:Int)*64+(k:Int))]):=by show _=_;simp[mI];omega
  have n:=hb.size;obtain⟨i0,r,s,t,v⟩:=info_parts Tryz.zinInt;clear a hE n1 b hk m c
  go_wp2_with fail;refine HT.u.mono ?_;rintro e w2 ⟨rfl,rfl⟩
  go_wp2_with (at_builtin;refine wpList_append_own _ rfl _ _ 30 rfl w.heap.size 3 i0 (.int .i64 0) 1 8 underlying30 r s t v rfl (by decide) _ _ _ rfl (World.ownsRow.alloc (w:=w2) HO.u _) ⟨w2.heap.size,0,none⟩ 1 1 [.int .i64 ((i:Int)*64+(k:Int))] rfl rfl (dJ (by simp)) (fun u' hu=>by simp at hu;subst hu;rfl) (by unfold maxLen;omega) (by omega) (by rw[ah];omega) ?_)
  intro v' w3 h5 o _;have d:w3.ownsRow w.heap.size 3 1 v' ((Y.map Int.ofNat).length+1) ((Y.map Int.ofNat).map mI++[.int .i64 ((i:Int)*64+(k:Int))]):=by rw[List.length_map,List.map_map];exact h5
  have p:=qF (os:=Y.map Int.ofNat) (by rw[List.length_map];exact HO.u) n (au w2 _) d o;have HR:Hi (w3.ownsRow w.heap.size 3 1 v' (Y++[64*i+k]).length (((Y++[64*i+k]).map Int.ofNat).map mI)):=by
   have h:=d;rw[<-HM.u,List.length_map]at h;show World.ownsRow _ _ _ _ _ _ _;rw[List.length_append];exact h
  have y:=ae (hb.trans p.2);clear h5 o d p;go_wp2
  go_roundw
  case rel=>exact⟨Y++[64*i+k],x',by go_num,by omega,HL.u,HE.u,HR.u,y.u⟩
  simp[intOf];omega
 obtain rfl:i=8:=by omega
 go_wp2;go_ret;exact⟨_,rfl,HO.u,hb⟩
def wd(g:Nat->Nat)(j:Nat):Value:=.int .u64 (g j:Nat)
def iA(g:Nat->Nat)(k:Nat):Nat->Nat:=fun j=>if j=k / 64 then g (k / 64) ||| 2 ^ (k%64) else g j
theorem pU{g:Nat->Nat}(h:Fit g)(k:Nat):Fit (iA g k):=fun j=>by
 unfold iA
 split
 ·exact yU _ _ (h _) (by omega)
 exact h j
def cD(g h:Nat->Nat):Nat->Nat:=fun j=>g j ||| h j
theorem qq{g h:Nat->Nat}(a:Fit g)(b:Fit h):Fit (cD g h):=fun j=>by
 have h1:g j<2 ^ 64:=a j;have h2:h j<2 ^ 64:=b j;exact Nat.or_lt_two_pow h1 h2
theorem uW(g h:Nat->Nat)(b:Nat):Bt (cD g h) b=(Bt g b||Bt h b):=by unfold Bt cD;rw[Nat.testBit_or]
theorem Ci(b i:Nat)(g:Nat->Nat)(w:World)(hg:Fit g)(hi:i<512)(hrow:w.rowIs b 102 8 (wd g)) :
  Calls prog 47 #[.pointer (some ⟨b,0,none⟩),.int .i64 i] w fun e w'=>e=.returned (.tuple #[])/\w'.rowIs b 102 8 (wd (iA g i))/\cd b w w':=by
 have hq:i / 64<8:=by omega
 have c0:=hrow.cell hq;have f0:=hrow.frozen (i / 64);unfold wd at c0;have d:((i / 64:Nat):Int)<8:=by omega
 have f:(i:Int) / 64<8:=by omega
 have h:0<=(i:Int) / 64:=by omega
 have a:=tO (g (i / 64)) (i%64) (hg _) (by omega);have c:=ae a;have HR:=ae hrow;clear hrow a hg
 go_enter func47,ntmps47
 go_region
 go_wp2;rw[c.u]
 first|(refine bodyPost_ret (results_none rfl _ _ _) rfl ?_)|(refine bodyPost_end (results_none rfl _ _ _) rfl ?_)
 exact⟨rfl,((HR.u.set (i / 64) _).congr (fun j _=>by unfold wd iA;by_cases e:j=i / 64<;>simp[e])).drew,(am _ _).drew⟩
theorem il(b o n c p m:Nat)(t t':TypeId)(F F':Nat->Value)(g h:Nat->Nat)(w:World)(hg:Fit g)(hh:Fit h)(hbc:b≠c)(hrow:w.rowIs b t n F)(hF:∀ j,j<8->F (o+j)=wd g j)(ho:o+8<=n)
  (hrow':w.rowIs c t' m F')(hF':∀ j,j<8->F' (p+j)=wd h j)(hp:p+8<=m) :
  Calls prog 94 #[.pointer (some ⟨b,o,none⟩),.pointer (some ⟨c,p,none⟩)] w fun e w'=>e=.returned (.tuple #[])/\w'.rowIs b t n (fun k=>if o<=k/\k<o+8 then wd (cD g h) (k-o) else F k)/\cd b w w':=by
 have HG:=ae hg;have HH:=ae hh;have HF:=ae hF;have q:=ae hF';have HR:=ae hrow;have r:=ae hrow';clear hg hh hF hF' hrow hrow'
 go_enter func94,ntmps94
 go_wp2_with fail
 go_loopw [5] (fun iv wr=>∃ i:Nat,i<=8/\iv=.int .i64 i/\wr.rowIs b t n (fun k=>if o<=k/\k<o+i then wd (cD g h) (k-o) else F k)/\cd b w wr) (fun iv _=>8-(intOf iv).toNat)
 case atStart=>exact⟨0,by omega,rfl,HR.u.congr (fun k _=>by rw[if_neg (by omega)]),⟨rfl,rfl,rfl,rfl,fun _ _=>rfl⟩⟩
 obtain⟨i,hi,rfl,hr,hb⟩:=hrel
 by_cases hlt:i<8
 ·have v:(i:Int)<8:=by omega
  have c0:wr.cell? ⟨b,o+i,none⟩=some (.int .u64 (g i:Nat)):=by
   rw[hr.cell (by omega),if_neg (by omega),HF.u i hlt];rfl
  have f0:=hr.frozen (o+i);have c1:wr.cell? ⟨c,p+i,none⟩=some (.int .u64 (h i:Nat)):=by
   rw[World.cell?_of_block (w:=w) (a:=⟨c,p+i,none⟩) (hb.block c (fun e=>hbc e.symm)),r.u.cell (by omega),q.u i hlt];rfl
  have l:=bits_or_u64_nat (g i) (h i) (HG.u i) (HH.u i);have f:Hi ((wr.setCell ⟨b,o+i,none⟩ (.int .u64 ((g i ||| h i:Nat):Int))).rowIs b t n (fun k=>if o<=k/\k<o+(i+1) then wd (cD g h) (k-o) else F k)):=(hr.set (o+i) _).congr (fun k hk=>by
   by_cases e:k=o+i
   ·subst e;rw[if_pos rfl,if_pos (by omega),show o+i-o=i by omega];rfl
   rw[if_neg e]
   by_cases e2:o<=k/\k<o+i
   ·rw[if_pos e2,if_pos (by omega)]
   rw[if_neg e2,if_neg (by omega)])
  have d:Hi (cd b w (wr.setCell ⟨b,o+i,none⟩ (.int .u64 ((g i ||| h i:Nat):Int)))):=hb.trans (am _ _);have s:=ae l;clear hr l
  go_wp2_with fail
  go_region
  all_goals
   go_wp2;rw[s.u]
   go_roundw
   case rel=>exact⟨i+1,by omega,by go_num,f.u,⟨d.u.os,d.u.tape,d.u.output,d.u.size,d.u.block⟩⟩
   simp[intOf];omega
 obtain rfl:i=8:=by omega
 have f:=ae hr;clear hr;go_wp2
 first|(refine bodyPost_ret (results_none rfl _ _ _) rfl ?_)|(refine bodyPost_end (results_none rfl _ _ _) rfl ?_)
 exact⟨rfl,f.u,hb⟩
/-! The values of the nodes. -/
def eV:Value:=.iface 186 (.agg #[])
def sV(g:Nat->Nat):Value:=.iface 91 (fZ g)
def cV(u v:Value):Value:=.iface 95 (.agg #[u,v])
def aV(u v:Value):Value:=.iface 149 (.agg #[u,v])
def rV(u:Value)(mn mx:Int):Value:=.iface 93 (.agg #[u,.int .i64 mn,.int .i64 mx])
theorem EW(x:Value)(w:World):Sem.run prog (Instr.typeAssert (.iface 186 x) 48 91 true) w=.ok (.tuple #[.agg #[.int .u64 0,.int .u64 0,.int .u64 0,.int .u64 0],.bool false]) w:=by kernel_rfl
theorem Fi(x:Value)(w:World):Sem.run prog (Instr.typeAssert (.iface 186 x) 48 95 true) w=.ok (.tuple #[.agg #[.nilIface,.nilIface],.bool false]) w:=by kernel_rfl
theorem Fb(x:Value)(w:World):Sem.run prog (Instr.typeAssert (.iface 186 x) 48 149 true) w=.ok (.tuple #[.agg #[.nilIface,.nilIface],.bool false]) w:=by kernel_rfl
theorem EX(x:Value)(w:World):Sem.run prog (Instr.typeAssert (.iface 186 x) 48 93 true) w=.ok (.tuple #[.agg #[.nilIface,.int .i64 0,.int .i64 0],.bool false]) w:=by kernel_rfl
theorem Ex(x:Value)(w:World):Sem.run prog (Instr.typeAssert (.iface 91 x) 48 91 true) w=.ok (.tuple #[x,.bool true]) w:=by kernel_rfl
theorem Fw(x:Value)(w:World):Sem.run prog (Instr.typeAssert (.iface 95 x) 48 91 true) w=.ok (.tuple #[.agg #[.int .u64 0,.int .u64 0,.int .u64 0,.int .u64 0],.bool false]) w:=by kernel_rfl
theorem EI(x:Value)(w:World):Sem.run prog (Instr.typeAssert (.iface 95 x) 48 95 true) w=.ok (.tuple #[x,.bool true]) w:=by kernel_rfl
theorem Em(x:Value)(w:World):Sem.run prog (Instr.typeAssert (.iface 149 x) 48 91 true) w=.ok (.tuple #[.agg #[.int .u64 0,.int .u64 0,.int .u64 0,.int .u64 0],.bool false]) w:=by kernel_rfl
theorem FC(x:Value)(w:World):Sem.run prog (Instr.typeAssert (.iface 149 x) 48 95 true) w=.ok (.tuple #[.agg #[.nilIface,.nilIface],.bool false]) w:=by kernel_rfl
theorem FF(x:Value)(w:World):Sem.run prog (Instr.typeAssert (.iface 149 x) 48 149 true) w=.ok (.tuple #[x,.bool true]) w:=by kernel_rfl
theorem EF(x:Value)(w:World):Sem.run prog (Instr.typeAssert (.iface 93 x) 48 91 true) w=.ok (.tuple #[.agg #[.int .u64 0,.int .u64 0,.int .u64 0,.int .u64 0],.bool false]) w:=by kernel_rfl
theorem Fm(x:Value)(w:World):Sem.run prog (Instr.typeAssert (.iface 93 x) 48 95 true) w=.ok (.tuple #[.agg #[.nilIface,.nilIface],.bool false]) w:=by kernel_rfl
theorem FA(x:Value)(w:World):Sem.run prog (Instr.typeAssert (.iface 93 x) 48 149 true) w=.ok (.tuple #[.agg #[.nilIface,.nilIface],.bool false]) w:=by kernel_rfl
theorem EU(x:Value)(w:World):Sem.run prog (Instr.typeAssert (.iface 93 x) 48 93 true) w=.ok (.tuple #[x,.bool true]) w:=by kernel_rfl
def dl(w:World)(b n:Nat)(f:Nat->Nat):Prop:=∃ m F,w.rowIs b 3 m F/\n<=m/\∀ j,j<n->F j=.int .i64 (f j:Nat)
theorem dl.cell{w:World}{b n:Nat}{f:Nat->Nat}(h:dl w b n f){j:Nat}(hj:j<n):w.cell? ⟨b,j,none⟩=some (.int .i64 (f j:Nat)):=by
 obtain⟨m,F,hF,hm,h1⟩:=h;rw[hF.cell (by omega),h1 j hj]
theorem dl.frozen{w:World}{b n:Nat}{f:Nat->Nat}(h:dl w b n f)(j:Nat):w.frozen? ⟨b,j,none⟩=false:=by
 obtain⟨m,F,hF,-⟩:=h;exact hF.frozen j
theorem dl.lt{w:World}{b n:Nat}{f:Nat->Nat}(h:dl w b n f):b<w.heap.size:=by
 obtain⟨m,F,hF,-⟩:=h;exact hF.lt
theorem dl.on{w w':World}{b n:Nat}{f:Nat->Nat}(h:dl w b n f)(e:w'.heap[b]?=w.heap[b]?):dl w' b n f:=by
 obtain⟨m,F,hF,h1⟩:=h;exact⟨m,F,hF.of_block e,h1⟩
theorem dl.put{w:World}{b n:Nat}{f:Nat->Nat}(h:dl w b n f)(i v:Nat):dl (w.setCell ⟨b,i,none⟩ (.int .i64 (v:Nat))) b n (bW f i v):=by
 obtain⟨m,F,hF,hm,h1⟩:=h;refine⟨m,_,hF.set i _,hm,fun j hj=>?_⟩
 by_cases e:j=i
 ·subst e;simp[bW]
 simp[bW,e,h1 j hj]
theorem dl.congr{w:World}{b n:Nat}{f f':Nat->Nat}(h:dl w b n f)(e:∀ j,j<n->f j=f' j):dl w b n f':=by
 obtain⟨m,F,hF,hm,h1⟩:=h;exact⟨m,F,hF,hm,fun j hj=>by rw[h1 j hj,e j hj]⟩
def bF(fr mk tt:Nat->Nat)(k:Nat):Value:=.int .i64 ((if k%3=0 then fr (k / 3) else if k%3=1 then mk (k / 3) else tt (k / 3):Nat):Int)
def bL(N:Nat)(fr mk tt:Nat->Nat):List Value:=(List.range (N*3)).map (bF fr mk tt)
theorem Ge(fr mk tt:Nat->Nat)(k:Nat):bF fr mk tt (k*3)=.int .i64 (fr k:Nat):=by simp[bF]
theorem Gb(fr mk tt:Nat->Nat)(k:Nat):bF fr mk tt (k*3+1)=.int .i64 (mk k:Nat):=by
 have h1:(k*3+1)%3=1:=by omega
 have h2:(k*3+1) / 3=k:=by omega
 simp[bF,h1,h2]
theorem Gc(fr mk tt:Nat->Nat)(k:Nat):bF fr mk tt (k*3+2)=.int .i64 (tt k:Nat):=by
 have h1:(k*3+2)%3=2:=by omega
 have h2:(k*3+2) / 3=k:=by omega
 simp[bF,h1,h2]
theorem mw(N:Nat)(fr mk tt:Nat->Nat):(bL N fr mk tt).length=N*3:=by simp[bL]
theorem oR{N:Nat}(fr mk tt:Nat->Nat){k:Nat}(h:k<N*3):(bL N fr mk tt)[k]?=some (bF fr mk tt k):=by simp[bL,h]
theorem Bp(N:Nat)(fr mk tt:Nat->Nat)(a b c:Nat):bL (N+1) (bW fr N a) (bW mk N b) (bW tt N c)=bL N fr mk tt++[.int .i64 (a:Nat),.int .i64 (b:Nat),.int .i64 (c:Nat)]:=by
 refine List.ext_getElem? (fun k=>?_)
 by_cases h1:k<N*3
 ·rw[List.getElem?_append_left (by rw[mw];exact h1),oR _ _ _ h1,oR _ _ _ (by omega)];have:k / 3≠N:=by omega
  simp[bF,bW,this]
 rw[List.getElem?_append_right (by rw[mw];omega),mw]
 by_cases h2:k<N*3+3
 ·rw[oR _ _ _ (by omega)];obtain rfl|rfl|rfl:k=N*3∨k=N*3+1∨k=N*3+2:=by omega
  ·rw[Ge];simp[bW]
  ·rw[Gb];simp[bW]
  rw[Gc];simp[bW]
 rw[List.getElem?_eq_none (by rw[mw];omega),List.getElem?_eq_none (by simp;omega)]
structure aU (O:Nat->Prop) (g mb mc pb pc bb bc:Nat) (w:World) (n N:Nat) (ms ps bs fr mk tt:Nat->Nat) (kb kc:Nat) (qv:Value) (qs:List Int) (tk:Nat):Prop where
 box:∃ F,w.rowIs g 199 6 F/\F 0=.slice (some ⟨mb,0,none⟩) n mc/\F 1=.slice (some ⟨pb,0,none⟩) n pc/\F 2=.slice (some ⟨bb,0,none⟩) n bc/\F 3=.slice (some ⟨kb,0,none⟩) N kc/\F 4=qv/\F 5=.int .i64 (tk:Nat)
 cap:n<=mc
 rm:dl w mb n ms
 rp:dl w pb n ps
 rb:dl w bb n bs
 rk:w.ownsRow 0 205 3 (.slice (some ⟨kb,0,none⟩) N kc) N (bL N fr mk tt)
 rq:w.ownsRow 0 3 1 qv qs.length (qs.map mI)
 ng:g≠mb/\g≠pb/\g≠bb/\g≠kb
 ne:mb≠pb/\mb≠bb/\mb≠kb/\pb≠bb/\pb≠kb/\bb≠kb
 oo:O g/\O mb/\O pb/\O bb/\O kb
 oq:∀ q,qv.ownBlock=some q->O q/\q≠g/\q≠mb/\q≠pb/\q≠bb/\q≠kb
section
variable {O:Nat->Prop} {g mb mc pb pc bb bc:Nat} {w:World} {n N:Nat} {ms ps bs fr mk tt:Nat->Nat} {kb kc:Nat} {qv:Value} {qs:List Int} {tk:Nat}
theorem aU.lt(h:aU O g mb mc pb pc bb bc w n N ms ps bs fr mk tt kb kc qv qs tk):g<w.heap.size:=by obtain⟨F,hF,-⟩:=h.box;exact hF.lt
theorem aU.ltk(h:aU O g mb mc pb pc bb bc w n N ms ps bs fr mk tt kb kc qv qs tk):kb<w.heap.size:=aB h.rk kb rfl
theorem aU.keep(h:aU O g mb mc pb pc bb bc w n N ms ps bs fr mk tt kb kc qv qs tk){w':World}(e:∀ k,O k->k<w.heap.size->w'.heap[k]?=w.heap[k]?):aU O g mb mc pb pc bb bc w' n N ms ps bs fr mk tt kb kc qv qs tk:=by
 obtain⟨F,hF,h1⟩:=h.box;obtain⟨o1,o2,o3,o4,o5⟩:=h.oo;exact⟨⟨F,hF.of_block (e g o1 hF.lt),h1⟩,h.cap,h.rm.on (e _ o2 h.rm.lt),h.rp.on (e _ o3 h.rp.lt),h.rb.on (e _ o4 h.rb.lt),ak h.rk (fun q hq=>by cases hq;exact e _ o5 h.ltk),ak h.rq (fun q hq=>e q (h.oq q hq).1 (aB h.rq q hq)),h.ng,h.ne,h.oo,h.oq⟩
theorem aU.mono(h:aU O g mb mc pb pc bb bc w n N ms ps bs fr mk tt kb kc qv qs tk){O':Nat->Prop}(e:∀ k,O k->O' k):aU O' g mb mc pb pc bb bc w n N ms ps bs fr mk tt kb kc qv qs tk:=by
 obtain⟨o1,o2,o3,o4,o5⟩:=h.oo;exact⟨h.box,h.cap,h.rm,h.rp,h.rb,h.rk,h.rq,h.ng,h.ne,⟨e _ o1,e _ o2,e _ o3,e _ o4,e _ o5⟩,fun q hq=>⟨e q (h.oq q hq).1,(h.oq q hq).2⟩⟩
theorem aU.skip(h:aU O g mb mc pb pc bb bc w n N ms ps bs fr mk tt kb kc qv qs tk){w':World}(hb:Below w.heap.size w w'):aU (Sk O w.heap.size w'.heap.size) g mb mc pb pc bb bc w' n N ms ps bs fr mk tt kb kc qv qs tk:=by
 have h2:=h.keep (fun k _ hk=>hb.block k hk);obtain⟨o1,o2,o3,o4,o5⟩:=h.oo;exact⟨h2.box,h.cap,h2.rm,h2.rp,h2.rb,h2.rk,h2.rq,h.ng,h.ne,⟨⟨o1,Or.inl h.lt⟩,⟨o2,Or.inl h.rm.lt⟩,⟨o3,Or.inl h.rp.lt⟩,⟨o4,Or.inl h.rb.lt⟩,⟨o5,Or.inl h.ltk⟩⟩,fun q hq=>⟨⟨(h.oq q hq).1,Or.inl (aB h.rq q hq)⟩,(h.oq q hq).2⟩⟩
theorem aU.facts(h:aU O g mb mc pb pc bb bc w n N ms ps bs fr mk tt kb kc qv qs tk):w.cell? ⟨g,0,none⟩=some (.slice (some ⟨mb,0,none⟩) n mc)/\w.cell? ⟨g,1,none⟩=some (.slice (some ⟨pb,0,none⟩) n pc)/\w.cell? ⟨g,2,none⟩=some (.slice (some ⟨bb,0,none⟩) n bc)/\w.cell? ⟨g,3,none⟩=some (.slice (some ⟨kb,0,none⟩) N kc)/\w.cell? ⟨g,4,none⟩=some qv/\w.cell? ⟨g,5,none⟩=some (.int .i64 (tk:Nat))/\∀ j,w.frozen? ⟨g,j,none⟩=false:=by
 obtain⟨F,hF,h0,h1,h2,h3,h4,h5⟩:=h.box;exact⟨by rw[hF.cell (by omega),h0],by rw[hF.cell (by omega),h1],by rw[hF.cell (by omega),h2],by rw[hF.cell (by omega),h3],by rw[hF.cell (by omega),h4],by rw[hF.cell (by omega),h5],fun j=>hF.frozen j⟩
theorem aU.blk(h:aU O g mb mc pb pc bb bc w n N ms ps bs fr mk tt kb kc qv qs tk){k:Nat}(hk:k<N):w.cell? ⟨kb,k*3,none⟩=some (.int .i64 (fr k:Nat))/\w.cell? ⟨kb,k*3+1,none⟩=some (.int .i64 (mk k:Nat))/\w.cell? ⟨kb,k*3+2,none⟩=some (.int .i64 (tt k:Nat))/\∀ j,w.frozen? ⟨kb,j,none⟩=false:=by
 obtain⟨g',cap,m,F,e,-,hF,hm,hx,-⟩:=fe h.rk (by omega);cases e;have q:∀ j,j<N*3->w.cell? ⟨kb,j,none⟩=some (bF fr mk tt j):=fun j hj=>by
  have:=hx j hj;rw[oR _ _ _ hj]at this;rw[hF.cell (by omega),<-this]
 exact⟨by rw[q _ (by omega),Ge],by rw[q _ (by omega),Gb],by rw[q _ (by omega),Gc],fun j=>hF.frozen j⟩
theorem aU.setM(h:aU O g mb mc pb pc bb bc w n N ms ps bs fr mk tt kb kc qv qs tk)(i v:Nat):aU O g mb mc pb pc bb bc (w.setCell ⟨mb,i,none⟩ (.int .i64 (v:Nat))) n N (bW ms i v) ps bs fr mk tt kb kc qv qs tk:=by
 obtain⟨n1,n2,n3,n4⟩:=h.ng;obtain⟨e1,e2,e3,e4,e5,e6⟩:=h.ne;obtain⟨F,hF,h1⟩:=h.box;have e:∀ k,k≠mb->(w.setCell ⟨mb,i,none⟩ (.int .i64 (v:Nat))).heap[k]?=w.heap[k]? :=fun k hk=>Below.heap_setCell _ _ _ _ (by show k≠mb;exact hk)
 exact⟨⟨F,hF.of_block (e g n1),h1⟩,h.cap,h.rm.put i v,h.rp.on (e _ (Ne.symm e1)),h.rb.on (e _ (Ne.symm e2)),ak h.rk (fun q hq=>by cases hq;exact e _ (Ne.symm e3)),ak h.rq (fun q hq=>e q (h.oq q hq).2.2.1),h.ng,h.ne,h.oo,h.oq⟩
theorem aU.setP(h:aU O g mb mc pb pc bb bc w n N ms ps bs fr mk tt kb kc qv qs tk)(i v:Nat):aU O g mb mc pb pc bb bc (w.setCell ⟨pb,i,none⟩ (.int .i64 (v:Nat))) n N ms (bW ps i v) bs fr mk tt kb kc qv qs tk:=by
 obtain⟨n1,n2,n3,n4⟩:=h.ng;obtain⟨e1,e2,e3,e4,e5,e6⟩:=h.ne;obtain⟨F,hF,h1⟩:=h.box;have e:∀ k,k≠pb->(w.setCell ⟨pb,i,none⟩ (.int .i64 (v:Nat))).heap[k]?=w.heap[k]? :=fun k hk=>Below.heap_setCell _ _ _ _ (by show k≠pb;exact hk)
 exact⟨⟨F,hF.of_block (e g n2),h1⟩,h.cap,h.rm.on (e _ e1),h.rp.put i v,h.rb.on (e _ (Ne.symm e4)),ak h.rk (fun q hq=>by cases hq;exact e _ (Ne.symm e5)),ak h.rq (fun q hq=>e q (h.oq q hq).2.2.2.1),h.ng,h.ne,h.oo,h.oq⟩
theorem aU.setB(h:aU O g mb mc pb pc bb bc w n N ms ps bs fr mk tt kb kc qv qs tk)(i v:Nat):aU O g mb mc pb pc bb bc (w.setCell ⟨bb,i,none⟩ (.int .i64 (v:Nat))) n N ms ps (bW bs i v) fr mk tt kb kc qv qs tk:=by
 obtain⟨n1,n2,n3,n4⟩:=h.ng;obtain⟨e1,e2,e3,e4,e5,e6⟩:=h.ne;obtain⟨F,hF,h1⟩:=h.box;have e:∀ k,k≠bb->(w.setCell ⟨bb,i,none⟩ (.int .i64 (v:Nat))).heap[k]?=w.heap[k]? :=fun k hk=>Below.heap_setCell _ _ _ _ (by show k≠bb;exact hk)
 exact⟨⟨F,hF.of_block (e g n3),h1⟩,h.cap,h.rm.on (e _ e2),h.rp.on (e _ e4),h.rb.put i v,ak h.rk (fun q hq=>by cases hq;exact e _ (Ne.symm e6)),ak h.rq (fun q hq=>e q (h.oq q hq).2.2.2.2.1),h.ng,h.ne,h.oo,h.oq⟩
theorem aU.setK(h:aU O g mb mc pb pc bb bc w n N ms ps bs fr mk tt kb kc qv qs tk){i:Nat}(u:Value){fr' mk' tt':Nat->Nat}(hi:i<N*3)(hu:bF fr' mk' tt' i=u)(hk:∀ j,j<N*3->j≠i->bF fr' mk' tt' j=bF fr mk tt j):aU O g mb mc pb pc bb bc (w.setCell ⟨kb,i,none⟩ u) n N ms ps bs fr' mk' tt' kb kc qv qs tk:=by
 obtain⟨n1,n2,n3,n4⟩:=h.ng;obtain⟨e1,e2,e3,e4,e5,e6⟩:=h.ne;obtain⟨F,hF,h1⟩:=h.box;have e:∀ k,k≠kb->(w.setCell ⟨kb,i,none⟩ u).heap[k]?=w.heap[k]? :=fun k hk=>Below.heap_setCell _ _ _ _ (by show k≠kb;exact hk)
 refine⟨⟨F,hF.of_block (e g n4),h1⟩,h.cap,h.rm.on (e _ e3),h.rp.on (e _ e5),h.rb.on (e _ e6),?_,ak h.rq (fun q hq=>e q (h.oq q hq).2.2.2.2.2),h.ng,h.ne,h.oo,h.oq⟩;obtain⟨g',cap,m,F2,e',-,b,hm,hx,a⟩:=fe h.rk (by omega);cases e';refine a _ _ _ (b.set i u) (mw _ _ _ _) (fun j hj=>?_)
 rw[oR _ _ _ hj]
 by_cases q:j=i
 ·subst q;simp[hu]
 have:=hx j hj;rw[oR _ _ _ hj]at this;simp only[q,if_false];rw[hk j hj q,this]
theorem aU.setT(h:aU O g mb mc pb pc bb bc w n N ms ps bs fr mk tt kb kc qv qs tk)(t:Nat):aU O g mb mc pb pc bb bc (w.setCell ⟨g,5,none⟩ (.int .i64 (t:Nat))) n N ms ps bs fr mk tt kb kc qv qs t:=by
 obtain⟨n1,n2,n3,n4⟩:=h.ng;obtain⟨F,hF,h0,h1,h2,h3,h4,h5⟩:=h.box;have e:∀ k,k≠g->(w.setCell ⟨g,5,none⟩ (.int .i64 (t:Nat))).heap[k]?=w.heap[k]? :=fun k hk=>Below.heap_setCell _ _ _ _ (by show k≠g;exact hk)
 exact⟨⟨_,hF.set 5 _,by simp[h0],by simp[h1],by simp[h2],by simp[h3],by simp[h4],by simp⟩,h.cap,h.rm.on (e _ (Ne.symm n1)),h.rp.on (e _ (Ne.symm n2)),h.rb.on (e _ (Ne.symm n3)),ak h.rk (fun q hq=>by cases hq;exact e _ (Ne.symm n4)),ak h.rq (fun q hq=>e q (h.oq q hq).2.1),h.ng,h.ne,h.oo,h.oq⟩
theorem aU.pushQ(h:aU O g mb mc pb pc bb bc w n N ms ps bs fr mk tt kb kc qv qs tk)(hO:∀ k,w.heap.size<=k->O k){W w2:World}{v':Value}{xs:List Int}(hW:Below w.heap.size w W)(r1:w2.ownsRow 0 3 1 v' xs.length (xs.map mI))(r2:W.grownBy w2 qv.ownBlock)(r3:∀ q,v'.ownBlock=some q->qv.ownBlock=some q∨w.heap.size<=q) :
  aU O g mb mc pb pc bb bc (w2.setCell ⟨g,4,none⟩ v') n N ms ps bs fr mk tt kb kc v' xs tk/\aR O w (w2.setCell ⟨g,4,none⟩ v'):=by
 have hz:=hW.size;have b:=r2.size;obtain⟨n1,n2,n3,n4⟩:=h.ng;obtain⟨o1,o2,o3,o4,o5⟩:=h.oo;obtain⟨F,hF,h0,h1,h2,h3,h4,h5⟩:=h.box;have k2:∀ k,k<w.heap.size->qv.ownBlock≠some k->w2.heap[k]?=w.heap[k]? :=fun k hk hne=>(r2.block k (by omega) (fun e=>hne e.symm)).trans (hW.block k hk)
 have kf:∀ k,k<w.heap.size->k≠g->qv.ownBlock≠some k->(w2.setCell ⟨g,4,none⟩ v').heap[k]?=w.heap[k]? :=fun k hk hg hne=>(Below.heap_setCell _ _ _ _ (by show k≠g;exact hg)).trans (k2 k hk hne)
 have a:=hF.of_block (k2 g hF.lt (fun e=>(h.oq g e).2.1 rfl));have c:=h.lt;have lm:=h.rm.lt;have lp:=h.rp.lt;have lb:=h.rb.lt;have lk:=h.ltk;refine⟨⟨⟨_,a.set 4 _,by simp[h0],by simp[h1],by simp[h2],by simp[h3],by simp,by simp[h5]⟩,h.cap,h.rm.on (kf _ h.rm.lt (Ne.symm n1) (fun e=>(h.oq _ e).2.2.1 rfl)),h.rp.on (kf _ h.rp.lt (Ne.symm n2) (fun e=>(h.oq _ e).2.2.2.1 rfl)),h.rb.on (kf _ h.rb.lt (Ne.symm n3) (fun e=>(h.oq _ e).2.2.2.2.1 rfl)),ak h.rk (fun q hq=>by cases hq;exact kf _ h.ltk (Ne.symm n4) (fun e=>(h.oq _ e).2.2.2.2.2 rfl)),ak r1 (fun q hq=>?_),h.ng,h.ne,h.oo,fun q hq=>?_⟩,?_⟩
 ·refine Below.heap_setCell _ _ _ _ ?_;show q≠g;rcases r3 q hq with e|e
  ·exact(h.oq q e).2.1
  omega
 ·rcases r3 q hq with e|e
  ·exact h.oq q e
  exact⟨hO q e,by omega,by omega,by omega,by omega,by omega⟩
 refine⟨r2.os.trans hW.os,r2.tape.trans hW.tape,r2.output.trans hW.output,by rw[aJ];omega,fun k hk=>?_⟩;have hlt:k<w.heap.size:=by apply Nat.lt_of_not_le;intro e;exact hk (hO k e)
 exact kf k hlt (fun e=>hk (e ▸ o1)) (fun e=>hk (h.oq k e).1)
theorem aU.pushK(h:aU O g mb mc pb pc bb bc w n N ms ps bs fr mk tt kb kc qv qs tk)(hO:∀ k,w.heap.size<=k->O k){W w2:World}{kb' kc' a b c:Nat}(hW:Below w.heap.size w W)(r1:w2.ownsRow 0 205 3 (.slice (some ⟨kb',0,none⟩) (N+1) kc') (N+1) (bL N fr mk tt++[.int .i64 (a:Nat),.int .i64 (b:Nat),.int .i64 (c:Nat)]))(r2:W.grownBy w2 (some kb))(r3:kb'=kb∨w.heap.size<=kb') :
  aU O g mb mc pb pc bb bc (w2.setCell ⟨g,3,none⟩ (.slice (some ⟨kb',0,none⟩) (N+1) kc')) n (N+1) ms ps bs (bW fr N a) (bW mk N b) (bW tt N c) kb' kc' qv qs tk/\aR O w (w2.setCell ⟨g,3,none⟩ (.slice (some ⟨kb',0,none⟩) (N+1) kc'))/\w2.cell? ⟨g,3,none⟩=some (.slice (some ⟨kb,0,none⟩) N kc)/\w2.frozen? ⟨g,3,none⟩=false:=by
 have hz:=hW.size;have f:=r2.size;obtain⟨n1,n2,n3,n4⟩:=h.ng;obtain⟨e1,e2,e3,e4,e5,e6⟩:=h.ne;obtain⟨o1,o2,o3,o4,o5⟩:=h.oo;obtain⟨F,hF,h0,h1,h2,h3,h4,h5⟩:=h.box;have k2:∀ k,k<w.heap.size->k≠kb->w2.heap[k]?=w.heap[k]? :=fun k hk hne=>(r2.block k (by omega) (fun e=>hne (Option.some.inj e))).trans (hW.block k hk)
 have kf:∀ k,k<w.heap.size->k≠g->k≠kb->(w2.setCell ⟨g,3,none⟩ (.slice (some ⟨kb',0,none⟩) (N+1) kc')).heap[k]?=w.heap[k]? :=fun k hk hg hne=>(Below.heap_setCell _ _ _ _ (by show k≠g;exact hg)).trans (k2 k hk hne)
 have d:=hF.of_block (k2 g hF.lt n4);have i:=h.lt;have lm:=h.rm.lt;have lp:=h.rp.lt;have lb:=h.rb.lt;have ng':kb'≠g:=by rcases r3 with e|e<;>omega
 refine⟨⟨⟨_,d.set 3 _,by simp[h0],by simp[h1],by simp[h2],by simp,by simp[h4],by simp[h5]⟩,h.cap,h.rm.on (kf _ h.rm.lt (Ne.symm n1) e3),h.rp.on (kf _ h.rp.lt (Ne.symm n2) e5),h.rb.on (kf _ h.rb.lt (Ne.symm n3) e6),?_,ak h.rq (fun q hq=>kf q (aB h.rq q hq) (h.oq q hq).2.1 (h.oq q hq).2.2.2.2.2),⟨n1,n2,n3,Ne.symm ng'⟩,⟨e1,e2,by rcases r3 with e|e<;>omega,e4,by rcases r3 with e|e<;>omega,by rcases r3 with e|e<;>omega⟩,⟨o1,o2,o3,o4,?_⟩,fun q hq=>?_⟩,?_,by rw[d.cell (by omega),h3],d.frozen 3⟩
 ·rw[Bp];exact ak r1 (fun q hq=>by cases hq;exact Below.heap_setCell _ _ _ _ (by show kb'≠g;exact ng'))
 ·rcases r3 with e|e
  ·rw[e];exact o5
  exact hO _ e
 ·obtain⟨q1,q2,q3,q4,q5,q6⟩:=h.oq q hq;have:=aB h.rq q hq;exact⟨q1,q2,q3,q4,q5,by rcases r3 with e|e<;>omega⟩
 refine⟨r2.os.trans hW.os,r2.tape.trans hW.tape,r2.output.trans hW.output,by rw[aJ];omega,fun k hk=>?_⟩;have hlt:k<w.heap.size:=by apply Nat.lt_of_not_le;intro e;exact hk (hO k e)
 exact kf k hlt (fun e=>hk (e ▸ o1)) (fun e=>hk (e ▸ o5))
end
theorem qy(g o:Nat)(v:Value)(xs:List Int)(x:Int)(w:World)(hg:g<w.heap.size)(hq:v.ownBlock≠some g)(hl:xs.length<=1000000)(h0:w.cell? ⟨g,o,none⟩=some v)(hz:w.frozen? ⟨g,o,none⟩=false)
  (hown:w.ownsRow 0 3 1 v xs.length (xs.map mI)) :
  Calls prog 103 #[.pointer (some ⟨g,o,none⟩),.int .i64 x] w fun e w'=>e=.returned (.tuple #[])/\
   ∃ v' w2,w'=w2.setCell ⟨g,o,none⟩ v'/\w2.ownsRow 0 3 1 v' (xs++[x]).length ((xs++[x]).map mI)/\(w.alloc (.cells #[.int .i64 x] 3)).grownBy w2 v.ownBlock/\∀ q,v'.ownBlock=some q->v.ownBlock=some q∨w.heap.size<=q:=by
 obtain⟨i0,hi,f,h,i⟩:=info_parts Tryz.zinInt;have d:=ae hown;obtain⟨oa,oc,rfl⟩:=aj hown;clear hown
 go_enter func103,ntmps103
 go_wp2_with (at_builtin;refine wpList_append_own_at _ rfl _ _ 30 rfl 0 3 i0 (.int .i64 0) 1 8 underlying30 hi f h i rfl (by decide) _ _ _ rfl (d.u.alloc _) ⟨w.heap.size,0,none⟩ 1 1 [.int .i64 x] rfl rfl ?_ ?_ ?_ ?_ ?_ ?_)
 ·exact dJ (by simp)
 ·intro u hu;simp at hu;subst hu;rfl
 ·unfold maxLen;omega
 ·omega
 ·omega
 intro v' w2 h5 c _ r3;have H5:=ae h5;have HG:=ae c;have R3:=ae r3;have b:w2.heap[g]?=w.heap[g]? :=(c.block g (by rw[ah];omega) (fun e=>hq e.symm)).trans ((ai w _).block g hg);have c1:w2.cell? ⟨g,o,none⟩=some (.slice oa xs.length oc):=by rw[World.cell?_of_block (a:=⟨g,o,none⟩) b];exact h0
 have c2:w2.frozen? ⟨g,o,none⟩=false:=by rw[World.frozen?_of_block (a:=⟨g,o,none⟩) b];exact hz
 obtain⟨oa',oc',rfl⟩:=aj h5;clear h5 c b h0 hz r3;go_wp2
 first|(refine bodyPost_ret (results_none rfl _ _ _) rfl ?_)|(refine bodyPost_end (results_none rfl _ _ _) rfl ?_)
 refine⟨rfl,_,w2,rfl,?_,HG.u,fun q hq=>?_⟩
 ·rw[List.length_append,List.map_append];exact H5.u
 rcases R3.u with e|e
 ·rw[e]at hq;exact .inl hq
 rw[e]at hq;cases hq;exact .inr (by omega)
def vR(n:Nat):List Int:=(List.range n).map Int.ofNat
theorem qP(n:Nat):(vR (n+1)).map mI=(vR n).map mI++[.int .i64 (n:Nat)]:=by simp[vR,List.range_succ,mI]
theorem qE{w:World}{v:Value}{n:Nat}(h:w.ownsRow 0 3 1 v n ((vR n).map mI))(hp:0<n):∃ b c,v=.slice (some ⟨b,0,none⟩) n c/\n<=c/\dl w b n (fun i=>i):=by
 obtain⟨g,cap,m,F,rfl,hlt,hr,hm,hx,-⟩:=fe h hp;have hc:=(uU h).le;refine⟨g,cap,rfl,hc.1,m,F,hr,by omega,fun j hj=>?_⟩;have h1:=hx j (by omega);rw[List.getElem?_map,vR,List.getElem?_map,List.getElem?_range hj]at h1;simp at h1;exact h1.symm
theorem dG(w:World)(v:Value)(t:TypeId):(w.alloc (.cells #[v] t)).cell? ⟨w.heap.size,0,none⟩=some v:=by simp
structure lT (w0 w:World) (n i:Nat) (mv pv:Value):Prop where
 bl:Below w0.heap.size w0 w
 sz:w0.heap.size+2<=w.heap.size
 blk:w.heap[w0.heap.size]?=some (.cells #[.int .i64 0,.int .i64 0,.int .i64 (n:Nat)] 205 (0,0))
 box:w.rowIs (w0.heap.size+1) 199 6 (fun j=>[mv,pv,.slice none 0 0,.slice (some ⟨w0.heap.size,0,none⟩) 1 1,.slice none 0 0,.int .i64 0].getD j undef)
 rm:w.ownsRow (w0.heap.size+2) 3 1 mv i ((vR i).map mI)
 rp:w.ownsRow (w0.heap.size+2) 3 1 pv i ((vR i).map mI)
 ne:∀ q,mv.ownBlock=some q->pv.ownBlock≠some q
theorem lT.pushM{w0 w w2:World}{n i:Nat}{mv pv v':Value}{o:Obj}(h:lT w0 w n i mv pv)(r1:w2.ownsRow (w0.heap.size+2) 3 1 v' (i+1) ((vR i).map mI++[.int .i64 (i:Nat)]))(r2:(w.alloc o).grownBy w2 mv.ownBlock)(r3:v'.ownBlock=mv.ownBlock∨v'.ownBlock=some (w.heap.size+1)) :
  w2.cell? ⟨w0.heap.size+1,0,none⟩=some mv/\w2.frozen? ⟨w0.heap.size+1,0,none⟩=false/\
  Below w0.heap.size w0 (w2.setCell ⟨w0.heap.size+1,0,none⟩ v')/\w0.heap.size+2<=(w2.setCell ⟨w0.heap.size+1,0,none⟩ v').heap.size/\(w2.setCell ⟨w0.heap.size+1,0,none⟩ v').heap[w0.heap.size]?=some (.cells #[.int .i64 0,.int .i64 0,.int .i64 (n:Nat)] 205 (0,0))/\
  (w2.setCell ⟨w0.heap.size+1,0,none⟩ v').rowIs (w0.heap.size+1) 199 6 (fun j=>[v',pv,.slice none 0 0,.slice (some ⟨w0.heap.size,0,none⟩) 1 1,.slice none 0 0,.int .i64 0].getD j undef)/\
  (w2.setCell ⟨w0.heap.size+1,0,none⟩ v').ownsRow (w0.heap.size+2) 3 1 v' (i+1) ((vR (i+1)).map mI)/\(w2.setCell ⟨w0.heap.size+1,0,none⟩ v').ownsRow (w0.heap.size+2) 3 1 pv i ((vR i).map mI)/\∀ q,v'.ownBlock=some q->pv.ownBlock≠some q:=by
 have hz:=h.sz;have a:=r2.size;rw[ah]at a;have k2:∀ k,k<w.heap.size->mv.ownBlock≠some k->w2.heap[k]?=w.heap[k]? :=fun k hk hne=>(r2.block k (by rw[ah];omega) (fun e=>hne e.symm)).trans ((ai w o).block k hk)
 have lo:∀ k,mv.ownBlock=some k->w0.heap.size+2<=k:=fun k hk=>(h.rm.lt k hk).1
 have b2:w2.heap[w0.heap.size+1]?=w.heap[w0.heap.size+1]? :=k2 _ (by omega) (fun e=>by have:=lo _ e;omega);have hF:=h.box.of_block b2;have ks:∀ k,k≠w0.heap.size+1->(w2.setCell ⟨w0.heap.size+1,0,none⟩ v').heap[k]?=w2.heap[k]? :=fun k hk=>Below.heap_setCell _ _ _ _ (by show k≠w0.heap.size+1;exact hk)
 have lv:∀ q,v'.ownBlock=some q->w0.heap.size+2<=q:=fun q hq=>(r1.lt q hq).1
 refine⟨by rw[hF.cell (by omega)];rfl,hF.frozen 0,⟨?_,?_,?_,?_,fun k hk=>?_⟩,by rw[aJ];omega,?_,?_,?_,?_,fun q hq hp=>?_⟩
 ·exact r2.os.trans h.bl.os
 ·exact r2.tape.trans h.bl.tape
 ·exact r2.output.trans h.bl.output
 ·rw[aJ];omega
 ·rw[ks k (by omega),k2 k (by omega) (fun e=>by have:=lo _ e;omega)];exact h.bl.block k hk
 ·rw[ks _ (by omega),k2 _ (by omega) (fun e=>by have:=lo _ e;omega)];exact h.blk
 ·refine(hF.set 0 v').congr (fun j hj=>?_)
  match j,hj with
  | 0,_=>rfl
  | 1,_=>rfl
  | 2,_=>rfl
  | 3,_=>rfl
  | 4,_=>rfl
  | 5,_=>rfl
 ·rw[qP];exact ak r1 (fun q hq=>ks q (by have:=lv q hq;omega))
 ·refine ak h.rp (fun q hq=>?_)
  have:=h.rp.lt q hq;rw[ks q (by omega)];exact k2 q (by omega) (fun e=>h.ne q e hq)
 have:=(h.rp.lt q hp).2;rcases r3 with e|e
 ·rw[e]at hq;exact h.ne q hq hp
 rw[e]at hq;cases hq;omega
theorem lT.pushP{w0 w w2:World}{n i:Nat}{mv pv v':Value}{o:Obj}(hbl:Below w0.heap.size w0 w)(hz:w0.heap.size+2<=w.heap.size)(hblk:w.heap[w0.heap.size]?=some (.cells #[.int .i64 0,.int .i64 0,.int .i64 (n:Nat)] 205 (0,0)))
  (hbox:w.rowIs (w0.heap.size+1) 199 6 (fun j=>[mv,pv,.slice none 0 0,.slice (some ⟨w0.heap.size,0,none⟩) 1 1,.slice none 0 0,.int .i64 0].getD j undef))
  (hrm:w.ownsRow (w0.heap.size+2) 3 1 mv (i+1) ((vR (i+1)).map mI))(hrp:w.ownsRow (w0.heap.size+2) 3 1 pv i ((vR i).map mI))(hne:∀ q,mv.ownBlock=some q->pv.ownBlock≠some q)
  (r1:w2.ownsRow (w0.heap.size+2) 3 1 v' (i+1) ((vR i).map mI++[.int .i64 (i:Nat)]))(r2:(w.alloc o).grownBy w2 pv.ownBlock)(r3:v'.ownBlock=pv.ownBlock∨v'.ownBlock=some (w.heap.size+1)) :
  w2.cell? ⟨w0.heap.size+1,1,none⟩=some pv/\w2.frozen? ⟨w0.heap.size+1,1,none⟩=false/\lT w0 (w2.setCell ⟨w0.heap.size+1,1,none⟩ v') n (i+1) mv v':=by
 have a:=r2.size;rw[ah]at a;have k2:∀ k,k<w.heap.size->pv.ownBlock≠some k->w2.heap[k]?=w.heap[k]? :=fun k hk hne=>(r2.block k (by rw[ah];omega) (fun e=>hne e.symm)).trans ((ai w o).block k hk)
 have lo:∀ k,pv.ownBlock=some k->w0.heap.size+2<=k:=fun k hk=>(hrp.lt k hk).1
 have b2:w2.heap[w0.heap.size+1]?=w.heap[w0.heap.size+1]? :=k2 _ (by omega) (fun e=>by have:=lo _ e;omega);have hF:=hbox.of_block b2;have ks:∀ k,k≠w0.heap.size+1->(w2.setCell ⟨w0.heap.size+1,1,none⟩ v').heap[k]?=w2.heap[k]? :=fun k hk=>Below.heap_setCell _ _ _ _ (by show k≠w0.heap.size+1;exact hk)
 have lv:∀ q,v'.ownBlock=some q->w0.heap.size+2<=q:=fun q hq=>(r1.lt q hq).1
 refine⟨by rw[hF.cell (by omega)];rfl,hF.frozen 1,⟨⟨?_,?_,?_,?_,fun k hk=>?_⟩,by rw[aJ];omega,?_,?_,?_,?_,fun q hq hp=>?_⟩⟩
 ·exact r2.os.trans hbl.os
 ·exact r2.tape.trans hbl.tape
 ·exact r2.output.trans hbl.output
 ·rw[aJ];omega
 ·rw[ks k (by omega),k2 k (by omega) (fun e=>by have:=lo _ e;omega)];exact hbl.block k hk
 ·rw[ks _ (by omega),k2 _ (by omega) (fun e=>by have:=lo _ e;omega)];exact hblk
 ·refine(hF.set 1 v').congr (fun j hj=>?_)
  match j,hj with
  | 0,_=>rfl
  | 1,_=>rfl
  | 2,_=>rfl
  | 3,_=>rfl
  | 4,_=>rfl
  | 5,_=>rfl
 ·refine ak hrm (fun q hq=>?_)
  have:=hrm.lt q hq;rw[ks q (by omega)];exact k2 q (by omega) (fun e=>hne q hq e)
 ·rw[qP];exact ak r1 (fun q hq=>ks q (by have:=lv q hq;omega))
 have:=(hrm.lt q hq).2;rcases r3 with e|e
 ·rw[e]at hp;exact hne q hq hp
 rw[e]at hp;cases hp;omega
theorem ki(n:Nat)(w:World)(h1:1<=n)(h2:n<=1024) :
  Calls prog 120 #[.int .i64 (n:Nat)] w fun e w'=>∃ g,e=.returned (.pointer (some ⟨g,0,none⟩))/\Below w.heap.size w w'/\
   ∃ mb mc pb pc bb bc kb kc,aU (fun k=>w.heap.size<=k) g mb mc pb pc bb bc w' n 1 (fun i=>i) (fun i=>i) (fun _=>0) (fun _=>0) (fun _=>0) (fun _=>n) kb kc (.slice none 0 0) [] 0:=by
 obtain⟨i0,hi,h,l,m⟩:=info_parts Tryz.zinInt;obtain⟨W,hW⟩ : ∃ W,W=(w.alloc (.cells #[.int .i64 0,.int .i64 0,.int .i64 (n:Nat)] 205)).alloc (.cells #[.slice none 0 0,.slice none 0 0,.slice none 0 0,.slice (some ⟨w.heap.size,0,none⟩) 1 1,.slice none 0 0,.int .i64 0] 199):=⟨_,rfl⟩;have hN:lT w W n 0 (.slice none 0 0) (.slice none 0 0):=by
  rw[hW];refine⟨aH w _ _,by rw[ah,ah];omega,?_,?_,World.ownsRow_nil _ _ _ _,World.ownsRow_nil _ _ _ _,fun q hq=>by cases hq⟩
  ·rw[(ai (w.alloc (.cells #[.int .i64 0,.int .i64 0,.int .i64 (n:Nat)] 205)) _).block _ (by rw[ah];omega)];simp only[World.alloc,Array.getElem?_push_size]
  have:=World.rowIs_alloc (w.alloc (.cells #[.int .i64 0,.int .i64 0,.int .i64 (n:Nat)] 205)) #[.slice none 0 0,.slice none 0 0,.slice none 0 0,.slice (some ⟨w.heap.size,0,none⟩) 1 1,.slice none 0 0,.int .i64 0] 199 (fun j=>[.slice none 0 0,.slice none 0 0,.slice none 0 0,.slice (some ⟨w.heap.size,0,none⟩) 1 1,.slice none 0 0,.int .i64 0].getD j undef) (fun j hj=>by
   match j,hj with
   | 0,_=>rfl
   | 1,_=>rfl
   | 2,_=>rfl
   | 3,_=>rfl
   | 4,_=>rfl
   | 5,_=>rfl)
  rw[ah]at this;exact this
 have HN:=ae hN;have HW:=ae hW;clear hN hW
 go_enter func120,ntmps120
 go_wp2_with fail;rw[<-HW.u];clear HW
 go_loopw [11] (fun iv wr=>∃ (i:Nat) (mv pv:Value),i<=n/\iv=.int .i64 i/\lT w wr n i mv pv) (fun iv _=>n-(intOf iv).toNat)
 case atStart=>exact⟨0,_,_,by omega,rfl,HN.u⟩
 clear HN;obtain⟨i,mv,pv,x,rfl,hP⟩:=hrel
 by_cases hlt:i<n
 ·have o:(i:Int)<(n:Int):=by omega
  have c0:wr.cell? ⟨w.heap.size+1,0,none⟩=some mv:=by rw[hP.box.cell (by omega)];rfl
  have HP:=ae hP;have b:=ae hP.rm;obtain⟨ma,mc,rfl⟩:=aj hP.rm;obtain⟨pa,pc,rfl⟩:=aj hP.rp;clear hP
  go_wp2_with (at_builtin;refine wpList_append_own_at _ rfl _ _ 30 rfl (w.heap.size+2) 3 i0 (.int .i64 0) 1 8 underlying30 hi h l m rfl (by decide) _ _ _ rfl (b.u.alloc _) ⟨wr.heap.size,0,none⟩ 1 1 [.int .i64 (i:Nat)] rfl rfl ?_ ?_ ?_ ?_ ?_ ?_)
  ·exact dJ (by simp)
  ·intro u hu;simp at hu;subst hu;rfl
  ·unfold maxLen;omega
  ·omega
  ·have:=HP.u.sz;rw[ah];omega
  intro v' w2 r1 r2 _ r3;have h7:=HP.u.pushM r1 r2 r3;obtain⟨oa,oc,rfl⟩:=aj r1;have x1:=h7.1;have x2:=h7.2.1;have H7:=ae h7.2.2;have x3:=h7.2.2.2.2.2.1.cell (i:=1) (by omega);have c:=ae h7.2.2.2.2.2.2.2.1;have y:=h7.2.2.2.1;simp only[List.getD_cons_succ,List.getD_cons_zero]at x3;clear h7 r1 r2 r3 b HP c0
  go_wp2_with (at_builtin;refine wpList_append_own_at _ rfl _ _ 30 rfl (w.heap.size+2) 3 i0 (.int .i64 0) 1 8 underlying30 hi h l m rfl (by decide) _ _ _ rfl (c.u.alloc _) ⟨(w2.setCell ⟨w.heap.size+1,0,none⟩ (.slice oa (i+1) oc)).heap.size,0,none⟩ 1 1 [.int .i64 (i:Nat)] (by simp only[aJ];rfl) rfl ?_ ?_ ?_ ?_ ?_ ?_)
  ·exact dJ (dG _ _ _)
  ·intro u hu;simp at hu;subst hu;rfl
  ·unfold maxLen;omega
  ·omega
  ·rw[ah];omega
  intro v2 w3 r1 r2 _ r3;obtain⟨y1,y2,y3,y4,y5,y6,y7⟩:=H7.u;have h8:=lT.pushP y1 y2 y3 y4 y5 y6 y7 r1 r2 (by rw[aJ];exact r3);obtain⟨ob,od,rfl⟩:=aj r1;have x4:=h8.1;have x5:=h8.2.1;have H8:=ae h8.2.2;clear h8 r1 r2 r3 c H7 y1 y2 y3 y4 y5 y6 y7 x1 x2 x3;go_wp2
  go_roundw
  case rel=>exact⟨i+1,_,_,by omega,rfl,H8.u⟩
  simp[intOf];omega
 have o:¬ (i:Int)<(n:Int):=by omega
 obtain rfl:i=n:=by omega
 obtain⟨mb,mc,rfl,t,p⟩:=qE (aS hP.rm (Nat.zero_le _)) (by omega);obtain⟨pb,pc,rfl,z,r⟩:=qE (aS hP.rp (Nat.zero_le _)) (by omega);have x1:=(hP.box.alloc (.cells (madeCells #[.int .i64 0] i) 3)).cell (i:=2) (by omega);have x2:=(hP.box.alloc (.cells (madeCells #[.int .i64 0] i) 3)).frozen 2;simp only[List.getD_cons_succ,List.getD_cons_zero]at x1;have HP:=ae hP;have b:=ae p;have c:=ae r;clear hP p r;have A:=run_make_row' (P:=prog) 30 3 (.int .i64 0) 8 underlying30 Tryz.zinInt rfl .i64 .i64 i (by omega) (by omega);go_wp2;go_ret;have hb:=HP.u.box.alloc (.cells (madeCells #[.int .i64 0] i) 3);have hz:=HP.u.sz;have hB:=HP.u.bl;have lm:=HP.u.rm.lt mb rfl;have lp:=HP.u.rp.lt pb rfl;have nmp:=HP.u.ne mb rfl;have s:=HP.u.blk;obtain⟨WA,a⟩ : ∃ WA,WA=wr.alloc (.cells (madeCells #[.int .i64 0] i) 3):=⟨_,rfl⟩;have v:dl WA wr.heap.size i (fun _=>0):=by
  rw[a];exact⟨_,_,World.rowIs_made wr _ i _,Nat.le_refl _,fun j hj=>rfl⟩
 have d:∀ k,k<wr.heap.size->WA.heap[k]?=wr.heap[k]? :=fun k hk=>by rw[a];exact(ai wr _).block k hk
 have B:WA.heap.size=wr.heap.size+1:=by rw[a,ah]
 have f:WA.os=wr.os/\WA.tape=wr.tape/\WA.output=wr.output:=by rw[a];exact⟨rfl,rfl,rfl⟩
 rw[<-a]at hb ⊢;have ks:∀ k,k≠w.heap.size+1->(WA.setCell ⟨w.heap.size+1,2,none⟩ (.slice (some ⟨wr.heap.size,0,none⟩) i i)).heap[k]?=WA.heap[k]? :=fun k hk=>Below.heap_setCell _ _ _ _ (by show k≠w.heap.size+1;exact hk)
 refine⟨w.heap.size+1,rfl,⟨f.1.trans hB.os,f.2.1.trans hB.tape,f.2.2.trans hB.output,by rw[aJ];omega,fun k hk=>?_⟩,mb,mc,pb,pc,wr.heap.size,i,w.heap.size,1,⟨⟨_,hb.set 2 _,rfl,rfl,rfl,rfl,rfl,rfl⟩,t,b.u.on ?_,c.u.on ?_,v.on ?_,?_,World.ownsRow_nil _ _ _ _,⟨by omega,by omega,by omega,by omega⟩,⟨fun e=>nmp (by rw[e];rfl),by omega,by omega,by omega,by omega,by omega⟩,⟨by omega,by omega,by omega,by omega,by omega⟩,fun q hq=>by cases hq⟩⟩
 ·rw[ks k (by omega),d k (by omega)];exact hB.block k hk
 ·rw[ks _ (by omega),d _ (by omega)]
 ·rw[ks _ (by omega),d _ (by omega)]
 ·rw[ks _ (by omega)]
 refine⟨rfl,Or.inr ⟨_,_,#[.int .i64 0,.int .i64 0,.int .i64 (i:Nat)],rfl,Nat.zero_le _,?_,Nat.le_refl _,by unfold maxLen;omega,rfl,?_⟩⟩
 ·rw[ks _ (by omega),d _ (by omega)];exact s
 simp[bL,bF,List.range_succ]
theorem Tryz.zinBlk:(prog.info? 205).map (fun i=>(i.zero,i.size,i.bytes))=some (some (.agg #[.int .i64 0,.int .i64 0,.int .i64 0]),3,24):=by kernel_rfl
theorem tf{u1 u2 u3 u4 u6 u7 u8 u9 u10 u11 u12 u13 u14 u15 u16 u17 u18 u19 u20 u21 u22 u23 u24 u25 u26 u27 u28 u29 u30 u31 u32 u33 u34 u35 u36 u37 u38 u39 u40 u41 u42 u43 u44 u45 u46 u47 u48 u49 u50 u51 u52 u53 u54 u55 u56 u57 u58 u59 u60 u61 u62 u63 u64 u65 u66 u67 u68 u69 u70 u71 u72 u73 u74 u75 u76 u77 u78 u79 u80 u81 u82 u83 u84 u85 u86 u87 u88 u89 u90 u91 u92 u93 u94 u95 u96 u97 u98 u99 u100 u101 u102 u103 u104 u105:Value}{K:Act->World->Prop}{R:Ending->World->Prop}(w7:World)(g ob kb kc N q1 q2:Nat)(xs:List Value)(hg:g<w7.heap.size)(hN:N<=1024)
  (y3:w7.cell? ⟨g,3,none⟩=some (.slice (some ⟨kb,0,none⟩) N kc))(k0:w7.cell? ⟨ob,0,none⟩=some (.int .i64 (q1:Nat)))(k1:w7.cell? ⟨ob,1,none⟩=some (.int .i64 (q1:Nat)))(k2:w7.cell? ⟨ob,2,none⟩=some (.int .i64 (q2:Nat)))
  (hrk:w7.ownsRow 0 205 3 (.slice (some ⟨kb,0,none⟩) N kc) N xs)
  (hps:∀ (WA w8:World) (gg cap:Nat),w8.ownsRow 0 205 3 (.slice (some ⟨gg,0,none⟩) (N+1) cap) (N+1) (xs++[.int .i64 (q1:Nat),.int .i64 (q1:Nat),.int .i64 (q2:Nat)])->WA.grownBy w8 (some kb)->(some kb=some gg∨gg=w7.heap.size+1)->aK w7 WA (.cells #[.int .i64 (q1:Nat),.int .i64 (q1:Nat),.int .i64 (q2:Nat)] 205)->
   w8.cell? ⟨g,3,none⟩=some (.slice (some ⟨kb,0,none⟩) N kc)/\w8.frozen? ⟨g,3,none⟩=false/\K { tmps:=#[.pointer (some ⟨g,0,none⟩),u1,u2,u3,u4,.pointer (some ⟨ob,0,none⟩),u6,u7,u8,u9,u10,u11,u12,u13,u14,u15,u16,u17,u18,u19,u20,u21,u22,u23,u24,u25,u26,u27,u28,u29,u30,u31,u32,u33,u34,u35,u36,u37,u38,u39,u40,u41,u42,u43,u44,u45,u46,u47,u48,u49,u50,u51,u52,u53,u54,u55,u56,u57,u58,u59,u60,u61,u62,u63,u64,u65,u66,u67,u68,u69,u70,u71,u72,u73,u74,.pointer (some ⟨g,0,none⟩),.pointer (some ⟨g,0,none⟩),.pointer (some ⟨g,0,none⟩),.pointer (some ⟨g,3,none⟩),.slice (some ⟨kb,0,none⟩) N kc,.agg #[.int .i64 (q1:Nat),.int .i64 (q1:Nat),.int .i64 (q2:Nat)],.slice (some ⟨w7.heap.size,0,none⟩) 1 1,.slice (some ⟨gg,0,none⟩) (N+1) cap,.pointer (some ⟨g,0,none⟩),.pointer (some ⟨g,3,none⟩),u85,u86,u87,u88,u89,u90,u91,u92,u93,u94,u95,u96,u97,u98,u99,u100,u101,u102,u103,u104,u105],defers:=[] } (w8.setCell ⟨g,3,none⟩ (.slice (some ⟨gg,0,none⟩) (N+1) cap))) :
  Code.wp prog (Code.region 9 #[{ dst:=some 75,op:=Op.move (Operand.tmp 0),type:=193,pos:= "l2_dfa.go:609",after:=#[],guard:=none },{ dst:=some 76,op:=Op.move (Operand.tmp 0),type:=193,pos:= "l2_dfa.go:609",after:=#[],guard:=none },{ dst:=some 77,op:=Op.nilCheck (Operand.tmp 76),type:=0,pos:= "l2_dfa.go:609",after:=#[{ on:=1,ground:=Ground.data }],guard:=none },{ dst:=some 78,op:=Op.fieldAddr 199 (Operand.tmp 77) 3,type:=0,pos:= "l2_dfa.go:609",after:=#[{ on:=2,ground:=Ground.data }],guard:=none },{ dst:=some 79,op:=Op.load 197 (Operand.tmp 78),type:=197,pos:= "l2_dfa.go:609",after:=#[{ on:=3,ground:=Ground.data }],guard:=none },{ dst:=some 80,op:=Op.load 205 (Operand.tmp 5),type:=205,pos:= "l2_dfa.go:609",after:=#[],guard:=none },{ dst:=some 81,op:=Op.buildSlice 197 1 #[(0,Operand.tmp 80)],type:=197,pos:= "l2_dfa.go:609",after:=#[{ on:=5,ground:=Ground.data }],guard:=none },{ dst:=some 82,op:=Op.call { callee:=Callee.builtin Builtin.append,args:=#[Operand.tmp 79,Operand.tmp 81],argTypes:=#[197,197] },type:=197,pos:= "l2_dfa.go:609",after:=#[{ on:=4,ground:=Ground.data },{ on:=6,ground:=Ground.data }],guard:=none },{ dst:=some 83,op:=Op.nilCheck (Operand.tmp 75),type:=0,pos:= "l2_dfa.go:609",after:=#[{ on:=0,ground:=Ground.data },{ on:=0,ground:=Ground.phase },{ on:=1,ground:=Ground.phase },{ on:=2,ground:=Ground.phase },{ on:=3,ground:=Ground.phase },{ on:=4,ground:=Ground.phase },{ on:=5,ground:=Ground.phase },{ on:=6,ground:=Ground.phase },{ on:=7,ground:=Ground.phase }],guard:=none },{ dst:=some 84,op:=Op.fieldAddr 199 (Operand.tmp 83) 3,type:=0,pos:= "l2_dfa.go:609",after:=#[{ on:=8,ground:=Ground.data },{ on:=0,ground:=Ground.phase },{ on:=1,ground:=Ground.phase },{ on:=2,ground:=Ground.phase },{ on:=3,ground:=Ground.phase },{ on:=4,ground:=Ground.phase },{ on:=5,ground:=Ground.phase },{ on:=6,ground:=Ground.phase },{ on:=7,ground:=Ground.phase }],guard:=none },{ dst:=none,op:=Op.store 197 (Operand.tmp 84) (Operand.tmp 82),type:=0,pos:= "l2_dfa.go:609",after:=#[{ on:=9,ground:=Ground.data },{ on:=7,ground:=Ground.data },{ on:=7,ground:=Ground.chain },{ on:=0,ground:=Ground.phase },{ on:=1,ground:=Ground.phase },{ on:=2,ground:=Ground.phase },{ on:=3,ground:=Ground.phase },{ on:=4,ground:=Ground.phase },{ on:=5,ground:=Ground.phase },{ on:=6,ground:=Ground.phase },{ on:=7,ground:=Ground.phase }],guard:=none }] true) (Exit.then K (bodyPost prog Tryz.f128 R)) { tmps:=#[.pointer (some ⟨g,0,none⟩),u1,u2,u3,u4,.pointer (some ⟨ob,0,none⟩),u6,u7,u8,u9,u10,u11,u12,u13,u14,u15,u16,u17,u18,u19,u20,u21,u22,u23,u24,u25,u26,u27,u28,u29,u30,u31,u32,u33,u34,u35,u36,u37,u38,u39,u40,u41,u42,u43,u44,u45,u46,u47,u48,u49,u50,u51,u52,u53,u54,u55,u56,u57,u58,u59,u60,u61,u62,u63,u64,u65,u66,u67,u68,u69,u70,u71,u72,u73,u74,u75,u76,u77,u78,u79,u80,u81,u82,u83,u84,u85,u86,u87,u88,u89,u90,u91,u92,u93,u94,u95,u96,u97,u98,u99,u100,u101,u102,u103,u104,u105],defers:=[] } w7:=by
 obtain⟨j0,a,b,c,d⟩:=info_parts Tryz.zinBlk;have y3':=(ai w7 (.cells #[.int .i64 (q1:Nat),.int .i64 (q1:Nat),.int .i64 (q2:Nat)] 205)).cell (p:=⟨g,3,none⟩) hg;rw[y3]at y3';have e:=ae hps;have f:=ae hrk;clear hps hrk
 go_region_law (
  (refine step_append_lies _ rfl (.tmp 79) (.tmp 81) 197 rfl 0 205 j0 (.agg #[.int .i64 0,.int .i64 0,.int .i64 0]) 3 24 underlying197 a b c d rfl (by decide) (.slice (some ⟨kb,0,none⟩) N kc) N xs (by first|(simp[Act.eval];done)|(simp[Act.eval,Act.put];done)) (by refine aK.own (w:=w7) (o:=.cells #[.int .i64 (q1:Nat),.int .i64 (q1:Nat),.int .i64 (q2:Nat)] 205) ?_ f.u;exact⟨rfl,rfl,rfl,rfl⟩) ⟨w7.heap.size,0,none⟩ 1 1 [.int .i64 (q1:Nat),.int .i64 (q1:Nat),.int .i64 (q2:Nat)] (by first|(simp[Act.eval];done)|(simp[Act.eval,Act.put];done)) rfl (by refine aK.news (w:=w7) (cs:=#[.int .i64 (q1:Nat),.int .i64 (q1:Nat),.int .i64 (q2:Nat)]) (t:=205) ?_;exact⟨rfl,rfl,rfl,rfl⟩) (by intro u hu;simp only[List.mem_cons,List.not_mem_nil,or_false]at hu;rcases hu with rfl|rfl|rfl<;>rfl) (by decide) (by unfold maxLen;omega) (by omega) (Nat.zero_le _) (w7.heap.size+1) (ah w7 _) (fun gg cap w8 r1 r2 r3 r4=>?_);have h8:=ae (e.u _ w8 gg cap r1 r2 r3 (by exact⟨rfl,rfl,rfl,rfl⟩));obtain⟨c7,z7,-⟩:=h8.u;clear r1 r2 r3 r4))
 all_goals exact h8.u.2.2
theorem Fq(fr mk tt:Nat->Nat){j k:Nat}(x:Nat)(h:j≠k*3):bF (bW fr k x) mk tt j=bF fr mk tt j:=by
 unfold bF
 by_cases h1:j%3=0
 ·simp only[h1,if_true];rw[aW _ (by omega)]
 simp only[h1,if_false]
theorem Fy(fr mk tt:Nat->Nat){j k:Nat}(x:Nat)(h:j≠k*3+1):bF fr (bW mk k x) tt j=bF fr mk tt j:=by
 unfold bF
 by_cases h1:j%3=1
 ·simp only[h1,if_true];rw[aW _ (by omega)]
 simp only[h1,if_false]
theorem Et(fr mk tt:Nat->Nat){j k:Nat}(x:Nat)(h:j≠k*3+2):bF fr mk (bW tt k x) j=bF fr mk tt j:=by
 unfold bF
 by_cases h1:j%3=0
 ·simp only[h1,if_true]
 by_cases h2:j%3=1
 ·simp only[h2,if_true]
 simp only[h1,h2,if_false];rw[aW _ (by omega)]
theorem Ba(f:Nat->Nat)(k a b:Nat):bW (bW f k a) k b=bW f k b:=by
 funext x
 by_cases h:x=k
 ·subst h;simp[bW]
 simp[bW,h]
section
variable {O:Nat->Prop} {g mb mc pb pc bb bc:Nat} {w:World} {n N:Nat} {ms ps bs fr mk tt:Nat->Nat} {kb kc:Nat} {qv:Value} {qs:List Int} {tk:Nat}
theorem aU.setFr(h:aU O g mb mc pb pc bb bc w n N ms ps bs fr mk tt kb kc qv qs tk){k:Nat}(hk:k<N)(x:Nat):aU O g mb mc pb pc bb bc (w.setCell ⟨kb,k*3,none⟩ (.int .i64 (x:Nat))) n N ms ps bs (bW fr k x) mk tt kb kc qv qs tk:=
 h.setK _ (by omega) (by rw[Ge,bG]) (fun j _ hj=>Fq _ _ _ _ hj)
theorem aU.setMk(h:aU O g mb mc pb pc bb bc w n N ms ps bs fr mk tt kb kc qv qs tk){k:Nat}(hk:k<N)(x:Nat):aU O g mb mc pb pc bb bc (w.setCell ⟨kb,k*3+1,none⟩ (.int .i64 (x:Nat))) n N ms ps bs fr (bW mk k x) tt kb kc qv qs tk:=
 h.setK _ (by omega) (by rw[Gb,bG]) (fun j _ hj=>Fy _ _ _ _ hj)
theorem aU.setTt(h:aU O g mb mc pb pc bb bc w n N ms ps bs fr mk tt kb kc qv qs tk){k:Nat}(hk:k<N)(x:Nat):aU O g mb mc pb pc bb bc (w.setCell ⟨kb,k*3+2,none⟩ (.int .i64 (x:Nat))) n N ms ps bs fr mk (bW tt k x) kb kc qv qs tk:=
 h.setK _ (by omega) (by rw[Gc,bG]) (fun j _ hj=>Et _ _ _ _ hj)
theorem aU.fro(h:aU O g mb mc pb pc bb bc w n N ms ps bs fr mk tt kb kc qv qs tk)(j:Nat)(u:Value):aR O w (w.setCell ⟨kb,j,none⟩ u):=(am j u).fro h.oo.2.2.2.2
theorem aU.froB(h:aU O g mb mc pb pc bb bc w n N ms ps bs fr mk tt kb kc qv qs tk)(j:Nat)(u:Value):aR O w (w.setCell ⟨bb,j,none⟩ u):=(am j u).fro h.oo.2.2.2.1
end
def Eh(f m t o1 o2 r1 r2:Nat):Prop:=(o1=f/\o2=m/\r1=m/\r2=t/\m-f<=t-m)∨(o1=m/\o2=t/\r1=f/\r2=m/\t-m<m-f)
structure rF (w w':World) (o1 o2 r1 r2:Nat):Prop where
 off:w'.rowIs w.heap.size 205 3 (fun j=>[Value.int .i64 (o1:Nat),.int .i64 (o1:Nat),.int .i64 (o2:Nat)].getD j undef)
 rest:w'.rowIs (w.heap.size+1) 205 3 (fun j=>[Value.int .i64 (r1:Nat),.int .i64 (r1:Nat),.int .i64 (r2:Nat)].getD j undef)
 bl:Below w.heap.size w w'
 sz:w'.heap.size=w.heap.size+2
theorem rF.drew{w w':World}{o1 o2 r1 r2:Nat}(h:rF w w' o1 o2 r1 r2):rF w w'.drew o1 o2 r1 r2:=⟨h.off.drew,h.rest.drew,h.bl.drew,h.sz⟩
theorem rI(w:World)(a b c:Value)(t:TypeId):(w.alloc (.cells #[a,b,c] t)).rowIs w.heap.size t 3 (fun j=>[a,b,c].getD j undef):=
 World.rowIs_alloc w #[a,b,c] t _ (fun j hj=>by
  match j,hj with
  | 0,_=>rfl
  | 1,_=>rfl
  | 2,_=>rfl)
theorem qT{w:World}{b:Nat}{t:TypeId}{F:Nat->Value}(h:w.rowIs b t 3 F)(x y z:Value):(((w.setCell ⟨b,0,none⟩ x).setCell ⟨b,1,none⟩ y).setCell ⟨b,2,none⟩ z).rowIs b t 3 (fun j=>[x,y,z].getD j undef):=
 (((h.set 0 x).set 1 y).set 2 z).congr (fun j hj=>by
  match j,hj with
  | 0,_=>rfl
  | 1,_=>rfl
  | 2,_=>rfl)
theorem rF.swap{w w':World}{o1 o2 r1 r2:Nat}(h:rF w w' o1 o2 r1 r2):rF w ((((((w'.setCell ⟨w.heap.size,0,none⟩ (.int .i64 (r1:Nat))).setCell ⟨w.heap.size,1,none⟩ (.int .i64 (r1:Nat))).setCell ⟨w.heap.size,2,none⟩ (.int .i64 (r2:Nat))).setCell ⟨w.heap.size+1,0,none⟩ (.int .i64 (o1:Nat))).setCell ⟨w.heap.size+1,1,none⟩ (.int .i64 (o1:Nat))).setCell ⟨w.heap.size+1,2,none⟩ (.int .i64 (o2:Nat))) r1 r2 o1 o2:=by
 obtain⟨A,hA⟩ : ∃ A,A=((w'.setCell ⟨w.heap.size,0,none⟩ (.int .i64 (r1:Nat))).setCell ⟨w.heap.size,1,none⟩ (.int .i64 (r1:Nat))).setCell ⟨w.heap.size,2,none⟩ (.int .i64 (r2:Nat)):=⟨_,rfl⟩;have bA:cd w.heap.size w' A:=by rw[hA];exact((am _ _).trans (am _ _)).trans (am _ _)
 have rA:=qT h.off (.int .i64 (r1:Nat)) (.int .i64 (r1:Nat)) (.int .i64 (r2:Nat));rw[<-hA]at rA ⊢;obtain⟨B,hB⟩ : ∃ B,B=((A.setCell ⟨w.heap.size+1,0,none⟩ (.int .i64 (o1:Nat))).setCell ⟨w.heap.size+1,1,none⟩ (.int .i64 (o1:Nat))).setCell ⟨w.heap.size+1,2,none⟩ (.int .i64 (o2:Nat)):=⟨_,rfl⟩;have bB:cd (w.heap.size+1) A B:=by rw[hB];exact((am _ _).trans (am _ _)).trans (am _ _)
 have rB:=qT (h.rest.of_block (bA.block _ (by omega))) (.int .i64 (o1:Nat)) (.int .i64 (o1:Nat)) (.int .i64 (o2:Nat));rw[<-hB]at rB ⊢;exact⟨rA.of_block (bB.block _ (by omega)),rB,⟨bB.os.trans (bA.os.trans h.bl.os),bB.tape.trans (bA.tape.trans h.bl.tape),bB.output.trans (bA.output.trans h.bl.output),by rw[bB.size,bA.size];exact h.bl.size,fun k hk=>by rw[bB.block k (by omega),bA.block k (by omega)];exact h.bl.block k hk⟩,by rw[bB.size,bA.size];exact h.sz⟩
theorem aU.congrB{O:Nat->Prop}{g mb mc pb pc bb bc:Nat}{w:World}{n N:Nat}{ms ps bs bs' fr mk tt:Nat->Nat}{kb kc:Nat}{qv:Value}{qs:List Int}{tk:Nat}(h:aU O g mb mc pb pc bb bc w n N ms ps bs fr mk tt kb kc qv qs tk)(e:∀ t,t<n->bs t=bs' t):aU O g mb mc pb pc bb bc w n N ms ps bs' fr mk tt kb kc qv qs tk:=
 ⟨h.box,h.cap,h.rm,h.rp,h.rb.congr e,h.rk,h.rq,h.ng,h.ne,h.oo,h.oq⟩
def Dr(O:Nat->Prop)(g mb mc pb pc bb bc:Nat)(w:World)(n N:Nat)(ms ps bs fr mk tt:Nat->Nat)(qs:List Int)(tk k:Nat):Prop:=
 (∃ kb kc qv,(mk k=fr k∨mk k=tt k)/\aU O g mb mc pb pc bb bc w n N ms ps bs fr (bW mk k (fr k)) tt kb kc qv qs tk) ∨
 (∃ kb kc qv o1 o2 r1 r2,fr k<mk k/\mk k<tt k/\Eh (fr k) (mk k) (tt k) o1 o2 r1 r2/\aU O g mb mc pb pc bb bc w n (N+1) ms ps (fun t=>if o1<=ps t/\ps t<o2 then N else bs t) (bW (bW fr k r1) N o1) (bW (bW mk k r1) N o1) (bW (bW tt k r2) N o2) kb kc qv (qs++[(N:Int)]) tk)
end Go.Proofs.YtpmcjimgkabpeaaGreatDoor
