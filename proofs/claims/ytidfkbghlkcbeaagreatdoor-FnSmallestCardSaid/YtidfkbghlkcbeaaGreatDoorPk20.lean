import Derived.Test.YtidfkbghlkcbeaaGreatDoorPa11
import Derived.Test.YtidfkbghlkcbeaaGreatDoorPa12
import Derived.Deep.DeepCutAuto
import Derived.Test.YtidfkbghlkcbeaaGreatDoorPk19
namespace Go.Proofs.YtidfkbghlkcbeaaGreatDoor
open Go.RowKit Go.Proofs.Tryz
set_option maxHeartbeats 16000000
set_option maxRecDepth 100000
abbrev Df (w:World) (A:Nat) (b:Bool) (f l:Nat->Nat):World:=(((((((((((((((((w).setCell ⟨A,2,none⟩ (.bool b)).setCell ⟨A,3,none⟩ (.int .u64 (f 0:Nat))).setCell ⟨A,4,none⟩ (.int .u64 (f 1:Nat))).setCell ⟨A,5,none⟩ (.int .u64 (f 2:Nat))).setCell ⟨A,6,none⟩ (.int .u64 (f 3:Nat))).setCell ⟨A,7,none⟩ (.int .u64 (f 4:Nat))).setCell ⟨A,8,none⟩ (.int .u64 (f 5:Nat))).setCell ⟨A,9,none⟩ (.int .u64 (f 6:Nat))).setCell ⟨A,10,none⟩ (.int .u64 (f 7:Nat))).setCell ⟨A,11,none⟩ (.int .u64 (l 0:Nat))).setCell ⟨A,12,none⟩ (.int .u64 (l 1:Nat))).setCell ⟨A,13,none⟩ (.int .u64 (l 2:Nat))).setCell ⟨A,14,none⟩ (.int .u64 (l 3:Nat))).setCell ⟨A,15,none⟩ (.int .u64 (l 4:Nat))).setCell ⟨A,16,none⟩ (.int .u64 (l 5:Nat))).setCell ⟨A,17,none⟩ (.int .u64 (l 6:Nat))).setCell ⟨A,18,none⟩ (.int .u64 (l 7:Nat))
def fG(F:Nat->Value)(b:Bool)(f l:Nat->Nat):Nat->Value:=fun k=>if k<2 then F k else bQ b f l (k-2)
theorem yY{w:World}{A:Nat}{F:Nat->Value}(h:w.rowIs A 106 19 F)(b:Bool)(f l:Nat->Nat):(Df w A b f l).rowIs A 106 19 (fG F b f l):=by
 have h2:=(((((((((((((((((h).set 2 (.bool b)).set 3 (.int .u64 (f 0:Nat))).set 4 (.int .u64 (f 1:Nat))).set 5 (.int .u64 (f 2:Nat))).set 6 (.int .u64 (f 3:Nat))).set 7 (.int .u64 (f 4:Nat))).set 8 (.int .u64 (f 5:Nat))).set 9 (.int .u64 (f 6:Nat))).set 10 (.int .u64 (f 7:Nat))).set 11 (.int .u64 (l 0:Nat))).set 12 (.int .u64 (l 1:Nat))).set 13 (.int .u64 (l 2:Nat))).set 14 (.int .u64 (l 3:Nat))).set 15 (.int .u64 (l 4:Nat))).set 16 (.int .u64 (l 5:Nat))).set 17 (.int .u64 (l 6:Nat))).set 18 (.int .u64 (l 7:Nat));refine h2.congr (fun k hk=>?_)
 match k,hk with
 | 0,_=>simp[fG]
 | 1,_=>simp[fG]
 | 2,_=>simp[fG,bQ]
 | 3,_=>simp[fG,bQ,wd]
 | 4,_=>simp[fG,bQ,wd]
 | 5,_=>simp[fG,bQ,wd]
 | 6,_=>simp[fG,bQ,wd]
 | 7,_=>simp[fG,bQ,wd]
 | 8,_=>simp[fG,bQ,wd]
 | 9,_=>simp[fG,bQ,wd]
 | 10,_=>simp[fG,bQ,wd]
 | 11,_=>simp[fG,bQ,wd]
 | 12,_=>simp[fG,bQ,wd]
 | 13,_=>simp[fG,bQ,wd]
 | 14,_=>simp[fG,bQ,wd]
 | 15,_=>simp[fG,bQ,wd]
 | 16,_=>simp[fG,bQ,wd]
 | 17,_=>simp[fG,bQ,wd]
 | 18,_=>simp[fG,bQ,wd]
 | n+19,h=>exact absurd h (by omega)
theorem vt(w:World)(A:Nat)(b:Bool)(f l:Nat->Nat):ce A w (Df w A b f l):=(((((((((((((((((ce.refl _ _).trans (am _ _)).trans (am _ _)).trans (am _ _)).trans (am _ _)).trans (am _ _)).trans (am _ _)).trans (am _ _)).trans (am _ _)).trans (am _ _)).trans (am _ _)).trans (am _ _)).trans (am _ _)).trans (am _ _)).trans (am _ _)).trans (am _ _)).trans (am _ _)).trans (am _ _)
def oO(O:Nat->Prop)(A:Nat)(w:World)(N:Nat)(S:List (List Int))(K:List Lk)(b:Bool)(f l:Nat->Nat):Prop:=
 cI O A w N S K/\∃ F,w.rowIs A 106 19 F/\∀ k,k<17->F (2+k)=bQ b f l k
theorem oO.of{O:Nat->Prop}{A N:Nat}{w:World}{S:List (List Int)}{K:List Lk}(h:cI O A w N S K)(b:Bool)(f l:Nat->Nat):oO O A (Df w A b f l) N S K b f l:=by
 obtain⟨sv,fv,gs,hs,hM,rest⟩:=h;obtain⟨F,hF,h0,h1⟩:=hM.box;have hr:=yY hF b f l;have a:=vt w A b f l;refine⟨⟨sv,fv,gs,hs,⟨⟨_,hr,by simp[fG,h0],by simp[fG,h1]⟩,hM.oA,ak hM.so (fun q hq=>a.block q (hM.sb q hq).2),ak hM.fo (fun q hq=>a.block q (hM.fb q hq).2),hM.sb,hM.fb,hM.sf⟩,rest⟩,_,hr,fun k hk=>?_⟩;unfold fG;rw[if_neg (by omega),show 2+k-2=k by omega]
theorem vN(w:World):cI (fun k=>w.heap.size<=k) w.heap.size (w.alloc (.cells #[.slice none 0 0,.slice none 0 0,.bool false,.int .u64 0,.int .u64 0,.int .u64 0,.int .u64 0,.int .u64 0,.int .u64 0,.int .u64 0,.int .u64 0,.int .u64 0,.int .u64 0,.int .u64 0,.int .u64 0,.int .u64 0,.int .u64 0,.int .u64 0,.int .u64 0] 106)) 0 [] []:=by
 refine⟨.slice none 0 0,.slice none 0 0,fun _=>z8,fun _=>z8,⟨⟨fun k=>(#[.slice none 0 0,.slice none 0 0,.bool false,.int .u64 0,.int .u64 0,.int .u64 0,.int .u64 0,.int .u64 0,.int .u64 0,.int .u64 0,.int .u64 0,.int .u64 0,.int .u64 0,.int .u64 0,.int .u64 0,.int .u64 0,.int .u64 0,.int .u64 0,.int .u64 0]:Array Value)[k]?.getD undef,?_,rfl,rfl⟩,Nat.le_refl _,World.ownsRow_nil _ _ _ _,World.ownsRow_nil _ _ _ _,fun q hq=>(by cases hq),fun q hq=>(by cases hq),fun q hq=>(by cases hq)⟩,rfl,fun i hi=>absurd hi (Nat.not_lt_zero _),fun _=>qy,fun i j=>by simp[Bt,z8,cm],fun _ _=>rfl⟩;refine World.rowIs_alloc w #[.slice none 0 0,.slice none 0 0,.bool false,.int .u64 0,.int .u64 0,.int .u64 0,.int .u64 0,.int .u64 0,.int .u64 0,.int .u64 0,.int .u64 0,.int .u64 0,.int .u64 0,.int .u64 0,.int .u64 0,.int .u64 0,.int .u64 0,.int .u64 0,.int .u64 0] 106 _ ?_;intro i hi;simp[Array.getElem?_eq_getElem hi]
theorem kM.cells{O:Nat->Prop}{A:Nat}{w:World}{sv fv:Value}{n m:Nat}{gs hs:Nat->Nat->Nat}(h:kM O A w sv fv n m gs hs):∃ F,w.rowIs A 106 19 F:=by
 obtain⟨F,hF,-⟩:=h.box;exact⟨F,hF⟩
theorem lO{U:Value}{n:Nat}{a:It}{ln:List Lk}{ss:List (List Int)}(hu:fM U n a ln ss)(hn:n<=512)(w:World)(htz:TZ w)(hlt:Tryz.laysTZ_ren.g 1<w.heap.size) :
  Calls prog 24 #[U] w fun e w'=>∃ f l,e=.returned (.pointer (some ⟨w.heap.size,0,none⟩))/\oO (fun k=>w.heap.size<=k) w.heap.size w' n ss ln a.nl f l/\bH f a.fi/\bH l a.la/\Below w.heap.size w w':=by
 obtain⟨⟨T,x,rfl⟩,hu⟩:=hu;have b:=ai w (.cells #[.slice none 0 0,.slice none 0 0,.bool false,.int .u64 0,.int .u64 0,.int .u64 0,.int .u64 0,.int .u64 0,.int .u64 0,.int .u64 0,.int .u64 0,.int .u64 0,.int .u64 0,.int .u64 0,.int .u64 0,.int .u64 0,.int .u64 0,.int .u64 0,.int .u64 0] 106);have hz:(w.alloc (.cells #[.slice none 0 0,.slice none 0 0,.bool false,.int .u64 0,.int .u64 0,.int .u64 0,.int .u64 0,.int .u64 0,.int .u64 0,.int .u64 0,.int .u64 0,.int .u64 0,.int .u64 0,.int .u64 0,.int .u64 0,.int .u64 0,.int .u64 0,.int .u64 0,.int .u64 0] 106)).heap.size=w.heap.size+1:=ah _ _;have hA:=hu (fun k=>w.heap.size<=k) w.heap.size _ 0 [] [] (vN w) (fun k hk=>by omega) ⟨htz.below b hlt,by omega,by omega⟩ (by omega);have HA:=ae hA;have HB:=ae b;clear hu hA b hz htz
 go_enter func24,ntmps24
 go_wp2_with fail;refine HA.u.mono ?_;rintro e w2 ⟨f,l,rfl,hf,hl,ha,c⟩;have d:=ae (oO.of ha a.nl f l);obtain⟨sv,fv,gs,hs,hM,-⟩:=ha;obtain⟨F,hF⟩:=hM.cells;have q2:=hF.cell (i:=2) (by omega);have y2:=hF.frozen 2;have q3:=hF.cell (i:=3) (by omega);have y3:=hF.frozen 3;have q4:=hF.cell (i:=4) (by omega);have y4:=hF.frozen 4;have q5:=hF.cell (i:=5) (by omega);have y5:=hF.frozen 5;have q6:=hF.cell (i:=6) (by omega);have y6:=hF.frozen 6;have q7:=hF.cell (i:=7) (by omega);have y7:=hF.frozen 7;have q8:=hF.cell (i:=8) (by omega);have y8:=hF.frozen 8;have q9:=hF.cell (i:=9) (by omega);have y9:=hF.frozen 9;have q10:=hF.cell (i:=10) (by omega);have y10:=hF.frozen 10;have q11:=hF.cell (i:=11) (by omega);have y11:=hF.frozen 11;have q12:=hF.cell (i:=12) (by omega);have y12:=hF.frozen 12;have q13:=hF.cell (i:=13) (by omega);have y13:=hF.frozen 13;have q14:=hF.cell (i:=14) (by omega);have y14:=hF.frozen 14;have q15:=hF.cell (i:=15) (by omega);have y15:=hF.frozen 15;have q16:=hF.cell (i:=16) (by omega);have y16:=hF.frozen 16;have q17:=hF.cell (i:=17) (by omega);have y17:=hF.frozen 17;have q18:=hF.cell (i:=18) (by omega);have y18:=hF.frozen 18;have h:=ae hf;have j:=ae hl;have o:=ae (c.below (m:=w.heap.size) (fun k hk e=>by omega));clear hF hM hf hl c HA;unfold fq;go_wp2;go_ret;refine⟨f,l,rfl,?_,?_,?_,?_⟩
 ·have:=d.u;simp only[Nat.zero_add,List.nil_append]at this;have e:cT 0 ln=ln:=by unfold cT;simp
  rw[e]at this;exact this
 ·have:=h.u;simpa[It.sh]using this
 ·have:=j.u;simpa[It.sh]using this
 exact(HB.u.trans o.u).trans ((vt _ _ _ _ _).below lR)
theorem EB(a0 a1 a2 a3 a4 a5 a6 a7 c0 c1 c2 c3 c4 c5 c6 c7:Int)(w:World):(Op.equalIn 10000 102 (.agg #[.int .u64 a0,.int .u64 a1,.int .u64 a2,.int .u64 a3,.int .u64 a4,.int .u64 a5,.int .u64 a6,.int .u64 a7]) (.agg #[.int .u64 c0,.int .u64 c1,.int .u64 c2,.int .u64 c3,.int .u64 c4,.int .u64 c5,.int .u64 c6,.int .u64 c7])).run prog w=.ok (a0==c0&&(a1==c1&&(a2==c2&&(a3==c3&&(a4==c4&&(a5==c5&&(a6==c6&&a7==c7))))))) w:=by
 have u3:=underlying86;have a3':=Tryz.isAgg86;have z3:=Tryz.sizeOf86;rw[show(10000:Nat)=9999+1 from rfl,Op.equalIn];simp only[Sem.run_bind,run_underlying underlying102,Result.andThen_ok];simp only[Std.Legacy.Range.forIn_eq_forIn_range',Std.Legacy.Range.size,Nat.sub_zero,Nat.add_sub_cancel,Nat.div_one,List.range'_succ,List.range'_zero,List.forIn_cons,List.forIn_nil]
 go_simp
 by_cases h0:a0=c0
 ·by_cases h1:a1=c1
  ·by_cases h2:a2=c2
   ·by_cases h3:a3=c3
    ·by_cases h4:a4=c4
     ·by_cases h5:a5=c5
      ·by_cases h6:a6=c6
       ·by_cases h7:a7=c7<;>simp[h0,h1,h2,h3,h4,h5,h6,h7]
       simp[h0,h1,h2,h3,h4,h5,h6]
      simp[h0,h1,h2,h3,h4,h5]
     simp[h0,h1,h2,h3,h4]
    simp[h0,h1,h2,h3]
   simp[h0,h1,h2]
  simp[h0,h1]
 simp[h0]
def fW(w:World)(B A:Nat)(cv hv:Value):Prop:=w.heap[B]?=some (.cells #[.pointer (some ⟨A,0,none⟩),cv,hv] 57 (0,0))
theorem fW.cells{w:World}{B A:Nat}{cv hv:Value}(h:fW w B A cv hv):w.cell? ⟨B,0,none⟩=some (.pointer (some ⟨A,0,none⟩))/\w.cell? ⟨B,1,none⟩=some cv/\w.cell? ⟨B,2,none⟩=some hv:=
 ⟨World.news_of_block h 0 _ rfl,World.news_of_block h 1 _ rfl,World.news_of_block h 2 _ rfl⟩
theorem fW.keep{w w':World}{B A:Nat}{cv hv:Value}(h:fW w B A cv hv)(e:w'.heap[B]?=w.heap[B]?):fW w' B A cv hv:=e.trans h
theorem fW.lt{w:World}{B A:Nat}{cv hv:Value}(h:fW w B A cv hv):B<w.heap.size:=(Array.getElem?_eq_some_iff.1 h).1
def oJ(w:World)(A N:Nat)(fv:Value)(fs:Nat->Nat->Nat)(b:Bool)(f l:Nat->Nat):Prop:=
 (∃ F,w.rowIs A 106 19 F/\F 1=fv/\∀ k,k<17->F (2+k)=bQ b f l k)/\AO w fv N fs
theorem oJ.keep{w w':World}{A N m:Nat}{fv:Value}{fs:Nat->Nat->Nat}{b:Bool}{f l:Nat->Nat}(h:oJ w A N fv fs b f l)(hb:Below m w w')(hm:w.heap.size<=m):oJ w' A N fv fs b f l:=by
 obtain⟨⟨F,h1,h2⟩,h3⟩:=h;exact⟨⟨F,h1.of_block (hb.block A (Nat.lt_of_lt_of_le h1.lt hm)),h2⟩,aG h3 hb hm⟩
theorem oJ.cells{w:World}{A N:Nat}{fv:Value}{fs:Nat->Nat->Nat}{b:Bool}{f l:Nat->Nat}(h:oJ w A N fv fs b f l):w.cell? ⟨A,1,none⟩=some fv/\w.cell? ⟨A,2,none⟩=some (.bool b)/\(∀ k,k<8->w.cell? ⟨A,3+k,none⟩=some (.int .u64 (f k:Nat)))/\∀ k,k<8->w.cell? ⟨A,11+k,none⟩=some (.int .u64 (l k:Nat)):=by
 obtain⟨⟨F,h1,h2,h3⟩,-⟩:=h;refine⟨?_,?_,fun k hk=>?_,fun k hk=>?_⟩
 ·rw[h1.cell (by omega),h2]
 ·rw[h1.cell (by omega)];exact congrArg some (h3 0 (by omega))
 ·rw[h1.cell (by omega),show 3+k=2+(k+1) by omega,h3 (k+1) (by omega)];simp only[bQ];rw[if_neg (by omega),if_pos (by omega),show k+1-1=k by omega]
  rfl
 rw[h1.cell (by omega),show 11+k=2+(k+9) by omega,h3 (k+9) (by omega)];simp only[bQ];rw[if_neg (by omega),if_neg (by omega),show k+9-9=k by omega]
 rfl
def pd(g:Nat->Nat)(e:Bool):Value:=.agg #[.int .u64 (g 0:Nat),.int .u64 (g 1:Nat),.int .u64 (g 2:Nat),.int .u64 (g 3:Nat),.int .u64 (g 4:Nat),.int .u64 (g 5:Nat),.int .u64 (g 6:Nat),.int .u64 (g 7:Nat),.bool e]
abbrev c9 (g:Nat->Nat) (e:Bool):Array Value:=#[.int .u64 (g 0:Nat),.int .u64 (g 1:Nat),.int .u64 (g 2:Nat),.int .u64 (g 3:Nat),.int .u64 (g 4:Nat),.int .u64 (g 5:Nat),.int .u64 (g 6:Nat),.int .u64 (g 7:Nat),.bool e]
def lG(g:Nat->Nat)(e:Bool):Nat->Value:=fun k=>if k<8 then wd g k else .bool e
theorem rD{w:World}{B:Nat}{t:TypeId}{g:Nat->Nat}{e:Bool}(h:w.rowIs B t 9 (lG g e)):w.heap[B]?=some (.cells (c9 g e) t (0,0)):=by
 obtain⟨c,hc,hs,hf⟩:=h;rw[hc]
 congr 2
 refine Array.ext (by simp[hs]) (fun i h1 h2=>?_)
 have h3:=hf i (by omega);rw[Array.getElem?_eq_getElem h1]at h3;have h4:=Option.some.inj h3;rw[h4];have h5:i<9:=by omega
 match i,h5 with
 | 0,_=>rfl
 | 1,_=>rfl
 | 2,_=>rfl
 | 3,_=>rfl
 | 4,_=>rfl
 | 5,_=>rfl
 | 6,_=>rfl
 | 7,_=>rfl
 | 8,_=>rfl
theorem gx{w:World}{B:Nat}{t:TypeId}{g:Nat->Nat}{e:Bool}(h:w.heap[B]?=some (.cells (c9 g e) t (0,0))):w.rowIs B t 9 (lG g e):=by
 refine⟨_,h,rfl,fun i hi=>?_⟩
 match i,hi with
 | 0,_=>rfl
 | 1,_=>rfl
 | 2,_=>rfl
 | 3,_=>rfl
 | 4,_=>rfl
 | 5,_=>rfl
 | 6,_=>rfl
 | 7,_=>rfl
 | 8,_=>rfl
theorem Eg(g:Nat->Nat)(e:Bool):(c9 g e).all (·.oneCell')=true:=by simp[Value.oneCell']
theorem yG{w:World}{B:Nat}{g:Nat->Nat}{e:Bool}(h:w.heap[B]?=some (.cells (c9 g e) 118 (0,0))){fn:Func}{p:Tmp}(hr:fn.results=#[.cell p 118])(tmps:Array Value)(hp:tmps.getD p undef=.pointer (some ⟨B,0,none⟩)):(results fn tmps).run prog w=.ok (pd g e) w:=
 results_cell_row hr tmps w B _ _ _ _ hp h underlying118 rfl (by kernel_rfl)
theorem vG(B A N:Nat)(cv hv fv:Value)(fs:Nat->Nat->Nat)(b:Bool)(f l:Nat->Nat)(w:World)(hB:fW w B A cv hv)(hA:oJ w A N fv fs b f l) :
  Calls prog 52 #[.pointer (some ⟨B,0,none⟩)] w fun e w'=>e=.returned (pd f b)/\Below w.heap.size w w':=by
 have hlt:=hB.lt;have c:A<w.heap.size:=by obtain⟨⟨F,h1,-⟩,-⟩:=hA;exact h1.lt
 have a:=ai w (.cells #[.int .u64 0,.int .u64 0,.int .u64 0,.int .u64 0,.int .u64 0,.int .u64 0,.int .u64 0,.int .u64 0,.bool false] 118);obtain⟨c0,-,-⟩:=(hB.keep (a.block B hlt)).cells;obtain⟨-,d2,d3,-⟩:=(hA.keep a lR).cells;have e0:=d3 0 (by omega);have e1:=d3 1 (by omega);have e2:=d3 2 (by omega);have e3:=d3 3 (by omega);have e4:=d3 4 (by omega);have e5:=d3 5 (by omega);have e6:=d3 6 (by omega);have e7:=d3 7 (by omega);simp only[Nat.reduceAdd]at e0 e1 e2 e3 e4 e5 e6 e7;clear hB hA d3 a
 go_enter func52,ntmps52
 go_wp2_with fail;refine aX 17 (by kernel_rfl) (by kernel_rfl) ?_;simp only[List.take_succ_cons,List.take_zero,List.drop_succ_cons,List.drop_zero]
 repeat (first|go_big_quiet_skip|(go_big_quiet_want;go_big_quiet_op;go_big_quiet_on))
 refine wpQuiet_nil ?_;go_wp2;refine bodyPost_ret (yG (g:=f) (e:=b) (by exact(ay w _).new) rfl _ rfl) rfl ?_;exact⟨rfl,(ai w _).drew⟩
def sT(fs:Nat->Nat->Nat)(Y:List Nat):Nat->Nat:=Y.foldl (fun p k=>cD p (fs k)) (fun _=>0)
theorem AE(fs:Nat->Nat->Nat)(Y:List Nat)(k:Nat):sT fs (Y++[k])=cD (sT fs Y) (fs k):=by simp[sT,List.foldl_append]
theorem rH{fs:Nat->Nat->Nat}(hf:∀ i,Fit (fs i)):∀ (Y:List Nat) (p:Nat->Nat),Fit p->Fit (Y.foldl (fun p k=>cD p (fs k)) p)
 | [],_,h=>h
 | k::Y,_,h=>rH hf Y _ (qq h (hf k))
theorem uN{fs:Nat->Nat->Nat}(hf:∀ i,Fit (fs i))(Y:List Nat):Fit (sT fs Y):=rH hf Y _ vm
theorem uH{fs:Nat->Nat->Nat}(j:Nat):∀ (Y:List Nat) (p:Nat->Nat),Bt (Y.foldl (fun p k=>cD p (fs k)) p) j=true↔(Bt p j=true∨∃ k∈Y,Bt (fs k) j=true)
 | [],p=>by simp
 | k::Y,p=>by
  simp only[List.foldl_cons];rw[uH j Y,vv,Bool.or_eq_true]
  constructor
  ·rintro((h|h)|⟨k',h1,h2⟩)
   ·exact Or.inl h
   ·exact Or.inr ⟨k,List.mem_cons_self ..,h⟩
   exact Or.inr ⟨k',List.mem_cons_of_mem _ h1,h2⟩
  rintro(h|⟨k',h1,h2⟩)
  ·exact Or.inl (Or.inl h)
  rcases List.mem_cons.1 h1 with rfl|h1
  ·exact Or.inl (Or.inr h2)
  exact Or.inr ⟨k',h1,h2⟩
theorem zw{fs:Nat->Nat->Nat}(Y:List Nat)(j:Nat):Bt (sT fs Y) j=true↔∃ k∈Y,Bt (fs k) j=true:=by
 unfold sT;rw[uH]
 constructor
 ·rintro(h|h)
  ·simp[Bt]at h
  exact h
 exact Or.inr
def Cz(g:Nat->Nat):Bool:=((g 0:Int)==0&&((g 1:Int)==0&&((g 2:Int)==0&&((g 3:Int)==0&&((g 4:Int)==0&&((g 5:Int)==0&&((g 6:Int)==0&&(g 7:Int)==0)))))))
theorem xW{g:Nat->Nat}(hg:Fit g):(!(Cz g))=true↔∃ i,i<512/\Bt g i=true:=by
 have key:Cz g=true↔∀ j,j<8->g j=0:=by
  unfold Cz;simp only[Bool.and_eq_true,beq_iff_eq]
  constructor
  ·rintro⟨h0,h1,h2,h3,h4,h5,h6,h7⟩ j hj
   match j,hj with
   | 0,_=>omega
   | 1,_=>omega
   | 2,_=>omega
   | 3,_=>omega
   | 4,_=>omega
   | 5,_=>omega
   | 6,_=>omega
   | 7,_=>omega
  intro h;exact⟨by rw[h 0 (by omega)];rfl,by rw[h 1 (by omega)];rfl,by rw[h 2 (by omega)];rfl,by rw[h 3 (by omega)];rfl,by rw[h 4 (by omega)];rfl,by rw[h 5 (by omega)];rfl,by rw[h 6 (by omega)];rfl,by rw[h 7 (by omega)];rfl⟩
 rw[Bool.not_eq_true',<-Bool.not_eq_true,key]
 constructor
 ·intro h
  apply Classical.byContradiction
  intro a
  apply h
  intro j hj
  apply Nat.eq_of_testBit_eq
  intro k;rw[Nat.zero_testBit]
  by_cases hk:k<64
  ·have:¬ Bt g (64*j+k)=true:=fun q=>a ⟨64*j+k,by omega,q⟩
   unfold Bt at this;rw[show(64*j+k) / 64=j by omega,show(64*j+k)%64=k by omega]at this;exact Bool.eq_false_iff.2 this
  exact Nat.testBit_lt_two_pow (Nat.lt_of_lt_of_le (hg j) (by
   have:(2:Nat) ^ 64<=2 ^ k:=Nat.pow_le_pow_right (by omega) (by omega);exact this))
 rintro⟨i,hi,hb⟩ h;unfold Bt at hb;rw[h (i / 64) (by omega),Nat.zero_testBit]at hb;cases hb
theorem BF(k:Nat)(hk:k<9)(y:Bool):(if k=8 then Value.bool y else lG (fun _=>0) false k)=lG (fun _=>0) y k:=by
 unfold lG
 by_cases e:k=8
 ·subst e;rfl
 rw[if_neg e,if_pos (by omega),if_pos (by omega)]
def Bg(W0 wx:World)(bx:Value)(g:Nat->Nat):Prop:=∃ rb,bx=.pointer (some ⟨rb,0,none⟩)/\W0.heap.size<=rb/\wx.heap[rb]?=some (.cells (c8 g) 102 (0,0))/\Below W0.heap.size W0 wx
theorem yV{w:World}{B:Nat}{t:TypeId}{g:Nat->Nat}(h:w.rowIs B t 8 (wd g))(q:Nat->Nat):((((((((w.setCell ⟨B,0,none⟩ (.int .u64 (q 0:Nat))).setCell ⟨B,1,none⟩ (.int .u64 (q 1:Nat))).setCell ⟨B,2,none⟩ (.int .u64 (q 2:Nat))).setCell ⟨B,3,none⟩ (.int .u64 (q 3:Nat))).setCell ⟨B,4,none⟩ (.int .u64 (q 4:Nat))).setCell ⟨B,5,none⟩ (.int .u64 (q 5:Nat))).setCell ⟨B,6,none⟩ (.int .u64 (q 6:Nat))).setCell ⟨B,7,none⟩ (.int .u64 (q 7:Nat))).rowIs B t 8 (wd q):=by
 refine((((((((h.set 0 _).set 1 _).set 2 _).set 3 _).set 4 _).set 5 _).set 6 _).set 7 _).congr (fun k hk=>?_)
 match k,hk with
 | 0,_=>rfl
 | 1,_=>rfl
 | 2,_=>rfl
 | 3,_=>rfl
 | 4,_=>rfl
 | 5,_=>rfl
 | 6,_=>rfl
 | 7,_=>rfl
theorem rK{w w':World}{m B:Nat}(h:Below m w w')(hm:m<=B)(q:Nat->Value):Below m w ((((((((w'.setCell ⟨B,0,none⟩ (q 0)).setCell ⟨B,1,none⟩ (q 1)).setCell ⟨B,2,none⟩ (q 2)).setCell ⟨B,3,none⟩ (q 3)).setCell ⟨B,4,none⟩ (q 4)).setCell ⟨B,5,none⟩ (q 5)).setCell ⟨B,6,none⟩ (q 6)).setCell ⟨B,7,none⟩ (q 7)):=
 aD (aD (aD (aD (aD (aD (aD (aD h hm _) hm _) hm _) hm _) hm _) hm _) hm _) hm _
theorem EU{W0 w1:World}(h:Below ((W0.alloc (.cells #[.int .u64 0,.int .u64 0,.int .u64 0,.int .u64 0,.int .u64 0,.int .u64 0,.int .u64 0,.int .u64 0] 102)).drew).heap.size ((W0.alloc (.cells #[.int .u64 0,.int .u64 0,.int .u64 0,.int .u64 0,.int .u64 0,.int .u64 0,.int .u64 0,.int .u64 0] 102)).drew) w1):w1.rowIs W0.heap.size 102 8 (wd (fun _=>0))/\Below W0.heap.size W0 w1:=by
 have hs:((W0.alloc (.cells #[.int .u64 0,.int .u64 0,.int .u64 0,.int .u64 0,.int .u64 0,.int .u64 0,.int .u64 0,.int .u64 0] 102)).drew).heap.size=W0.heap.size+1:=ah _ _;exact⟨(dR W0 102 (fun _=>0)).of_block (h.block W0.heap.size (by omega)),(ai W0 _).trans (⟨h.os,h.tape,h.output,h.size,fun k hk=>h.block k (by omega)⟩)⟩
theorem Cr(w:World)(j:Nat):(w.alloc (.cells #[.int .u64 0,.int .u64 0,.int .u64 0,.int .u64 0,.int .u64 0,.int .u64 0,.int .u64 0,.int .u64 0] 102)).frozen? ⟨w.heap.size,j,none⟩=false:=(dR w 102 (fun _=>0)).frozen j
theorem Co(w:World)(j:Nat)(hj:j<8):(w.alloc (.cells #[.int .u64 0,.int .u64 0,.int .u64 0,.int .u64 0,.int .u64 0,.int .u64 0,.int .u64 0,.int .u64 0] 102)).cell? ⟨w.heap.size,j,none⟩=some (wd (fun _=>0) j):=(dR w 102 (fun _=>0)).cell hj
theorem Bl{W0 w1:World}(h:Below (W0.drew).heap.size (W0.drew) w1):Below W0.heap.size W0 w1:=⟨h.os,h.tape,h.output,h.size,h.block⟩
theorem zN(B A N c m:Nat)(cv hv fv:Value)(hs fs:Nat->Nat->Nat)(b:Bool)(f l Q:Nat->Nat)(e0:Bool)(w:World)(hB:fW w B A cv hv)(hA:oJ w A N fv fs b f l)(hh:AO w hv m hs)(hc:c<m)(hQ:Fit Q)(hhc:Fit (hs c))(hl:Fit l)(hfs:∀ i,Fit (fs i))(hin:∀ i,Bt (hs c) i=true->i<N)(K:TZ w)(htl:Tryz.laysTZ_ren.g 1<w.heap.size) :
  Calls prog 55 #[.pointer (some ⟨B,0,none⟩),pd Q e0,.int .i64 c] w fun e w'=>e=.returned (pd (sT fs (ia (dO Q (hs c)) 512)) (!(Cz (dO (dO Q (hs c)) l))))/\Below w.heap.size w w':=by
 obtain⟨W0,E⟩ : ∃ W0,W0=((w.alloc (.cells (c9 Q e0) 118)).alloc (.cells #[.int .u64 0,.int .u64 0,.int .u64 0,.int .u64 0,.int .u64 0,.int .u64 0,.int .u64 0,.int .u64 0,.bool false] 118)).alloc (.cells #[.int .u64 0,.int .u64 0,.int .u64 0,.int .u64 0,.int .u64 0,.int .u64 0,.int .u64 0,.int .u64 0,.bool false] 118):=⟨_,rfl⟩;have ap:Below w.heap.size w W0:=by rw[E];exact(aI w _ _).alloc (by rw[ah,ah];omega) _
 have cc:W0.heap.size=w.heap.size+3:=by rw[E,ah,ah,ah]
 have b8:∀ j,j<8->W0.cell? ⟨w.heap.size,j,none⟩=some (.int .u64 (Q j:Nat)):=fun j hj=>by
  have h1:W0.heap[w.heap.size]?=some (.cells (c9 Q e0) 118 (0,0)):=by
   have hb:Below (w.heap.size+1) (w.alloc (.cells (c9 Q e0) 118)) W0:=by
    have:=aI (w.alloc (.cells (c9 Q e0) 118)) (.cells #[.int .u64 0,.int .u64 0,.int .u64 0,.int .u64 0,.int .u64 0,.int .u64 0,.int .u64 0,.int .u64 0,.bool false] 118) (.cells #[.int .u64 0,.int .u64 0,.int .u64 0,.int .u64 0,.int .u64 0,.int .u64 0,.int .u64 0,.int .u64 0,.bool false] 118);rw[ah,<-E]at this;exact this
   rw[hb.block _ (Nat.lt_succ_self _)];exact(ay w _).new
  have h2:=(gx h1).cell (i:=j) (by omega);rw[h2];unfold lG;rw[if_pos hj]
  rfl
 obtain⟨gh,cap,M,F,rfl,b9,C,hM,hF,-⟩:=pI hh hc;have aq:∀ W',Below w.heap.size w W'->∀ j,j<8->W'.cell? ⟨gh,c*8+j,none⟩=some (.int .u64 (hs c j:Nat)):=fun W' hW' j hj=>by
  rw[World.cell?_of_block (a:=⟨gh,c*8+j,none⟩) (hW'.block gh b9),C.cell (by omega),hF j hj]
  rfl
 obtain⟨n0,P⟩ : ∃ n0,n0=w.heap.size:=⟨_,rfl⟩;obtain⟨h,bb⟩ : ∃ h,h=hs c:=⟨_,rfl⟩;rw[<-bb]at aq hhc hin ⊢;obtain⟨R,hR⟩ : ∃ R,R=dO Q h:=⟨_,rfl⟩;rw[<-hR];obtain⟨L2,ar⟩ : ∃ L2,L2=dO R l:=⟨_,rfl⟩;rw[<-ar];obtain⟨y,hy⟩ : ∃ y,y=Cz L2:=⟨_,rfl⟩;rw[<-hy];obtain⟨G,hG⟩ : ∃ G,G=sT fs (ia R 512):=⟨_,rfl⟩;rw[<-hG];have HG:=ae hG;clear hG;have av:Fit R:=by rw[hR];exact pz hQ
 have ag:∀ i,Bt R i=true->i<N:=fun i hi=>hin i (by rw[hR,jG,Bool.and_eq_true]at hi;exact hi.2)
 have ab:=fun W=>qQ R l W av hl
 have bc:∀ W,(Op.equalIn 10000 102 (.agg #[.int .u64 (L2 0:Nat),.int .u64 (L2 1:Nat),.int .u64 (L2 2:Nat),.int .u64 (L2 3:Nat),.int .u64 (L2 4:Nat),.int .u64 (L2 5:Nat),.int .u64 (L2 6:Nat),.int .u64 (L2 7:Nat)]) (.agg #[.int .u64 0,.int .u64 0,.int .u64 0,.int .u64 0,.int .u64 0,.int .u64 0,.int .u64 0,.int .u64 0])).run prog W=.ok y W:=fun W=>by rw[hy];exact EB _ _ _ _ _ _ _ _ 0 0 0 0 0 0 0 0 W
 unfold gG at ab;simp only[<-ar]at ab;have H:W0.rowIs (w.heap.size+1) 118 9 (lG (fun _=>0) false):=by
  have h1:=(ay (w.alloc (.cells (c9 Q e0) 118)) (.cells #[.int .u64 0,.int .u64 0,.int .u64 0,.int .u64 0,.int .u64 0,.int .u64 0,.int .u64 0,.int .u64 0,.bool false] 118)).new;rw[ah]at h1;have hb:=ai ((w.alloc (.cells (c9 Q e0) 118)).alloc (.cells #[.int .u64 0,.int .u64 0,.int .u64 0,.int .u64 0,.int .u64 0,.int .u64 0,.int .u64 0,.int .u64 0,.bool false] 118)) (.cells #[.int .u64 0,.int .u64 0,.int .u64 0,.int .u64 0,.int .u64 0,.int .u64 0,.int .u64 0,.int .u64 0,.bool false] 118);rw[<-E,ah,ah]at hb;have h2:W0.heap[w.heap.size+1]?=some (.cells (c9 (fun _=>0) false) 118 (0,0)):=(hb.block _ (by omega)).trans h1;exact gx h2
 have I:W0.rowIs (w.heap.size+2) 118 9 (lG (fun _=>0) false):=by
  have h1:=(ay ((w.alloc (.cells (c9 Q e0) 118)).alloc (.cells #[.int .u64 0,.int .u64 0,.int .u64 0,.int .u64 0,.int .u64 0,.int .u64 0,.int .u64 0,.int .u64 0,.bool false] 118)) (.cells #[.int .u64 0,.int .u64 0,.int .u64 0,.int .u64 0,.int .u64 0,.int .u64 0,.int .u64 0,.int .u64 0,.bool false] 118)).new;rw[ah,ah,<-E]at h1;have h2:W0.heap[w.heap.size+2]?=some (.cells (c9 (fun _=>0) false) 118 (0,0)):=h1;exact gx h2
 rw[<-P]at H I;have bd:=ae ab;have be:=ae bc;have ch:=ae av;have bf:=ae ag;have bl:=ae hB;have S:=ae hA;have bn:=ae hfs;have ci:=ae H;have ck:=ae I;have cl:Hi (∀ W,Below w.heap.size w W->TZ W):=fun W hW=>K.below hW htl
 clear ab bc av ag hin hfs H I K;have T:=hB.lt;have hS:Hi (∀ W':World,Below W0.heap.size W0 W'->W'.cell? ⟨B,2,none⟩=some (.slice (some ⟨gh,0,none⟩) m cap)/\W'.cell? ⟨n0,0,none⟩=some (.int .u64 (Q 0:Nat))/\W'.cell? ⟨n0,1,none⟩=some (.int .u64 (Q 1:Nat))/\W'.cell? ⟨n0,2,none⟩=some (.int .u64 (Q 2:Nat))/\W'.cell? ⟨n0,3,none⟩=some (.int .u64 (Q 3:Nat))/\W'.cell? ⟨n0,4,none⟩=some (.int .u64 (Q 4:Nat))/\W'.cell? ⟨n0,5,none⟩=some (.int .u64 (Q 5:Nat))/\W'.cell? ⟨n0,6,none⟩=some (.int .u64 (Q 6:Nat))/\W'.cell? ⟨n0,7,none⟩=some (.int .u64 (Q 7:Nat))/\W'.cell? ⟨gh,c*8,none⟩=some (.int .u64 (h 0:Nat))/\W'.cell? ⟨gh,c*8+1,none⟩=some (.int .u64 (h 1:Nat))/\W'.cell? ⟨gh,c*8+2,none⟩=some (.int .u64 (h 2:Nat))/\W'.cell? ⟨gh,c*8+3,none⟩=some (.int .u64 (h 3:Nat))/\W'.cell? ⟨gh,c*8+4,none⟩=some (.int .u64 (h 4:Nat))/\W'.cell? ⟨gh,c*8+5,none⟩=some (.int .u64 (h 5:Nat))/\W'.cell? ⟨gh,c*8+6,none⟩=some (.int .u64 (h 6:Nat))/\W'.cell? ⟨gh,c*8+7,none⟩=some (.int .u64 (h 7:Nat))):=fun W' hW=>by
  have bo:Below w.heap.size w W':=ap.trans (hW.mono (by omega));have k:=(hB.keep (bo.block B T)).cells.2.2;have q:=fun j (hj:j<8)=>(hW.cell (p:=⟨w.heap.size,j,none⟩) (by show w.heap.size<_;omega)).trans (b8 j hj)
  have r:=aq W' bo;rw[P];exact⟨k,q 0 (by omega),q 1 (by omega),q 2 (by omega),q 3 (by omega),q 4 (by omega),q 5 (by omega),q 6 (by omega),q 7 (by omega),r 0 (by omega),r 1 (by omega),r 2 (by omega),r 3 (by omega),r 4 (by omega),r 5 (by omega),r 6 (by omega),r 7 (by omega)⟩
 have hM:=fun W=>qQ Q h W hQ hhc
 unfold gG at hM;simp only[<-hR]at hM;have bp:=ae ((hM ((W0.alloc (.cells #[.int .u64 0,.int .u64 0,.int .u64 0,.int .u64 0,.int .u64 0,.int .u64 0,.int .u64 0,.int .u64 0] 102)).drew)).mono (fun e w' q=>And.intro q.1 (EU q.2)));have bq:=ae ((hM W0.drew).mono (fun e w' q=>And.intro q.1 (Bl q.2)));clear hM;have cp:=ae ap;have br:=ae E;have L:=ae P;have ds:(c:Int)<(m:Int):=by omega
 have hE:=Below.refl W0.heap.size W0;have al:∀ o:Obj,Below W0.heap.size W0 (W0.alloc o):=fun o=>ai _ o
 obtain⟨k2,q0,q1,q2,q3,q4,q5,q6,q7,r0,r1,r2,r3,r4,r5,r6,r7⟩:=hS.u W0 hE;have cy:w.heap.size+3<=W0.heap.size:=by omega
 have d8:W0.heap.size<=w.heap.size+3:=by omega
 clear hB hA hh b8 aq C hF ap E hQ hhc bb cc hR ar hy hl;unfold pd
 go_enter func55,ntmps55
 go_upto_region 2 with fail
 rw[<-br.u,<-P];clear br P
 go_cut [8] (fun bx wx=>Bg W0 wx bx R)
 case first =>
  go_region_held3 (fun W'=>W'.cell? ⟨B,2,none⟩=some (.slice (some ⟨gh,0,none⟩) m cap)/\W'.cell? ⟨n0,0,none⟩=some (.int .u64 (Q 0:Nat))/\W'.cell? ⟨n0,1,none⟩=some (.int .u64 (Q 1:Nat))/\W'.cell? ⟨n0,2,none⟩=some (.int .u64 (Q 2:Nat))/\W'.cell? ⟨n0,3,none⟩=some (.int .u64 (Q 3:Nat))/\W'.cell? ⟨n0,4,none⟩=some (.int .u64 (Q 4:Nat))/\W'.cell? ⟨n0,5,none⟩=some (.int .u64 (Q 5:Nat))/\W'.cell? ⟨n0,6,none⟩=some (.int .u64 (Q 6:Nat))/\W'.cell? ⟨n0,7,none⟩=some (.int .u64 (Q 7:Nat))/\W'.cell? ⟨gh,c*8,none⟩=some (.int .u64 (h 0:Nat))/\W'.cell? ⟨gh,c*8+1,none⟩=some (.int .u64 (h 1:Nat))/\W'.cell? ⟨gh,c*8+2,none⟩=some (.int .u64 (h 2:Nat))/\W'.cell? ⟨gh,c*8+3,none⟩=some (.int .u64 (h 3:Nat))/\W'.cell? ⟨gh,c*8+4,none⟩=some (.int .u64 (h 4:Nat))/\W'.cell? ⟨gh,c*8+5,none⟩=some (.int .u64 (h 5:Nat))/\W'.cell? ⟨gh,c*8+6,none⟩=some (.int .u64 (h 6:Nat))/\W'.cell? ⟨gh,c*8+7,none⟩=some (.int .u64 (h 7:Nat)))
   (first|(with_reducible exact hS.u _ cr)|(with_reducible exact hS.u _ (U _))|(with_reducible exact hS.u _ s)|(with_reducible exact hS.u _ (al _))|go_keep)
   (first
    | (go_at_call 87;(with_reducible refine bp.u.mono ?_);rintro e w1 ⟨rfl,RZ,s⟩;have z0:=RZ.cell (i:=0) (by omega);have f0:=RZ.frozen 0;have z1:=RZ.cell (i:=1) (by omega);have f1:=RZ.frozen 1;have z2:=RZ.cell (i:=2) (by omega);have f2:=RZ.frozen 2;have z3:=RZ.cell (i:=3) (by omega);have f3:=RZ.frozen 3;have z4:=RZ.cell (i:=4) (by omega);have f4:=RZ.frozen 4;have z5:=RZ.cell (i:=5) (by omega);have f5:=RZ.frozen 5;have z6:=RZ.cell (i:=6) (by omega);have f6:=RZ.frozen 6;have z7:=RZ.cell (i:=7) (by omega);have f7:=RZ.frozen 7;have cr:=rK s (Nat.le_refl W0.heap.size) (fun j=>.int .u64 (R j:Nat));have U:∀ o:Obj,Below W0.heap.size W0 (w1.alloc o):=fun o=>s.alloc s.size o)
    | (go_at_call 87;(with_reducible refine bq.u.mono ?_);rintro e w1 ⟨rfl,s⟩;have z0:=Co w1 0 (by omega);have f0:=Cr w1 0;have z1:=Co w1 1 (by omega);have f1:=Cr w1 1;have z2:=Co w1 2 (by omega);have f2:=Cr w1 2;have z3:=Co w1 3 (by omega);have f3:=Cr w1 3;have z4:=Co w1 4 (by omega);have f4:=Cr w1 4;have z5:=Co w1 5 (by omega);have f5:=Cr w1 5;have z6:=Co w1 6 (by omega);have f6:=Cr w1 6;have z7:=Co w1 7 (by omega);have f7:=Cr w1 7;have U:∀ o:Obj,Below W0.heap.size W0 (w1.alloc o):=fun o=>s.alloc s.size o))
  all_goals go_wp2_with fail
  all_goals go_meet
  all_goals first
   | exact⟨_,rfl,Nat.le_refl _,ij (yV RZ R),rK s (Nat.le_refl W0.heap.size) (fun j=>.int .u64 (R j:Nat))⟩
   | exact⟨_,rfl,s.size,(ay w1 _).new,U _⟩
 obtain⟨rb,rfl,e8,J,d⟩:=hcut;obtain⟨V,hV⟩ : ∃ V,V=wc:=⟨_,rfl⟩;rw[<-hV]at J d ⊢;have e9:=d.size;have ad:Below w.heap.size w V:=cp.u.trans (d.mono (by omega));have Z:=L.u;have bs:=S.u.keep ad lR;have d9:A<w.heap.size:=(by obtain⟨⟨F,h1,-⟩,-⟩:=S.u;exact h1.lt);have bt:rb<V.heap.size:=(Array.getElem?_eq_some_iff.1 J).1;have a8:Hi (∀ W':World,(∀ k,k≠n0+2->k<V.heap.size->W'.heap[k]?=V.heap[k]?)->W'.cell? ⟨B,0,none⟩=some (.pointer (some ⟨A,0,none⟩))/\W'.cell? ⟨rb,0,none⟩=some (.int .u64 (R 0:Nat))/\W'.cell? ⟨rb,1,none⟩=some (.int .u64 (R 1:Nat))/\W'.cell? ⟨rb,2,none⟩=some (.int .u64 (R 2:Nat))/\W'.cell? ⟨rb,3,none⟩=some (.int .u64 (R 3:Nat))/\W'.cell? ⟨rb,4,none⟩=some (.int .u64 (R 4:Nat))/\W'.cell? ⟨rb,5,none⟩=some (.int .u64 (R 5:Nat))/\W'.cell? ⟨rb,6,none⟩=some (.int .u64 (R 6:Nat))/\W'.cell? ⟨rb,7,none⟩=some (.int .u64 (R 7:Nat))/\W'.cell? ⟨A,11,none⟩=some (.int .u64 (l 0:Nat))/\W'.cell? ⟨A,12,none⟩=some (.int .u64 (l 1:Nat))/\W'.cell? ⟨A,13,none⟩=some (.int .u64 (l 2:Nat))/\W'.cell? ⟨A,14,none⟩=some (.int .u64 (l 3:Nat))/\W'.cell? ⟨A,15,none⟩=some (.int .u64 (l 4:Nat))/\W'.cell? ⟨A,16,none⟩=some (.int .u64 (l 5:Nat))/\W'.cell? ⟨A,17,none⟩=some (.int .u64 (l 6:Nat))/\W'.cell? ⟨A,18,none⟩=some (.int .u64 (l 7:Nat))):=fun W' hW=>by
  have kB:=(bl.u.keep ((hW B (by omega) (by omega)).trans (ad.block B T))).cells.1;have kr:∀ j,j<8->W'.cell? ⟨rb,j,none⟩=some (.int .u64 (R j:Nat)):=fun j hj=>by
   rw[World.cell?_of_block (a:=⟨rb,j,none⟩) (hW rb (by omega) bt)];have h1:V.rowIs rb 102 8 (wd R):=⟨_,J,rfl,fun i hi=>by
    match i,hi with
    | 0,_=>rfl
    | 1,_=>rfl
    | 2,_=>rfl
    | 3,_=>rfl
    | 4,_=>rfl
    | 5,_=>rfl
    | 6,_=>rfl
    | 7,_=>rfl⟩
   exact h1.cell hj
  have kl:∀ j,j<8->W'.cell? ⟨A,11+j,none⟩=some (.int .u64 (l j:Nat)):=fun j hj=>by
   rw[World.cell?_of_block (a:=⟨A,11+j,none⟩) (hW A (by omega) (by omega))];exact bs.cells.2.2.2 j hj
  exact⟨kB,kr 0 (by omega),kr 1 (by omega),kr 2 (by omega),kr 3 (by omega),kr 4 (by omega),kr 5 (by omega),kr 6 (by omega),kr 7 (by omega),kl 0 (by omega),kl 1 (by omega),kl 2 (by omega),kl 3 (by omega),kl 4 (by omega),kl 5 (by omega),kl 6 (by omega),kl 7 (by omega)⟩
 have a9:=ck.u.of_block (d.block (n0+2) (by omega));have an:=ci.u.of_block (d.block (n0+1) (by omega));have bv:=ae a9;have ao:=ae an;have bz:=ae ((bd.u V.drew).mono (fun e w' q=>And.intro q.1 (And.intro (Bl q.2) (And.intro (a9.of_block ((Bl q.2).block (n0+2) (by omega))) (fun k (_:k≠n0+2) hk=>(Bl q.2).block k hk)))));have c0:=ae ad;have es:=be.u;obtain⟨k0,a0,a1,a2,a3,a4,a5,a6,a7,d0,d1,d2,d3,d4,d5,d6,d7⟩:=a8.u V (fun _ _ _=>rfl);clear J d ad bs a9 an hV bd be k2 q0 q1 q2 q3 q4 q5 q6 q7 r0 r1 r2 r3 r4 r5 r6 r7 hS hE al bp bq Z
 go_upto_region 3 with fail
 go_cut [8] (fun bx wx=>bx=.pointer (some ⟨rb,0,none⟩)/\wx.rowIs (n0+2) 118 9 (lG (fun _=>0) (!y))/\(∀ k,k≠n0+2->k<V.heap.size->wx.heap[k]?=V.heap[k]?)/\V.heap.size<=wx.heap.size/\wx.os=V.os/\wx.tape=V.tape/\wx.output=V.output)
 case first =>
  go_region_held3 (fun W'=>W'.cell? ⟨B,0,none⟩=some (.pointer (some ⟨A,0,none⟩))/\W'.cell? ⟨rb,0,none⟩=some (.int .u64 (R 0:Nat))/\W'.cell? ⟨rb,1,none⟩=some (.int .u64 (R 1:Nat))/\W'.cell? ⟨rb,2,none⟩=some (.int .u64 (R 2:Nat))/\W'.cell? ⟨rb,3,none⟩=some (.int .u64 (R 3:Nat))/\W'.cell? ⟨rb,4,none⟩=some (.int .u64 (R 4:Nat))/\W'.cell? ⟨rb,5,none⟩=some (.int .u64 (R 5:Nat))/\W'.cell? ⟨rb,6,none⟩=some (.int .u64 (R 6:Nat))/\W'.cell? ⟨rb,7,none⟩=some (.int .u64 (R 7:Nat))/\W'.cell? ⟨A,11,none⟩=some (.int .u64 (l 0:Nat))/\W'.cell? ⟨A,12,none⟩=some (.int .u64 (l 1:Nat))/\W'.cell? ⟨A,13,none⟩=some (.int .u64 (l 2:Nat))/\W'.cell? ⟨A,14,none⟩=some (.int .u64 (l 3:Nat))/\W'.cell? ⟨A,15,none⟩=some (.int .u64 (l 4:Nat))/\W'.cell? ⟨A,16,none⟩=some (.int .u64 (l 5:Nat))/\W'.cell? ⟨A,17,none⟩=some (.int .u64 (l 6:Nat))/\W'.cell? ⟨A,18,none⟩=some (.int .u64 (l 7:Nat)))
   (first|(with_reducible exact a8.u _ (c1 _))|(with_reducible exact a8.u _ D)|go_keep)
   (first
    | (go_at_call 87;(with_reducible refine bz.u.mono ?_);rintro e w2 ⟨rfl,af,aw,D⟩;have zz:=aw.cell (i:=8) (by omega);have ff:=aw.frozen 8;have c1:∀ v:Value,∀ k,k≠n0+2->k<V.heap.size->(w2.setCell ⟨n0+2,8,none⟩ v).heap[k]?=V.heap[k]? :=fun v k h1 h2=>(Below.heap_setCell _ _ _ _ h1).trans (D k h1 h2)))
  all_goals go_wp2_with fail
  all_goals go_meet
  all_goals exact⟨rfl,(aw.set 8 _).congr (fun k hk=>BF k hk _),c1 _,by rw[aM];exact af.size,af.os,af.tape,af.output⟩
 obtain⟨rfl,hT,D,ax,b2,b3,b4⟩:=hcut;obtain⟨X,hX⟩ : ∃ X,X=wc:=⟨_,rfl⟩;rw[<-hX]at hT D ax b2 b3 b4 ⊢;have Z:=L.u;have b5:Below w.heap.size w X:=c0.u.trans ⟨b2,b3,b4,ax,fun k hk=>D k (by omega) (by have:=c0.u.size;omega)⟩;obtain⟨e0,e1,e2,e3,e4,e5,e6,e7⟩ : X.cell? ⟨rb,0,none⟩=some (.int .u64 (R 0:Nat))/\X.cell? ⟨rb,1,none⟩=some (.int .u64 (R 1:Nat))/\X.cell? ⟨rb,2,none⟩=some (.int .u64 (R 2:Nat))/\X.cell? ⟨rb,3,none⟩=some (.int .u64 (R 3:Nat))/\X.cell? ⟨rb,4,none⟩=some (.int .u64 (R 4:Nat))/\X.cell? ⟨rb,5,none⟩=some (.int .u64 (R 5:Nat))/\X.cell? ⟨rb,6,none⟩=some (.int .u64 (R 6:Nat))/\X.cell? ⟨rb,7,none⟩=some (.int .u64 (R 7:Nat)):=by
  have q:=a8.u X D;exact⟨q.2.1,q.2.2.1,q.2.2.2.1,q.2.2.2.2.1,q.2.2.2.2.2.1,q.2.2.2.2.2.2.1,q.2.2.2.2.2.2.2.1,q.2.2.2.2.2.2.2.2.1⟩
 have HT:=ae hT;have c2:=ae b5;have b6:=ae (ao.u.of_block (D (n0+1) (by omega) (by omega)));have cs:Hi (∀ W',ce (n0+2) X W'->W'.cell? ⟨B,0,none⟩=some (.pointer (some ⟨A,0,none⟩))/\W'.cell? ⟨A,1,none⟩=some fv):=fun W' hW=>by
  have O:Below w.heap.size w W':=b5.trans (hW.bel2 (by omega));exact⟨(bl.u.keep (O.block B T)).cells.1,(S.u.keep O lR).cells.1⟩
 clear hT D ax b2 b3 b4 b5 hX a8 bz bv ao es k0 a0 a1 a2 a3 a4 a5 a6 a7 d0 d1 d2 d3 d4 d5 d6 d7 Z;obtain⟨fa,fc,rfl⟩:=aj S.u.2
 go_wp2_with fail
 go_loopw [35] (fun iv wr=>∃ i:Nat,i<=8/\iv=.int .i64 i/\wr.rowIs (n0+2) 118 9 (lG (sT fs (ia R (64*i))) (!y))/\ce (n0+2) X wr) (fun iv _=>8-(intOf iv).toNat)
 case atStart=>exact⟨0,by omega,rfl,HT.u,ce.refl _ _⟩
 clear HT;obtain⟨i,hi,rfl,hT,t⟩:=hrel;have HT:=ae hT;have z:=ae t;clear hT t
 by_cases hlt:i<8
 ·have db:(i:Int)<8:=by omega
  have ea:=EM R i hlt;have c3:=ch.u i;have c4:=ae (sI R i);clear e0 e1 e2 e3 e4 e5 e6 e7
  go_wp2_with fail
  go_loopw [10] (fun xv wr=>∃ (Y:List Nat) (x:Nat),xv=.int .u64 x/\x<18446744073709551616/\ia R (64*(i+1))=Y++(dd x).map (64*i + ·)/\wr.rowIs (n0+2) 118 9 (lG (sT fs Y) (!y))/\ce (n0+2) X wr) (fun xv _=>(intOf xv).toNat)
  case atStart=>exact⟨ia R (64*i),R i,rfl,c3,c4.u,HT.u,z.u⟩
  clear HT z c4 c3;obtain⟨Y,x,rfl,hx,hE,hT,t⟩:=hrel
  by_cases hx0:x=0
  ·subst hx0;rw[sS,List.map_nil,List.append_nil]at hE;subst hE;have HT:=ae hT;have z:=ae t;clear hT t;go_wp2
   go_roundw
   case rel=>exact⟨i+1,by omega,by go_num,HT.u,z.u⟩
   simp[intOf];omega
  obtain⟨n1,n2,n3⟩:=oT x hx0 hx;have eb:((x:Int) != 0)=true:=by simp;omega
  have ec:((x:Int)==0)=false:=by simp;omega
  have a1:IntKind.u64.wrap ((x:Int)-1)=((x-1:Nat):Int):=by rw[IntKind.wrap_u64];omega
  obtain⟨x',c5⟩ : ∃ x',x'=x &&& (x-1):=⟨_,rfl⟩;have a2:=bits_and_u64_nat x (x-1) hx (by omega);rw[<-c5]at a2 n3 n1;obtain⟨k,hk⟩ : ∃ k,k=Lib.ctz 64 x:=⟨_,rfl⟩;have O:Below w.heap.size w wr:=c2.u.trans (t.bel2 (by have:=L.u;omega));have K:=xU x hx wr.drew ((cl.u _ O).same rfl);rw[<-hk]at K n2 n1;have c6:=ae K;have a3:IntKind.i64.wrap ((i:Int)*64)=(i:Int)*64:=jf (by omega) (by omega);have a4:IntKind.i64.wrap ((i:Int)*64+(k:Int))=(i:Int)*64+(k:Int):=jf (by omega) (by omega);have HE:Hi (ia R (64*(i+1))=(Y++[64*i+k])++(dd x').map (64*i + ·)):=by show _=_;rw[hE,n1];simp
  have aa:64*i+k∈ia R (64*(i+1)):=by rw[HE.u];simp
  have ct:64*i+k<N:=bf.u _ (by unfold ia at aa;exact(List.mem_filter.1 aa).2);have df:(i:Int)*64+(k:Int)<(N:Int):=by omega
  have ee:0<=(i:Int)*64+(k:Int):=by omega
  have ek:((i:Int)*64+(k:Int)).toNat=64*i+k:=by omega
  obtain⟨gf,cf,M,F,e,c7,C,hM,hF,-⟩:=pI S.u.2 ct;cases e;obtain⟨b0,b1⟩:=cs.u wr t;have hJ:=ie (n0+2) 0 9 gf ((64*i+k)*8) M _ _ _ F (sT fs Y) (fs (64*i+k)) wr.drew (uN bn.u Y) (bn.u _) (by have:=L.u;omega) hT.drew (fun j hj=>by rw[Nat.zero_add];unfold lG;rw[if_pos hj]) (by omega) ((C.of_block (O.block gf c7)).drew) hF hM;have HJ:=ae hJ;have z:=ae t;clear hT t hE n1 K hk c5 aa O C hF hJ
  go_wp2_with fail;refine aX 14 (by kernel_rfl) (by kernel_rfl) ?_;simp only[List.take_succ_cons,List.take_zero,List.drop_succ_cons,List.drop_zero]
  repeat (first|go_big_quiet_skip|(go_big_quiet_want;go_big_quiet_op;go_big_quiet_on))
  go_big_quiet_want
  go_big_quiet_op;refine⟨_,c6.u,?_⟩
  go_big_quiet_on
  repeat (first|go_big_quiet_skip|(go_big_quiet_want;go_big_quiet_op;go_big_quiet_on))
  refine wpQuiet_nil ?_
  go_wp2_with fail;refine HJ.u.mono ?_;rintro e w3 ⟨rfl,ca,n⟩;have cw:Hi (w3.rowIs (n0+2) 118 9 (lG (sT fs (Y++[64*i+k])) (!y))):=ca.congr (fun j hj=>by
   rw[AE];unfold lG
   by_cases e:j<8
   ·rw[if_pos (by omega),if_pos e,Nat.sub_zero]
   rw[if_neg (by omega),if_neg e,if_neg e])
  have cb:=ae (z.u.trans ⟨n.os,n.tape,n.output,n.size,n.block⟩);clear ca n HJ c6 z b0 b1;go_wp2
  go_roundw
  case rel=>exact⟨Y++[64*i+k],x',by go_num,by omega,HE.u,cw.u,cb.u⟩
  simp[intOf];omega
 obtain rfl:i=8:=by omega
 have b7:=HT.u;rw[show 64*8=512 from rfl,<-HG.u]at b7;have HA:Hi (wr.heap[n0+1+1]?=_):=rD b7;have HZ:Hi (wr.heap[n0+1]?=_):=rD (b6.u.of_block (z.u.block (n0+1) (by omega)));have cx:Hi (Below w.heap.size w wr):=c2.u.trans (z.u.bel2 (by have:=L.u;omega));clear b7 HT e0 e1 e2 e3 e4 e5 e6 e7
 go_wp2_with (first
  | (refine wpList_load_row rfl 118 (.tmp 7) rfl (n0+1+1) (by first|(simp[Act.eval];done)|(simp[Act.eval,Act.put];done)) 118 _ _ _ HA.u underlying118 rfl (by kernel_rfl) ?_)
  | (refine wpList_store_row rfl 118 (.tmp 6) (.tmp 61) rfl (n0+1) #[.int .u64 (G 0:Nat),.int .u64 (G 1:Nat),.int .u64 (G 2:Nat),.int .u64 (G 3:Nat),.int .u64 (G 4:Nat),.int .u64 (G 5:Nat),.int .u64 (G 6:Nat),.int .u64 (G 7:Nat),.bool (!y)] (by first|(simp[Act.eval];done)|(simp[Act.eval,Act.put];done)) (by first|(simp[Act.eval];done)|(simp[Act.eval,Act.put];done)) 118 _ HZ.u (by kernel_rfl) rfl (Eg _ _) ?_))
 refine bodyPost_ret (yG (setRow_heap _ _ _ _ _ _ HZ.u) rfl _ rfl) rfl ?_;exact⟨rfl,cx.u.trans (ce.bel2 ⟨rfl,rfl,rfl,by simp[World.setRow],fun k hk=>setRow_other _ _ k _ hk⟩ (by have:=L.u;omega))⟩
structure En (w:World) (B A N m gc:Nat) (hv fv:Value) (K:Nat->Nat) (hs fs:Nat->Nat->Nat) (b:Bool) (f l:Nat->Nat):Prop where
 box:fW w B A (.slice (some ⟨gc,0,none⟩) 256 256) hv
 aut:oJ w A N fv fs b f l
 cls:w.rowIs gc 3 256 (fun x=>.int .i64 (K x:Nat))
 hol:AO w hv m hs
 lt:∀ x,x<256->K x<m
 fh:∀ j,j<m->Fit (hs j)
 ff:Fit f
 fl:Fit l
 fs:∀ i,Fit (fs i)
 inn:∀ j,j<m->∀ i,Bt (hs j) i=true->i<N
theorem En.keep{w w':World}{B A N m gc n:Nat}{hv fv:Value}{K:Nat->Nat}{hs fs:Nat->Nat->Nat}{b:Bool}{f l:Nat->Nat}(h:En w B A N m gc hv fv K hs fs b f l)(hb:Below n w w')(hn:w.heap.size<=n):En w' B A N m gc hv fv K hs fs b f l:=
 ⟨h.box.keep (hb.block B (Nat.lt_of_lt_of_le h.box.lt hn)),h.aut.keep hb hn,h.cls.of_block (hb.block gc (Nat.lt_of_lt_of_le h.cls.lt hn)),aG h.hol hb hn,h.lt,h.fh,h.ff,h.fl,h.fs,h.inn⟩
def Dc(g h:Nat->Nat):Bool:=((g 0:Int)==(h 0:Int)&&((g 1:Int)==(h 1:Int)&&((g 2:Int)==(h 2:Int)&&((g 3:Int)==(h 3:Int)&&((g 4:Int)==(h 4:Int)&&((g 5:Int)==(h 5:Int)&&((g 6:Int)==(h 6:Int)&&(g 7:Int)==(h 7:Int))))))))
theorem DD{g h:Nat->Nat}(e:Dc g h=true):gG g=gG h:=by
 unfold Dc at e;simp only[Bool.and_eq_true,beq_iff_eq]at e;obtain⟨e0,e1,e2,e3,e4,e5,e6,e7⟩:=e;unfold gG;rw[e0,e1,e2,e3,e4,e5,e6,e7]
theorem DN{g h:Nat->Nat}(e:gG g=gG h)(j:Nat)(hj:j<8):g j=h j:=by
 unfold gG at e;simp only[Value.agg.injEq,Array.mk.injEq,List.cons.injEq,Value.int.injEq,Int.natCast_inj,true_and,and_true]at e;obtain⟨e0,e1,e2,e3,e4,e5,e6,e7⟩:=e
 match j,hj with
 | 0,_=>exact e0
 | 1,_=>exact e1
 | 2,_=>exact e2
 | 3,_=>exact e3
 | 4,_=>exact e4
 | 5,_=>exact e5
 | 6,_=>exact e6
 | 7,_=>exact e7
theorem EY{g h:Nat->Nat}(e:gG g=gG h)(i:Nat)(hi:i<512):Bt g i=Bt h i:=by
 unfold Bt;rw[DN e (i / 64) (by omega)]
structure tG (H:Nat->Nat->Nat) (b mm:Nat) (K:Nat->Nat) (hs:Nat->Nat->Nat) (ks:List Value):Prop where
 len:ks.length=mm
 at_:∀ j,j<mm->ks[j]?=some (gG (hs j))
 src:∀ j,j<mm->∃ x,x<b/\hs j=H x
 cl:∀ x,x<b->K x<mm/\gG (H x)=gG (hs (K x))
 le:mm<=b
 nd:ks.Nodup
 fo:∀ j,j<mm->∃ x,x<b/\K x=j/\∀ x',x'<x->K x'<j
def jh(K:Nat->Nat)(b c:Nat):Nat->Nat:=fun x=>if x=b then c else K x
theorem tG.start(H:Nat->Nat->Nat)(K:Nat->Nat)(hs:Nat->Nat->Nat):tG H 0 0 K hs []:=
 ⟨rfl,fun _ hj=>absurd hj (Nat.not_lt_zero _),fun _ hj=>absurd hj (Nat.not_lt_zero _),fun _ hj=>absurd hj (Nat.not_lt_zero _),Nat.le_refl _,List.nodup_nil,fun _ hj=>absurd hj (Nat.not_lt_zero _)⟩
section
variable {H:Nat->Nat->Nat} {b mm:Nat} {K:Nat->Nat} {hs:Nat->Nat->Nat} {ks ks':List Value}
theorem tG.again(h:tG H b mm K hs ks){c:Nat}(hc:c<mm)(e:gG (H b)=gG (hs c)):tG H (b+1) mm (jh K b c) hs ks:=by
 refine⟨h.len,h.at_,fun j hj=>?_,fun x hx=>?_,by have:=h.le;omega,h.nd,fun j hj=>?_⟩
 ·obtain⟨x,h1,h2⟩:=h.src j hj;exact⟨x,by omega,h2⟩
 ·unfold jh
  by_cases e2:x=b
  ·subst e2;rw[if_pos rfl];exact⟨hc,e⟩
  rw[if_neg e2];exact h.cl x (by omega)
 obtain⟨x,h1,h2,h3⟩:=h.fo j hj;refine⟨x,by omega,?_,fun x' hx'=>?_⟩
 ·unfold jh;rw[if_neg (by omega)];exact h2
 unfold jh;rw[if_neg (by omega)];exact h3 x' hx'
theorem tG.num(h:tG H b mm K hs ks){i:Nat}{f:Bool}(hr:lT ks (gG (H b)) ks' i f):(f=false/\i<mm/\tG H (b+1) mm (jh K b i) hs ks')∨(f=true/\i=mm/\tG H (b+1) (mm+1) (jh K b i) (fun j=>if j=mm then H b else hs j) ks'):=by
 rcases hr with ⟨h1,rfl,h2,rfl⟩|⟨h1,rfl,rfl,rfl⟩
 ·left
  have hi:i<mm:=by
   rw[<-h.len]
   apply Nat.lt_of_not_le
   intro q;rw[List.getElem?_eq_none q]at h2;cases h2
  rw[h.at_ i hi]at h2;exact⟨rfl,hi,h.again hi (Option.some.inj h2).symm⟩
 right
 refine⟨rfl,h.len,⟨by rw[List.length_append,h.len];rfl,fun j hj=>?_,fun j hj=>?_,fun x hx=>?_,by have:=h.le;omega,?_,fun j hj=>?_⟩⟩
 ·by_cases e:j=mm
  ·subst e;rw[if_pos rfl,List.getElem?_append_right (by rw[h.len];exact Nat.le_refl _),h.len,Nat.sub_self]
   rfl
  rw[if_neg e,List.getElem?_append_left (by rw[h.len];omega)];exact h.at_ j (by omega)
 ·by_cases e:j=mm
  ·subst e;exact⟨b,by omega,by rw[if_pos rfl]⟩
  obtain⟨x,h3,h4⟩:=h.src j (by omega);exact⟨x,by omega,by rw[if_neg e];exact h4⟩
 ·unfold jh
  by_cases e2:x=b
  ·subst e2;rw[if_pos rfl,h.len];exact⟨by omega,by rw[if_pos rfl]⟩
  rw[if_neg e2];have:=h.cl x (by omega);exact⟨by omega,by rw[if_neg (by omega)];exact this.2⟩
 ·rw[List.nodup_append];refine⟨h.nd,by simp,fun a ha c hc e=>?_⟩;rw[List.mem_singleton]at hc;subst hc e;exact h1 ha
 by_cases e:j=mm
 ·subst e;refine⟨b,by omega,?_,fun x' hx'=>?_⟩
  ·unfold jh;rw[if_pos rfl];exact h.len
  unfold jh;rw[if_neg (by omega)];exact(h.cl x' hx').1
 obtain⟨x,h3,h4,h5⟩:=h.fo j (by omega);refine⟨x,by omega,?_,fun x' hx'=>?_⟩
 ·unfold jh;rw[if_neg (by omega)];exact h4
 unfold jh;rw[if_neg (by omega)];exact h5 x' hx'
end
theorem pp{base n gg cap:Nat}{w WA w7:World}{v:Value}{hs:Nat->Nat->Nat}{x:Nat->Nat}{o:Obj}(_:w.ownsRow base 102 8 v n (bm 8 n hs))(hP:aH w WA o)
  (r1:w7.ownsRow base 102 8 (.slice (some ⟨gg,0,none⟩) (n+1) cap) (n+1) (bm 8 n hs++[wd x 0,wd x 1,wd x 2,wd x 3,wd x 4,wd x 5,wd x 6,wd x 7]))(r2:WA.grownBy w7 v.ownBlock) :
  w7.ownsRow base 102 8 (.slice (some ⟨gg,0,none⟩) (n+1) cap) (n+1) (bm 8 (n+1) (fun i=>if i=n then x else hs i))/\aT (fun k=>v.ownBlock=some k∨w.heap.size<=k) w w7:=by
 refine⟨?_,⟨r2.os.trans hP.os,r2.tape.trans hP.tape,r2.output.trans hP.output,by have:=r2.size;have:=hP.size;omega,fun k hk=>?_⟩⟩
 ·have e:bm 8 (n+1) (fun i=>if i=n then x else hs i)=bm 8 n hs++[wd x 0,wd x 1,wd x 2,wd x 3,wd x 4,wd x 5,wd x 6,wd x 7]:=by
   rw[gL _ _ (by omega),iD (h:=hs) (by omega) (fun i hi=>by rw[if_neg (by omega)])];simp[List.range_succ]
  rw[e];exact r1
 have a:k<w.heap.size:=by apply Nat.lt_of_not_le;intro q;exact hk (Or.inr q)
 have b:v.ownBlock≠some k:=fun q=>hk (Or.inl q)
 exact(r2.block k (by have:=hP.size;omega) (fun q=>b q.symm)).trans (hP.old a)
abbrev CO (w:World) (B gc:Nat):Nat->Prop:=fun k=>k=B∨k=gc∨w.heap.size<=k
structure kz (w wr:World) (B A gc:Nat) (hv:Value) (mm:Nat) (K:Nat->Nat) (hs:Nat->Nat->Nat) (ks:List Value):Prop where
 box:fW wr B A (.slice (some ⟨gc,0,none⟩) 256 256) hv
 row:wr.rowIs gc 3 256 (fun x=>.int .i64 (K x:Nat))
 hol:wr.ownsRow (w.heap.size+3) 102 8 hv mm (bm 8 mm hs)
 num:bj 102 wr (w.heap.size+1) ks
 nb:wr.heap[w.heap.size+2]?=some (.cells #[.map (some (w.heap.size+1))] 147 (0,0))
 fr:aT (CO w B gc) w wr
 sz:w.heap.size+3<=wr.heap.size
structure lC (w wr:World) (B A gc:Nat) (hv:Value) (b mm:Nat) (K:Nat->Nat) (hs:Nat->Nat->Nat) (ks:List Value) (H:Nat->Nat->Nat):Prop where
 p:kz w wr B A gc hv mm K hs ks
 cls:tG H b mm K hs ks
section
variable {w wr wr':World} {B A gc b mm c:Nat} {hv:Value} {K:Nat->Nat} {hs:Nat->Nat->Nat} {ks ks':List Value}
theorem kz.below(h:kz w wr B A gc hv mm K hs ks)(hb:Below wr.heap.size wr wr'):kz w wr' B A gc hv mm K hs ks:=
 ⟨h.box.keep (hb.block B h.box.lt),h.row.of_block (hb.block gc h.row.lt),aG h.hol hb lR,h.num.keep (hb.block _ h.num.lt),(hb.block _ (Array.getElem?_eq_some_iff.1 h.nb).1).trans h.nb,h.fr.trans (bC hb (fun k hk=>Or.inr (Or.inr (by have:=h.fr.size;omega)))),Nat.le_trans h.sz hb.size⟩
theorem kz.put(h:kz w wr B A gc hv mm K hs ks)(b c:Nat)(hBg:B≠gc)(hgw:gc<w.heap.size):kz w (wr.setCell ⟨gc,b,none⟩ (.int .i64 (c:Nat))) B A gc hv mm (jh K b c) hs ks:=by
 have hk:∀ k,k≠gc->(wr.setCell ⟨gc,b,none⟩ (.int .i64 (c:Nat))).heap[k]?=wr.heap[k]? :=fun k hk=>Below.heap_setCell _ _ _ _ hk
 refine⟨h.box.keep (hk B hBg),(h.row.set b _).congr (fun x _=>?_),ak h.hol (fun q hq=>hk q (by have:=(h.hol.lt q hq).1;omega)),h.num.keep (hk _ (by omega)),(hk _ (by omega)).trans h.nb,h.fr.trans ((am b _).fro (Or.inr (Or.inl rfl))),by rw[aM];exact h.sz⟩;unfold jh
 by_cases e:x=b
 ·rw[if_pos e,if_pos e]
 rw[if_neg e,if_neg e]
theorem kz.num'(h:kz w wr B A gc hv mm K hs ks)(hn:bj 102 wr' (w.heap.size+1) ks')(hf:aT (dM wr (w.heap.size+1)) wr wr')(hgw:gc<w.heap.size)(hBw:B<w.heap.size):kz w wr' B A gc hv mm K hs ks':=by
 have hk:∀ k,k<wr.heap.size->k≠w.heap.size+1->wr'.heap[k]?=wr.heap[k]? :=fun k h1 h2=>hf.block k (by rintro(q|q)<;>omega)
 have hz:=h.sz;exact⟨h.box.keep (hk B h.box.lt (by omega)),h.row.of_block (hk gc h.row.lt (by omega)),ak h.hol (fun q hq=>hk q (h.hol.lt q hq).2 (by have:=(h.hol.lt q hq).1;omega)),hn,(hk _ (by omega) (by omega)).trans h.nb,h.fr.trans (hf.mono (fun k q=>by have:=h.fr.size;rcases q with q|q;exact Or.inr (Or.inr (by omega));exact Or.inr (Or.inr (by omega)))),Nat.le_trans h.sz hf.size⟩
theorem kz.push{w7:World}{gg cap:Nat}{x:Nat->Nat}(h:kz w wr B A gc hv mm K hs ks)(r1:w7.ownsRow (w.heap.size+3) 102 8 (.slice (some ⟨gg,0,none⟩) (mm+1) cap) (mm+1) (bm 8 (mm+1) (fun i=>if i=mm then x else hs i)))(hf:aT (fun k=>hv.ownBlock=some k∨wr.heap.size<=k) wr w7)(hgw:gc<w.heap.size)(hBw:B<w.heap.size)(hBg:B≠gc) :
  kz w (w7.setCell ⟨B,2,none⟩ (.slice (some ⟨gg,0,none⟩) (mm+1) cap)) B A gc (.slice (some ⟨gg,0,none⟩) (mm+1) cap) (mm+1) K (fun i=>if i=mm then x else hs i) ks/\w7.cell? ⟨B,2,none⟩=some hv/\w7.frozen? ⟨B,2,none⟩=false:=by
 have hz:=h.sz;have h7:∀ k,k<w.heap.size+3->w7.heap[k]?=wr.heap[k]? :=fun k hk=>hf.block k (by rintro(q|q);(have:=(h.hol.lt k q).1;omega);omega)
 have hk:∀ k,k≠B->(w7.setCell ⟨B,2,none⟩ (.slice (some ⟨gg,0,none⟩) (mm+1) cap)).heap[k]?=w7.heap[k]? :=fun k hk=>Below.heap_setCell _ _ _ _ hk
 have b:fW w7 B A (.slice (some ⟨gc,0,none⟩) 256 256) hv:=h.box.keep (h7 B (by omega));have a:w7.rowIs B 57 3 (fun k=>if k=0 then .pointer (some ⟨A,0,none⟩) else if k=1 then .slice (some ⟨gc,0,none⟩) 256 256 else hv):=⟨_,b,rfl,fun i hi=>by
  match i,hi with
  | 0,_=>rfl
  | 1,_=>rfl
  | 2,_=>rfl⟩
 refine⟨⟨?_,h.row.of_block ((hk gc (fun e=>hBg e.symm)).trans (h7 gc (by omega))),ak r1 (fun q hq=>hk q (by have:=(r1.lt q hq).1;omega)),h.num.keep ((hk _ (by omega)).trans (h7 _ (by omega))),(hk _ (by omega)).trans ((h7 _ (by omega)).trans h.nb),?_,by rw[aM];exact Nat.le_trans h.sz hf.size⟩,a.cell (i:=2) (by omega),a.frozen 2⟩
 ·obtain⟨cc,h1,h2,h3⟩:=a.set 2 (.slice (some ⟨gg,0,none⟩) (mm+1) cap);refine h1.trans ?_
  congr 2
  refine Array.ext (by rw[h2];rfl) (fun i i1 i2=>?_)
  have h4:=h3 i (by omega);rw[Array.getElem?_eq_getElem i1]at h4;rw[Option.some.inj h4];have i3:i<3:=by omega
  match i,i3 with
  | 0,_=>rfl
  | 1,_=>rfl
  | 2,_=>rfl
 refine h.fr.trans ((hf.mono (fun k q=>?_)).trans ((am 2 _).fro (Or.inl rfl)));rcases q with q|q
 ·exact Or.inr (Or.inr (by have:=(h.hol.lt k q).1;omega))
 exact Or.inr (Or.inr (by have:=h.fr.size;omega))
end
theorem qz(B A gc m:Nat)(sv pv:Value)(ds ps:Nat->Nat->Nat)(w:World)(hbox:fW w B A (.slice (some ⟨gc,0,none⟩) 256 256) (.slice none 0 0))(s:w.rowIs gc 3 256 (fun _=>.int .i64 0))(hBg:B≠gc)(hm:m<=512)(hs:DU w sv m ds)(hp:AO w pv m ps)(hds:∀ j,j<m->Fit (ds j))(C:∀ j,j<m->Fit (ps j))(hsB:∀ q,sv.ownBlock=some q->q≠B/\q≠gc)(hpB:∀ q,pv.ownBlock=some q->q≠B/\q≠gc) :
  Calls prog 48 #[.pointer (some ⟨B,0,none⟩),sv,pv] w fun e w'=>∃ mm K hs hv ks,e=.returned (.tuple #[])/\lC w w' B A gc hv 256 mm K hs ks (fun x=>bZ ds ps x m):=by
 obtain⟨sa,sc,rfl⟩:=aj hs;obtain⟨pa,pc,rfl⟩:=aj hp;have D:=s.lt;have Z:=hbox.lt;have aq:=ae hbox;have ar:=ae s;have HS:=ae hs;have HP:=ae hp;have av:=ae hds;have a9:=ae C;have aw:=ae hsB;have ax:=ae hpB;have aa:=ae (wg w);clear hbox s hs hp hds C hsB hpB
 go_enter func48,ntmps48
 go_wp2_with fail;refine aa.u.mono ?_;rintro e w1 ⟨rfl,ab,a0,P⟩;have ad:Hi (lC w (w1.alloc (.cells #[.map (some (w.heap.size+1))] 147)) B A gc (.slice none 0 0) 0 0 (fun _=>0) (fun _ _=>0) [] (fun x=>bZ ds ps x m)):=by
  have l:Below w.heap.size w (w1.alloc (.cells #[.map (some (w.heap.size+1))] 147)):=P.alloc (by omega) _;refine⟨⟨aq.u.keep (l.block B Z),ar.u.of_block (l.block gc D),World.ownsRow_nil _ _ _ _,ab.keep ((ai w1 _).block _ (by omega)),?_,bC l (fun k hk=>Or.inr (Or.inr hk)),by rw[ah];omega⟩,tG.start _ _ _⟩;have:=(ay w1 (.cells #[.map (some (w.heap.size+1))] 147)).new;rw[a0]at this;exact this
 have af:w1.heap.size=w.heap.size+2:=a0;have ag:=ae af;clear ab a0 P aa af
 go_wp2_with fail;rw[ag.u]
 go_loopw [12] (fun iv wr=>∃ (b mm:Nat) (K:Nat->Nat) (hs:Nat->Nat->Nat) (hv:Value) (ks:List Value),b<=256/\iv=.int .i64 b/\lC w wr B A gc hv b mm K hs ks (fun x=>bZ ds ps x m)) (fun iv _=>256-(intOf iv).toNat)
 case atStart=>exact⟨0,0,_,_,_,_,by omega,rfl,ad.u⟩
 clear ad ag;obtain⟨b,mm,K,hs,hv,ks,hb,rfl,hC⟩:=hrel
 by_cases hlt:b<256
 ·have b8:(b:Int)<256:=by omega
  have HC:=ae hC;have b9:=hC.p.fr.size;have al:DU wr (.slice sa m sc) m ds:=ak HS.u (fun q hq=>hC.p.fr.block q (by have h1:=aw.u q hq;have h2:=aB HS.u q hq;rintro(h|h|h);exact h1.1 h;exact h1.2 h;omega));have an:AO wr (.slice pa m pc) m ps:=ak HP.u (fun q hq=>hC.p.fr.block q (by have h1:=ax.u q hq;have h2:=aB HP.u q hq;rintro(h|h|h);exact h1.1 h;exact h1.2 h;omega));have HH:=ae (oH b m _ _ ds ps wr hlt hm al an av.u a9.u);obtain⟨h,Q⟩ : ∃ h,h=bZ ds ps b m:=⟨_,rfl⟩;rw[<-Q]at HH;have b0:Fit h:=by rw[Q];exact iJ a9.u
  unfold gG at HH;have a1:=ae Q;clear hC al an Q
  go_wp2_with fail;refine HH.u.mono ?_;rintro e w2 ⟨rfl,l⟩;obtain⟨X,hX⟩ : ∃ X,X=w2.alloc (.cells #[.int .u64 (h 0:Nat),.int .u64 (h 1:Nat),.int .u64 (h 2:Nat),.int .u64 (h 3:Nat),.int .u64 (h 4:Nat),.int .u64 (h 5:Nat),.int .u64 (h 6:Nat),.int .u64 (h 7:Nat)] 102):=⟨_,rfl⟩;have a2:lC w X B A gc hv b mm K hs ks (fun x=>bZ ds ps x m):=⟨HC.u.p.below (by rw[hX];exact l.alloc l.size _),HC.u.cls⟩;have hE:X.rowIs w2.heap.size 102 8 (wd h):=by rw[hX];exact dR w2 _ h
  obtain⟨E,a3⟩ : ∃ E,E=w2.heap.size:=⟨_,rfl⟩;have bd:wr.heap.size<=E:=by have:=l.size;omega
  rw[<-a3]at hE;have HX:=ae hX;have ao:=ae a3;have G:=ae a2;have HE:=ae hE;have be:=HC.u.p.sz;clear l HH hX a3 HC
  -- the set of the byte,held against that of the byte before
  obtain⟨y,hy⟩ : ∃ y:Bool,y=(if b=0 then false else Dc h (hs (K (b-1)))):=⟨_,rfl⟩;obtain⟨-,c1,c2⟩:=a2.p.box.cells;have e0:=hE.cell (i:=0) (by omega);have e1:=hE.cell (i:=1) (by omega);have e2:=hE.cell (i:=2) (by omega);have e3:=hE.cell (i:=3) (by omega);have e4:=hE.cell (i:=4) (by omega);have e5:=hE.cell (i:=5) (by omega);have e6:=hE.cell (i:=6) (by omega);have e7:=hE.cell (i:=7) (by omega);unfold wd at e0 e1 e2 e3 e4 e5 e6 e7;have HY:=ae hy;clear a2 hE
  go_upto_region 5 with fail
  rw[<-HX.u,<-ao.u];clear HX ao
  go_cut [38] (fun cv wx=>cv=.bool y/\∃ q,wx=X.drewN q)
  case first =>
   by_cases a4:b=0
   ·subst a4;have b1:y=false:=by rw[hy,if_pos rfl]
    subst b1;clear hy HY
    go_quiet (fail);go_wp2;go_meet;exact⟨rfl,nq,rfl⟩
   obtain⟨b',rfl⟩ : ∃ b',b=b'+1:=⟨b-1,by omega⟩;have R:=G.u.cls.cl b' (by omega);obtain⟨c,v⟩ : ∃ c,c=K b':=⟨_,rfl⟩;rw[<-v]at R;have S:y=Dc h (hs c):=by rw[hy,if_neg (by omega),v];rfl
   have k1:=G.u.p.row.cell (i:=b') (by omega);rw[<-v]at k1;obtain⟨gh,cap,M,F,e,-,s,hM,hF,-⟩:=pI (aO G.u.p.hol (Nat.zero_le _)) R.1;have r:∀ j,j<8->X.cell? ⟨gh,c*8+j,none⟩=some (.int .u64 (hs c j:Nat)):=fun j hj=>by rw[s.cell (by omega),hF j hj];rfl
   have r0:=r 0 (by omega);have r1:=r 1 (by omega);have r2:=r 2 (by omega);have r3:=r 3 (by omega);have r4:=r 4 (by omega);have r5:=r 5 (by omega);have r6:=r 6 (by omega);have r7:=r 7 (by omega);rw[Nat.add_zero]at r0;have es:∀ W,(Op.equalIn 10000 102 (.agg #[.int .u64 (h 0:Nat),.int .u64 (h 1:Nat),.int .u64 (h 2:Nat),.int .u64 (h 3:Nat),.int .u64 (h 4:Nat),.int .u64 (h 5:Nat),.int .u64 (h 6:Nat),.int .u64 (h 7:Nat)]) (.agg #[.int .u64 ((hs c) 0:Nat),.int .u64 ((hs c) 1:Nat),.int .u64 ((hs c) 2:Nat),.int .u64 ((hs c) 3:Nat),.int .u64 ((hs c) 4:Nat),.int .u64 ((hs c) 5:Nat),.int .u64 ((hs c) 6:Nat),.int .u64 ((hs c) 7:Nat)])).run prog W=.ok y W:=fun W=>by rw[S];exact EB _ _ _ _ _ _ _ _ _ _ _ _ _ _ _ _ W
   have ap:(c:Int)<(mm:Int):=by have:=R.1;omega
   have bb:(0:Int)<(b':Int)+1:=by omega
   have P:((b'+1:Nat):Int)-1=(b':Int):=by omega
   have l:(b':Int)+1-1=(b':Int):=by omega
   have b2:(b':Int)<256:=by omega
   clear r s hF hy S HY v R;subst e
   go_quiet (fail);go_wp2;go_meet;exact⟨rfl,nq,rfl⟩
  obtain⟨rfl,q,rfl⟩:=hcut;have T:Below X.heap.size X (X.drewN q):=below_drewN (Below.refl _ _) _;obtain⟨V,hV⟩ : ∃ V,V=X.drewN q:=⟨_,rfl⟩;rw[<-hV]at T ⊢;have a:lC w V B A gc hv b mm K hs ks (fun x=>bZ ds ps x m):=⟨G.u.p.below T,G.u.cls⟩;have a5:V.rowIs E 102 8 (wd h):=HE.u.of_block (T.block E HE.u.lt);have bf:=a5.lt;have I:=ae a;have g:=ae a5;obtain⟨-,c1',-⟩:=a.p.box.cells;clear c1 c2 e0 e1 e2 e3 e4 e5 e6 e7 T hV G HE a5 hy;cases y with
  | true =>
   have H:=HY.u;have a4:b≠0:=fun e=>by rw[if_pos e]at H;cases H
   obtain⟨b',rfl⟩ : ∃ b',b=b'+1:=⟨b-1,by omega⟩;rw[if_neg a4,show b'+1-1=b' by omega]at H;obtain⟨c,v⟩ : ∃ c,c=K b':=⟨_,rfl⟩;rw[<-v]at H;have k1:=a.p.row.cell (i:=b') (by omega);rw[<-v]at k1;have k2:=a.p.row.cell (i:=b'+1) (by omega);have k3:=a.p.row.frozen (b'+1);have ap:c<mm:=by rw[v];exact(a.cls.cl b' (by omega)).1
   have z:Hi (lC w ((V.setCell ⟨gc,b'+1,none⟩ (.int .i64 (c:Nat))).drew) B A gc hv (b'+1+1) mm (jh K (b'+1) c) hs ks (fun x=>bZ ds ps x m)):=by
    have h1:=(a.p.put (b'+1) c hBg D).below (Below.refl _ _).drew;exact⟨h1,a.cls.again ap (by have:=DD H.symm;rw[a1.u]at this;exact this)⟩
   have P:((b'+1:Nat):Int)-1=(b':Int):=by omega
   have l:(b':Int)+1-1=(b':Int):=by omega
   have b2:(b':Int)<256:=by omega
   have bl:(b':Int)+1<256:=by omega
   clear a H v HY
   go_wp2_with fail;refine aX 14 (by kernel_rfl) (by kernel_rfl) ?_;simp only[List.take_succ_cons,List.take_zero,List.drop_succ_cons,List.drop_zero]
   repeat (first|go_big_quiet_skip|(go_big_quiet_want;go_big_quiet_op;go_big_quiet_on))
   refine wpQuiet_nil ?_;go_wp2
   go_roundw
   case rel=>exact⟨b'+1+1,mm,_,hs,hv,ks,by omega,by go_num,z.u⟩
   simp[intOf];omega
  | false =>
   have n0:V.cell? ⟨w.heap.size+2,0,none⟩=some (.map (some (w.heap.size+1))):=World.news_of_block a.p.nb 0 _ rfl;have e0:=g.u.cell (i:=0) (by omega);have e1:=g.u.cell (i:=1) (by omega);have e2:=g.u.cell (i:=2) (by omega);have e3:=g.u.cell (i:=3) (by omega);have e4:=g.u.cell (i:=4) (by omega);have e5:=g.u.cell (i:=5) (by omega);have e6:=g.u.cell (i:=6) (by omega);have e7:=g.u.cell (i:=7) (by omega);unfold wd at e0 e1 e2 e3 e4 e5 e6 e7;have a6:=ae (yU (w.heap.size+1) h ks V a.p.num b0 (by rw[a.cls.len];have:=a.cls.le;omega));have J:gG h=gG (bZ ds ps b m):=by rw[a1.u]
   rw[J]at a6;have C:gG (bZ ds ps b m)=.agg #[.int .u64 (h 0:Nat),.int .u64 (h 1:Nat),.int .u64 (h 2:Nat),.int .u64 (h 3:Nat),.int .u64 (h 4:Nat),.int .u64 (h 5:Nat),.int .u64 (h 6:Nat),.int .u64 (h 7:Nat)]:=by rw[<-J];rfl
   have L:Hi (Calls prog 82 #[.agg #[.map (some (w.heap.size+1))],.agg #[.int .u64 (h 0:Nat),.int .u64 (h 1:Nat),.int .u64 (h 2:Nat),.int .u64 (h 3:Nat),.int .u64 (h 4:Nat),.int .u64 (h 5:Nat),.int .u64 (h 6:Nat),.int .u64 (h 7:Nat)]] V fun e w'=>∃ i ks' f,e=.returned (.tuple #[.int .i64 (i:Nat),.bool f])/\lT ks (gG (bZ ds ps b m)) ks' i f/\bj 102 w' (w.heap.size+1) ks'/\aT (dM V (w.heap.size+1)) V w'):=by
    have:=a6.u;rw[C]at this;rw[C];exact this
   have bn:=a.cls.le;clear a HY J C a6 c1'
   go_wp2_with fail;refine L.u.mono ?_;rintro e w3 ⟨i,ks',fl,rfl,a7,a8,U⟩;have d:=I.u.p.num' a8 U D Z;have n:=g.u.of_block (U.block E (by have:=I.u.p.sz;rintro(q|q)<;>omega));obtain⟨-,d1,d2⟩:=d.box.cells;have d3:=d.row.cell hlt;have d4:=d.row.frozen b;rcases I.u.cls.num a7 with ⟨rfl,hi,N⟩|⟨rfl,-,N⟩
   ·have z:Hi (lC w (w3.setCell ⟨gc,b,none⟩ (.int .i64 (i:Nat))) B A gc hv (b+1) mm (jh K b i) hs ks' (fun x=>bZ ds ps x m)):=⟨d.put b i hBg D,N⟩;clear a7 a8 U d n N L I g e0 e1 e2 e3 e4 e5 e6 e7 n0;go_wp2
    go_roundw
    case rel=>exact⟨b+1,mm,_,hs,hv,ks',by omega,by go_num,z.u⟩
    simp[intOf];omega
   obtain⟨ha,hc,rfl⟩:=aj d.hol;obtain⟨j0,b3,b4,b5,S⟩:=info_parts Tryz.zinPS;have x0:=n.cell (i:=0) (by omega);have x1:=n.cell (i:=1) (by omega);have x2:=n.cell (i:=2) (by omega);have x3:=n.cell (i:=3) (by omega);have x4:=n.cell (i:=4) (by omega);have x5:=n.cell (i:=5) (by omega);have x6:=n.cell (i:=6) (by omega);have x7:=n.cell (i:=7) (by omega);unfold wd at x0 x1 x2 x3 x4 x5 x6 x7;have d2a:∀ o:Obj,(w3.alloc o).cell? ⟨B,2,none⟩=some (.slice ha mm hc):=fun o=>(d.box.keep ((ai w3 o).block B d.box.lt)).cells.2.2
   have b6:=ae d.hol;have bo:=ae d;have bc:=d.sz;have b7:=ae N;have Y:Hi (∀ (WA w7:World) (gg cap:Nat),w7.ownsRow (w.heap.size+3) 102 8 (.slice (some ⟨gg,0,none⟩) (mm+1) cap) (mm+1) (bm 8 mm hs++[wd h 0,wd h 1,wd h 2,wd h 3,wd h 4,wd h 5,wd h 6,wd h 7])->WA.grownBy w7 (Value.slice ha mm hc).ownBlock->aH w3 WA (.cells #[wd h 0,wd h 1,wd h 2,wd h 3,wd h 4,wd h 5,wd h 6,wd h 7] 102)->
     kz w (w7.setCell ⟨B,2,none⟩ (.slice (some ⟨gg,0,none⟩) (mm+1) cap)) B A gc (.slice (some ⟨gg,0,none⟩) (mm+1) cap) (mm+1) K (fun i=>if i=mm then h else hs i) ks'/\w7.cell? ⟨B,2,none⟩=some (.slice ha mm hc)/\w7.frozen? ⟨B,2,none⟩=false):=fun WA w7 gg cap r1 r2 hP=>by
    obtain⟨q1,q2⟩:=pp (x:=h) d.hol hP r1 r2;exact d.push q1 q2 D Z hBg
   clear a7 a8 U d n N L I g e0 e1 e2 e3 e4 e5 e6 e7 n0 d1 d3 d4
   go_wp2_with fail
   go_region_law (
    (refine step_append_lies _ rfl (.tmp 64) (.tmp 66) 55 rfl (w.heap.size+3) 102 j0 (.agg #[.int .u64 0,.int .u64 0,.int .u64 0,.int .u64 0,.int .u64 0,.int .u64 0,.int .u64 0,.int .u64 0]) 8 64 underlying55 b3 b4 b5 S rfl (by decide) (.slice ha mm hc) mm (bm 8 mm hs) (by first|(simp[Act.eval];done)|(simp[Act.eval,Act.put];done)) (by refine aH.own (w:=w3) (o:=.cells #[wd h 0,wd h 1,wd h 2,wd h 3,wd h 4,wd h 5,wd h 6,wd h 7] 102) ?_ b6.u;exact⟨rfl,rfl,rfl,rfl⟩) ⟨w3.heap.size,0,none⟩ 1 1 [wd h 0,wd h 1,wd h 2,wd h 3,wd h 4,wd h 5,wd h 6,wd h 7] (by first|(simp[Act.eval];done)|(simp[Act.eval,Act.put];done)) rfl (by refine aH.news (w:=w3) (cs:=#[wd h 0,wd h 1,wd h 2,wd h 3,wd h 4,wd h 5,wd h 6,wd h 7]) (t:=102) ?_;exact⟨rfl,rfl,rfl,rfl⟩) (by intro u hu;simp only[List.mem_cons,List.not_mem_nil,or_false]at hu;rcases hu with rfl|rfl|rfl|rfl|rfl|rfl|rfl|rfl<;>rfl) (by decide) (by unfold maxLen;omega) (by omega) (by show w.heap.size+3<=(World.alloc _ _).heap.size;rw[ah];omega) (w3.heap.size+1) (ah w3 _) (fun gg cap w7 r1 r2 r3 r4=>?_);have h7:=ae (Y.u _ w7 gg cap r1 r2 (by exact⟨rfl,rfl,rfl,rfl⟩));obtain⟨-,c7,z7⟩:=h7.u;clear r1 r2 r3 r4))
   all_goals
    obtain⟨O,-,-⟩:=h7.u;clear c7 z7 h7 Y;generalize w7.setCell ⟨B,2,none⟩ (.slice (some ⟨gg,0,none⟩) (mm+1) cap)=w9 at *;obtain⟨-,d1,-⟩:=O.box.cells;have d3:=O.row.cell hlt;have d4:=O.row.frozen b;have z:Hi (lC w (w9.setCell ⟨gc,b,none⟩ (.int .i64 (i:Nat))) B A gc (.slice (some ⟨gg,0,none⟩) (mm+1) cap) (b+1) (mm+1) (jh K b i) (fun i=>if i=mm then h else hs i) ks' (fun x=>bZ ds ps x m)):=⟨O.put b i hBg D,by have:=b7.u;simp only[<-a1.u]at this;exact this⟩;clear O;go_wp2
    go_roundw
    case rel=>exact⟨b+1,mm+1,_,_,_,ks',by omega,by go_num,z.u⟩
    simp[intOf];omega
 obtain rfl:b=256:=by omega
 have HC:=ae hC;clear hC;go_wp2
 first|(refine bodyPost_ret (results_none rfl _ _ _) rfl ?_)|(refine bodyPost_end (results_none rfl _ _ _) rfl ?_)
 exact⟨mm,K,hs,hv,ks,rfl,HC.u⟩
theorem Ck{g h:Nat->Nat}(e:gb g=gb h)(b:Nat)(hb:b<256):Bt g b=Bt h b:=by
 unfold gb at e;simp only[Value.agg.injEq,Array.mk.injEq,List.cons.injEq,Value.int.injEq,Int.natCast_inj,true_and,and_true]at e;obtain⟨e0,e1,e2,e3⟩:=e;have:∀ j,j<4->g j=h j:=fun j hj=>by
  match j,hj with
  | 0,_=>exact e0
  | 1,_=>exact e1
  | 2,_=>exact e2
  | 3,_=>exact e3
 unfold Bt;rw[this (b / 64) (by omega)]
theorem uS(g:Nat->Nat)(k i:Nat):Bt (io g k) i=true↔(Bt g i=true∨i=k):=by
 have h:=pP g k i;unfold io;rw[h];simp
structure xj (gs:Nat->Nat->Nat) (x m:Nat) (ds ps:Nat->Nat->Nat) (ks:List Value):Prop where
 len:ks.length=m
 at_:∀ j,j<m->ks[j]?=some (gb (ds j))
 fd:∀ j,j<m->Fit (ds j)
 fp:∀ j,j<m->Fit (ps j)
 bt:∀ j,j<m->∀ i,Bt (ps j) i=true↔(i<x/\gb (gs i)=gb (ds j))
 cov:∀ i,i<x->∃ j,j<m/\gb (gs i)=gb (ds j)
 le:m<=x
 nd:ks.Nodup
def dZ(ps:Nat->Nat->Nat)(i:Nat)(v:Nat->Nat):Nat->Nat->Nat:=fun j=>if j=i then v else ps j
theorem xj.start(gs ds ps:Nat->Nat->Nat):xj gs 0 0 ds ps []:=
 ⟨rfl,fun _ h=>absurd h (Nat.not_lt_zero _),fun _ h=>absurd h (Nat.not_lt_zero _),fun _ h=>absurd h (Nat.not_lt_zero _),fun _ h=>absurd h (Nat.not_lt_zero _),fun _ h=>absurd h (Nat.not_lt_zero _),Nat.le_refl _,List.nodup_nil⟩
theorem xK{ks:List Value}(h:ks.Nodup){i j:Nat}{v:Value}(hi:ks[i]?=some v)(hj:ks[j]?=some v):i=j:=by
 have h1:i<ks.length:=by apply Nat.lt_of_not_le;intro q;rw[List.getElem?_eq_none q]at hi;cases hi
 have h2:j<ks.length:=by apply Nat.lt_of_not_le;intro q;rw[List.getElem?_eq_none q]at hj;cases hj
 rw[List.getElem?_eq_getElem h1]at hi;rw[List.getElem?_eq_getElem h2]at hj;have h3:ks[i]=ks[j]:=(Option.some.inj hi).trans (Option.some.inj hj).symm;rcases Nat.lt_trichotomy i j with q|q|q
 ·exact absurd h3 (List.pairwise_iff_getElem.1 h i j h1 h2 q)
 ·exact q
 exact absurd h3.symm (List.pairwise_iff_getElem.1 h j i h2 h1 q)
section
variable {gs ds ps:Nat->Nat->Nat} {x m i:Nat} {ks ks':List Value} {f:Bool}
theorem xj.old(h:xj gs x m ds ps ks)(hr:lT ks (gb (gs x)) ks' i false):i<m/\xj gs (x+1) m ds (dZ ps i (io (ps i) x)) ks':=by
 rcases hr with ⟨h1,rfl,h2,-⟩|⟨-,-,-,h⟩
 ·have hi:i<m:=by
   rw[<-h.len]
   apply Nat.lt_of_not_le
   intro q;rw[List.getElem?_eq_none q]at h2;cases h2
  have hv:gb (gs x)=gb (ds i):=by have:=h.at_ i hi;rw[h2]at this;exact Option.some.inj this
  refine⟨hi,h.len,h.at_,h.fd,fun j hj=>?_,fun j hj t=>?_,fun t ht=>?_,by have:=h.le;omega,h.nd⟩
  ·unfold dZ
   by_cases e:j=i
   ·rw[if_pos e];exact pD (h.fp i hi) x
   rw[if_neg e];exact h.fp j hj
  ·unfold dZ
   by_cases e:j=i
   ·subst e;rw[if_pos rfl,uS,h.bt j hj t]
    constructor
    ·rintro(⟨q1,q2⟩|rfl)
     ·exact⟨by omega,q2⟩
     exact⟨by omega,hv⟩
    rintro⟨q1,q2⟩
    by_cases e:t=x
    ·exact Or.inr e
    exact Or.inl ⟨by omega,q2⟩
   rw[if_neg e,h.bt j hj t]
   constructor
   ·rintro⟨q1,q2⟩;exact⟨by omega,q2⟩
   rintro⟨q1,q2⟩;refine⟨?_,q2⟩
   by_cases e2:t=x
   ·subst e2;exact absurd (xK h.nd (by rw[h.at_ j hj,<-q2]) h2) e
   omega
  by_cases e:t=x
  ·subst e;exact⟨i,hi,hv⟩
  exact h.cov t (by omega)
 cases h
theorem xj.new(h:xj gs x m ds ps ks)(hg:Fit (gs x))(hr:lT ks (gb (gs x)) ks' i true):i=m/\xj gs (x+1) (m+1) (dZ ds m (gs x)) (dZ (dZ ps m (fun _=>0)) m (io (fun _=>0) x)) ks':=by
 rcases hr with ⟨-,-,-,h⟩|⟨h1,rfl,h2,-⟩
 ·cases h
 refine⟨h2.trans h.len,by rw[List.length_append,h.len];rfl,fun j hj=>?_,fun j hj=>?_,fun j hj=>?_,fun j hj t=>?_,fun t ht=>?_,by have:=h.le;omega,?_⟩
 ·unfold dZ
  by_cases e:j=m
  ·subst e;rw[if_pos rfl,List.getElem?_append_right (by rw[h.len];exact Nat.le_refl _),h.len,Nat.sub_self]
   rfl
  rw[if_neg e,List.getElem?_append_left (by rw[h.len];omega)];exact h.at_ j (by omega)
 ·unfold dZ
  by_cases e:j=m
  ·rw[if_pos e];exact hg
  rw[if_neg e];exact h.fd j (by omega)
 ·unfold dZ
  by_cases e:j=m
  ·rw[if_pos e];exact pD vm x
  rw[if_neg e,if_neg e];exact h.fp j (by omega)
 ·unfold dZ
  by_cases e:j=m
  ·subst e;rw[if_pos rfl,if_pos rfl,uS]
   constructor
   ·rintro(q|rfl)
    ·simp[Bt]at q
    exact⟨by omega,rfl⟩
   rintro⟨q1,q2⟩
   right
   apply Classical.byContradiction
   intro e;obtain⟨j',h3,h4⟩:=h.cov t (by omega);refine h1 ?_;rw[<-q2,h4];exact List.mem_of_getElem? (h.at_ j' h3)
  rw[if_neg e,if_neg e,if_neg e,h.bt j (by omega) t]
  constructor
  ·rintro⟨q1,q2⟩;exact⟨by omega,q2⟩
  rintro⟨q1,q2⟩;refine⟨?_,q2⟩
  by_cases e2:t=x
  ·subst e2;refine absurd ?_ h1;rw[q2];exact List.mem_of_getElem? (h.at_ j (by omega))
  omega
 ·unfold dZ
  by_cases e:t=x
  ·subst e;exact⟨m,by omega,by rw[if_pos rfl]⟩
  obtain⟨j,h3,h4⟩:=h.cov t (by omega);exact⟨j,by omega,by rw[if_neg (by omega)];exact h4⟩
 rw[List.nodup_append];refine⟨h.nd,by simp,fun a ha c hc e=>?_⟩;rw[List.mem_singleton]at hc;subst hc e;exact h1 ha
theorem xj.holds(h:xj gs x m ds ps ks)(b:Nat)(hb:b<256)(i:Nat):Bt (bZ ds ps b m) i=true↔(i<x/\Bt (gs i) b=true):=by
 rw[qr]
 constructor
 ·rintro⟨j,hj,h1,h2⟩;have:=(h.bt j hj i).1 h2;exact⟨this.1,by rw[Ck this.2 b hb];exact h1⟩
 rintro⟨h1,h2⟩;obtain⟨j,hj,h3⟩:=h.cov i h1;exact⟨j,hj,by rw[<-Ck h3 b hb];exact h2,(h.bt j hj i).2 ⟨h1,h3⟩⟩
end
end Go.Proofs.YtidfkbghlkcbeaaGreatDoor
