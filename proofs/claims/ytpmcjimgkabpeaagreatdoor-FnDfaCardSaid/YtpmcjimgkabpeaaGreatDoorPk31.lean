import Derived.Test.YtpmcjimgkabpeaaGreatDoorPa11
import Derived.Test.YtpmcjimgkabpeaaGreatDoorPa12
import Derived.Test.YtpmcjimgkabpeaaGreatDoorPk22
namespace Go.Proofs.YtpmcjimgkabpeaaGreatDoor
open Go.RowKit Go.Proofs.Tryz
set_option maxHeartbeats 16000000
set_option maxRecDepth 100000
abbrev Dn (w:World) (A:Nat) (b:Bool) (f l:Nat->Nat):World:=(((((((((((((((((w).setCell ⟨A,2,none⟩ (.bool b)).setCell ⟨A,3,none⟩ (.int .u64 (f 0:Nat))).setCell ⟨A,4,none⟩ (.int .u64 (f 1:Nat))).setCell ⟨A,5,none⟩ (.int .u64 (f 2:Nat))).setCell ⟨A,6,none⟩ (.int .u64 (f 3:Nat))).setCell ⟨A,7,none⟩ (.int .u64 (f 4:Nat))).setCell ⟨A,8,none⟩ (.int .u64 (f 5:Nat))).setCell ⟨A,9,none⟩ (.int .u64 (f 6:Nat))).setCell ⟨A,10,none⟩ (.int .u64 (f 7:Nat))).setCell ⟨A,11,none⟩ (.int .u64 (l 0:Nat))).setCell ⟨A,12,none⟩ (.int .u64 (l 1:Nat))).setCell ⟨A,13,none⟩ (.int .u64 (l 2:Nat))).setCell ⟨A,14,none⟩ (.int .u64 (l 3:Nat))).setCell ⟨A,15,none⟩ (.int .u64 (l 4:Nat))).setCell ⟨A,16,none⟩ (.int .u64 (l 5:Nat))).setCell ⟨A,17,none⟩ (.int .u64 (l 6:Nat))).setCell ⟨A,18,none⟩ (.int .u64 (l 7:Nat))
def fH(F:Nat->Value)(b:Bool)(f l:Nat->Nat):Nat->Value:=fun k=>if k<2 then F k else bQ b f l (k-2)
theorem AH{w:World}{A:Nat}{F:Nat->Value}(h:w.rowIs A 106 19 F)(b:Bool)(f l:Nat->Nat):(Dn w A b f l).rowIs A 106 19 (fH F b f l):=by
 have h2:=(((((((((((((((((h).set 2 (.bool b)).set 3 (.int .u64 (f 0:Nat))).set 4 (.int .u64 (f 1:Nat))).set 5 (.int .u64 (f 2:Nat))).set 6 (.int .u64 (f 3:Nat))).set 7 (.int .u64 (f 4:Nat))).set 8 (.int .u64 (f 5:Nat))).set 9 (.int .u64 (f 6:Nat))).set 10 (.int .u64 (f 7:Nat))).set 11 (.int .u64 (l 0:Nat))).set 12 (.int .u64 (l 1:Nat))).set 13 (.int .u64 (l 2:Nat))).set 14 (.int .u64 (l 3:Nat))).set 15 (.int .u64 (l 4:Nat))).set 16 (.int .u64 (l 5:Nat))).set 17 (.int .u64 (l 6:Nat))).set 18 (.int .u64 (l 7:Nat));refine h2.congr (fun k hk=>?_)
 match k,hk with
 | 0,_=>simp[fH]
 | 1,_=>simp[fH]
 | 2,_=>simp[fH,bQ]
 | 3,_=>simp[fH,bQ,wd]
 | 4,_=>simp[fH,bQ,wd]
 | 5,_=>simp[fH,bQ,wd]
 | 6,_=>simp[fH,bQ,wd]
 | 7,_=>simp[fH,bQ,wd]
 | 8,_=>simp[fH,bQ,wd]
 | 9,_=>simp[fH,bQ,wd]
 | 10,_=>simp[fH,bQ,wd]
 | 11,_=>simp[fH,bQ,wd]
 | 12,_=>simp[fH,bQ,wd]
 | 13,_=>simp[fH,bQ,wd]
 | 14,_=>simp[fH,bQ,wd]
 | 15,_=>simp[fH,bQ,wd]
 | 16,_=>simp[fH,bQ,wd]
 | 17,_=>simp[fH,bQ,wd]
 | 18,_=>simp[fH,bQ,wd]
 | n+19,h=>exact absurd h (by omega)
theorem vf(w:World)(A:Nat)(b:Bool)(f l:Nat->Nat):cd A w (Dn w A b f l):=(((((((((((((((((cd.refl _ _).trans (am _ _)).trans (am _ _)).trans (am _ _)).trans (am _ _)).trans (am _ _)).trans (am _ _)).trans (am _ _)).trans (am _ _)).trans (am _ _)).trans (am _ _)).trans (am _ _)).trans (am _ _)).trans (am _ _)).trans (am _ _)).trans (am _ _)).trans (am _ _)).trans (am _ _)
def oC(O:Nat->Prop)(A:Nat)(w:World)(N:Nat)(S:List (List Int))(K:List Lk)(b:Bool)(f l:Nat->Nat):Prop:=
 cO O A w N S K/\∃ F,w.rowIs A 106 19 F/\∀ k,k<17->F (2+k)=bQ b f l k
theorem oC.of{O:Nat->Prop}{A N:Nat}{w:World}{S:List (List Int)}{K:List Lk}(h:cO O A w N S K)(b:Bool)(f l:Nat->Nat):oC O A (Dn w A b f l) N S K b f l:=by
 obtain⟨sv,fv,gs,hs,hM,rest⟩:=h;obtain⟨F,hF,h0,h1⟩:=hM.box;have hr:=AH hF b f l;have a:=vf w A b f l;refine⟨⟨sv,fv,gs,hs,⟨⟨_,hr,by simp[fH,h0],by simp[fH,h1]⟩,hM.oA,ak hM.so (fun q hq=>a.block q (hM.sb q hq).2),ak hM.fo (fun q hq=>a.block q (hM.fb q hq).2),hM.sb,hM.fb,hM.sf⟩,rest⟩,_,hr,fun k hk=>?_⟩;unfold fH;rw[if_neg (by omega),show 2+k-2=k by omega]
theorem wB(w:World):cO (fun k=>w.heap.size<=k) w.heap.size (w.alloc (.cells #[.slice none 0 0,.slice none 0 0,.bool false,.int .u64 0,.int .u64 0,.int .u64 0,.int .u64 0,.int .u64 0,.int .u64 0,.int .u64 0,.int .u64 0,.int .u64 0,.int .u64 0,.int .u64 0,.int .u64 0,.int .u64 0,.int .u64 0,.int .u64 0,.int .u64 0] 106)) 0 [] []:=by
 refine⟨.slice none 0 0,.slice none 0 0,fun _=>z8,fun _=>z8,⟨⟨fun k=>(#[.slice none 0 0,.slice none 0 0,.bool false,.int .u64 0,.int .u64 0,.int .u64 0,.int .u64 0,.int .u64 0,.int .u64 0,.int .u64 0,.int .u64 0,.int .u64 0,.int .u64 0,.int .u64 0,.int .u64 0,.int .u64 0,.int .u64 0,.int .u64 0,.int .u64 0]:Array Value)[k]?.getD undef,?_,rfl,rfl⟩,Nat.le_refl _,World.ownsRow_nil _ _ _ _,World.ownsRow_nil _ _ _ _,fun q hq=>(by cases hq),fun q hq=>(by cases hq),fun q hq=>(by cases hq)⟩,rfl,fun i hi=>absurd hi (Nat.not_lt_zero _),fun _=>pf,fun i j=>by simp[Bt,z8,ce],fun _ _=>rfl⟩;refine World.rowIs_alloc w #[.slice none 0 0,.slice none 0 0,.bool false,.int .u64 0,.int .u64 0,.int .u64 0,.int .u64 0,.int .u64 0,.int .u64 0,.int .u64 0,.int .u64 0,.int .u64 0,.int .u64 0,.int .u64 0,.int .u64 0,.int .u64 0,.int .u64 0,.int .u64 0,.int .u64 0] 106 _ ?_;intro i hi;simp[Array.getElem?_eq_getElem hi]
theorem kq.cells{O:Nat->Prop}{A:Nat}{w:World}{sv fv:Value}{n m:Nat}{gs hs:Nat->Nat->Nat}(h:kq O A w sv fv n m gs hs):∃ F,w.rowIs A 106 19 F:=by
 obtain⟨F,hF,-⟩:=h.box;exact⟨F,hF⟩
theorem gQ{U:Value}{n:Nat}{a:It}{ln:List Lk}{ss:List (List Int)}(hu:dR U n a ln ss)(hn:n<=512)(w:World)(htz:TZ w)(hlt:Tryz.laysTZ_ren.g 1<w.heap.size) :
  Calls prog 20 #[U] w fun e w'=>∃ f l,e=.returned (.pointer (some ⟨w.heap.size,0,none⟩))/\oC (fun k=>w.heap.size<=k) w.heap.size w' n ss ln a.nl f l/\bD f a.fi/\bD l a.la/\Below w.heap.size w w':=by
 obtain⟨⟨T,x,rfl⟩,hu⟩:=hu;have b:=ai w (.cells #[.slice none 0 0,.slice none 0 0,.bool false,.int .u64 0,.int .u64 0,.int .u64 0,.int .u64 0,.int .u64 0,.int .u64 0,.int .u64 0,.int .u64 0,.int .u64 0,.int .u64 0,.int .u64 0,.int .u64 0,.int .u64 0,.int .u64 0,.int .u64 0,.int .u64 0] 106);have hz:(w.alloc (.cells #[.slice none 0 0,.slice none 0 0,.bool false,.int .u64 0,.int .u64 0,.int .u64 0,.int .u64 0,.int .u64 0,.int .u64 0,.int .u64 0,.int .u64 0,.int .u64 0,.int .u64 0,.int .u64 0,.int .u64 0,.int .u64 0,.int .u64 0,.int .u64 0,.int .u64 0] 106)).heap.size=w.heap.size+1:=ah _ _;have hA:=hu (fun k=>w.heap.size<=k) w.heap.size _ 0 [] [] (wB w) (fun k hk=>by omega) ⟨htz.below b hlt,by omega,by omega⟩ (by omega);have HA:=ae hA;have HB:=ae b;clear hu hA b hz htz
 go_enter func20,ntmps20
 go_wp2_with fail;refine HA.u.mono ?_;rintro e w2 ⟨f,l,rfl,hf,hl,ha,c⟩;have d:=ae (oC.of ha a.nl f l);obtain⟨sv,fv,gs,hs,hM,-⟩:=ha;obtain⟨F,hF⟩:=hM.cells;have q2:=hF.cell (i:=2) (by omega);have y2:=hF.frozen 2;have q3:=hF.cell (i:=3) (by omega);have y3:=hF.frozen 3;have q4:=hF.cell (i:=4) (by omega);have y4:=hF.frozen 4;have q5:=hF.cell (i:=5) (by omega);have y5:=hF.frozen 5;have q6:=hF.cell (i:=6) (by omega);have y6:=hF.frozen 6;have q7:=hF.cell (i:=7) (by omega);have y7:=hF.frozen 7;have q8:=hF.cell (i:=8) (by omega);have y8:=hF.frozen 8;have q9:=hF.cell (i:=9) (by omega);have y9:=hF.frozen 9;have q10:=hF.cell (i:=10) (by omega);have y10:=hF.frozen 10;have q11:=hF.cell (i:=11) (by omega);have y11:=hF.frozen 11;have q12:=hF.cell (i:=12) (by omega);have y12:=hF.frozen 12;have q13:=hF.cell (i:=13) (by omega);have y13:=hF.frozen 13;have q14:=hF.cell (i:=14) (by omega);have y14:=hF.frozen 14;have q15:=hF.cell (i:=15) (by omega);have y15:=hF.frozen 15;have q16:=hF.cell (i:=16) (by omega);have y16:=hF.frozen 16;have q17:=hF.cell (i:=17) (by omega);have y17:=hF.frozen 17;have q18:=hF.cell (i:=18) (by omega);have y18:=hF.frozen 18;have h:=ae hf;have j:=ae hl;have o:=ae (c.below (m:=w.heap.size) (fun k hk e=>by omega));clear hF hM hf hl c HA;unfold eZ;go_wp2;go_ret;refine⟨f,l,rfl,?_,?_,?_,?_⟩
 ·have:=d.u;simp only[Nat.zero_add,List.nil_append]at this;have e:cT 0 ln=ln:=by unfold cT;simp
  rw[e]at this;exact this
 ·have:=h.u;simpa[It.sh]using this
 ·have:=j.u;simpa[It.sh]using this
 exact(HB.u.trans o.u).trans ((vf _ _ _ _ _).below lR)
theorem EA(a0 a1 a2 a3 a4 a5 a6 a7 c0 c1 c2 c3 c4 c5 c6 c7:Int)(w:World):(Op.equalIn 10000 102 (.agg #[.int .u64 a0,.int .u64 a1,.int .u64 a2,.int .u64 a3,.int .u64 a4,.int .u64 a5,.int .u64 a6,.int .u64 a7]) (.agg #[.int .u64 c0,.int .u64 c1,.int .u64 c2,.int .u64 c3,.int .u64 c4,.int .u64 c5,.int .u64 c6,.int .u64 c7])).run prog w=.ok (a0==c0&&(a1==c1&&(a2==c2&&(a3==c3&&(a4==c4&&(a5==c5&&(a6==c6&&a7==c7))))))) w:=by
 have u3:=underlying86;have a3':=Tryz.isAgg86;have z3:=Tryz.sizeOf86;rw[show(10000:Nat)=9999+1 from rfl,Op.equalIn];simp only[Sem.run_bind,run_underlying underlying102,Result.andThen_ok];simp only[Std.Legacy.Range.forIn_eq_forIn_range',Std.Legacy.Range.size,Nat.sub_zero,Nat.add_sub_cancel,Nat.div_one,List.range'_succ,List.range'_zero,List.forIn_cons,List.forIn_nil]
 go_simp
 by_cases h0:a0=c0
 ·by_cases h1:a1=c1
  ·by_cases h2:a2=c2
   ·by_cases h3:a3=c3
    ·by_cases h4:a4=c4
     ·by_cases h5:a5=c5
      ·by_cases h6:a6=c6
       ·by_cases h7:a7=c7<;>simp[h0,h1,h2,h3,h4,h5,h6,h7]
       simp[h0,h1,h2,h3,h4,h5,h6]
      simp[h0,h1,h2,h3,h4,h5]
     simp[h0,h1,h2,h3,h4]
    simp[h0,h1,h2,h3]
   simp[h0,h1,h2]
  simp[h0,h1]
 simp[h0]
def fR(w:World)(B A:Nat)(cv hv:Value):Prop:=w.heap[B]?=some (.cells #[.pointer (some ⟨A,0,none⟩),cv,hv] 54 (0,0))
theorem fR.cells{w:World}{B A:Nat}{cv hv:Value}(h:fR w B A cv hv):w.cell? ⟨B,0,none⟩=some (.pointer (some ⟨A,0,none⟩))/\w.cell? ⟨B,1,none⟩=some cv/\w.cell? ⟨B,2,none⟩=some hv:=
 ⟨World.news_of_block h 0 _ rfl,World.news_of_block h 1 _ rfl,World.news_of_block h 2 _ rfl⟩
theorem fR.keep{w w':World}{B A:Nat}{cv hv:Value}(h:fR w B A cv hv)(e:w'.heap[B]?=w.heap[B]?):fR w' B A cv hv:=e.trans h
theorem fR.lt{w:World}{B A:Nat}{cv hv:Value}(h:fR w B A cv hv):B<w.heap.size:=(Array.getElem?_eq_some_iff.1 h).1
def nz(w:World)(A N:Nat)(fv:Value)(fs:Nat->Nat->Nat)(b:Bool)(f l:Nat->Nat):Prop:=
 (∃ F,w.rowIs A 106 19 F/\F 1=fv/\∀ k,k<17->F (2+k)=bQ b f l k)/\AK w fv N fs
theorem nz.keep{w w':World}{A N m:Nat}{fv:Value}{fs:Nat->Nat->Nat}{b:Bool}{f l:Nat->Nat}(h:nz w A N fv fs b f l)(hb:Below m w w')(hm:w.heap.size<=m):nz w' A N fv fs b f l:=by
 obtain⟨⟨F,h1,h2⟩,h3⟩:=h;exact⟨⟨F,h1.of_block (hb.block A (Nat.lt_of_lt_of_le h1.lt hm)),h2⟩,aG h3 hb hm⟩
theorem nz.cells{w:World}{A N:Nat}{fv:Value}{fs:Nat->Nat->Nat}{b:Bool}{f l:Nat->Nat}(h:nz w A N fv fs b f l):w.cell? ⟨A,1,none⟩=some fv/\w.cell? ⟨A,2,none⟩=some (.bool b)/\(∀ k,k<8->w.cell? ⟨A,3+k,none⟩=some (.int .u64 (f k:Nat)))/\∀ k,k<8->w.cell? ⟨A,11+k,none⟩=some (.int .u64 (l k:Nat)):=by
 obtain⟨⟨F,h1,h2,h3⟩,-⟩:=h;refine⟨?_,?_,fun k hk=>?_,fun k hk=>?_⟩
 ·rw[h1.cell (by omega),h2]
 ·rw[h1.cell (by omega)];exact congrArg some (h3 0 (by omega))
 ·rw[h1.cell (by omega),show 3+k=2+(k+1) by omega,h3 (k+1) (by omega)];simp only[bQ];rw[if_neg (by omega),if_pos (by omega),show k+1-1=k by omega]
  rfl
 rw[h1.cell (by omega),show 11+k=2+(k+9) by omega,h3 (k+9) (by omega)];simp only[bQ];rw[if_neg (by omega),if_neg (by omega),show k+9-9=k by omega]
 rfl
def pd(g:Nat->Nat)(e:Bool):Value:=.agg #[.int .u64 (g 0:Nat),.int .u64 (g 1:Nat),.int .u64 (g 2:Nat),.int .u64 (g 3:Nat),.int .u64 (g 4:Nat),.int .u64 (g 5:Nat),.int .u64 (g 6:Nat),.int .u64 (g 7:Nat),.bool e]
abbrev c9 (g:Nat->Nat) (e:Bool):Array Value:=#[.int .u64 (g 0:Nat),.int .u64 (g 1:Nat),.int .u64 (g 2:Nat),.int .u64 (g 3:Nat),.int .u64 (g 4:Nat),.int .u64 (g 5:Nat),.int .u64 (g 6:Nat),.int .u64 (g 7:Nat),.bool e]
def ka(g:Nat->Nat)(e:Bool):Nat->Value:=fun k=>if k<8 then wd g k else .bool e
theorem sH{w:World}{B:Nat}{t:TypeId}{g:Nat->Nat}{e:Bool}(h:w.rowIs B t 9 (ka g e)):w.heap[B]?=some (.cells (c9 g e) t (0,0)):=by
 obtain⟨c,hc,hs,hf⟩:=h;rw[hc]
 congr 2
 refine Array.ext (by simp[hs]) (fun i h1 h2=>?_)
 have h3:=hf i (by omega);rw[Array.getElem?_eq_getElem h1]at h3;have h4:=Option.some.inj h3;rw[h4];have h5:i<9:=by omega
 match i,h5 with
 | 0,_=>rfl
 | 1,_=>rfl
 | 2,_=>rfl
 | 3,_=>rfl
 | 4,_=>rfl
 | 5,_=>rfl
 | 6,_=>rfl
 | 7,_=>rfl
 | 8,_=>rfl
theorem eG{w:World}{B:Nat}{t:TypeId}{g:Nat->Nat}{e:Bool}(h:w.heap[B]?=some (.cells (c9 g e) t (0,0))):w.rowIs B t 9 (ka g e):=by
 refine⟨_,h,rfl,fun i hi=>?_⟩
 match i,hi with
 | 0,_=>rfl
 | 1,_=>rfl
 | 2,_=>rfl
 | 3,_=>rfl
 | 4,_=>rfl
 | 5,_=>rfl
 | 6,_=>rfl
 | 7,_=>rfl
 | 8,_=>rfl
theorem Dw(g:Nat->Nat)(e:Bool):(c9 g e).all (·.oneCell')=true:=by simp[Value.oneCell']
theorem zO{w:World}{B:Nat}{g:Nat->Nat}{e:Bool}(h:w.heap[B]?=some (.cells (c9 g e) 114 (0,0))){fn:Func}{p:Tmp}(hr:fn.results=#[.cell p 114])(tmps:Array Value)(hp:tmps.getD p undef=.pointer (some ⟨B,0,none⟩)):(results fn tmps).run prog w=.ok (pd g e) w:=
 results_cell_row hr tmps w B _ _ _ _ hp h underlying114 rfl (by kernel_rfl)
theorem oX(B A N:Nat)(cv hv fv:Value)(fs:Nat->Nat->Nat)(b:Bool)(f l:Nat->Nat)(w:World)(hB:fR w B A cv hv)(hA:nz w A N fv fs b f l) :
  Calls prog 50 #[.pointer (some ⟨B,0,none⟩)] w fun e w'=>e=.returned (pd f b)/\Below w.heap.size w w':=by
 have hlt:=hB.lt;have c:A<w.heap.size:=by obtain⟨⟨F,h1,-⟩,-⟩:=hA;exact h1.lt
 have a:=ai w (.cells #[.int .u64 0,.int .u64 0,.int .u64 0,.int .u64 0,.int .u64 0,.int .u64 0,.int .u64 0,.int .u64 0,.bool false] 114);obtain⟨c0,-,-⟩:=(hB.keep (a.block B hlt)).cells;obtain⟨-,d2,d3,-⟩:=(hA.keep a lR).cells;have e0:=d3 0 (by omega);have e1:=d3 1 (by omega);have e2:=d3 2 (by omega);have e3:=d3 3 (by omega);have e4:=d3 4 (by omega);have e5:=d3 5 (by omega);have e6:=d3 6 (by omega);have e7:=d3 7 (by omega);simp only[Nat.reduceAdd]at e0 e1 e2 e3 e4 e5 e6 e7;clear hB hA d3 a
 go_enter func50,ntmps50
 go_wp2_with fail;refine aL 17 (by kernel_rfl) (by kernel_rfl) ?_;simp only[List.take_succ_cons,List.take_zero,List.drop_succ_cons,List.drop_zero]
 repeat (first|go_big_quiet_skip|(go_big_quiet_want;go_big_quiet_op;go_big_quiet_on))
 refine wpQuiet_nil ?_;go_wp2;refine bodyPost_ret (zO (g:=f) (e:=b) (by exact(au w _).new) rfl _ rfl) rfl ?_;exact⟨rfl,(ai w _).drew⟩
def nE(fs:Nat->Nat->Nat)(Y:List Nat):Nat->Nat:=Y.foldl (fun p k=>cD p (fs k)) (fun _=>0)
theorem yu(fs:Nat->Nat->Nat)(Y:List Nat)(k:Nat):nE fs (Y++[k])=cD (nE fs Y) (fs k):=by simp[nE,List.foldl_append]
theorem qI{fs:Nat->Nat->Nat}(hf:∀ i,Fit (fs i)):∀ (Y:List Nat) (p:Nat->Nat),Fit p->Fit (Y.foldl (fun p k=>cD p (fs k)) p)
 | [],_,h=>h
 | k::Y,_,h=>qI hf Y _ (qq h (hf k))
theorem qp{fs:Nat->Nat->Nat}(hf:∀ i,Fit (fs i))(Y:List Nat):Fit (nE fs Y):=qI hf Y _ vg
theorem uO{fs:Nat->Nat->Nat}(j:Nat):∀ (Y:List Nat) (p:Nat->Nat),Bt (Y.foldl (fun p k=>cD p (fs k)) p) j=true↔(Bt p j=true∨∃ k∈Y,Bt (fs k) j=true)
 | [],p=>by simp
 | k::Y,p=>by
  simp only[List.foldl_cons];rw[uO j Y,uW,Bool.or_eq_true]
  constructor
  ·rintro((h|h)|⟨k',h1,h2⟩)
   ·exact Or.inl h
   ·exact Or.inr ⟨k,List.mem_cons_self ..,h⟩
   exact Or.inr ⟨k',List.mem_cons_of_mem _ h1,h2⟩
  rintro(h|⟨k',h1,h2⟩)
  ·exact Or.inl (Or.inl h)
  rcases List.mem_cons.1 h1 with rfl|h1
  ·exact Or.inl (Or.inr h2)
  exact Or.inr ⟨k',h1,h2⟩
theorem uf{fs:Nat->Nat->Nat}(Y:List Nat)(j:Nat):Bt (nE fs Y) j=true↔∃ k∈Y,Bt (fs k) j=true:=by
 unfold nE;rw[uO]
 constructor
 ·rintro(h|h)
  ·simp[Bt]at h
  exact h
 exact Or.inr
def xr(g:Nat->Nat):Bool:=((g 0:Int)==0&&((g 1:Int)==0&&((g 2:Int)==0&&((g 3:Int)==0&&((g 4:Int)==0&&((g 5:Int)==0&&((g 6:Int)==0&&(g 7:Int)==0)))))))
theorem rj{g:Nat->Nat}(hg:Fit g):(!(xr g))=true↔∃ i,i<512/\Bt g i=true:=by
 have key:xr g=true↔∀ j,j<8->g j=0:=by
  unfold xr;simp only[Bool.and_eq_true,beq_iff_eq]
  constructor
  ·rintro⟨h0,h1,h2,h3,h4,h5,h6,h7⟩ j hj
   match j,hj with
   | 0,_=>omega
   | 1,_=>omega
   | 2,_=>omega
   | 3,_=>omega
   | 4,_=>omega
   | 5,_=>omega
   | 6,_=>omega
   | 7,_=>omega
  intro h;exact⟨by rw[h 0 (by omega)];rfl,by rw[h 1 (by omega)];rfl,by rw[h 2 (by omega)];rfl,by rw[h 3 (by omega)];rfl,by rw[h 4 (by omega)];rfl,by rw[h 5 (by omega)];rfl,by rw[h 6 (by omega)];rfl,by rw[h 7 (by omega)];rfl⟩
 rw[Bool.not_eq_true',<-Bool.not_eq_true,key]
 constructor
 ·intro h
  apply Classical.byContradiction
  intro a
  apply h
  intro j hj
  apply Nat.eq_of_testBit_eq
  intro k;rw[Nat.zero_testBit]
  by_cases hk:k<64
  ·have:¬ Bt g (64*j+k)=true:=fun q=>a ⟨64*j+k,by omega,q⟩
   unfold Bt at this;rw[show(64*j+k) / 64=j by omega,show(64*j+k)%64=k by omega]at this;exact Bool.eq_false_iff.2 this
  exact Nat.testBit_lt_two_pow (Nat.lt_of_lt_of_le (hg j) (by
   have:(2:Nat) ^ 64<=2 ^ k:=Nat.pow_le_pow_right (by omega) (by omega);exact this))
 rintro⟨i,hi,hb⟩ h;unfold Bt at hb;rw[h (i / 64) (by omega),Nat.zero_testBit]at hb;cases hb
theorem BF(k:Nat)(hk:k<9)(y:Bool):(if k=8 then Value.bool y else ka (fun _=>0) false k)=ka (fun _=>0) y k:=by
 unfold ka
 by_cases e:k=8
 ·subst e;rfl
 rw[if_neg e,if_pos (by omega),if_pos (by omega)]
def Ck(W0 wx:World)(bx:Value)(g:Nat->Nat):Prop:=∃ rb,bx=.pointer (some ⟨rb,0,none⟩)/\W0.heap.size<=rb/\wx.heap[rb]?=some (.cells (c8 g) 102 (0,0))/\Below W0.heap.size W0 wx
theorem AE{w:World}{B:Nat}{t:TypeId}{g:Nat->Nat}(h:w.rowIs B t 8 (wd g))(q:Nat->Nat):((((((((w.setCell ⟨B,0,none⟩ (.int .u64 (q 0:Nat))).setCell ⟨B,1,none⟩ (.int .u64 (q 1:Nat))).setCell ⟨B,2,none⟩ (.int .u64 (q 2:Nat))).setCell ⟨B,3,none⟩ (.int .u64 (q 3:Nat))).setCell ⟨B,4,none⟩ (.int .u64 (q 4:Nat))).setCell ⟨B,5,none⟩ (.int .u64 (q 5:Nat))).setCell ⟨B,6,none⟩ (.int .u64 (q 6:Nat))).setCell ⟨B,7,none⟩ (.int .u64 (q 7:Nat))).rowIs B t 8 (wd q):=by
 refine((((((((h.set 0 _).set 1 _).set 2 _).set 3 _).set 4 _).set 5 _).set 6 _).set 7 _).congr (fun k hk=>?_)
 match k,hk with
 | 0,_=>rfl
 | 1,_=>rfl
 | 2,_=>rfl
 | 3,_=>rfl
 | 4,_=>rfl
 | 5,_=>rfl
 | 6,_=>rfl
 | 7,_=>rfl
theorem sk{w w':World}{m B:Nat}(h:Below m w w')(hm:m<=B)(q:Nat->Value):Below m w ((((((((w'.setCell ⟨B,0,none⟩ (q 0)).setCell ⟨B,1,none⟩ (q 1)).setCell ⟨B,2,none⟩ (q 2)).setCell ⟨B,3,none⟩ (q 3)).setCell ⟨B,4,none⟩ (q 4)).setCell ⟨B,5,none⟩ (q 5)).setCell ⟨B,6,none⟩ (q 6)).setCell ⟨B,7,none⟩ (q 7)):=
 aI (aI (aI (aI (aI (aI (aI (aI h hm _) hm _) hm _) hm _) hm _) hm _) hm _) hm _
theorem Er{W0 w1:World}(h:Below ((W0.alloc (.cells #[.int .u64 0,.int .u64 0,.int .u64 0,.int .u64 0,.int .u64 0,.int .u64 0,.int .u64 0,.int .u64 0] 102)).drew).heap.size ((W0.alloc (.cells #[.int .u64 0,.int .u64 0,.int .u64 0,.int .u64 0,.int .u64 0,.int .u64 0,.int .u64 0,.int .u64 0] 102)).drew) w1):w1.rowIs W0.heap.size 102 8 (wd (fun _=>0))/\Below W0.heap.size W0 w1:=by
 have hs:((W0.alloc (.cells #[.int .u64 0,.int .u64 0,.int .u64 0,.int .u64 0,.int .u64 0,.int .u64 0,.int .u64 0,.int .u64 0] 102)).drew).heap.size=W0.heap.size+1:=ah _ _;exact⟨(dF W0 102 (fun _=>0)).of_block (h.block W0.heap.size (by omega)),(ai W0 _).trans (⟨h.os,h.tape,h.output,h.size,fun k hk=>h.block k (by omega)⟩)⟩
theorem CD(w:World)(j:Nat):(w.alloc (.cells #[.int .u64 0,.int .u64 0,.int .u64 0,.int .u64 0,.int .u64 0,.int .u64 0,.int .u64 0,.int .u64 0] 102)).frozen? ⟨w.heap.size,j,none⟩=false:=(dF w 102 (fun _=>0)).frozen j
theorem CH(w:World)(j:Nat)(hj:j<8):(w.alloc (.cells #[.int .u64 0,.int .u64 0,.int .u64 0,.int .u64 0,.int .u64 0,.int .u64 0,.int .u64 0,.int .u64 0] 102)).cell? ⟨w.heap.size,j,none⟩=some (wd (fun _=>0) j):=(dF w 102 (fun _=>0)).cell hj
theorem Cm{W0 w1:World}(h:Below (W0.drew).heap.size (W0.drew) w1):Below W0.heap.size W0 w1:=⟨h.os,h.tape,h.output,h.size,h.block⟩
theorem qK(B A N c m:Nat)(cv hv fv:Value)(hs fs:Nat->Nat->Nat)(b:Bool)(f l Q:Nat->Nat)(e0:Bool)(w:World)(hB:fR w B A cv hv)(hA:nz w A N fv fs b f l)(hh:AK w hv m hs)(hc:c<m)(hQ:Fit Q)(hhc:Fit (hs c))(hl:Fit l)(hfs:∀ i,Fit (fs i))(hin:∀ i,Bt (hs c) i=true->i<N)(K:TZ w)(htl:Tryz.laysTZ_ren.g 1<w.heap.size) :
  Calls prog 51 #[.pointer (some ⟨B,0,none⟩),pd Q e0,.int .i64 c] w fun e w'=>e=.returned (pd (nE fs (gj (cC Q (hs c)) 512)) (!(xr (cC (cC Q (hs c)) l))))/\Below w.heap.size w w':=by
 obtain⟨W0,E⟩ : ∃ W0,W0=((w.alloc (.cells (c9 Q e0) 114)).alloc (.cells #[.int .u64 0,.int .u64 0,.int .u64 0,.int .u64 0,.int .u64 0,.int .u64 0,.int .u64 0,.int .u64 0,.bool false] 114)).alloc (.cells #[.int .u64 0,.int .u64 0,.int .u64 0,.int .u64 0,.int .u64 0,.int .u64 0,.int .u64 0,.int .u64 0,.bool false] 114):=⟨_,rfl⟩;have ap:Below w.heap.size w W0:=by rw[E];exact(aH w _ _).alloc (by rw[ah,ah];omega) _
 have cc:W0.heap.size=w.heap.size+3:=by rw[E,ah,ah,ah]
 have b8:∀ j,j<8->W0.cell? ⟨w.heap.size,j,none⟩=some (.int .u64 (Q j:Nat)):=fun j hj=>by
  have h1:W0.heap[w.heap.size]?=some (.cells (c9 Q e0) 114 (0,0)):=by
   have hb:Below (w.heap.size+1) (w.alloc (.cells (c9 Q e0) 114)) W0:=by
    have:=aH (w.alloc (.cells (c9 Q e0) 114)) (.cells #[.int .u64 0,.int .u64 0,.int .u64 0,.int .u64 0,.int .u64 0,.int .u64 0,.int .u64 0,.int .u64 0,.bool false] 114) (.cells #[.int .u64 0,.int .u64 0,.int .u64 0,.int .u64 0,.int .u64 0,.int .u64 0,.int .u64 0,.int .u64 0,.bool false] 114);rw[ah,<-E]at this;exact this
   rw[hb.block _ (Nat.lt_succ_self _)];exact(au w _).new
  have h2:=(eG h1).cell (i:=j) (by omega);rw[h2];unfold ka;rw[if_pos hj]
  rfl
 obtain⟨gh,cap,M,F,rfl,b9,C,hM,hF,-⟩:=pB hh hc;have aq:∀ W',Below w.heap.size w W'->∀ j,j<8->W'.cell? ⟨gh,c*8+j,none⟩=some (.int .u64 (hs c j:Nat)):=fun W' hW' j hj=>by
  rw[World.cell?_of_block (a:=⟨gh,c*8+j,none⟩) (hW'.block gh b9),C.cell (by omega),hF j hj]
  rfl
 obtain⟨n0,P⟩ : ∃ n0,n0=w.heap.size:=⟨_,rfl⟩;obtain⟨h,bb⟩ : ∃ h,h=hs c:=⟨_,rfl⟩;rw[<-bb]at aq hhc hin ⊢;obtain⟨R,hR⟩ : ∃ R,R=cC Q h:=⟨_,rfl⟩;rw[<-hR];obtain⟨L2,ar⟩ : ∃ L2,L2=cC R l:=⟨_,rfl⟩;rw[<-ar];obtain⟨y,hy⟩ : ∃ y,y=xr L2:=⟨_,rfl⟩;rw[<-hy];obtain⟨G,hG⟩ : ∃ G,G=nE fs (gj R 512):=⟨_,rfl⟩;rw[<-hG];have HG:=ae hG;clear hG;have av:Fit R:=by rw[hR];exact jp hQ
 have ag:∀ i,Bt R i=true->i<N:=fun i hi=>hin i (by rw[hR,gi,Bool.and_eq_true]at hi;exact hi.2)
 have ab:=fun W=>qO R l W av hl
 have bc:∀ W,(Op.equalIn 10000 102 (.agg #[.int .u64 (L2 0:Nat),.int .u64 (L2 1:Nat),.int .u64 (L2 2:Nat),.int .u64 (L2 3:Nat),.int .u64 (L2 4:Nat),.int .u64 (L2 5:Nat),.int .u64 (L2 6:Nat),.int .u64 (L2 7:Nat)]) (.agg #[.int .u64 0,.int .u64 0,.int .u64 0,.int .u64 0,.int .u64 0,.int .u64 0,.int .u64 0,.int .u64 0])).run prog W=.ok y W:=fun W=>by rw[hy];exact EA _ _ _ _ _ _ _ _ 0 0 0 0 0 0 0 0 W
 unfold gE at ab;simp only[<-ar]at ab;have H:W0.rowIs (w.heap.size+1) 114 9 (ka (fun _=>0) false):=by
  have h1:=(au (w.alloc (.cells (c9 Q e0) 114)) (.cells #[.int .u64 0,.int .u64 0,.int .u64 0,.int .u64 0,.int .u64 0,.int .u64 0,.int .u64 0,.int .u64 0,.bool false] 114)).new;rw[ah]at h1;have hb:=ai ((w.alloc (.cells (c9 Q e0) 114)).alloc (.cells #[.int .u64 0,.int .u64 0,.int .u64 0,.int .u64 0,.int .u64 0,.int .u64 0,.int .u64 0,.int .u64 0,.bool false] 114)) (.cells #[.int .u64 0,.int .u64 0,.int .u64 0,.int .u64 0,.int .u64 0,.int .u64 0,.int .u64 0,.int .u64 0,.bool false] 114);rw[<-E,ah,ah]at hb;have h2:W0.heap[w.heap.size+1]?=some (.cells (c9 (fun _=>0) false) 114 (0,0)):=(hb.block _ (by omega)).trans h1;exact eG h2
 have I:W0.rowIs (w.heap.size+2) 114 9 (ka (fun _=>0) false):=by
  have h1:=(au ((w.alloc (.cells (c9 Q e0) 114)).alloc (.cells #[.int .u64 0,.int .u64 0,.int .u64 0,.int .u64 0,.int .u64 0,.int .u64 0,.int .u64 0,.int .u64 0,.bool false] 114)) (.cells #[.int .u64 0,.int .u64 0,.int .u64 0,.int .u64 0,.int .u64 0,.int .u64 0,.int .u64 0,.int .u64 0,.bool false] 114)).new;rw[ah,ah,<-E]at h1;have h2:W0.heap[w.heap.size+2]?=some (.cells (c9 (fun _=>0) false) 114 (0,0)):=h1;exact eG h2
 rw[<-P]at H I;have bd:=ae ab;have bf:=ae bc;have ch:=ae av;have bi:=ae ag;have bj:=ae hB;have S:=ae hA;have bl:=ae hfs;have ci:=ae H;have ck:=ae I;have cl:Hi (∀ W,Below w.heap.size w W->TZ W):=fun W hW=>K.below hW htl
 clear ab bc av ag hin hfs H I K;have T:=hB.lt;have hS:Hi (∀ W':World,Below W0.heap.size W0 W'->W'.cell? ⟨B,2,none⟩=some (.slice (some ⟨gh,0,none⟩) m cap)/\W'.cell? ⟨n0,0,none⟩=some (.int .u64 (Q 0:Nat))/\W'.cell? ⟨n0,1,none⟩=some (.int .u64 (Q 1:Nat))/\W'.cell? ⟨n0,2,none⟩=some (.int .u64 (Q 2:Nat))/\W'.cell? ⟨n0,3,none⟩=some (.int .u64 (Q 3:Nat))/\W'.cell? ⟨n0,4,none⟩=some (.int .u64 (Q 4:Nat))/\W'.cell? ⟨n0,5,none⟩=some (.int .u64 (Q 5:Nat))/\W'.cell? ⟨n0,6,none⟩=some (.int .u64 (Q 6:Nat))/\W'.cell? ⟨n0,7,none⟩=some (.int .u64 (Q 7:Nat))/\W'.cell? ⟨gh,c*8,none⟩=some (.int .u64 (h 0:Nat))/\W'.cell? ⟨gh,c*8+1,none⟩=some (.int .u64 (h 1:Nat))/\W'.cell? ⟨gh,c*8+2,none⟩=some (.int .u64 (h 2:Nat))/\W'.cell? ⟨gh,c*8+3,none⟩=some (.int .u64 (h 3:Nat))/\W'.cell? ⟨gh,c*8+4,none⟩=some (.int .u64 (h 4:Nat))/\W'.cell? ⟨gh,c*8+5,none⟩=some (.int .u64 (h 5:Nat))/\W'.cell? ⟨gh,c*8+6,none⟩=some (.int .u64 (h 6:Nat))/\W'.cell? ⟨gh,c*8+7,none⟩=some (.int .u64 (h 7:Nat))):=fun W' hW=>by
  have bn:Below w.heap.size w W':=ap.trans (hW.mono (by omega));have k:=(hB.keep (bn.block B T)).cells.2.2;have q:=fun j (hj:j<8)=>(hW.cell (p:=⟨w.heap.size,j,none⟩) (by show w.heap.size<_;omega)).trans (b8 j hj)
  have r:=aq W' bn;rw[P];exact⟨k,q 0 (by omega),q 1 (by omega),q 2 (by omega),q 3 (by omega),q 4 (by omega),q 5 (by omega),q 6 (by omega),q 7 (by omega),r 0 (by omega),r 1 (by omega),r 2 (by omega),r 3 (by omega),r 4 (by omega),r 5 (by omega),r 6 (by omega),r 7 (by omega)⟩
 have hM:=fun W=>qO Q h W hQ hhc
 unfold gE at hM;simp only[<-hR]at hM;have bo:=ae ((hM ((W0.alloc (.cells #[.int .u64 0,.int .u64 0,.int .u64 0,.int .u64 0,.int .u64 0,.int .u64 0,.int .u64 0,.int .u64 0] 102)).drew)).mono (fun e w' q=>And.intro q.1 (Er q.2)));have bq:=ae ((hM W0.drew).mono (fun e w' q=>And.intro q.1 (Cm q.2)));clear hM;have co:=ae ap;have br:=ae E;have L:=ae P;have ds:(c:Int)<(m:Int):=by omega
 have hE:=Below.refl W0.heap.size W0;have al:∀ o:Obj,Below W0.heap.size W0 (W0.alloc o):=fun o=>ai _ o
 obtain⟨k2,q0,q1,q2,q3,q4,q5,q6,q7,r0,r1,r2,r3,r4,r5,r6,r7⟩:=hS.u W0 hE;have cx:w.heap.size+3<=W0.heap.size:=by omega
 have cy:W0.heap.size<=w.heap.size+3:=by omega
 clear hB hA hh b8 aq C hF ap E hQ hhc bb cc hR ar hy hl;unfold pd
 go_enter func51,ntmps51
 go_upto_region 2 with fail
 rw[<-br.u,<-P];clear br P
 go_cut [8] (fun bx wx=>Ck W0 wx bx R)
 case first =>
  go_region_held3 (fun W'=>W'.cell? ⟨B,2,none⟩=some (.slice (some ⟨gh,0,none⟩) m cap)/\W'.cell? ⟨n0,0,none⟩=some (.int .u64 (Q 0:Nat))/\W'.cell? ⟨n0,1,none⟩=some (.int .u64 (Q 1:Nat))/\W'.cell? ⟨n0,2,none⟩=some (.int .u64 (Q 2:Nat))/\W'.cell? ⟨n0,3,none⟩=some (.int .u64 (Q 3:Nat))/\W'.cell? ⟨n0,4,none⟩=some (.int .u64 (Q 4:Nat))/\W'.cell? ⟨n0,5,none⟩=some (.int .u64 (Q 5:Nat))/\W'.cell? ⟨n0,6,none⟩=some (.int .u64 (Q 6:Nat))/\W'.cell? ⟨n0,7,none⟩=some (.int .u64 (Q 7:Nat))/\W'.cell? ⟨gh,c*8,none⟩=some (.int .u64 (h 0:Nat))/\W'.cell? ⟨gh,c*8+1,none⟩=some (.int .u64 (h 1:Nat))/\W'.cell? ⟨gh,c*8+2,none⟩=some (.int .u64 (h 2:Nat))/\W'.cell? ⟨gh,c*8+3,none⟩=some (.int .u64 (h 3:Nat))/\W'.cell? ⟨gh,c*8+4,none⟩=some (.int .u64 (h 4:Nat))/\W'.cell? ⟨gh,c*8+5,none⟩=some (.int .u64 (h 5:Nat))/\W'.cell? ⟨gh,c*8+6,none⟩=some (.int .u64 (h 6:Nat))/\W'.cell? ⟨gh,c*8+7,none⟩=some (.int .u64 (h 7:Nat)))
   (first|(with_reducible exact hS.u _ cp)|(with_reducible exact hS.u _ (U _))|(with_reducible exact hS.u _ s)|(with_reducible exact hS.u _ (al _))|go_keep)
   (first
    | (go_at_call 93;(with_reducible refine bo.u.mono ?_);rintro e w1 ⟨rfl,RZ,s⟩;have z0:=RZ.cell (i:=0) (by omega);have f0:=RZ.frozen 0;have z1:=RZ.cell (i:=1) (by omega);have f1:=RZ.frozen 1;have z2:=RZ.cell (i:=2) (by omega);have f2:=RZ.frozen 2;have z3:=RZ.cell (i:=3) (by omega);have f3:=RZ.frozen 3;have z4:=RZ.cell (i:=4) (by omega);have f4:=RZ.frozen 4;have z5:=RZ.cell (i:=5) (by omega);have f5:=RZ.frozen 5;have z6:=RZ.cell (i:=6) (by omega);have f6:=RZ.frozen 6;have z7:=RZ.cell (i:=7) (by omega);have f7:=RZ.frozen 7;have cp:=sk s (Nat.le_refl W0.heap.size) (fun j=>.int .u64 (R j:Nat));have U:∀ o:Obj,Below W0.heap.size W0 (w1.alloc o):=fun o=>s.alloc s.size o)
    | (go_at_call 93;(with_reducible refine bq.u.mono ?_);rintro e w1 ⟨rfl,s⟩;have z0:=CH w1 0 (by omega);have f0:=CD w1 0;have z1:=CH w1 1 (by omega);have f1:=CD w1 1;have z2:=CH w1 2 (by omega);have f2:=CD w1 2;have z3:=CH w1 3 (by omega);have f3:=CD w1 3;have z4:=CH w1 4 (by omega);have f4:=CD w1 4;have z5:=CH w1 5 (by omega);have f5:=CD w1 5;have z6:=CH w1 6 (by omega);have f6:=CD w1 6;have z7:=CH w1 7 (by omega);have f7:=CD w1 7;have U:∀ o:Obj,Below W0.heap.size W0 (w1.alloc o):=fun o=>s.alloc s.size o))
  all_goals go_wp2_with fail
  all_goals go_meet
  all_goals first
   | exact⟨_,rfl,Nat.le_refl _,gX (AE RZ R),sk s (Nat.le_refl W0.heap.size) (fun j=>.int .u64 (R j:Nat))⟩
   | exact⟨_,rfl,s.size,(au w1 _).new,U _⟩
 obtain⟨rb,rfl,e8,J,d⟩:=hcut;obtain⟨V,hV⟩ : ∃ V,V=wc:=⟨_,rfl⟩;rw[<-hV]at J d ⊢;have e9:=d.size;have ad:Below w.heap.size w V:=co.u.trans (d.mono (by omega));have Z:=L.u;have bs:=S.u.keep ad lR;have d8:A<w.heap.size:=(by obtain⟨⟨F,h1,-⟩,-⟩:=S.u;exact h1.lt);have bt:rb<V.heap.size:=(Array.getElem?_eq_some_iff.1 J).1;have a8:Hi (∀ W':World,(∀ k,k≠n0+2->k<V.heap.size->W'.heap[k]?=V.heap[k]?)->W'.cell? ⟨B,0,none⟩=some (.pointer (some ⟨A,0,none⟩))/\W'.cell? ⟨rb,0,none⟩=some (.int .u64 (R 0:Nat))/\W'.cell? ⟨rb,1,none⟩=some (.int .u64 (R 1:Nat))/\W'.cell? ⟨rb,2,none⟩=some (.int .u64 (R 2:Nat))/\W'.cell? ⟨rb,3,none⟩=some (.int .u64 (R 3:Nat))/\W'.cell? ⟨rb,4,none⟩=some (.int .u64 (R 4:Nat))/\W'.cell? ⟨rb,5,none⟩=some (.int .u64 (R 5:Nat))/\W'.cell? ⟨rb,6,none⟩=some (.int .u64 (R 6:Nat))/\W'.cell? ⟨rb,7,none⟩=some (.int .u64 (R 7:Nat))/\W'.cell? ⟨A,11,none⟩=some (.int .u64 (l 0:Nat))/\W'.cell? ⟨A,12,none⟩=some (.int .u64 (l 1:Nat))/\W'.cell? ⟨A,13,none⟩=some (.int .u64 (l 2:Nat))/\W'.cell? ⟨A,14,none⟩=some (.int .u64 (l 3:Nat))/\W'.cell? ⟨A,15,none⟩=some (.int .u64 (l 4:Nat))/\W'.cell? ⟨A,16,none⟩=some (.int .u64 (l 5:Nat))/\W'.cell? ⟨A,17,none⟩=some (.int .u64 (l 6:Nat))/\W'.cell? ⟨A,18,none⟩=some (.int .u64 (l 7:Nat))):=fun W' hW=>by
  have kB:=(bj.u.keep ((hW B (by omega) (by omega)).trans (ad.block B T))).cells.1;have kr:∀ j,j<8->W'.cell? ⟨rb,j,none⟩=some (.int .u64 (R j:Nat)):=fun j hj=>by
   rw[World.cell?_of_block (a:=⟨rb,j,none⟩) (hW rb (by omega) bt)];have h1:V.rowIs rb 102 8 (wd R):=⟨_,J,rfl,fun i hi=>by
    match i,hi with
    | 0,_=>rfl
    | 1,_=>rfl
    | 2,_=>rfl
    | 3,_=>rfl
    | 4,_=>rfl
    | 5,_=>rfl
    | 6,_=>rfl
    | 7,_=>rfl⟩
   exact h1.cell hj
  have kl:∀ j,j<8->W'.cell? ⟨A,11+j,none⟩=some (.int .u64 (l j:Nat)):=fun j hj=>by
   rw[World.cell?_of_block (a:=⟨A,11+j,none⟩) (hW A (by omega) (by omega))];exact bs.cells.2.2.2 j hj
  exact⟨kB,kr 0 (by omega),kr 1 (by omega),kr 2 (by omega),kr 3 (by omega),kr 4 (by omega),kr 5 (by omega),kr 6 (by omega),kr 7 (by omega),kl 0 (by omega),kl 1 (by omega),kl 2 (by omega),kl 3 (by omega),kl 4 (by omega),kl 5 (by omega),kl 6 (by omega),kl 7 (by omega)⟩
 have a9:=ck.u.of_block (d.block (n0+2) (by omega));have an:=ci.u.of_block (d.block (n0+1) (by omega));have bv:=ae a9;have ao:=ae an;have bz:=ae ((bd.u V.drew).mono (fun e w' q=>And.intro q.1 (And.intro (Cm q.2) (And.intro (a9.of_block ((Cm q.2).block (n0+2) (by omega))) (fun k (_:k≠n0+2) hk=>(Cm q.2).block k hk)))));have c0:=ae ad;have es:=bf.u;obtain⟨k0,a0,a1,a2,a3,a4,a5,a6,a7,d0,d1,d2,d3,d4,d5,d6,d7⟩:=a8.u V (fun _ _ _=>rfl);clear J d ad bs a9 an hV bd bf k2 q0 q1 q2 q3 q4 q5 q6 q7 r0 r1 r2 r3 r4 r5 r6 r7 hS hE al bo bq Z
 go_upto_region 3 with fail
 go_cut [8] (fun bx wx=>bx=.pointer (some ⟨rb,0,none⟩)/\wx.rowIs (n0+2) 114 9 (ka (fun _=>0) (!y))/\(∀ k,k≠n0+2->k<V.heap.size->wx.heap[k]?=V.heap[k]?)/\V.heap.size<=wx.heap.size/\wx.os=V.os/\wx.tape=V.tape/\wx.output=V.output)
 case first =>
  go_region_held3 (fun W'=>W'.cell? ⟨B,0,none⟩=some (.pointer (some ⟨A,0,none⟩))/\W'.cell? ⟨rb,0,none⟩=some (.int .u64 (R 0:Nat))/\W'.cell? ⟨rb,1,none⟩=some (.int .u64 (R 1:Nat))/\W'.cell? ⟨rb,2,none⟩=some (.int .u64 (R 2:Nat))/\W'.cell? ⟨rb,3,none⟩=some (.int .u64 (R 3:Nat))/\W'.cell? ⟨rb,4,none⟩=some (.int .u64 (R 4:Nat))/\W'.cell? ⟨rb,5,none⟩=some (.int .u64 (R 5:Nat))/\W'.cell? ⟨rb,6,none⟩=some (.int .u64 (R 6:Nat))/\W'.cell? ⟨rb,7,none⟩=some (.int .u64 (R 7:Nat))/\W'.cell? ⟨A,11,none⟩=some (.int .u64 (l 0:Nat))/\W'.cell? ⟨A,12,none⟩=some (.int .u64 (l 1:Nat))/\W'.cell? ⟨A,13,none⟩=some (.int .u64 (l 2:Nat))/\W'.cell? ⟨A,14,none⟩=some (.int .u64 (l 3:Nat))/\W'.cell? ⟨A,15,none⟩=some (.int .u64 (l 4:Nat))/\W'.cell? ⟨A,16,none⟩=some (.int .u64 (l 5:Nat))/\W'.cell? ⟨A,17,none⟩=some (.int .u64 (l 6:Nat))/\W'.cell? ⟨A,18,none⟩=some (.int .u64 (l 7:Nat)))
   (first|(with_reducible exact a8.u _ (c1 _))|(with_reducible exact a8.u _ D)|go_keep)
   (first
    | (go_at_call 93;(with_reducible refine bz.u.mono ?_);rintro e w2 ⟨rfl,af,aw,D⟩;have zz:=aw.cell (i:=8) (by omega);have ff:=aw.frozen 8;have c1:∀ v:Value,∀ k,k≠n0+2->k<V.heap.size->(w2.setCell ⟨n0+2,8,none⟩ v).heap[k]?=V.heap[k]? :=fun v k h1 h2=>(Below.heap_setCell _ _ _ _ h1).trans (D k h1 h2)))
  all_goals go_wp2_with fail
  all_goals go_meet
  all_goals exact⟨rfl,(aw.set 8 _).congr (fun k hk=>BF k hk _),c1 _,by rw[aJ];exact af.size,af.os,af.tape,af.output⟩
 obtain⟨rfl,hT,D,ax,b2,b3,b4⟩:=hcut;obtain⟨X,hX⟩ : ∃ X,X=wc:=⟨_,rfl⟩;rw[<-hX]at hT D ax b2 b3 b4 ⊢;have Z:=L.u;have b5:Below w.heap.size w X:=c0.u.trans ⟨b2,b3,b4,ax,fun k hk=>D k (by omega) (by have:=c0.u.size;omega)⟩;obtain⟨e0,e1,e2,e3,e4,e5,e6,e7⟩ : X.cell? ⟨rb,0,none⟩=some (.int .u64 (R 0:Nat))/\X.cell? ⟨rb,1,none⟩=some (.int .u64 (R 1:Nat))/\X.cell? ⟨rb,2,none⟩=some (.int .u64 (R 2:Nat))/\X.cell? ⟨rb,3,none⟩=some (.int .u64 (R 3:Nat))/\X.cell? ⟨rb,4,none⟩=some (.int .u64 (R 4:Nat))/\X.cell? ⟨rb,5,none⟩=some (.int .u64 (R 5:Nat))/\X.cell? ⟨rb,6,none⟩=some (.int .u64 (R 6:Nat))/\X.cell? ⟨rb,7,none⟩=some (.int .u64 (R 7:Nat)):=by
  have q:=a8.u X D;exact⟨q.2.1,q.2.2.1,q.2.2.2.1,q.2.2.2.2.1,q.2.2.2.2.2.1,q.2.2.2.2.2.2.1,q.2.2.2.2.2.2.2.1,q.2.2.2.2.2.2.2.2.1⟩
 have HT:=ae hT;have c2:=ae b5;have b6:=ae (ao.u.of_block (D (n0+1) (by omega) (by omega)));have cr:Hi (∀ W',cd (n0+2) X W'->W'.cell? ⟨B,0,none⟩=some (.pointer (some ⟨A,0,none⟩))/\W'.cell? ⟨A,1,none⟩=some fv):=fun W' hW=>by
  have O:Below w.heap.size w W':=b5.trans (hW.bel2 (by omega));exact⟨(bj.u.keep (O.block B T)).cells.1,(S.u.keep O lR).cells.1⟩
 clear hT D ax b2 b3 b4 b5 hX a8 bz bv ao es k0 a0 a1 a2 a3 a4 a5 a6 a7 d0 d1 d2 d3 d4 d5 d6 d7 Z;obtain⟨fa,fc,rfl⟩:=aj S.u.2
 go_wp2_with fail
 go_loopw [35] (fun iv wr=>∃ i:Nat,i<=8/\iv=.int .i64 i/\wr.rowIs (n0+2) 114 9 (ka (nE fs (gj R (64*i))) (!y))/\cd (n0+2) X wr) (fun iv _=>8-(intOf iv).toNat)
 case atStart=>exact⟨0,by omega,rfl,HT.u,cd.refl _ _⟩
 clear HT;obtain⟨i,hi,rfl,hT,t⟩:=hrel;have HT:=ae hT;have z:=ae t;clear hT t
 by_cases hlt:i<8
 ·have d9:(i:Int)<8:=by omega
  have ea:=ER R i hlt;have c3:=ch.u i;have c4:=ae (rt R i);clear e0 e1 e2 e3 e4 e5 e6 e7
  go_wp2_with fail
  go_loopw [10] (fun xv wr=>∃ (Y:List Nat) (x:Nat),xv=.int .u64 x/\x<18446744073709551616/\gj R (64*(i+1))=Y++(cX x).map (64*i + ·)/\wr.rowIs (n0+2) 114 9 (ka (nE fs Y) (!y))/\cd (n0+2) X wr) (fun xv _=>(intOf xv).toNat)
  case atStart=>exact⟨gj R (64*i),R i,rfl,c3,c4.u,HT.u,z.u⟩
  clear HT z c4 c3;obtain⟨Y,x,rfl,hx,hE,hT,t⟩:=hrel
  by_cases hx0:x=0
  ·subst hx0;rw[qQ,List.map_nil,List.append_nil]at hE;subst hE;have HT:=ae hT;have z:=ae t;clear hT t;go_wp2
   go_roundw
   case rel=>exact⟨i+1,by omega,by go_num,HT.u,z.u⟩
   simp[intOf];omega
  obtain⟨n1,n2,n3⟩:=oD x hx0 hx;have eb:((x:Int)!=0)=true:=by simp;omega
  have ec:((x:Int)==0)=false:=by simp;omega
  have a1:IntKind.u64.wrap ((x:Int)-1)=((x-1:Nat):Int):=by rw[IntKind.wrap_u64];omega
  obtain⟨x',c5⟩ : ∃ x',x'=x &&& (x-1):=⟨_,rfl⟩;have a2:=bits_and_u64_nat x (x-1) hx (by omega);rw[<-c5]at a2 n3 n1;obtain⟨k,hk⟩ : ∃ k,k=Lib.ctz 64 x:=⟨_,rfl⟩;have O:Below w.heap.size w wr:=c2.u.trans (t.bel2 (by have:=L.u;omega));have K:=zc x hx wr.drew ((cl.u _ O).same rfl);rw[<-hk]at K n2 n1;have c6:=ae K;have a3:IntKind.i64.wrap ((i:Int)*64)=(i:Int)*64:=lf (by omega) (by omega);have a4:IntKind.i64.wrap ((i:Int)*64+(k:Int))=(i:Int)*64+(k:Int):=lf (by omega) (by omega);have HE:Hi (gj R (64*(i+1))=(Y++[64*i+k])++(cX x').map (64*i + ·)):=by show _=_;rw[hE,n1];simp
  have aa:64*i+k∈gj R (64*(i+1)):=by rw[HE.u];simp
  have cs:64*i+k<N:=bi.u _ (by unfold gj at aa;exact(List.mem_filter.1 aa).2);have db:(i:Int)*64+(k:Int)<(N:Int):=by omega
  have ee:0<=(i:Int)*64+(k:Int):=by omega
  have ek:((i:Int)*64+(k:Int)).toNat=64*i+k:=by omega
  obtain⟨gf,cf,M,F,e,c7,C,hM,hF,-⟩:=pB S.u.2 cs;cases e;obtain⟨b0,b1⟩:=cr.u wr t;have hJ:=il (n0+2) 0 9 gf ((64*i+k)*8) M _ _ _ F (nE fs Y) (fs (64*i+k)) wr.drew (qp bl.u Y) (bl.u _) (by have:=L.u;omega) hT.drew (fun j hj=>by rw[Nat.zero_add];unfold ka;rw[if_pos hj]) (by omega) ((C.of_block (O.block gf c7)).drew) hF hM;have HJ:=ae hJ;have z:=ae t;clear hT t hE n1 K hk c5 aa O C hF hJ
  go_wp2_with fail;refine aL 14 (by kernel_rfl) (by kernel_rfl) ?_;simp only[List.take_succ_cons,List.take_zero,List.drop_succ_cons,List.drop_zero]
  repeat (first|go_big_quiet_skip|(go_big_quiet_want;go_big_quiet_op;go_big_quiet_on))
  go_big_quiet_want
  go_big_quiet_op;refine⟨_,c6.u,?_⟩
  go_big_quiet_on
  repeat (first|go_big_quiet_skip|(go_big_quiet_want;go_big_quiet_op;go_big_quiet_on))
  refine wpQuiet_nil ?_
  go_wp2_with fail;refine HJ.u.mono ?_;rintro e w3 ⟨rfl,ca,n⟩;have ct:Hi (w3.rowIs (n0+2) 114 9 (ka (nE fs (Y++[64*i+k])) (!y))):=ca.congr (fun j hj=>by
   rw[yu];unfold ka
   by_cases e:j<8
   ·rw[if_pos (by omega),if_pos e,Nat.sub_zero]
   rw[if_neg (by omega),if_neg e,if_neg e])
  have cb:=ae (z.u.trans ⟨n.os,n.tape,n.output,n.size,n.block⟩);clear ca n HJ c6 z b0 b1;go_wp2
  go_roundw
  case rel=>exact⟨Y++[64*i+k],x',by go_num,by omega,HE.u,ct.u,cb.u⟩
  simp[intOf];omega
 obtain rfl:i=8:=by omega
 have b7:=HT.u;rw[show 64*8=512 from rfl,<-HG.u]at b7;have HA:Hi (wr.heap[n0+1+1]?=_):=sH b7;have HZ:Hi (wr.heap[n0+1]?=_):=sH (b6.u.of_block (z.u.block (n0+1) (by omega)));have cw:Hi (Below w.heap.size w wr):=c2.u.trans (z.u.bel2 (by have:=L.u;omega));clear b7 HT e0 e1 e2 e3 e4 e5 e6 e7
 go_wp2_with (first
  | (refine wpList_load_row rfl 114 (.tmp 7) rfl (n0+1+1) (by first|(simp[Act.eval];done)|(simp[Act.eval,Act.put];done)) 114 _ _ _ HA.u underlying114 rfl (by kernel_rfl) ?_)
  | (refine wpList_store_row rfl 114 (.tmp 6) (.tmp 61) rfl (n0+1) #[.int .u64 (G 0:Nat),.int .u64 (G 1:Nat),.int .u64 (G 2:Nat),.int .u64 (G 3:Nat),.int .u64 (G 4:Nat),.int .u64 (G 5:Nat),.int .u64 (G 6:Nat),.int .u64 (G 7:Nat),.bool (!y)] (by first|(simp[Act.eval];done)|(simp[Act.eval,Act.put];done)) (by first|(simp[Act.eval];done)|(simp[Act.eval,Act.put];done)) 114 _ HZ.u (by kernel_rfl) rfl (Dw _ _) ?_))
 refine bodyPost_ret (zO (setRow_heap _ _ _ _ _ _ HZ.u) rfl _ rfl) rfl ?_;exact⟨rfl,cw.u.trans (cd.bel2 ⟨rfl,rfl,rfl,by simp[World.setRow],fun k hk=>setRow_other _ _ k _ hk⟩ (by have:=L.u;omega))⟩
def nV(fs hs:Nat->Nat->Nat)(b:Bool)(f l:Nat->Nat)(C:Nat->Nat):Nat->(Nat->Nat)×Bool
 | 0=>(f,b)
 | k+1=>(nE fs (gj (cC (nV fs hs b f l C k).1 (hs (C k))) 512),!(xr (cC (cC (nV fs hs b f l C k).1 (hs (C k))) l)))
theorem uJ{fs hs:Nat->Nat->Nat}{b:Bool}{f l:Nat->Nat}{C:Nat->Nat}(hf:Fit f)(hfs:∀ i,Fit (fs i))(k:Nat):Fit (nV fs hs b f l C k).1:=by
 cases k with
 | zero=>exact hf
 | succ k=>unfold nV;exact qp hfs _
structure Ef (w:World) (B A N m gc:Nat) (hv fv:Value) (K:Nat->Nat) (hs fs:Nat->Nat->Nat) (b:Bool) (f l:Nat->Nat):Prop where
 box:fR w B A (.slice (some ⟨gc,0,none⟩) 256 256) hv
 aut:nz w A N fv fs b f l
 cls:w.rowIs gc 3 256 (fun x=>.int .i64 (K x:Nat))
 hol:AK w hv m hs
 lt:∀ x,x<256->K x<m
 fh:∀ j,j<m->Fit (hs j)
 ff:Fit f
 fl:Fit l
 fs:∀ i,Fit (fs i)
 inn:∀ j,j<m->∀ i,Bt (hs j) i=true->i<N
theorem Ef.keep{w w':World}{B A N m gc n:Nat}{hv fv:Value}{K:Nat->Nat}{hs fs:Nat->Nat->Nat}{b:Bool}{f l:Nat->Nat}(h:Ef w B A N m gc hv fv K hs fs b f l)(hb:Below n w w')(hn:w.heap.size<=n):Ef w' B A N m gc hv fv K hs fs b f l:=
 ⟨h.box.keep (hb.block B (Nat.lt_of_lt_of_le h.box.lt hn)),h.aut.keep hb hn,h.cls.of_block (hb.block gc (Nat.lt_of_lt_of_le h.cls.lt hn)),aG h.hol hb hn,h.lt,h.fh,h.ff,h.fl,h.fs,h.inn⟩
theorem qW(B A N m gc:Nat)(hv fv lv:Value)(K:Nat->Nat)(hs fs:Nat->Nat->Nat)(b:Bool)(f l:Nat->Nat)(bs:List Int)(w:World)(hW:Ef w B A N m gc hv fv K hs fs b f l)(hlv:aP mB 0 0 w.heap.size w lv bs)(hbs:pp bs)(htz:TZ w)(htl:Tryz.laysTZ_ren.g 1<w.heap.size) :
  Calls prog 21 #[.pointer (some ⟨B,0,none⟩),lv] w fun e w'=>e=.returned (.bool (nV fs hs b f l (fun k=>K (bs[k]?.getD 0).toNat) bs.length).2)/\Below w.heap.size w w':=by
 obtain⟨la,lc,rfl,-,-⟩:=id hlv;obtain⟨C,hC⟩ : ∃ C:Nat->Nat,C=fun k=>K (bs[k]?.getD 0).toNat:=⟨_,rfl⟩
 rw[<-hC];have HC:=ae hC;have HW:=ae hW;have I:=ae hlv;have J:=ae hbs.2;have hn:=hbs.1;have L:Hi (∀ W,Below w.heap.size w W->TZ W):=fun W hW=>htz.below hW htl
 have HS:=ae (oX B A N _ hv fv fs b f l w hW.box hW.aut);unfold pd at HS;obtain⟨x9,p⟩ : ∃ x9,x9=(nV fs hs b f l C bs.length).2:=⟨_,rfl⟩;rw[<-p];have M:=ae p;clear hC hW hlv hbs htz p
 go_enter func21,ntmps21
 go_wp2_with fail;refine HS.u.mono ?_;rintro e w1 ⟨rfl,q⟩;have z:=q.size;have h0:(w1.alloc (.cells (c9 f b) 114)).heap[w1.heap.size]?=some (.cells (c9 f b) 114 (0,0)):=(au w1 _).new;have E:Below w.heap.size w (w1.alloc (.cells (c9 f b) 114)):=q.alloc z _;have H0:=ae h0;have F:=ae E;obtain⟨D,hD⟩ : ∃ D,D=w1.heap.size:=⟨_,rfl⟩;have O:w.heap.size<=D:=by omega
 have HD:=ae hD;clear h0 E q HS hD
 go_wp2_with fail;rw[<-HD.u]at H0 ⊢
 go_loopw [12] (fun iv wr=>∃ i:Nat,i<=bs.length/\iv=.int .i64 i/\wr.heap[D]?=some (.cells (c9 (nV fs hs b f l C i).1 (nV fs hs b f l C i).2) 114 (0,0))/\Below w.heap.size w wr) (fun iv _=>bs.length-(intOf iv).toNat)
 case atStart=>exact⟨0,by omega,rfl,H0.u,F.u⟩
 clear H0 F HD z;obtain⟨i,hi,rfl,d,hb⟩:=hrel
 by_cases hlt:i<bs.length
 ·have V:(i:Int)<(bs.length:Int):=by omega
  obtain⟨_,_,e,-,hc⟩:=I.u.below hb lR;cases e;obtain⟨lb,lo,rfl,-,-,j⟩:=hc (by omega);have d3:=j i hlt;obtain⟨x,hx⟩ : ∃ x,x=bs[i]?.getD 0:=⟨_,rfl⟩;have Q:0<=x/\x<=255:=J.u x (by rw[hx,List.getElem?_eq_getElem hlt];exact List.getElem_mem hlt);rw[<-hx]at d3;unfold mB at d3;obtain⟨t,rfl⟩:=Int.eq_ofNat_of_zero_le Q.1;have ht:t<256:=by omega
  have X:(t:Int)<256:=by omega
  have c:=HW.u.keep hb lR;obtain⟨-,k1,-⟩:=c.box.cells;have k3:=c.cls.cell ht;have r:C i=K t:=by
   rw[HC.u];show K (bs[i]?.getD 0).toNat=K t;rw[<-hx]
   rfl
  obtain⟨P,hP⟩ : ∃ P,P=(nV fs hs b f l C i).1:=⟨_,rfl⟩;obtain⟨y,hy⟩ : ∃ y,y=(nV fs hs b f l C i).2:=⟨_,rfl⟩;rw[<-hP,<-hy]at d;have R:Fit P:=by rw[hP];exact uJ c.ff c.fs i
  have o:=ae (qK B A N (K t) m _ hv fv hs fs b f l P y wr.drew (c.box.keep rfl) (c.aut.keep (Below.refl wr.heap.size wr).drew lR) (aG c.hol (Below.refl wr.heap.size wr).drew lR) (c.lt t ht) R (c.fh _ (c.lt t ht)) c.fl c.fs (c.inn _ (c.lt t ht)) ((L.u _ hb).same rfl) (by have:=hb.size;show _<wr.heap.size;omega));obtain⟨P',s⟩ : ∃ P',P'=nE fs (gj (cC P (hs (K t))) 512):=⟨_,rfl⟩;obtain⟨y',v⟩ : ∃ y',y' = !(xr (cC (cC P (hs (K t))) l)):=⟨_,rfl⟩;rw[<-s,<-v]at o;unfold pd at o;have G:Hi ((nV fs hs b f l C (i+1)).1=P'/\(nV fs hs b f l C (i+1)).2=y'):=⟨by show nE fs (gj (cC (nV fs hs b f l C i).1 (hs (C i))) 512)=P';rw[<-hP,r,s],by show(!(xr (cC (cC (nV fs hs b f l C i).1 (hs (C i))) l)))=y';rw[<-hP,r,v]⟩;have a:=eG d;have p0:=a.cell (i:=0) (by omega);have p1:=a.cell (i:=1) (by omega);have p2:=a.cell (i:=2) (by omega);have p3:=a.cell (i:=3) (by omega);have p4:=a.cell (i:=4) (by omega);have p5:=a.cell (i:=5) (by omega);have p6:=a.cell (i:=6) (by omega);have p7:=a.cell (i:=7) (by omega);have p8:=a.cell (i:=8) (by omega);simp only[ka,wd,Nat.reduceLT,if_true,if_false,Nat.lt_irrefl]at p0 p1 p2 p3 p4 p5 p6 p7 p8;have S:=ae d;have HB:=ae hb;have T:D<wr.heap.size:=(Array.getElem?_eq_some_iff.1 d).1;clear hc j hx c r hP hy s v d hb a
  go_wp2_with fail;refine aL 9 (by kernel_rfl) (by kernel_rfl) ?_;simp only[List.take_succ_cons,List.take_zero,List.drop_succ_cons,List.drop_zero]
  repeat (first|go_big_quiet_skip|(go_big_quiet_want;go_big_quiet_op;go_big_quiet_on))
  refine wpQuiet_nil ?_
  go_wp2_with fail;refine o.u.mono ?_;rintro e w2 ⟨rfl,h⟩;have n:w2.heap[D]?=some (.cells (c9 P y) 114 (0,0)):=(h.block D T).trans S.u;have H:=ae n;have U:Hi (Below w.heap.size w w2):=HB.u.trans ⟨h.os,h.tape,h.output,h.size,fun k hk=>h.block k (by have:=HB.u.size;show k<wr.heap.size;omega)⟩;clear n h o p0 p1 p2 p3 p4 p5 p6 p7 p8
  go_wp2_with (first|(refine wpList_store_row rfl 114 (.tmp 5) (.tmp 25) rfl D #[.int .u64 (P' 0:Nat),.int .u64 (P' 1:Nat),.int .u64 (P' 2:Nat),.int .u64 (P' 3:Nat),.int .u64 (P' 4:Nat),.int .u64 (P' 5:Nat),.int .u64 (P' 6:Nat),.int .u64 (P' 7:Nat),.bool y'] (by first|rfl|(simp[Act.eval];done)) (by first|rfl|(simp[Act.eval];done)) 114 _ H.u (by kernel_rfl) rfl (Dw _ _) ?_)|fail)
  go_roundw
  case rel =>
   refine⟨i+1,by omega,by go_num,?_,U.u.trans (cd.bel2 ⟨rfl,rfl,rfl,by simp[World.setRow],fun k hk=>setRow_other _ _ k _ hk⟩ O)⟩;rw[G.u.1,G.u.2];exact setRow_heap _ _ _ _ _ _ H.u
  simp[intOf];omega
 obtain rfl:i=bs.length:=by omega
 rw[<-M.u]at d;have p8:=(eG d).cell (i:=8) (by omega);simp only[ka,Nat.lt_irrefl,if_false]at p8;have HB:=ae hb;clear d hb;go_wp2;go_ret;exact⟨rfl,HB.u⟩
def DP(g h:Nat->Nat):Bool:=((g 0:Int)==(h 0:Int)&&((g 1:Int)==(h 1:Int)&&((g 2:Int)==(h 2:Int)&&((g 3:Int)==(h 3:Int)&&((g 4:Int)==(h 4:Int)&&((g 5:Int)==(h 5:Int)&&((g 6:Int)==(h 6:Int)&&(g 7:Int)==(h 7:Int))))))))
theorem Da{g h:Nat->Nat}(e:DP g h=true):gE g=gE h:=by
 unfold DP at e;simp only[Bool.and_eq_true,beq_iff_eq]at e;obtain⟨e0,e1,e2,e3,e4,e5,e6,e7⟩:=e;unfold gE;rw[e0,e1,e2,e3,e4,e5,e6,e7]
theorem DU{g h:Nat->Nat}(e:gE g=gE h)(j:Nat)(hj:j<8):g j=h j:=by
 unfold gE at e;simp only[Value.agg.injEq,Array.mk.injEq,List.cons.injEq,Value.int.injEq,Int.natCast_inj,true_and,and_true]at e;obtain⟨e0,e1,e2,e3,e4,e5,e6,e7⟩:=e
 match j,hj with
 | 0,_=>exact e0
 | 1,_=>exact e1
 | 2,_=>exact e2
 | 3,_=>exact e3
 | 4,_=>exact e4
 | 5,_=>exact e5
 | 6,_=>exact e6
 | 7,_=>exact e7
theorem Cy{g h:Nat->Nat}(e:gE g=gE h)(i:Nat)(hi:i<512):Bt g i=Bt h i:=by
 unfold Bt;rw[DU e (i / 64) (by omega)]
structure tB (H:Nat->Nat->Nat) (b mm:Nat) (K:Nat->Nat) (hs:Nat->Nat->Nat) (ks:List Value):Prop where
 len:ks.length=mm
 at_:∀ j,j<mm->ks[j]?=some (gE (hs j))
 src:∀ j,j<mm->∃ x,x<b/\hs j=H x
 cl:∀ x,x<b->K x<mm/\gE (H x)=gE (hs (K x))
 le:mm<=b
 nd:ks.Nodup
 fo:∀ j,j<mm->∃ x,x<b/\K x=j/\∀ x',x'<x->K x'<j
def iP(K:Nat->Nat)(b c:Nat):Nat->Nat:=fun x=>if x=b then c else K x
theorem tB.start(H:Nat->Nat->Nat)(K:Nat->Nat)(hs:Nat->Nat->Nat):tB H 0 0 K hs []:=
 ⟨rfl,fun _ hj=>absurd hj (Nat.not_lt_zero _),fun _ hj=>absurd hj (Nat.not_lt_zero _),fun _ hj=>absurd hj (Nat.not_lt_zero _),Nat.le_refl _,List.nodup_nil,fun _ hj=>absurd hj (Nat.not_lt_zero _)⟩
section
variable {H:Nat->Nat->Nat} {b mm:Nat} {K:Nat->Nat} {hs:Nat->Nat->Nat} {ks ks':List Value}
theorem tB.again(h:tB H b mm K hs ks){c:Nat}(hc:c<mm)(e:gE (H b)=gE (hs c)):tB H (b+1) mm (iP K b c) hs ks:=by
 refine⟨h.len,h.at_,fun j hj=>?_,fun x hx=>?_,by have:=h.le;omega,h.nd,fun j hj=>?_⟩
 ·obtain⟨x,h1,h2⟩:=h.src j hj;exact⟨x,by omega,h2⟩
 ·unfold iP
  by_cases e2:x=b
  ·subst e2;rw[if_pos rfl];exact⟨hc,e⟩
  rw[if_neg e2];exact h.cl x (by omega)
 obtain⟨x,h1,h2,h3⟩:=h.fo j hj;refine⟨x,by omega,?_,fun x' hx'=>?_⟩
 ·unfold iP;rw[if_neg (by omega)];exact h2
 unfold iP;rw[if_neg (by omega)];exact h3 x' hx'
theorem tB.num(h:tB H b mm K hs ks){i:Nat}{f:Bool}(hr:lB ks (gE (H b)) ks' i f):(f=false/\i<mm/\tB H (b+1) mm (iP K b i) hs ks')∨(f=true/\i=mm/\tB H (b+1) (mm+1) (iP K b i) (fun j=>if j=mm then H b else hs j) ks'):=by
 rcases hr with ⟨h1,rfl,h2,rfl⟩|⟨h1,rfl,rfl,rfl⟩
 ·left
  have hi:i<mm:=by
   rw[<-h.len]
   apply Nat.lt_of_not_le
   intro q;rw[List.getElem?_eq_none q]at h2;cases h2
  rw[h.at_ i hi]at h2;exact⟨rfl,hi,h.again hi (Option.some.inj h2).symm⟩
 right
 refine⟨rfl,h.len,⟨by rw[List.length_append,h.len];rfl,fun j hj=>?_,fun j hj=>?_,fun x hx=>?_,by have:=h.le;omega,?_,fun j hj=>?_⟩⟩
 ·by_cases e:j=mm
  ·subst e;rw[if_pos rfl,List.getElem?_append_right (by rw[h.len];exact Nat.le_refl _),h.len,Nat.sub_self]
   rfl
  rw[if_neg e,List.getElem?_append_left (by rw[h.len];omega)];exact h.at_ j (by omega)
 ·by_cases e:j=mm
  ·subst e;exact⟨b,by omega,by rw[if_pos rfl]⟩
  obtain⟨x,h3,h4⟩:=h.src j (by omega);exact⟨x,by omega,by rw[if_neg e];exact h4⟩
 ·unfold iP
  by_cases e2:x=b
  ·subst e2;rw[if_pos rfl,h.len];exact⟨by omega,by rw[if_pos rfl]⟩
  rw[if_neg e2];have:=h.cl x (by omega);exact⟨by omega,by rw[if_neg (by omega)];exact this.2⟩
 ·rw[List.nodup_append];refine⟨h.nd,by simp,fun a ha c hc e=>?_⟩;rw[List.mem_singleton]at hc;subst hc e;exact h1 ha
 by_cases e:j=mm
 ·subst e;refine⟨b,by omega,?_,fun x' hx'=>?_⟩
  ·unfold iP;rw[if_pos rfl];exact h.len
  unfold iP;rw[if_neg (by omega)];exact(h.cl x' hx').1
 obtain⟨x,h3,h4,h5⟩:=h.fo j (by omega);refine⟨x,by omega,?_,fun x' hx'=>?_⟩
 ·unfold iP;rw[if_neg (by omega)];exact h4
 unfold iP;rw[if_neg (by omega)];exact h5 x' hx'
end
theorem oK{base n gg cap:Nat}{w WA w7:World}{v:Value}{hs:Nat->Nat->Nat}{x:Nat->Nat}{o:Obj}(_:w.ownsRow base 102 8 v n (be 8 n hs))(hP:aK w WA o)
  (r1:w7.ownsRow base 102 8 (.slice (some ⟨gg,0,none⟩) (n+1) cap) (n+1) (be 8 n hs++[wd x 0,wd x 1,wd x 2,wd x 3,wd x 4,wd x 5,wd x 6,wd x 7]))(r2:WA.grownBy w7 v.ownBlock) :
  w7.ownsRow base 102 8 (.slice (some ⟨gg,0,none⟩) (n+1) cap) (n+1) (be 8 (n+1) (fun i=>if i=n then x else hs i))/\aR (fun k=>v.ownBlock=some k∨w.heap.size<=k) w w7:=by
 refine⟨?_,⟨r2.os.trans hP.os,r2.tape.trans hP.tape,r2.output.trans hP.output,by have:=r2.size;have:=hP.size;omega,fun k hk=>?_⟩⟩
 ·have e:be 8 (n+1) (fun i=>if i=n then x else hs i)=be 8 n hs++[wd x 0,wd x 1,wd x 2,wd x 3,wd x 4,wd x 5,wd x 6,wd x 7]:=by
   rw[gK _ _ (by omega),ix (h:=hs) (by omega) (fun i hi=>by rw[if_neg (by omega)])];simp[List.range_succ]
  rw[e];exact r1
 have a:k<w.heap.size:=by apply Nat.lt_of_not_le;intro q;exact hk (Or.inr q)
 have b:v.ownBlock≠some k:=fun q=>hk (Or.inl q)
 exact(r2.block k (by have:=hP.size;omega) (fun q=>b q.symm)).trans (hP.old a)
end Go.Proofs.YtpmcjimgkabpeaaGreatDoor
