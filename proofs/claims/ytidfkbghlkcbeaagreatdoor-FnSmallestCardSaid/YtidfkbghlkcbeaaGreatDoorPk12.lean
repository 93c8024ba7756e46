import Derived.Test.YtidfkbghlkcbeaaGreatDoorPk1
import Derived.RegionTactic
import Derived.Test.YtidfkbghlkcbeaaGreatDoorPk5
import Derived.Maps.OwnSet
import Derived.Maps.OwnOps
import Derived.DeepKeys4
import Derived.StillTail
import Derived.Deep.RegionHeld3
namespace Go.Proofs.YtidfkbghlkcbeaaGreatDoor
open Go.RowKit Go.Proofs.Tryz
set_option maxHeartbeats 16000000
set_option maxRecDepth 100000
theorem kU(v:Value)(x:El)(w:World)(hv:aR 0 w.heap.size w v x.set) :
  Calls prog 75 #[.agg #[.int .i64 x.kind,v,.int .i64 x.mn,.int .i64 x.mx]] w fun e w'=>aJ e (gZ x)/\Below w.heap.size w w':=by
 obtain⟨a,cap,rfl,hl,-,-⟩:=id hv;unfold maxLen at hl;obtain⟨k,xs,mn,mx⟩:=x;simp only at *;have Hv:=ae hv;clear hv
 by_cases h1:k=1
 ·subst h1
  go_enter func75,ntmps75
  go_wp2_with fail;refine(oK _ xs _ (by exact Hv.u.below (ai w _) lR)).mono ?_;rintro e w1 ⟨g,i⟩;obtain⟨j,l⟩:=cu i;simp only[ah]at j l;have hB:Below w.heap.size w w1:=(ai w _).trans (i.mono (by rw[ah];omega));clear i;rcases g.cases with ⟨rfl,c⟩|⟨rfl,c⟩
  ·have d:=ae c;clear c
   by_cases h2:mn=0
   ·by_cases h3:mx=0
    ·go_wp2;go_ret;exact⟨aJ.yes (Or.inl ⟨rfl,d.u,h2,h3⟩),hB⟩
    have m:(mx==0)=false:=by simp[h3]
    go_wp2;go_ret;exact⟨aJ.no (by rintro(⟨q1,q2,q3,q4⟩|⟨q1,q2,q3,q4⟩|⟨q1,q2,q3,q4,q5⟩)<;>simp only at * <;> omega),hB⟩
   have n:(mn==0)=false:=by simp[h2]
   go_wp2;go_ret;exact⟨aJ.no (by rintro(⟨q1,q2,q3,q4⟩|⟨q1,q2,q3,q4⟩|⟨q1,q2,q3,q4,q5⟩)<;>simp only at * <;> omega),hB⟩
  have d:=ae c;clear c;go_wp2;go_ret;exact⟨aJ.no (by rintro(⟨q1,q2,q3,q4⟩|⟨q1,q2,q3,q4⟩|⟨q1,q2,q3,q4,q5⟩)<;>simp only at * <;> first|exact d.u q2|omega),hB⟩
 have b1:(k==1)=false:=by simp[h1]
 by_cases h4:k=4
 ·subst h4
  by_cases b:xs.length=0
  ·have f:((xs.length:Int)==0)=true:=by simp;exact List.eq_nil_of_length_eq_zero b
   have h:=ae b;clear b
   go_enter func75,ntmps75
   go_wp2_with fail;refine(lL mn mx _).mono ?_;rintro e w1 ⟨g,rfl⟩;rcases g.cases with ⟨rfl,c⟩|⟨rfl,c⟩
   ·have d:=ae c;clear c;go_wp2;go_ret;exact⟨aJ.yes (Or.inr (Or.inr ⟨rfl,h.u,d.u⟩)),ai w _⟩
   have d:=ae c;clear c;go_wp2;go_ret;exact⟨aJ.no (by rintro(⟨q1,q2,q3,q4⟩|⟨q1,q2,q3,q4⟩|⟨q1,q2,q3⟩)<;>simp only at * <;> first|exact d.u q3|omega),ai w _⟩
  have f:((xs.length:Int)==0)=false:=by simp;intro e;exact b (by rw[e];rfl)
  go_enter func75,ntmps75
  go_wp2;go_ret;exact⟨aJ.no (by rintro(⟨q1,q2,q3,q4⟩|⟨q1,q2,q3,q4⟩|⟨q1,q2,q3⟩)<;>simp only at * <;> omega),ai w _⟩
 have b4:(k==4)=false:=by simp[h4]
 by_cases hk:k=0∨k=2∨k=3
 ·by_cases b:xs.length=0
  ·have f:((xs.length:Int)==0)=true:=by simp;exact List.eq_nil_of_length_eq_zero b
   have h:=ae b;clear b h1 h4
   by_cases h2:mn=0
   ·by_cases h3:mx=0
    ·rcases hk with rfl|rfl|rfl
     all_goals
      go_enter func75,ntmps75
      go_wp2;go_ret;exact⟨aJ.yes (Or.inr (Or.inl ⟨by simp,h.u,h2,h3⟩)),ai w _⟩
    have m:(mx==0)=false:=by simp[h3]
    rcases hk with rfl|rfl|rfl
    all_goals
     go_enter func75,ntmps75
     go_wp2;go_ret;exact⟨aJ.no (by rintro(⟨q1,q2,q3,q4⟩|⟨q1,q2,q3,q4⟩|⟨q1,q2,q3,q4,q5⟩)<;>simp only at * <;> omega),ai w _⟩
   have n:(mn==0)=false:=by simp[h2]
   rcases hk with rfl|rfl|rfl
   all_goals
    go_enter func75,ntmps75
    go_wp2;go_ret;exact⟨aJ.no (by rintro(⟨q1,q2,q3,q4⟩|⟨q1,q2,q3,q4⟩|⟨q1,q2,q3,q4,q5⟩)<;>simp only at * <;> omega),ai w _⟩
  have f:((xs.length:Int)==0)=false:=by simp;intro e;exact b (by rw[e];rfl)
  clear h1 h4;rcases hk with rfl|rfl|rfl
  all_goals
   go_enter func75,ntmps75
   go_wp2;go_ret;exact⟨aJ.no (by rintro(⟨q1,q2,q3,q4⟩|⟨q1,q2,q3,q4⟩|⟨q1,q2,q3,q4,q5⟩)<;>simp only at * <;> omega),ai w _⟩
 have b0:(k==0)=false:=by simp;omega
 have b2:(k==2)=false:=by simp;omega
 have b3:(k==3)=false:=by simp;omega
 go_enter func75,ntmps75
 go_wp2;go_ret;exact⟨aJ.no (by rintro(⟨q1,q2,q3,q4⟩|⟨q1,q2,q3,q4⟩|⟨q1,q2,q3,q4,q5⟩)<;>simp only at * <;> omega),ai w _⟩
theorem Tryz.laidOutN:laidOutB prog=true:=by kernel_rfl
theorem gu{n:Nat}(h:n<18446744073709551616):(Lit.int .u64 (n:Int)).wf=true:=WalkArith.wf_u64 (by omega)
def gU(kt:TypeId)(v:Value):Prop:=∃ kl,keyOf prog kt v=some kl
def bj(kt:TypeId)(w:World)(b:Nat)(ks:List Value):Prop:=
 ∃ es clock,w.heap[b]?=some (.map es clock)/\WideElems.Fit prog kt (plainElem (H:=Unit) prog 3) es clock/\es.size=ks.length/\(∀ i v,ks[i]?=some v->∃ e∈es.toList,e.key=v/\e.val=.int .i64 (i:Nat))/\∀ e∈es.toList,∃ i:Nat,ks[i]?=some e.key/\e.val=.int .i64 i
section
variable {kt mt:TypeId} {w w':World} {b:Nat} {ks:List Value}
theorem bj.lt(h:bj kt w b ks):b<w.heap.size:=by
 obtain⟨es,clock,hb,-⟩:=h;exact(Array.getElem?_eq_some_iff.1 hb).1
theorem bj.keep(h:bj kt w b ks)(e:w'.heap[b]?=w.heap[b]?):bj kt w' b ks:=by
 obtain⟨es,clock,hb,h2⟩:=h;exact⟨es,clock,e.trans hb,h2⟩
theorem ko(kt:TypeId)(w:World):bj kt (w.alloc (.map #[] 0)) w.heap.size []:=
 ⟨#[],0,(MapKept.heap_alloc w _).1,⟨by simp,MapKept.stamped_empty 0,by simp⟩,rfl,by simp,by simp⟩
theorem bj.len(h:bj kt w b ks){et:TypeId}(ht:prog.underlying mt=some (.map kt et))(ty:TypeId):(Builtin.len_ #[mt] ty #[.map (some b)]).run prog w=.ok (.int .i64 (ks.length:Nat)) w:=by
 obtain⟨es,clock,hb,-,hs,-⟩:=h;rw[<-hs];simp[Builtin.len_,run_underlying ht,MapKept.run_getObj_map hb,goInt]
theorem bj.look(h:bj kt w b ks)(K:Maps.Keyed prog kt)(ht:prog.underlying mt=some (.map kt 3)){v:Value}(hv:gU kt v) :
  (∃ i:Nat,ks[i]?=some v/\(Instr.lookup mt (.map (some b)) v true).run prog w=.ok (.tuple #[.int .i64 i,.bool true]) w)∨(v ∉ ks/\(Instr.lookup mt (.map (some b)) v true).run prog w=.ok (.tuple #[.int .i64 0,.bool false]) w):=by
 obtain⟨es,clock,hb,F,hs,h1,h2⟩:=h;obtain⟨kl,c⟩:=hv;have hz:(zeroValue 3).run prog w=.ok (.int .i64 0) w:=by kernel_rfl
 rcases Maps.fit_look true K ht hz hb F c with ⟨a,d,-⟩|⟨e0,y,hm,hk,a,-⟩
 ·right
  refine⟨fun hm=>?_,a⟩;obtain⟨i,hi⟩:=List.getElem?_of_mem hm;obtain⟨e,he,f,-⟩:=h1 i v hi;exact d e he f
 left
 obtain⟨i,hi,hval⟩:=h2 e0 hm;rw[hk]at hi;rw[hval]at a;exact⟨i,hi,a⟩
theorem bj.put(h:bj kt w b ks)(K:Maps.Keyed prog kt)(ht:prog.underlying mt=some (.map kt 3))(hn:ks.length<100000){v:Value}(hv:gU kt v)(hnew:v ∉ ks) :
  ∃ w',(Instr.mapUpdate mt (.map (some b)) v (.int .i64 (ks.length:Nat))).run prog w=.ok () w'/\bj kt w' b (ks++[v])/\ce b w w':=by
 obtain⟨es,clock,hb,F,hs,h1,h2⟩:=h;obtain⟨kl,a⟩:=hv;have hval:plainElem (H:=Unit) prog 3 (.int .i64 (ks.length:Nat))=some (.lit (.int .i64 (ks.length:Nat)),[]):=plainElem_int underlying3 (WalkArith.wf_i64 (by omega));rcases K.find w a es.toList F.keys with ⟨h3,h4⟩|⟨j,e0,-,h5,h6⟩
 ·have c:(Instr.mapUpdate mt (.map (some b)) v (.int .i64 (ks.length:Nat))).run prog w=.ok () (ChangeMaps.setBlock w b (.map (es.push ⟨v,.int .i64 (ks.length:Nat),clock⟩) (clock+1))):=by
   simp[Instr.mapUpdate,run_underlying ht,MapKept.run_getObj_map hb,K.check w false a,h3,MapKept.run_setObj_map _ hb,Result.andThen,ChangeMaps.setBlock]
  refine⟨_,c,⟨es.push ⟨v,.int .i64 (ks.length:Nat),clock⟩,clock+1,ChangeMaps.heap_setBlock_same hb _,⟨by rw[Array.size_push,hs];unfold maxLen;omega,MapKept.stamped_push F.stamped h4,fun x hx=>?_⟩,by rw[Array.size_push,hs];simp,fun i u hi=>?_,fun e he=>?_⟩,⟨rfl,rfl,rfl,by simp[ChangeMaps.setBlock],fun k hk=>ChangeMaps.heap_setBlock_other hb _ hk⟩⟩
  ·simp only[Array.toList_push,List.mem_append,List.mem_singleton]at hx;rcases hx with hx|rfl
   ·exact F.reads x hx
   exact⟨_,WideElems.rd_mk a hval⟩
  ·by_cases e:i<ks.length
   ·rw[List.getElem?_append_left e]at hi;obtain⟨e2,he,h7⟩:=h1 i u hi;exact⟨e2,by simp[he],h7⟩
   rw[List.getElem?_append_right (by omega)]at hi;obtain⟨rfl,e3⟩ : i=ks.length/\v=u:=by
    by_cases e4:i=ks.length
    ·subst e4;simpa using hi
    rw[List.getElem?_eq_none (by simp;omega)]at hi;cases hi
   exact⟨⟨v,.int .i64 (ks.length:Nat),clock⟩,by simp,e3,rfl⟩
  simp only[Array.toList_push,List.mem_append,List.mem_singleton]at he;rcases he with he|rfl
  ·obtain⟨i,hi,d⟩:=h2 e he;have hlt:i<ks.length:=by
    apply Nat.lt_of_not_le
    intro q;rw[List.getElem?_eq_none q]at hi;cases hi
   exact⟨i,by rw[List.getElem?_append_left hlt];exact hi,d⟩
  exact⟨ks.length,by simp,rfl⟩
 obtain⟨i,hi,-⟩:=h2 e0 (List.mem_of_getElem? h5);rw[h6]at hi;exact absurd (List.mem_of_getElem? hi) hnew
end
abbrev dM (w:World) (b:Nat):Nat->Prop:=fun k=>k=b∨w.heap.size<=k
def lT(ks:List Value)(v:Value)(ks':List Value)(i:Nat)(f:Bool):Prop:=(v∈ks/\ks'=ks/\ks[i]?=some v/\f=false)∨(v ∉ ks/\ks'=ks++[v]/\i=ks.length/\f=true)
theorem fB{P:Program}{ops:Array Oper}{W:World}{Q:Act->Prop}:∀ (l:List Oper) (a:Act),wpQuiet P ops (fun w'=>w'=W) Q l a->wpStill P ops W Q l a
 | [],_,h=>h
 | o::rest,a,h=>by
  unfold wpQuiet at h;unfold wpStill
  split
  ·rename_i hw
   rw[if_pos hw]at h;obtain⟨v,h1,h2⟩:=h;have h3:=h1 W rfl;have h4:=fB rest _ h2;unfold Oper.quietAt at h3;unfold Oper.still;generalize (execOp a.eval o).run P W=r at h3 ⊢;cases r with
   | ok n w' =>
    cases n<;>simp only[Oper.quietUpon]at h3<;>simp only[Oper.stillUpon]
    case value u=>obtain⟨rfl,rfl⟩:=h3;exact⟨rfl,h4⟩
    case skip=>obtain⟨rfl,rfl⟩:=h3;exact⟨rfl,h4⟩
    case enter f args=>exact⟨h3.1,v,h3.2,h4⟩
   | halt x w'=>simp only[Oper.quietUpon]at h3
  rename_i hw
  rw[if_neg hw]at h;exact fB rest _ h
theorem aX{P:Program}{id:Nat}{Q:Exit->Act->World->Prop}{a:Act}{w:World}{l:List Oper}(n:Nat)(hm:P.follows .mixedOrders=true)(hB:Region.lexTailB .any l.toArray n=true)
  (h:wpQuiet P l.toArray (fun w'=>w'=w.drew) (fun a'=>wpList P l.toArray Q (l.drop n) a' w.drew) (l.take n) a):(Code.region id l.toArray true).wp P Q a w:=
 wp_region_still_tail n hm hB (fB _ _ h)
def eF(set:List Int)(b:Int):Prop:=∃ i:Nat,2*i+1<set.length/\set[2*i]?.getD 0<=b/\b<=set[2*i+1]?.getD 0
theorem xf(v:Value)(set:List Int)(b:Int)(w:World)(hv:aK mI 0 0 w.heap.size w v set)(hl:set.length<=1048576) :
  Calls prog 71 #[v,.int .i64 b] w fun e w'=>aJ e (eF set b)/\w'=w:=by
 obtain⟨a,cap,rfl,-,hc⟩:=hv
 go_enter func71,ntmps71
 go_wp2_with fail
 go_loop [5] (fun iv=>∃ k:Nat,2*k<=set.length+1/\iv=.int .i64 ((2*k:Nat):Int)/\∀ j:Nat,j<k->¬ (set[2*j]?.getD 0<=b/\b<=set[2*j+1]?.getD 0)) (fun iv=>set.length+2-(intOf iv).toNat)
 case atStart=>exact⟨0,Nat.zero_le _,rfl,fun j hj=>absurd hj (Nat.not_lt_zero _)⟩
 obtain⟨k,hk,rfl,n⟩:=hrel;have l:=ae n;clear n
 by_cases hlt:2*k+1<set.length
 ·have p:((2*k:Nat):Int)+1<(set.length:Int):=by omega
  have r:((2*k:Nat):Int)<(set.length:Int):=by omega
  have s:(0:Int)<=((2*k:Nat):Int)+1:=by omega
  obtain⟨g,off,rfl,-,-,c⟩:=hc (by omega);have hx:w.cell? ⟨g,off+2*k,none⟩=some (.int .i64 (set[2*k]?.getD 0)):=c _ (by omega);have hy:w.cell? ⟨g,off+(2*k+1),none⟩=some (.int .i64 (set[2*k+1]?.getD 0)):=c _ (by omega);have d:Hi (set[2*k]?.getD 0<=b->b<=set[2*k+1]?.getD 0->eF set b):=fun q1 q2=>⟨k,hlt,q1,q2⟩
  have f:Hi (¬ (set[2*k]?.getD 0<=b/\b<=set[2*k+1]?.getD 0)->∀ j:Nat,j<k+1->¬ (set[2*j]?.getD 0<=b/\b<=set[2*j+1]?.getD 0)):=fun h j hj=>by
   by_cases e:j=k
   ·subst e;exact h
   exact l.u j (by omega)
  clear c hc l;generalize set[2*k]?.getD 0=x at *;generalize set[2*k+1]?.getD 0=y at *;have o:2*(k+1)<=set.length+1:=by omega
  have t:set.length+2-2*(k+1)<set.length+2-2*k:=by omega
  have ek:((2*(k+1):Nat):Int)=((2*k:Nat):Int)+2:=by omega
  have EK:=ae ek;have q:2*k<=1048576:=by omega
  clear ek hlt hk;generalize hm:2*k=m at *;have HM:=ae hm;clear hm
  by_cases g1:x<=b
  ·by_cases g2:b<=y
   ·have HQ:=ae (d.u g1 g2);clear d f;go_wp2;go_ret;exact⟨aJ.yes HQ.u,rfl⟩
   have HQ:=ae (f.u (fun h=>g2 h.2));clear d f;go_wp2
   go_round
   case rel=>exact⟨k+1,o,by rw[EK.u],HQ.u⟩
   simp[intOf];omega
  have HQ:=ae (f.u (fun h=>g1 h.1));clear d f;go_wp2
  go_round
  case rel=>exact⟨k+1,o,by rw[EK.u],HQ.u⟩
  simp[intOf];omega
 have p:¬ ((2*k:Nat):Int)+1<(set.length:Int):=by omega
 have q:2*k<=1048577:=by omega
 have HQ:Hi (¬ eF set b):=fun ⟨i,hi,h2⟩=>l.u i (by omega) h2
 generalize hm:2*k=m at *;clear hm;go_wp2;go_ret;exact⟨aJ.no HQ.u,rfl⟩
theorem Tryz.lawI:Maps.Keyed prog 3:=Maps.int_keyed underlying3
theorem Tryz.lawII:Maps.Keyed prog 162:=Maps.Keyed.of_law (deep_law_laid Tryz.laidOutN (m:=2) (by omega) (of_decide_eq_true (by kernel_rfl)) (by kernel_rfl) (by rw[underlying162]))
theorem FN{n:Int}(h0 : -9223372036854775808<=n)(h1:n<=9223372036854775807):(Lit.int .i64 n).wf=true:=WalkArith.wf_i64 (by omega)
theorem Cy{n:Int}(h0 : -9223372036854775808<=n)(h1:n<=9223372036854775807):gU 3 (.int .i64 n):=by
 unfold gU keyOf;simp only[underlying3];exact⟨_,by simp[mapKey,underlying3,FN h0 h1];rfl⟩
theorem sN(w:World):Calls prog 95 #[] w fun e w'=>e=.returned (.agg #[.map (some (w.heap.size+1))])/\bj 3 w' (w.heap.size+1) []/\w'.heap.size=w.heap.size+2/\Below w.heap.size w w':=by
 have a:=@run_makeMap prog;have hN:=ko 3 (w.alloc (.cells #[.map (some (w.heap.size+1))] 166));rw[ah]at hN;have hB:=aI w (.cells #[.map (some (w.heap.size+1))] 166) (.map #[] 0);have HN:=ae hN;have HB:=ae hB;clear hN hB
 go_enter func95,ntmps95
 go_wp2;refine bodyPost_ret (v:=.agg #[.map (some (w.heap.size+1))]) (by simp[results,results95,go_sem]) rfl ?_;refine⟨rfl,HN.u,by rw[ah,ah],HB.u⟩
theorem uQ(b:Nat)(x:Int)(ks:List Value)(w:World)(h:bj 3 w b ks)(h0 : -9223372036854775808<=x)(h1:x<=9223372036854775807)(hn:ks.length<100000) :
  Calls prog 96 #[.agg #[.map (some b)],.int .i64 x] w fun e w'=>∃ i ks' f,e=.returned (.tuple #[.int .i64 (i:Nat),.bool f])/\lT ks (.int .i64 x) ks' i f/\bj 3 w' b ks'/\aT (dM w b) w w':=by
 have hB:=ai w (.cells #[.map (some b)] 166);have hlt:=h.lt;have hW:=h.keep (hB.block b hlt);have c:Hi (aT (dM w b) w (w.alloc (.cells #[.map (some b)] 166))):=bC hB (fun k hk=>Or.inr hk);rcases hW.look Tryz.lawI underlying164 (Cy h0 h1) with ⟨i,hi,hl⟩|⟨a,hl⟩
 ·have HW:=ae hW;have HI:=ae hi;clear hW hi h hB
  go_enter func96,ntmps96
  go_wp2
  go_ret2;exact⟨i,ks,false,rfl,Or.inl ⟨List.mem_of_getElem? HI.u,rfl,HI.u,rfl⟩,HW.u,c.u⟩
 have o:=fun ty=>hW.len underlying164 ty
 obtain⟨w3,n,d,g⟩:=hW.put Tryz.lawI underlying164 hn (Cy h0 h1) a;have j:=ae d;have l:=ae (c.u.trans (g.fro (Or.inl rfl)));have m:=ae a;clear hW a h hB d g
 go_enter func96,ntmps96
 go_wp2
 go_ret2;exact⟨ks.length,ks++[.int .i64 x],true,rfl,Or.inr ⟨m.u,rfl,rfl,rfl⟩,j.u,l.u⟩
def FC(x:Int):Prop:=-9223372036854775808<=x/\x<=9223372036854775807
def ii(x y:Int):Value:=.agg #[.int .i64 x,.int .i64 y]
theorem yP{x y:Int}(hx:FC x)(hy:FC y):gU 162 (ii x y):=by
 have c1:prog.cellsOf 162=2:=by kernel_rfl
 have c2:prog.cellsOf 3=1:=by kernel_rfl
 have hk:prog.keyType 162=true:=by kernel_rfl
 obtain⟨m,hm⟩ : ∃ m,prog.types.size=m+1:=⟨prog.types.size-1,by have:0<prog.types.size:=of_decide_eq_true (by kernel_rfl);omega⟩;unfold gU keyOf;simp only[underlying162];rw[if_pos (by simp[hk,Value.formed,underlying162,c1,ii]),hm];unfold Program.keyLits;simp only[underlying162,Value.cells,ii];rw[if_pos (by rw[c1];rfl)];simp[List.range_succ,Program.keyLits,underlying3,c2,FN hx.1 hx.2,FN hy.1 hy.2]
theorem wz(w:World):Calls prog 90 #[] w fun e w'=>e=.returned (.agg #[.map (some (w.heap.size+1))])/\bj 162 w' (w.heap.size+1) []/\w'.heap.size=w.heap.size+2/\Below w.heap.size w w':=by
 have a:=@run_makeMap prog;have hN:=ko 162 (w.alloc (.cells #[.map (some (w.heap.size+1))] 160));rw[ah]at hN;have hB:=aI w (.cells #[.map (some (w.heap.size+1))] 160) (.map #[] 0);have HN:=ae hN;have HB:=ae hB;clear hN hB
 go_enter func90,ntmps90
 go_wp2;refine bodyPost_ret (v:=.agg #[.map (some (w.heap.size+1))]) (by simp[results,results90,go_sem]) rfl ?_;refine⟨rfl,HN.u,by rw[ah,ah],HB.u⟩
theorem zx(b:Nat)(x y:Int)(ks:List Value)(w:World)(h:bj 162 w b ks)(hx:FC x)(hy:FC y)(hn:ks.length<100000) :
  Calls prog 92 #[.agg #[.map (some b)],ii x y] w fun e w'=>∃ i ks' f,e=.returned (.tuple #[.int .i64 (i:Nat),.bool f])/\lT ks (ii x y) ks' i f/\bj 162 w' b ks'/\aT (dM w b) w w':=by
 have hB:=aI w (.cells #[.map (some b)] 160) (.cells #[.int .i64 x,.int .i64 y] 162);have hlt:=h.lt;have hW:=h.keep (hB.block b hlt);have hz:((w.alloc (.cells #[.map (some b)] 160)).alloc (.cells #[.int .i64 x,.int .i64 y] 162)).heap.size=w.heap.size+2:=by rw[ah,ah]
 have c:Hi (aT (dM w b) w ((w.alloc (.cells #[.map (some b)] 160)).alloc (.cells #[.int .i64 x,.int .i64 y] 162))):=bC hB (fun k hk=>Or.inr hk);rcases hW.look Tryz.lawII underlying158 (yP hx hy) with ⟨i,hi,hl⟩|⟨a,hl⟩
 ·have HW:=ae hW;have HI:=ae hi;clear hW hi h hB;unfold ii at hl ⊢
  go_enter func92,ntmps92
  go_wp2
  go_ret2;exact⟨i,ks,false,rfl,Or.inl ⟨List.mem_of_getElem? HI.u,rfl,HI.u,rfl⟩,HW.u,c.u⟩
 have o:=fun ty=>hW.len underlying158 ty
 obtain⟨w3,d,g,j⟩:=hW.put Tryz.lawII underlying158 hn (yP hx hy) a;have l:=ae g;have m:=ae (c.u.trans (j.fro (Or.inl rfl)));have n:=ae a;clear hW a h hB g j;unfold ii at hl d ⊢
 go_enter func92,ntmps92
 go_wp2
 go_ret2;exact⟨ks.length,ks++[ii x y],true,rfl,Or.inr ⟨n.u,rfl,rfl,rfl⟩,l.u,m.u⟩
theorem rL(b:Nat)(ks:List Value)(w:World)(h:bj 162 w b ks) :
  Calls prog 93 #[.agg #[.map (some b)]] w fun e w'=>e=.returned (.int .i64 (ks.length:Nat))/\Below w.heap.size w w':=by
 have hB:=ai w (.cells #[.map (some b)] 160);have hW:=h.keep (hB.block b h.lt);have a:=fun ty=>hW.len underlying158 ty
 have HB:=ae hB;clear hW h hB
 go_enter func93,ntmps93
 go_wp2;go_ret;exact⟨rfl,HB.u⟩
theorem aK.under{α:Type}{mk:α->Value}{d:α}{lo n m:Nat}{w w':World}{v:Value}{xs:List α}(h:aK mk d lo n w v xs)(hb:Below m w w')(hm:n<=m):aK mk d lo n w' v xs:=h.same (dm.of_below hb hm)
def gV(D:Nat)(w w':World):Prop:=jd (fun k=>k=D) w w'
theorem gV.refl(D:Nat)(w:World):gV D w w:=jd.refl _ _
theorem gV.below{D m:Nat}{w w':World}(h:gV D w w')(hm:m<=D):Below m w w':=jd.below h (fun k hk=>by omega)
def jj(w:World)(b:Nat)(t:TypeId)(c0 c1:Value):Prop:=w.rowIs b t 2 (fun j=>[c0,c1].getD j undef)
theorem jj.new(w:World)(t:TypeId)(c0 c1:Value):jj (w.alloc (.cells #[c0,c1] t)) w.heap.size t c0 c1:=
 World.rowIs_alloc w #[c0,c1] t _ (fun i hi=>by
  match i,hi with
  | 0,_=>rfl
  | 1,_=>rfl)
theorem jj.below{w w':World}{b m:Nat}{t:TypeId}{c0 c1:Value}(h:jj w b t c0 c1)(hb:Below m w w')(hm:b<m):jj w' b t c0 c1:=World.rowIs.of_block h (hb.block b hm)
theorem jj.put0{w:World}{b:Nat}{t:TypeId}{c0 c1 u:Value}(h:jj w b t c0 c1):jj (w.setCell ⟨b,0,none⟩ u) b t u c1:=(World.rowIs.set h 0 u).congr (fun i hi=>by
  match i,hi with
  | 0,_=>rfl
  | 1,_=>rfl)
theorem jj.put1{w:World}{b:Nat}{t:TypeId}{c0 c1 u:Value}(h:jj w b t c0 c1):jj (w.setCell ⟨b,1,none⟩ u) b t c0 u:=(World.rowIs.set h 1 u).congr (fun i hi=>by
  match i,hi with
  | 0,_=>rfl
  | 1,_=>rfl)
theorem jj.facts{w:World}{b:Nat}{t:TypeId}{c0 c1:Value}(h:jj w b t c0 c1):w.cell? ⟨b,0,none⟩=some c0/\w.cell? ⟨b,1,none⟩=some c1/\w.frozen? ⟨b,1,none⟩=false:=by
 refine⟨h.cell (by omega),h.cell (by omega),?_⟩;obtain⟨c,hc,-⟩:=h;simp[World.frozen?,hc]
structure Mv (lo D:Nat) (w w':World):Prop where
 os:w'.os=w.os
 tape:w'.tape=w.tape
 output:w'.output=w.output
 size:w.heap.size<=w'.heap.size
 block:∀ k,k<lo->k≠D->w'.heap[k]?=w.heap[k]?
theorem Mv.trans{lo D:Nat}{a b c:World}(h:Mv lo D a b)(k:Mv lo D b c):Mv lo D a c:=⟨k.os.trans h.os,k.tape.trans h.tape,k.output.trans h.output,Nat.le_trans h.size k.size,fun i h1 h2=>(k.block i h1 h2).trans (h.block i h1 h2)⟩
theorem gV.mv{D:Nat}{w w':World}(h:gV D w w')(lo:Nat):Mv lo D w w':=⟨h.os,h.tape,h.output,Nat.le_of_eq h.size.symm,fun k _ hk=>h.block k hk⟩
theorem Below.mv{lo:Nat}{w w':World}(h:Below lo w w')(D:Nat):Mv lo D w w':=⟨h.os,h.tape,h.output,h.size,fun k hk _=>h.block k hk⟩
theorem Mv.mono{lo lo' D:Nat}{w w':World}(h:Mv lo D w w')(hl:lo'<=lo):Mv lo' D w w':=⟨h.os,h.tape,h.output,h.size,fun k hk hd=>h.block k (by omega) hd⟩
theorem Mv.below{lo D:Nat}{w w':World}(h:Mv lo D w w')(hD:D<=lo):Below D w w':=⟨h.os,h.tape,h.output,h.size,fun k hk=>h.block k (by omega) (by omega)⟩
theorem zc{base n e size lo D:Nat}{w w':World}{v:Value}{xs:List Value}(h:w.ownsRow base e size v n xs)(hb:Mv lo D w w')(hm:w.heap.size<=lo)(hD:D<base):w'.ownsRow base e size v n xs:=by
 refine⟨h.1,?_⟩;rcases h.2 with h2|⟨g,cap,cur,h1,h2,h3,h4⟩
 ·exact Or.inl h2
 have hg:g<w.heap.size:=by
  by_cases q:g<w.heap.size
  ·exact q
  rw[Array.getElem?_eq_none (by omega)]at h3;cases h3
 exact Or.inr ⟨g,cap,cur,h1,h2,(hb.block g (by omega) (by omega)).trans h3,h4⟩
theorem DW{N j c:Nat}{a:Option Addr}{w:World}{xs:List Int}(h:aK mB 0 0 N w (.slice a xs.length c) xs)(hj:j<=xs.length)(hc:xs.length<=c)(hm:c<=maxLen):aK mB 0 0 N w (.slice a j c) (xs.take j)/\cB (.slice a j c):=by
 obtain⟨a',c',e,hl,d⟩:=h;cases e;have e1:(xs.take j).length=j:=by rw[List.length_take];omega
 refine⟨⟨a,c,by rw[e1],by omega,fun hp=>?_⟩,cB.mk (by omega) hm⟩;rw[e1]at hp;obtain⟨b,off,rfl,h1,h2,h3⟩:=d (by omega);refine⟨b,off,rfl,h1,h2,fun i hi=>?_⟩;rw[e1]at hi;rw[h3 i (by omega),List.getElem?_take,if_pos hi]
def bR(N D:Nat)(w:World)(xs:List Int):Prop:=N<=D/\∃ (v:Value) (cs:List Int) (i:Nat),jj w D 67 v (.int .i64 i)/\aK mB 0 0 N w v cs/\i<=cs.length/\cs.length<=600/\cs.drop i=xs
theorem bR.keep{N D m:Nat}{w w':World}{xs:List Int}(h:bR N D w xs)(hb:Below m w w')(hm:D<m):bR N D w' xs:=by
 obtain⟨hN,v,cs,i,h1,h2,h3⟩:=h;exact⟨hN,v,cs,i,h1.below hb hm,h2.under hb (by omega),h3⟩
theorem oN{D:Nat}{w:World}{v:Value}:gV D w (w.setCell ⟨D,1,none⟩ v):=jd.put (S:=fun k=>k=D) (jd.refl _ _) rfl v
theorem nD{D:Nat}{w w':World}(h:gV D w w')(q:Nat):gV D w (w'.drewN q):=⟨h.os,h.tape,h.output,h.size,h.block⟩
theorem aE(N D:Nat)(xs:List Int)(w:World)(h:bR N D w xs)(hb:∀ x∈xs,0<=x/\x<=255) :
  Calls prog 12 #[.pointer (some ⟨D,0,none⟩)] w fun e w'=>e=.returned (.int .i64 (xs.headD 0))/\bR N D w' xs.tail/\gV D w w':=by
 obtain⟨hN,v,cs,i,hr,hs,hi,hl,rfl⟩:=h;have HR:=ae hr;have HS:=ae hs;obtain⟨f0,f1,z1⟩:=hr.facts;obtain⟨a,c,rfl,-,hc⟩:=hs;clear hr
 by_cases hlt:i<cs.length
 ·have f:¬ (cs.length:Int)<=(i:Int):=by omega
  have g:(i:Int)<(cs.length:Int):=by omega
  obtain⟨b,off,rfl,-,-,d⟩:=hc (by omega);have hx:=d i hlt;unfold mB at hx;have hy:=hb (cs[i]?.getD 0) (by rw[List.drop_eq_getElem_cons hlt,List.getElem?_eq_getElem hlt];exact List.mem_cons_self ..);have He:Hi ((cs.drop i).headD 0=cs[i]?.getD 0/\(cs.drop i).tail=cs.drop (i+1)):=by
   show(cs.drop i).headD 0=cs[i]?.getD 0/\(cs.drop i).tail=cs.drop (i+1);rw[List.drop_eq_getElem_cons hlt,List.getElem?_eq_getElem hlt];exact⟨rfl,rfl⟩
  rw[He.u.1,He.u.2];clear d hc hb He;generalize cs[i]?.getD 0=y at *
  go_enter func12,ntmps12
  go_wp2_with fail
  go_quiet (fail)
  go_wp2_with fail
  go_quiet (fail);go_wp2;go_ret;refine⟨rfl,⟨hN,.slice (some ⟨b,off,none⟩) cs.length c,cs,i+1,?_,?_,by omega,hl,rfl⟩,?_⟩
  ·exact jj.put1 HR.u
  ·have h1:gV D w (w.setCell ⟨D,1,none⟩ (.int .i64 ((i:Int)+1))):=oN;exact HS.u.under (gV.below (show gV D w _ from⟨h1.os,h1.tape,h1.output,h1.size,h1.block⟩) hN) lR
  have h1:gV D w (w.setCell ⟨D,1,none⟩ (.int .i64 ((i:Int)+1))):=oN;exact⟨h1.os,h1.tape,h1.output,h1.size,h1.block⟩
 obtain rfl:i=cs.length:=by omega
 have f:(cs.length:Int)<=(cs.length:Int):=Int.le_refl _;rw[List.drop_length];clear hc hb
 go_enter func12,ntmps12
 go_wp2_with fail
 go_quiet (fail);go_wp2;go_ret;exact⟨rfl,⟨hN,_,cs,cs.length,HR.u,HS.u,Nat.le_refl _,hl,by simp⟩,nD (gV.refl _ _) _⟩
theorem nt(v:Value)(cs:List Int)(w:World)(hv:aK mB 0 0 w.heap.size w v cs)(hcap:cB v) :
  Calls prog 11 #[v] w fun e w'=>e=.returned (.pointer (some ⟨w.heap.size,0,none⟩))/\bR w.heap.size w.heap.size w' (cs.take 600)/\w'.heap.size=w.heap.size+1/\Below w.heap.size w w':=by
 have HV:=ae hv;obtain⟨a,c,rfl,-,-⟩:=hv;have b:=hcap.le;have f:=b.2;unfold maxLen at f;clear hcap;obtain⟨n,hn⟩ : ∃ n:Nat,n=min cs.length 600:=⟨_,rfl⟩;have ht:=DW (j:=n) HV.u (by omega) b.1 b.2;have e1:cs.take n=cs.take 600:=by
  by_cases h:cs.length<=600
  ·rw[List.take_of_length_le (by omega),List.take_of_length_le h]
  rw[show n=600 by omega]
 have HT:=ae ht.1;have hR:=jj.new w 67 (.slice a n c) (.int .i64 ((0:Nat):Int));have hB:=ai w (.cells #[.slice a n c,.int .i64 ((0:Nat):Int)] 67);have HF:Hi (bR w.heap.size w.heap.size (w.alloc (.cells #[.slice a n c,.int .i64 ((0:Nat):Int)] 67)) (cs.take 600)):=⟨Nat.le_refl _,_,cs.take n,0,hR,HT.u.under hB lR,Nat.zero_le _,by rw[List.length_take];omega,by rw[List.drop_zero,e1]⟩;clear ht e1 hR
 by_cases h6:600<cs.length
 ·have g:(600:Int)<(cs.length:Int):=by omega
  have d:n=600:=by omega
  clear hn;subst d
  go_enter func11,ntmps11
  go_wp2;go_ret;exact⟨rfl,HF.u,ah _ _,hB⟩
 have g:¬ (600:Int)<(cs.length:Int):=by omega
 have d:n=cs.length:=by omega
 clear hn;subst d
 go_enter func11,ntmps11
 go_wp2;go_ret;exact⟨rfl,HF.u,ah _ _,hB⟩
def dN(xs:List Int):Prop:=∀ x∈xs,0<=x/\x<=255
theorem dN.tail{xs:List Int}(h:dN xs):dN xs.tail:=fun x hx=>h x (List.mem_of_mem_tail hx)
theorem dN.head{xs:List Int}(h:dN xs):0<=xs.headD 0/\xs.headD 0<=255:=by
 cases xs with
 | nil=>simp
 | cons x r=>exact h x (List.mem_cons_self ..)
def ui:List Int:=[92,46,91,93,40,41,124,42,43,63,123,125,94,36,45,10,9,13,32,126,0,127,128,255,33]
theorem pg:∀ k,k<25->0<=ui.getD k 0/\ui.getD k 0<=255:=by decide
theorem Bo(k:Nat)(h:k<25):wrap64 (((ByteArray.mk #[92,46,91,93,40,41,124,42,43,63,123,125,94,36,45,10,9,13,32,126,0,127,128,255,33])[k]'h).toNat:Int)=ui.getD k 0:=by
 have e:(((ByteArray.mk #[92,46,91,93,40,41,124,42,43,63,123,125,94,36,45,10,9,13,32,126,0,127,128,255,33])[k]'h).toNat:Int)=ui.getD k 0:=by
  have H:∀ k:Fin 25,(((#[92,46,91,93,40,41,124,42,43,63,123,125,94,36,45,10,9,13,32,126,0,127,128,255,33]:Array UInt8)[k.1]'k.2).toNat:Int)=ui.getD k.1 0:=by decide
  exact H ⟨k,h⟩
 have hb:=pg k h;rw[e];unfold wrap64;omega
def dB(y:Int):Int:=if y<200 then 97+y%3 else if y<215 then 48+y%3 else ui.getD (y%25).toNat 0
theorem iU{y:Int}:0<=dB y/\dB y<=255:=by
 unfold dB
 split
 ·omega
 split
 ·omega
 exact pg _ (by omega)
theorem dP(N D:Nat)(xs:List Int)(w:World)(h:bR N D w xs)(hx:dN xs) :
  Calls prog 118 #[.pointer (some ⟨D,0,none⟩)] w fun e w'=>e=.returned (.int .i64 (dB (xs.headD 0)))/\bR N D w' xs.tail/\gV D w w':=by
 have H:=ae h;have HX:=ae hx;have hh:=hx.head;obtain⟨y,hy⟩ : ∃ y,xs.headD 0=y:=⟨_,rfl⟩;rw[hy]at hh ⊢;have HY:=ae hy;clear hy hx h
 by_cases h1:y<200
 ·rw[show dB y=97+y%3 from if_pos h1]
  go_enter func118,ntmps118
  go_wp2_with fail;refine(aE N D xs w H.u HX.u).mono ?_;rintro e w1 ⟨he,hc,ho⟩;rw[HY.u]at he;subst he;go_wp2;go_ret;exact⟨rfl,hc,ho⟩
 by_cases h2:y<215
 ·rw[show dB y=48+y%3 from(if_neg h1).trans (if_pos h2)]
  go_enter func118,ntmps118
  go_wp2_with fail;refine(aE N D xs w H.u HX.u).mono ?_;rintro e w1 ⟨he,hc,ho⟩;rw[HY.u]at he;subst he;go_wp2;go_ret;exact⟨rfl,hc,ho⟩
 have hk:(y%25).toNat<25:=by omega
 rw[show dB y=ui.getD (y%25).toNat 0 from(if_neg h1).trans (if_neg h2)]
 go_enter func118,ntmps118
 go_wp2_with fail;refine(aE N D xs w H.u HX.u).mono ?_;rintro e w1 ⟨he,hc,ho⟩;rw[HY.u]at he;subst he;go_wp2;rw[Bo _ hk];go_ret;exact⟨rfl,hc,ho⟩
end Go.Proofs.YtidfkbghlkcbeaaGreatDoor
