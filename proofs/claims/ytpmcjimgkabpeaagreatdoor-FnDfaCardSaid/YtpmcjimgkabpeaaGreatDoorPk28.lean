import Derived.Test.YtpmcjimgkabpeaaGreatDoorPk25
import Derived.Test.YtpmcjimgkabpeaaGreatDoorPk27
import Derived.Test.YtpmcjimgkabpeaaGreatDoorPk26
namespace Go.Proofs.YtpmcjimgkabpeaaGreatDoor
open Go.RowKit Go.Proofs.Tryz
set_option maxHeartbeats 16000000
set_option maxRecDepth 100000
def GA(bs:List Int)(u:Value)(t:List El×Int):Prop:=ft u t.2/\aM t.1 t.2/\∃ R,bp bs.length (mY bs) t.1 R/\vE bs t.1 R
theorem Dv(bs:List Int):iN (GA bs):=by
 refine⟨fun h=>h.1,?_,?_,?_,?_,?_⟩
 ·exact⟨ft.e,aM.leaf (Or.inl rfl),_,bp.e,Gj bs⟩
 ·intro xs g hc hw;exact⟨ft.s _ _ _ _,aM.leaf (Or.inr rfl),_,bp.s xs,FU bs xs (by have:=gq hc;omega)⟩
 ·rintro u v l r ⟨hu,hs,A,a1,a2⟩ ⟨hv,a,B,b1,b2⟩;exact⟨ft.cat hu hv,aM.bin hs a (Or.inl rfl),_,a1.cat b1,CP bs l.1 r.1 A B _ a a1.2 b1.2 a2 b2⟩
 ·rintro u v l r ⟨hu,hs,A,a1,a2⟩ ⟨hv,a,B,b1,b2⟩;exact⟨ft.alt hu hv,aM.bin hs a (Or.inr rfl),_,a1.alt b1,CN bs l.1 r.1 A B _ a a1.2 b1.2 a2 b2⟩
 rintro u o mn mx ⟨hu,hs,A,a1,a2⟩ o2 o3 o4;obtain⟨m,rfl⟩:=Int.eq_ofNat_of_zero_le o2;exact⟨ft.rep hu o2 o3 o4,aM.rep hs rfl o2 o4,_,a1.rep _ mx,Dj bs o.1 A m mx a1.2 a2 (by have:=hs.ne;omega) (by omega) o4⟩
theorem yB(bs:List Int){xs:List El}(h:bw xs):∃ R,bp bs.length (mY bs) xs R/\vE bs xs R:=by
 obtain⟨u,c,-,-,h⟩:=jJ (Dv bs) h;exact h
def kH(n:Nat)(l r:Bool)(R:Rl):Prop:=∃ i j,(i=0∨l=false)/\R i j/\(j=n∨r=false)
def Dz(l:Bool)(k:Nat):Nat->Bool:=fun j=>decide (j<k)&&(decide (j=0) || !l)
theorem vi{n:Nat}{l:Bool}{i:Nat}(hi:i<=n):Dz l (n+1) i=true↔(i=0∨l=false):=by
 unfold Dz;simp[show i<n+1 by omega]
theorem sg(l r:Bool)(v lv:Value)(xs:List El)(bs:List Int)(R:Rl)(w:World)(hv:az 0 w.heap.size w v xs)(hlen:xs.length<=3000)(hlv:aP mB 0 0 w.heap.size w lv bs)(hbs:pp bs)(hR:RB bs.length R)(hE:vE bs xs R) :
  Calls prog 15 #[.agg #[.bool l,.bool r,v],lv] w fun e w'=>aF e (kH bs.length l r R)/\Below w.heap.size w w':=by
 obtain⟨a,cp,rfl,-,-⟩:=id hv;obtain⟨la,lc,rfl,-,-⟩:=id hlv;have hn:=hbs.1;have Hv:=ae hv;have I:=ae hlv;have J:=ae hbs;have HR:=ae hR;have HE:=ae hE;have s:=run_make_row' (P:=prog) 31 4 (.bool false) 1 underlying31 Tryz.zinBoolM rfl .i64 .i64 (bs.length+1) (by omega) (by omega);simp only[Int.natCast_add,Int.natCast_one]at s;have t:=aH w (.cells #[.bool l,.bool r,.slice a xs.length cp] 25) (.cells (madeCells #[.bool false] (bs.length+1)) 4);have h0:=fT (w.alloc (.cells #[.bool l,.bool r,.slice a xs.length cp] 25)) bs.length;rw[ah]at h0;have K:((w.alloc (.cells #[.bool l,.bool r,.slice a xs.length cp] 25)).alloc (.cells (madeCells #[.bool false] (bs.length+1)) 4)).heap.size=w.heap.size+2:=by rw[ah,ah]
 have hq:∀ k u,#[Value.bool l,.bool r,.slice a xs.length cp].toList[k]?=some u->((w.alloc (.cells #[.bool l,.bool r,.slice a xs.length cp] 25)).alloc (.cells (madeCells #[.bool false] (bs.length+1)) 4)).cell? ((⟨w.heap.size,0,none⟩ : Addr).add k)=some u:=fun k u hu =>
  ((ai _ _).cell (p:=(⟨w.heap.size,0,none⟩ : Addr).add k) (by rw[ah];cases k<;>exact Nat.lt_succ_self _)).trans ((au w _).news k u hu)
 have q0:=hq 0 _ rfl;have q1:=hq 1 _ rfl;have q2:=hq 2 _ rfl;simp only[Addr.add]at q0 q1 q2;have y:=ae q0;have z:=ae q1;have A:=ae q2;have H0:=ae h0;have B:=ae t;clear hv hlv hbs hR hE t h0 hq q0 q1 q2
 go_enter func15,ntmps15
 go_wp2_with fail
 go_loopw [7] (fun iv wr=>∃ i:Nat,i<=bs.length+1/\iv=.int .i64 i/\BR wr bs.length (w.heap.size+1) (Dz l i)/\wr.cell? ⟨w.heap.size,0,none⟩=some (.bool l)/\wr.cell? ⟨w.heap.size,1,none⟩=some (.bool r)/\wr.cell? ⟨w.heap.size,2,none⟩=some (.slice a xs.length cp)/\w.heap.size+2<=wr.heap.size/\Below w.heap.size w wr) (fun iv _=>bs.length+1-(intOf iv).toNat)
 case atStart=>exact⟨0,Nat.zero_le _,rfl,H0.u.same (fun j _=>by simp[Dz]),y.u,z.u,A.u,by omega,B.u⟩
 clear H0 y z A B s K;obtain⟨i,hi,rfl,hG,q0,q1,q2,hz,hB⟩:=hrel;have HG:=ae hG;have HB:=ae hB
 by_cases hlt:i<bs.length+1
 ·have C:(i:Int)<=(bs.length:Int):=by omega
  have g:(i:Int)<(bs.length:Int)+1:=by omega
  have d2:=World.rowIs.cell hG hlt;have f2:=World.rowIs.frozen hG i;clear hG hB;have m:∀ x:Bool,x=(decide (i=0) || !l)->∀ W:World,W=wr.setCell ⟨w.heap.size+1,i,none⟩ (.bool x)->∃ i':Nat,i'<=bs.length+1/\(Value.int .i64 ((i:Int)+1))=.int .i64 i'/\BR W bs.length (w.heap.size+1) (Dz l i')/\W.cell? ⟨w.heap.size,0,none⟩=some (.bool l)/\W.cell? ⟨w.heap.size,1,none⟩=some (.bool r)/\W.cell? ⟨w.heap.size,2,none⟩=some (.slice a xs.length cp)/\w.heap.size+2<=W.heap.size/\Below w.heap.size w W:=by
   intro x hx W hW;subst hW hx;refine⟨i+1,by omega,by simp,?_,?_,?_,?_,by rw[aJ];exact hz,aI HB.u (by omega) _⟩
   ·refine World.rowIs.congr (World.rowIs.set HG.u i _) (fun j hj=>?_)
    by_cases e:j=i
    ·subst e;simp[Dz]
    have:(j<i+1)↔(j<i):=by omega
    simp[e,this,Dz]
   ·rw[aE (Or.inl (by omega))];exact q0
   ·rw[aE (Or.inl (by omega))];exact q1
   rw[aE (Or.inl (by omega))];exact q2
  have c:=ae m;clear m
  by_cases h0:i=0
  ·subst h0;have f:=ae (c.u true (by simp));clear c;go_wp2
   go_roundw
   case rel=>exact f.u _ rfl
   simp[intOf]
  have N:((i:Int)==0)=false:=by rw[beq_eq_false_iff_ne];omega
  have f:=ae (c.u (!l) (by simp[h0]));clear c;go_wp2
  go_roundw
  case rel=>exact f.u _ rfl
  simp[intOf];omega
 have e:i=bs.length+1:=by omega
 subst e;clear hG hB;have D:=ae (HE.u (.slice a xs.length cp) (.slice la bs.length lc) (w.heap.size+1) _ wr (Hv.u.below HB.u lR) hlen (I.u.below HB.u lR) J.u HG.u)
 go_wp2_with fail;refine D.u.mono ?_;rintro e w1 ⟨g1,G1,rfl,O,E,n,o⟩;have F:Hi (Below w.heap.size w w1):=HB.u.trans (o.mono (by omega));have q1':w1.cell? ⟨w.heap.size,1,none⟩=some (.bool r):=(o.cell (p:=⟨w.heap.size,1,none⟩) (by show w.heap.size<_;omega)).trans q1;have f:=ae E;have HM:Hi (kH bs.length l r R↔∃ j,j<=bs.length/\G1 j=true/\(j=bs.length∨r=false)):=by
  constructor
  ·rintro⟨i,j,h1,h2,h3⟩;have:=HR.u _ _ h2;exact⟨j,this.2,(n j this.2).2 ⟨i,(vi (by omega)).2 h1,h2⟩,h3⟩
  rintro⟨j,h1,h2,h3⟩;obtain⟨i,h4,h5⟩:=(n j h1).1 h2;have:=HR.u _ _ h5;exact⟨i,j,(vi (by omega)).1 h4,h5,h3⟩
 have G:=HM;clear E n o q0 q1 q2 D HG HB
 go_wp2_with fail
 go_loop [9] (fun iv=>∃ j:Nat,j<=bs.length+1/\iv=.int .i64 j/\∀ k,k<j->¬ (G1 k=true/\(k=bs.length∨r=false))) (fun iv=>bs.length+1-(intOf iv).toNat)
 case atStart=>exact⟨0,Nat.zero_le _,rfl,fun k hk=>absurd hk (Nat.not_lt_zero _)⟩
 obtain⟨j,hj,rfl,H⟩:=hrel;have q:=ae H;clear H
 by_cases g:j<bs.length+1
 ·have C:(j:Int)<=(bs.length:Int):=by omega
  have L:(j:Int)<(bs.length:Int)+1:=by omega
  have d1:=World.rowIs.cell f.u g;have b:Hi (G1 j=true->(j=bs.length∨r=false)->aF (.returned (.bool true)) (kH bs.length l r R)/\Below w.heap.size w w1):=fun h1 h2=>⟨⟨true,rfl,by rw[G.u];exact⟨fun _=>⟨j,by omega,h1,h2⟩,fun _=>rfl⟩⟩,F.u⟩
  have d:Hi (¬ (G1 j=true/\(j=bs.length∨r=false))->∀ k,k<j+1->¬ (G1 k=true/\(k=bs.length∨r=false))):=fun h k hk=>by
   by_cases e:k=j
   ·subst e;exact h
   exact q.u k (by omega)
  cases hg:G1 j with
  | false =>
   rw[hg]at d1;have HX:=ae (d.u (by rw[hg];simp));clear hg b d;go_wp2
   go_round
   case rel=>exact⟨j+1,by omega,by go_num,HX.u⟩
   simp[intOf];omega
  | true =>
   rw[hg]at d1
   by_cases hjn:j=bs.length
   ·have HX:=ae (b.u hg (Or.inl hjn));subst hjn;clear hg b d;go_wp2;go_ret;exact HX.u
   have M:((j:Int)==(bs.length:Int))=false:=by rw[beq_eq_false_iff_ne];omega
   cases r with
   | false =>
    have HX:=ae (b.u hg (Or.inr rfl));clear hg b d hjn;go_wp2;go_ret;exact HX.u
   | true =>
    have HX:=ae (d.u (by rw[hg];simp[hjn]));clear hg b d hjn;go_wp2
    go_round
    case rel=>exact⟨j+1,by omega,by go_num,HX.u⟩
    simp[intOf];omega
 have HX:Hi (aF (.returned (.bool false)) (kH bs.length l r R)/\Below w.heap.size w w1):=⟨⟨false,rfl,by
  rw[G.u]
  constructor
  ·intro h;cases h
  rintro⟨k,h1,h2⟩;exact absurd h2 (q.u k (by omega))⟩,F.u⟩
 clear q;go_wp2;go_ret;exact HX.u
def eM(l r:Bool)(xs:List El)(bs:List Int):Prop:=bw xs/\bs.length<=20000/\∃ R,bp bs.length (mY bs) xs R/\kH bs.length l r R
theorem mO{l r:Bool}{xs:List El}{bs:List Int}{R:Rl}(h1:bw xs)(h2:bs.length<=20000)(h3:bp bs.length (mY bs) xs R):eM l r xs bs↔kH bs.length l r R:=
 ⟨fun ⟨_,_,_,h4,h5⟩=>bp.one h4 h3 ▸ h5,fun h=>⟨h1,h2,R,h3,h⟩⟩
theorem nu(l r:Bool)(v lv:Value)(xs:List El)(bs:List Int)(w:World)(hv:az 0 w.heap.size w v xs)(hlv:aP mB 0 0 w.heap.size w lv bs)(hb:∀ x∈bs,0<=x/\x<=255)(hl:bs.length<=1048576) :
  Calls prog 6 #[.agg #[.bool l,.bool r,v],lv] w fun e w'=>aF e (eM l r xs bs)/\Below w.heap.size w w':=by
 obtain⟨a,cp,rfl,-,-⟩:=id hv;obtain⟨la,lc,rfl,-,-⟩:=id hlv;have Hv:=ae hv;have k:=ae hlv;have Hb:=ae hb;have f:=ai w (.cells #[.bool l,.bool r,.slice a xs.length cp] 25);have m:(w.alloc (.cells #[.bool l,.bool r,.slice a xs.length cp] 25)).heap.size=w.heap.size+1:=ah _ _;have HC:Hi (∀ W,Below (w.heap.size+1) (w.alloc (.cells #[.bool l,.bool r,.slice a xs.length cp] 25)) W->W.cell? ⟨w.heap.size,0,none⟩=some (.bool l)/\W.cell? ⟨w.heap.size,1,none⟩=some (.bool r)/\W.cell? ⟨w.heap.size,2,none⟩=some (.slice a xs.length cp)):=fun W hW =>
  ⟨(hW.cell (p:=⟨w.heap.size,0,none⟩) (Nat.lt_succ_self _)).trans ((au w _).news 0 _ rfl),(hW.cell (p:=⟨w.heap.size,1,none⟩) (Nat.lt_succ_self _)).trans ((au w _).news 1 _ rfl),(hW.cell (p:=⟨w.heap.size,2,none⟩) (Nat.lt_succ_self _)).trans ((au w _).news 2 _ rfl)⟩
 clear hv hlv hb
 go_enter func6,ntmps6
 go_wp2_with fail;refine(eh l r _ xs _ (Hv.u.below f lR)).mono ?_;rintro e w1 ⟨b,g⟩;have c:Hi (Below w.heap.size w w1):=f.trans (g.mono (by omega));obtain⟨k0,k1,k2⟩:=HC.u w1 (g.mono (by omega));clear g f HC m;rcases b.cases with ⟨rfl,hok⟩|⟨rfl,d⟩
 ·by_cases hle:bs.length<=20000
  ·obtain⟨R,hR,hE⟩:=yB bs hok;have HM:=ae (mO (l:=l) (r:=r) hok hle hR);have i:=ae (sg l r (.slice a xs.length cp) (.slice la bs.length lc) xs bs R w1 (Hv.u.below c.u lR) hok.1.2 (k.u.below c.u lR) ⟨hle,Hb.u⟩ hR.2 hE);have n:(bs.length:Int)<=20000:=by omega
   have o:¬ (20000:Int)<(bs.length:Int):=by omega
   clear hok hR hE b
   go_wp2_with fail;refine i.u.mono ?_;rintro e w2 ⟨⟨x,rfl,hx⟩,j⟩;have HX:Hi (aF (.returned (.bool x)) (eM l r xs bs)/\Below w.heap.size w w2):=⟨⟨x,rfl,hx.trans HM.u.symm⟩,c.u.trans (j.mono c.u.size)⟩;clear hx j i HM;go_wp2;go_ret;exact HX.u
  have q:(20000:Int)<(bs.length:Int):=by omega
  have HX:Hi (aF (.returned (.bool false)) (eM l r xs bs)/\Below w.heap.size w w1):=⟨⟨false,rfl,⟨fun h=>(by cases h),fun h=>absurd h.2.1 hle⟩⟩,c.u⟩;clear hok b;go_wp2;go_ret;exact HX.u
 have HX:Hi (aF (.returned (.bool false)) (eM l r xs bs)/\Below w.heap.size w w1):=⟨⟨false,rfl,⟨fun h=>(by cases h),fun h=>absurd h.1 d⟩⟩,c.u⟩;clear d b;go_wp2;go_ret;exact HX.u
theorem dp{w:World}{B:Nat}{t:TypeId}{F:Nat->Value}(h:w.rowIs B t 4 F)(u0 u1 u2 u3:Value):aD ((((w.setCell ⟨B,0,none⟩ u0).setCell ⟨B,1,none⟩ u1).setCell ⟨B,2,none⟩ u2).setCell ⟨B,3,none⟩ u3) B t u0 u1 u2 u3:=
 (World.rowIs.set (World.rowIs.set (World.rowIs.set (World.rowIs.set h 0 u0) 1 u1) 2 u2) 3 u3).congr (fun j hj=>by
  match j,hj with
  | 0,_=>rfl
  | 1,_=>rfl
  | 2,_=>rfl
  | 3,_=>rfl)
theorem ei(w:World)(B:Nat)(u0 u1 u2 u3:Value):cd B w ((((w.setCell ⟨B,0,none⟩ u0).setCell ⟨B,1,none⟩ u1).setCell ⟨B,2,none⟩ u2).setCell ⟨B,3,none⟩ u3):=(((am _ _).trans (am _ _)).trans (am _ _)).trans (am _ _)
theorem dq{w:World}{B:Nat}{c0 c1 c2 c3 x:Value}(h:aD w B 33 c0 c1 c2 c3){fn:Func}{p q:Tmp}(hr:fn.results=#[.cell p 33,.tmp q])(tmps:Array Value)(hp:tmps.getD p undef=.pointer (some ⟨B,0,none⟩))(hq:tmps.getD q undef=x):(results fn tmps).run prog w=.ok (.tuple #[.agg #[c0,c1,c2,c3],x]) w:=by
 obtain⟨c,hb,hs,hc⟩:=h;have e:c=#[c0,c1,c2,c3]:=by
  apply Array.ext_getElem?
  intro i
  by_cases hi:i<4
  ·rw[hc i hi]
   match i,hi with
   | 0,_=>rfl
   | 1,_=>rfl
   | 2,_=>rfl
   | 3,_=>rfl
  rw[Array.getElem?_eq_none (by omega),Array.getElem?_eq_none (by simp;omega)]
 subst e;have a:tmps[p]?.getD undef=.pointer (some ⟨B,0,none⟩):=by simpa using hp
 have b:tmps[q]?.getD undef=x:=by simpa using hq
 have hl:=run_loadVar_row (P:=prog) w B 33 33 #[c0,c1,c2,c3] (0,0) _ hb underlying33 rfl (by kernel_rfl);simp[results,hr,a,b,asAddr,hl]
end Go.Proofs.YtpmcjimgkabpeaaGreatDoor
