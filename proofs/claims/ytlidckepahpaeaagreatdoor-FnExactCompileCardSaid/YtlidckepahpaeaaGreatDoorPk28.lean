import Derived.Test.YtlidckepahpaeaaGreatDoorPk21
import Derived.Test.YtlidckepahpaeaaGreatDoorPa11
import Derived.Test.YtlidckepahpaeaaGreatDoorPa12
import Derived.Deep.RegionHeld3
import Derived.Deep.DeepCutAuto
namespace Go.Proofs.YtlidckepahpaeaaGreatDoor
open Go.RowKit
abbrev sA17 (w:World) (A:Nat) (b:Bool) (f l:Nat→Nat):World:=(((((((((((((((((w).setCell ⟨A,2,none⟩ (.bool b)).setCell ⟨A,3,none⟩ (.int .u64 (f 0:Nat))).setCell ⟨A,4,none⟩ (.int .u64 (f 1:Nat))).setCell ⟨A,5,none⟩ (.int .u64 (f 2:Nat))).setCell ⟨A,6,none⟩ (.int .u64 (f 3:Nat))).setCell ⟨A,7,none⟩ (.int .u64 (f 4:Nat))).setCell ⟨A,8,none⟩ (.int .u64 (f 5:Nat))).setCell ⟨A,9,none⟩ (.int .u64 (f 6:Nat))).setCell ⟨A,10,none⟩ (.int .u64 (f 7:Nat))).setCell ⟨A,11,none⟩ (.int .u64 (l 0:Nat))).setCell ⟨A,12,none⟩ (.int .u64 (l 1:Nat))).setCell ⟨A,13,none⟩ (.int .u64 (l 2:Nat))).setCell ⟨A,14,none⟩ (.int .u64 (l 3:Nat))).setCell ⟨A,15,none⟩ (.int .u64 (l 4:Nat))).setCell ⟨A,16,none⟩ (.int .u64 (l 5:Nat))).setCell ⟨A,17,none⟩ (.int .u64 (l 6:Nat))).setCell ⟨A,18,none⟩ (.int .u64 (l 7:Nat))
def autF (F:Nat→Value) (b:Bool) (f l:Nat→Nat):Nat→Value:=fun k => if k<2 then F k else endF b f l (k - 2)
theorem sA17_row {w:World} {A:Nat} {F:Nat→Value} (h:w.rowIs A 103 19 F) (b:Bool) (f l:Nat→Nat):(sA17 w A b f l).rowIs A 103 19 (autF F b f l):=by
 have h2:=(((((((((((((((((h).set 2 (.bool b)).set 3 (.int .u64 (f 0:Nat))).set 4 (.int .u64 (f 1:Nat))).set 5 (.int .u64 (f 2:Nat))).set 6 (.int .u64 (f 3:Nat))).set 7 (.int .u64 (f 4:Nat))).set 8 (.int .u64 (f 5:Nat))).set 9 (.int .u64 (f 6:Nat))).set 10 (.int .u64 (f 7:Nat))).set 11 (.int .u64 (l 0:Nat))).set 12 (.int .u64 (l 1:Nat))).set 13 (.int .u64 (l 2:Nat))).set 14 (.int .u64 (l 3:Nat))).set 15 (.int .u64 (l 4:Nat))).set 16 (.int .u64 (l 5:Nat))).set 17 (.int .u64 (l 6:Nat))).set 18 (.int .u64 (l 7:Nat))
 refine h2.congr (fun k hk => ?_)
 match k,hk with
 | 0,_ => simp [autF]
 | 1,_ => simp [autF]
 | 2,_ => simp [autF,endF]
 | 3,_ => simp [autF,endF,wd]
 | 4,_ => simp [autF,endF,wd]
 | 5,_ => simp [autF,endF,wd]
 | 6,_ => simp [autF,endF,wd]
 | 7,_ => simp [autF,endF,wd]
 | 8,_ => simp [autF,endF,wd]
 | 9,_ => simp [autF,endF,wd]
 | 10,_ => simp [autF,endF,wd]
 | 11,_ => simp [autF,endF,wd]
 | 12,_ => simp [autF,endF,wd]
 | 13,_ => simp [autF,endF,wd]
 | 14,_ => simp [autF,endF,wd]
 | 15,_ => simp [autF,endF,wd]
 | 16,_ => simp [autF,endF,wd]
 | 17,_ => simp [autF,endF,wd]
 | 18,_ => simp [autF,endF,wd]
 | n+19,h => exact absurd h (by omega)
theorem sA17_ob (w:World) (A:Nat) (b:Bool) (f l:Nat→Nat):Obk A w (sA17 w A b f l):=(((((((((((((((((Obk.refl _ _).trans (obk_put _ _)).trans (obk_put _ _)).trans (obk_put _ _)).trans (obk_put _ _)).trans (obk_put _ _)).trans (obk_put _ _)).trans (obk_put _ _)).trans (obk_put _ _)).trans (obk_put _ _)).trans (obk_put _ _)).trans (obk_put _ _)).trans (obk_put _ _)).trans (obk_put _ _)).trans (obk_put _ _)).trans (obk_put _ _)).trans (obk_put _ _)).trans (obk_put _ _)
def AutAt (O:Nat→Prop) (A:Nat) (w:World) (N:Nat) (S:List (List Int)) (K:List Lk) (b:Bool) (f l:Nat→Nat):Prop :=
 AuAt O A w N S K∧∃ F,w.rowIs A 103 19 F∧∀ k,k<17→F (2+k)=endF b f l k
theorem AutAt.of {O:Nat→Prop} {A N:Nat} {w:World} {S:List (List Int)} {K:List Lk} (h:AuAt O A w N S K) (b:Bool) (f l:Nat→Nat):AutAt O A (sA17 w A b f l) N S K b f l:=by
 obtain ⟨sv,fv,gs,hs,hM,rest⟩ := h
 obtain ⟨F,hF,h0,h1⟩ := hM.box
 have hr:=sA17_row hF b f l
 have hob:=sA17_ob w A b f l
 refine ⟨⟨sv,fv,gs,hs,⟨⟨_,hr,by simp [autF,h0],by simp [autF,h1]⟩,hM.oA,own_blk hM.so (fun q hq => hob.block q (hM.sb q hq).2),own_blk hM.fo (fun q hq => hob.block q (hM.fb q hq).2),hM.sb,hM.fb,hM.sf⟩,rest⟩,_,hr,fun k hk => ?_⟩
 unfold autF
 rw [if_neg (by omega),show 2+k - 2=k by omega]
theorem aut_start (w:World):AuAt (fun k => w.heap.size≤k) w.heap.size (w.alloc (.cells #[.slice none 0 0,.slice none 0 0,.bool false,.int .u64 0,.int .u64 0,.int .u64 0,.int .u64 0,.int .u64 0,.int .u64 0,.int .u64 0,.int .u64 0,.int .u64 0,.int .u64 0,.int .u64 0,.int .u64 0,.int .u64 0,.int .u64 0,.int .u64 0,.int .u64 0] 103)) 0 [] []:=by
 refine ⟨.slice none 0 0,.slice none 0 0,fun _ => z8,fun _ => z8,⟨⟨fun k => (#[.slice none 0 0,.slice none 0 0,.bool false,.int .u64 0,.int .u64 0,.int .u64 0,.int .u64 0,.int .u64 0,.int .u64 0,.int .u64 0,.int .u64 0,.int .u64 0,.int .u64 0,.int .u64 0,.int .u64 0,.int .u64 0,.int .u64 0,.int .u64 0,.int .u64 0]:Array Value)[k]?.getD undef,?_,rfl,rfl⟩,Nat.le_refl _,World.ownsRow_nil _ _ _ _,World.ownsRow_nil _ _ _ _,fun q hq => (by cases hq),fun q hq => (by cases hq),fun q hq => (by cases hq)⟩,rfl,fun i hi => absurd hi (Nat.not_lt_zero _),fun _ => z8_fit,fun i j => by simp [Bt,z8,mkd],fun _ _ => rfl⟩
 refine World.rowIs_alloc w #[.slice none 0 0,.slice none 0 0,.bool false,.int .u64 0,.int .u64 0,.int .u64 0,.int .u64 0,.int .u64 0,.int .u64 0,.int .u64 0,.int .u64 0,.int .u64 0,.int .u64 0,.int .u64 0,.int .u64 0,.int .u64 0,.int .u64 0,.int .u64 0,.int .u64 0] 103 _ ?_
 intro i hi
 simp [Array.getElem?_eq_getElem hi]
theorem AuM.cells {O:Nat→Prop} {A:Nat} {w:World} {sv fv:Value} {n m:Nat} {gs hs:Nat→Nat→Nat} (h:AuM O A w sv fv n m gs hs):∃ F,w.rowIs A 103 19 F:=by
 obtain ⟨F,hF,-⟩ := h.box
 exact ⟨F,hF⟩
set_option maxHeartbeats 8000000 in
set_option maxRecDepth 100000 in
theorem automatonOf_any {U:Value} {n:Nat} {a:It} {ln:List Lk} {ss:List (List Int)} (hu:AddV U n a ln ss) (hn:n≤512) (w:World) (htz:TZ w) (hlt:Tryz.laysTZ_ren.g 1<w.heap.size) :
  Calls Tryz.prog 20 #[U] w fun e w' => ∃ f l,e = .returned (.pointer (some ⟨w.heap.size,0,none⟩))∧AutAt (fun k => w.heap.size≤k) w.heap.size w' n ss ln a.nl f l∧BitsOf f a.fi∧BitsOf l a.la∧Below w.heap.size w w':=by
 obtain ⟨⟨T,x,rfl⟩,hu⟩ := hu
 have hb1:=below1 w (.cells #[.slice none 0 0,.slice none 0 0,.bool false,.int .u64 0,.int .u64 0,.int .u64 0,.int .u64 0,.int .u64 0,.int .u64 0,.int .u64 0,.int .u64 0,.int .u64 0,.int .u64 0,.int .u64 0,.int .u64 0,.int .u64 0,.int .u64 0,.int .u64 0,.int .u64 0] 103)
 have hz:(w.alloc (.cells #[.slice none 0 0,.slice none 0 0,.bool false,.int .u64 0,.int .u64 0,.int .u64 0,.int .u64 0,.int .u64 0,.int .u64 0,.int .u64 0,.int .u64 0,.int .u64 0,.int .u64 0,.int .u64 0,.int .u64 0,.int .u64 0,.int .u64 0,.int .u64 0,.int .u64 0] 103)).heap.size=w.heap.size+1:=sz_alloc _ _
 have hA:=hu (fun k => w.heap.size≤k) w.heap.size _ 0 [] [] (aut_start w) (fun k hk => by omega) ⟨htz.below hb1 hlt,by omega,by omega⟩ (by omega)
 have HA:=hide hA
 have HB:=hide hb1
 clear hu hA hb1 hz htz
 go_enter Tryz.func20,Tryz.ntmps20
 go_wp2_with fail
 refine (unhide HA).mono ?_
 rintro e w2 ⟨f,l,rfl,hf,hl,ha,hfr⟩
 have hAUT:=hide (AutAt.of ha a.nl f l)
 obtain ⟨sv,fv,gs,hs,hM,-⟩ := ha
 obtain ⟨F,hF⟩ := hM.cells
 have q2:=hF.cell (i:=2) (by omega)
 have y2:=hF.frozen 2
 have q3:=hF.cell (i:=3) (by omega)
 have y3:=hF.frozen 3
 have q4:=hF.cell (i:=4) (by omega)
 have y4:=hF.frozen 4
 have q5:=hF.cell (i:=5) (by omega)
 have y5:=hF.frozen 5
 have q6:=hF.cell (i:=6) (by omega)
 have y6:=hF.frozen 6
 have q7:=hF.cell (i:=7) (by omega)
 have y7:=hF.frozen 7
 have q8:=hF.cell (i:=8) (by omega)
 have y8:=hF.frozen 8
 have q9:=hF.cell (i:=9) (by omega)
 have y9:=hF.frozen 9
 have q10:=hF.cell (i:=10) (by omega)
 have y10:=hF.frozen 10
 have q11:=hF.cell (i:=11) (by omega)
 have y11:=hF.frozen 11
 have q12:=hF.cell (i:=12) (by omega)
 have y12:=hF.frozen 12
 have q13:=hF.cell (i:=13) (by omega)
 have y13:=hF.frozen 13
 have q14:=hF.cell (i:=14) (by omega)
 have y14:=hF.frozen 14
 have q15:=hF.cell (i:=15) (by omega)
 have y15:=hF.frozen 15
 have q16:=hF.cell (i:=16) (by omega)
 have y16:=hF.frozen 16
 have q17:=hF.cell (i:=17) (by omega)
 have y17:=hF.frozen 17
 have q18:=hF.cell (i:=18) (by omega)
 have y18:=hF.frozen 18
 have HFi:=hide hf
 have HLa:=hide hl
 have HFr:=hide (hfr.below (m:=w.heap.size) (fun k hk e => by omega))
 clear hF hM hf hl hfr HA
 unfold endV
 go_wp2
 go_ret
 refine ⟨f,l,rfl,?_,?_,?_,?_⟩
 ·have:=unhide hAUT
  simp only [Nat.zero_add,List.nil_append] at this
  have e:shL 0 ln=ln:=by unfold shL; simp
  rw [e] at this
  exact this
 ·have:=unhide HFi; simpa [It.sh] using this
 ·have:=unhide HLa; simpa [It.sh] using this
 ·exact ((unhide HB).trans (unhide HFr)).trans ((sA17_ob _ _ _ _ _).below (Nat.le_refl _))
set_option maxHeartbeats 4000000 in
set_option maxRecDepth 100000 in
theorem eqPs (a0 a1 a2 a3 a4 a5 a6 a7 c0 c1 c2 c3 c4 c5 c6 c7:Int) (w:World):(Op.equalIn 10000 99 (.agg #[.int .u64 a0,.int .u64 a1,.int .u64 a2,.int .u64 a3,.int .u64 a4,.int .u64 a5,.int .u64 a6,.int .u64 a7]) (.agg #[.int .u64 c0,.int .u64 c1,.int .u64 c2,.int .u64 c3,.int .u64 c4,.int .u64 c5,.int .u64 c6,.int .u64 c7])).run Tryz.prog w = .ok (a0 == c0 && (a1 == c1 && (a2 == c2 && (a3 == c3 && (a4 == c4 && (a5 == c5 && (a6 == c6 && a7 == c7))))))) w:=by
 have u3:=Tryz.underlying83
 have a3':=Tryz.isAgg83
 have z3:=Tryz.sizeOf83
 rw [show (10000:Nat)=9999+1 from rfl,Op.equalIn]
 simp only [Sem.run_bind,run_underlying Tryz.underlying99,Result.andThen_ok]
 simp only [Std.Legacy.Range.forIn_eq_forIn_range',Std.Legacy.Range.size,Nat.sub_zero,Nat.add_sub_cancel,Nat.div_one,List.range'_succ,List.range'_zero,List.forIn_cons,List.forIn_nil]
 go_simp
 by_cases h0:a0=c0
 ·by_cases h1:a1=c1
  ·by_cases h2:a2=c2
   ·by_cases h3:a3=c3
    ·by_cases h4:a4=c4
     ·by_cases h5:a5=c5
      ·by_cases h6:a6=c6
       ·by_cases h7:a7=c7 <;> simp [h0,h1,h2,h3,h4,h5,h6,h7]
       ·simp [h0,h1,h2,h3,h4,h5,h6]
      ·simp [h0,h1,h2,h3,h4,h5]
     ·simp [h0,h1,h2,h3,h4]
    ·simp [h0,h1,h2,h3]
   ·simp [h0,h1,h2]
  ·simp [h0,h1]
 ·simp [h0]
def WkBox (w:World) (B A:Nat) (cv hv:Value):Prop:=w.heap[B]? = some (.cells #[.pointer (some ⟨A,0,none⟩),cv,hv] 54 (0,0))
theorem WkBox.cells {w:World} {B A:Nat} {cv hv:Value} (h:WkBox w B A cv hv):w.cell? ⟨B,0,none⟩ = some (.pointer (some ⟨A,0,none⟩))∧w.cell? ⟨B,1,none⟩ = some cv∧w.cell? ⟨B,2,none⟩ = some hv :=
 ⟨World.news_of_block h 0 _ rfl,World.news_of_block h 1 _ rfl,World.news_of_block h 2 _ rfl⟩
theorem WkBox.keep {w w':World} {B A:Nat} {cv hv:Value} (h:WkBox w B A cv hv) (e:w'.heap[B]? = w.heap[B]?):WkBox w' B A cv hv:=e.trans h
theorem WkBox.lt {w:World} {B A:Nat} {cv hv:Value} (h:WkBox w B A cv hv):B<w.heap.size:=(Array.getElem?_eq_some_iff.1 h).1
def AutR (w:World) (A N:Nat) (fv:Value) (fs:Nat→Nat→Nat) (b:Bool) (f l:Nat→Nat):Prop :=
 (∃ F,w.rowIs A 103 19 F∧F 1=fv∧∀ k,k<17→F (2+k)=endF b f l k)∧RsP w fv N fs
theorem AutR.keep {w w':World} {A N m:Nat} {fv:Value} {fs:Nat→Nat→Nat} {b:Bool} {f l:Nat→Nat} (h:AutR w A N fv fs b f l) (hb:Below m w w') (hm:w.heap.size≤m):AutR w' A N fv fs b f l:=by
 obtain ⟨⟨F,h1,h2⟩,h3⟩ := h
 exact ⟨⟨F,h1.of_block (hb.block A (Nat.lt_of_lt_of_le h1.lt hm)),h2⟩,own_keep h3 hb hm⟩
theorem AutR.cells {w:World} {A N:Nat} {fv:Value} {fs:Nat→Nat→Nat} {b:Bool} {f l:Nat→Nat} (h:AutR w A N fv fs b f l):w.cell? ⟨A,1,none⟩ = some fv∧w.cell? ⟨A,2,none⟩ = some (.bool b)∧(∀ k,k<8→w.cell? ⟨A,3+k,none⟩ = some (.int .u64 (f k:Nat)))∧∀ k,k<8→w.cell? ⟨A,11+k,none⟩ = some (.int .u64 (l k:Nat)):=by
 obtain ⟨⟨F,h1,h2,h3⟩,-⟩ := h
 refine ⟨?_,?_,fun k hk => ?_,fun k hk => ?_⟩
 ·rw [h1.cell (by omega),h2]
 ·rw [h1.cell (by omega)]; exact congrArg some (h3 0 (by omega))
 ·rw [h1.cell (by omega),show 3+k=2+(k+1) by omega,h3 (k+1) (by omega)]
  simp only [endF]
  rw [if_neg (by omega),if_pos (by omega),show k+1 - 1=k by omega]
  rfl
 ·rw [h1.cell (by omega),show 11+k=2+(k+9) by omega,h3 (k+9) (by omega)]
  simp only [endF]
  rw [if_neg (by omega),if_neg (by omega),show k+9 - 9=k by omega]
  rfl
def pd (g:Nat→Nat) (e:Bool):Value:=.agg #[.int .u64 (g 0:Nat),.int .u64 (g 1:Nat),.int .u64 (g 2:Nat),.int .u64 (g 3:Nat),.int .u64 (g 4:Nat),.int .u64 (g 5:Nat),.int .u64 (g 6:Nat),.int .u64 (g 7:Nat),.bool e]
abbrev c9 (g:Nat→Nat) (e:Bool):Array Value:=#[.int .u64 (g 0:Nat),.int .u64 (g 1:Nat),.int .u64 (g 2:Nat),.int .u64 (g 3:Nat),.int .u64 (g 4:Nat),.int .u64 (g 5:Nat),.int .u64 (g 6:Nat),.int .u64 (g 7:Nat),.bool e]
def pdF (g:Nat→Nat) (e:Bool):Nat→Value:=fun k => if k<8 then wd g k else .bool e
theorem row9_blk {w:World} {B:Nat} {t:TypeId} {g:Nat→Nat} {e:Bool} (h:w.rowIs B t 9 (pdF g e)):w.heap[B]? = some (.cells (c9 g e) t (0,0)):=by
 obtain ⟨c,hc,hs,hf⟩ := h
 rw [hc]
 congr 2
 refine Array.ext (by simp [hs]) (fun i h1 h2 => ?_)
 have h3:=hf i (by omega)
 rw [Array.getElem?_eq_getElem h1] at h3
 have h4:=Option.some.inj h3
 rw [h4]
 have h5:i<9:=by omega
 match i,h5 with
 | 0,_ => rfl
 | 1,_ => rfl
 | 2,_ => rfl
 | 3,_ => rfl
 | 4,_ => rfl
 | 5,_ => rfl
 | 6,_ => rfl
 | 7,_ => rfl
 | 8,_ => rfl
theorem blk_row9 {w:World} {B:Nat} {t:TypeId} {g:Nat→Nat} {e:Bool} (h:w.heap[B]? = some (.cells (c9 g e) t (0,0))):w.rowIs B t 9 (pdF g e):=by
 refine ⟨_,h,rfl,fun i hi => ?_⟩
 match i,hi with
 | 0,_ => rfl
 | 1,_ => rfl
 | 2,_ => rfl
 | 3,_ => rfl
 | 4,_ => rfl
 | 5,_ => rfl
 | 6,_ => rfl
 | 7,_ => rfl
 | 8,_ => rfl
theorem all9 (g:Nat→Nat) (e:Bool):(c9 g e).all (·.oneCell')=true:=by simp [Value.oneCell']
theorem pd_ret {w:World} {B:Nat} {g:Nat→Nat} {e:Bool} (h:w.heap[B]? = some (.cells (c9 g e) 115 (0,0))) {fn:Func} {p:Tmp} (hr:fn.results = #[.cell p 115]) (tmps:Array Value) (hp:tmps.getD p undef = .pointer (some ⟨B,0,none⟩)):(results fn tmps).run Tryz.prog w = .ok (pd g e) w :=
 results_cell_row hr tmps w B _ _ _ _ hp h Tryz.underlying115 rfl (by kernel_rfl)
set_option maxHeartbeats 4000000 in
set_option maxRecDepth 100000 in
theorem start_any (B A N:Nat) (cv hv fv:Value) (fs:Nat→Nat→Nat) (b:Bool) (f l:Nat→Nat) (w:World) (hB:WkBox w B A cv hv) (hA:AutR w A N fv fs b f l) :
  Calls Tryz.prog 49 #[.pointer (some ⟨B,0,none⟩)] w fun e w' => e = .returned (pd f b)∧Below w.heap.size w w':=by
 have hlt:=hB.lt
 have hltA:A<w.heap.size:=by obtain ⟨⟨F,h1,-⟩,-⟩ := hA; exact h1.lt
 have hb1:=below1 w (.cells #[.int .u64 0,.int .u64 0,.int .u64 0,.int .u64 0,.int .u64 0,.int .u64 0,.int .u64 0,.int .u64 0,.bool false] 115)
 obtain ⟨c0,-,-⟩ := (hB.keep (hb1.block B hlt)).cells
 obtain ⟨-,d2,d3,-⟩ := (hA.keep hb1 (Nat.le_refl _)).cells
 have e0:=d3 0 (by omega)
 have e1:=d3 1 (by omega)
 have e2:=d3 2 (by omega)
 have e3:=d3 3 (by omega)
 have e4:=d3 4 (by omega)
 have e5:=d3 5 (by omega)
 have e6:=d3 6 (by omega)
 have e7:=d3 7 (by omega)
 simp only [Nat.reduceAdd] at e0 e1 e2 e3 e4 e5 e6 e7
 clear hB hA d3 hb1
 go_enter Tryz.func49,Tryz.ntmps49
 go_wp2_with fail
 refine wp_region_quiet_tail 17 (by kernel_rfl) (by kernel_rfl) ?_
 simp only [List.take_succ_cons,List.take_zero,List.drop_succ_cons,List.drop_zero]
 repeat (first | go_big_quiet_skip | (go_big_quiet_want; go_big_quiet_op; go_big_quiet_on))
 refine wpQuiet_nil ?_
 go_wp2
 refine bodyPost_ret (pd_ret (g:=f) (e:=b) (by exact (pushd_alloc w _).new) rfl _ rfl) rfl ?_
 exact ⟨rfl,(below1 w _).drew⟩
def orL (fs:Nat→Nat→Nat) (Y:List Nat):Nat→Nat:=Y.foldl (fun p k => orW p (fs k)) (fun _ => 0)
theorem orL_snoc (fs:Nat→Nat→Nat) (Y:List Nat) (k:Nat):orL fs (Y ++ [k])=orW (orL fs Y) (fs k):=by simp [orL,List.foldl_append]
theorem fit_fold {fs:Nat→Nat→Nat} (hf:∀ i,Fit (fs i)):∀ (Y:List Nat) (p:Nat→Nat),Fit p→Fit (Y.foldl (fun p k => orW p (fs k)) p)
 | [],_,h => h
 | k :: Y,_,h => fit_fold hf Y _ (fit_or h (hf k))
theorem fit_orL {fs:Nat→Nat→Nat} (hf:∀ i,Fit (fs i)) (Y:List Nat):Fit (orL fs Y):=fit_fold hf Y _ fit_z
theorem bt_fold {fs:Nat→Nat→Nat} (j:Nat):∀ (Y:List Nat) (p:Nat→Nat),Bt (Y.foldl (fun p k => orW p (fs k)) p) j=true↔(Bt p j=true∨∃ k ∈ Y,Bt (fs k) j=true)
 | [],p => by simp
 | k :: Y,p => by
  simp only [List.foldl_cons]
  rw [bt_fold j Y,bt_or,Bool.or_eq_true]
  constructor
  ·rintro ((h | h) | ⟨k',h1,h2⟩)
   ·exact Or.inl h
   ·exact Or.inr ⟨k,List.mem_cons_self ..,h⟩
   ·exact Or.inr ⟨k',List.mem_cons_of_mem _ h1,h2⟩
  ·rintro (h | ⟨k',h1,h2⟩)
   ·exact Or.inl (Or.inl h)
   ·rcases List.mem_cons.1 h1 with rfl | h1
    ·exact Or.inl (Or.inr h2)
    ·exact Or.inr ⟨k',h1,h2⟩
theorem bt_orL {fs:Nat→Nat→Nat} (Y:List Nat) (j:Nat):Bt (orL fs Y) j=true↔∃ k ∈ Y,Bt (fs k) j=true:=by
 unfold orL
 rw [bt_fold]
 constructor
 ·rintro (h | h)
  ·simp [Bt] at h
  ·exact h
 ·exact Or.inr
def eq8 (g:Nat→Nat):Bool:=((g 0:Int) == 0 && ((g 1:Int) == 0 && ((g 2:Int) == 0 && ((g 3:Int) == 0 && ((g 4:Int) == 0 && ((g 5:Int) == 0 && ((g 6:Int) == 0 && (g 7:Int) == 0)))))))
theorem eq8_none {g:Nat→Nat} (hg:Fit g):(!(eq8 g))=true↔∃ i,i<512∧Bt g i=true:=by
 have key:eq8 g=true↔∀ j,j<8→g j=0:=by
  unfold eq8
  simp only [Bool.and_eq_true,beq_iff_eq]
  constructor
  ·rintro ⟨h0,h1,h2,h3,h4,h5,h6,h7⟩ j hj
   match j,hj with
   | 0,_ => omega
   | 1,_ => omega
   | 2,_ => omega
   | 3,_ => omega
   | 4,_ => omega
   | 5,_ => omega
   | 6,_ => omega
   | 7,_ => omega
  ·intro h
   exact ⟨by rw [h 0 (by omega)]; rfl,by rw [h 1 (by omega)]; rfl,by rw [h 2 (by omega)]; rfl,by rw [h 3 (by omega)]; rfl,by rw [h 4 (by omega)]; rfl,by rw [h 5 (by omega)]; rfl,by rw [h 6 (by omega)]; rfl,by rw [h 7 (by omega)]; rfl⟩
 rw [Bool.not_eq_true',← Bool.not_eq_true,key]
 constructor
 ·intro h
  apply Classical.byContradiction
  intro hno
  apply h
  intro j hj
  apply Nat.eq_of_testBit_eq
  intro k
  rw [Nat.zero_testBit]
  by_cases hk:k<64
  ·have:¬ Bt g (64 * j+k)=true:=fun q => hno ⟨64 * j+k,by omega,q⟩
   unfold Bt at this
   rw [show (64 * j+k) / 64=j by omega,show (64 * j+k) % 64=k by omega] at this
   exact Bool.eq_false_iff.2 this
  ·exact Nat.testBit_lt_two_pow (Nat.lt_of_lt_of_le (hg j) (by
    have:(2:Nat) ^ 64≤2 ^ k:=Nat.pow_le_pow_right (by omega) (by omega)
    exact this))
 ·rintro ⟨i,hi,hb⟩ h
  unfold Bt at hb
  rw [h (i / 64) (by omega),Nat.zero_testBit] at hb
  cases hb
theorem pdF_end (k:Nat) (hk:k<9) (y:Bool):(if k=8 then Value.bool y else pdF (fun _ => 0) false k)=pdF (fun _ => 0) y k:=by
 unfold pdF
 by_cases e:k=8
 ·subst e; rfl
 ·rw [if_neg e,if_pos (by omega),if_pos (by omega)]
def ReadBox (W0 wx:World) (bx:Value) (g:Nat→Nat):Prop:=∃ rb,bx = .pointer (some ⟨rb,0,none⟩)∧W0.heap.size≤rb∧wx.heap[rb]? = some (.cells (c8 g) 99 (0,0))∧Below W0.heap.size W0 wx
theorem row8_all {w:World} {B:Nat} {t:TypeId} {g:Nat→Nat} (h:w.rowIs B t 8 (wd g)) (q:Nat→Nat):((((((((w.setCell ⟨B,0,none⟩ (.int .u64 (q 0:Nat))).setCell ⟨B,1,none⟩ (.int .u64 (q 1:Nat))).setCell ⟨B,2,none⟩ (.int .u64 (q 2:Nat))).setCell ⟨B,3,none⟩ (.int .u64 (q 3:Nat))).setCell ⟨B,4,none⟩ (.int .u64 (q 4:Nat))).setCell ⟨B,5,none⟩ (.int .u64 (q 5:Nat))).setCell ⟨B,6,none⟩ (.int .u64 (q 6:Nat))).setCell ⟨B,7,none⟩ (.int .u64 (q 7:Nat))).rowIs B t 8 (wd q):=by
 refine ((((((((h.set 0 _).set 1 _).set 2 _).set 3 _).set 4 _).set 5 _).set 6 _).set 7 _).congr (fun k hk => ?_)
 match k,hk with
 | 0,_ => rfl
 | 1,_ => rfl
 | 2,_ => rfl
 | 3,_ => rfl
 | 4,_ => rfl
 | 5,_ => rfl
 | 6,_ => rfl
 | 7,_ => rfl
theorem put8_bel {w w':World} {m B:Nat} (h:Below m w w') (hm:m≤B) (q:Nat→Value):Below m w ((((((((w'.setCell ⟨B,0,none⟩ (q 0)).setCell ⟨B,1,none⟩ (q 1)).setCell ⟨B,2,none⟩ (q 2)).setCell ⟨B,3,none⟩ (q 3)).setCell ⟨B,4,none⟩ (q 4)).setCell ⟨B,5,none⟩ (q 5)).setCell ⟨B,6,none⟩ (q 6)).setCell ⟨B,7,none⟩ (q 7)) :=
 bput (bput (bput (bput (bput (bput (bput (bput h hm _) hm _) hm _) hm _) hm _) hm _) hm _) hm _
theorem zbox1 {W0 w1:World} (h:Below ((W0.alloc (.cells #[.int .u64 0,.int .u64 0,.int .u64 0,.int .u64 0,.int .u64 0,.int .u64 0,.int .u64 0,.int .u64 0] 99)).drew).heap.size ((W0.alloc (.cells #[.int .u64 0,.int .u64 0,.int .u64 0,.int .u64 0,.int .u64 0,.int .u64 0,.int .u64 0,.int .u64 0] 99)).drew) w1):w1.rowIs W0.heap.size 99 8 (wd (fun _ => 0))∧Below W0.heap.size W0 w1:=by
 have hs:((W0.alloc (.cells #[.int .u64 0,.int .u64 0,.int .u64 0,.int .u64 0,.int .u64 0,.int .u64 0,.int .u64 0,.int .u64 0] 99)).drew).heap.size=W0.heap.size+1:=sz_alloc _ _
 exact ⟨(row8_new W0 99 (fun _ => 0)).of_block (h.block W0.heap.size (by omega)),(below1 W0 _).trans (⟨h.os,h.tape,h.output,h.size,fun k hk => h.block k (by omega)⟩)⟩
theorem zfr (w:World) (j:Nat):(w.alloc (.cells #[.int .u64 0,.int .u64 0,.int .u64 0,.int .u64 0,.int .u64 0,.int .u64 0,.int .u64 0,.int .u64 0] 99)).frozen? ⟨w.heap.size,j,none⟩ = false:=(row8_new w 99 (fun _ => 0)).frozen j
theorem zcl (w:World) (j:Nat) (hj:j<8):(w.alloc (.cells #[.int .u64 0,.int .u64 0,.int .u64 0,.int .u64 0,.int .u64 0,.int .u64 0,.int .u64 0,.int .u64 0] 99)).cell? ⟨w.heap.size,j,none⟩ = some (wd (fun _ => 0) j):=(row8_new w 99 (fun _ => 0)).cell hj
theorem zbel {W0 w1:World} (h:Below (W0.drew).heap.size (W0.drew) w1):Below W0.heap.size W0 w1:=⟨h.os,h.tape,h.output,h.size,h.block⟩
set_option maxHeartbeats 16000000 in
set_option maxRecDepth 100000 in
theorem step_any (B A N c m:Nat) (cv hv fv:Value) (hs fs:Nat→Nat→Nat) (b:Bool) (f l Q:Nat→Nat) (e0:Bool) (w:World) (hB:WkBox w B A cv hv) (hA:AutR w A N fv fs b f l) (hh:RsP w hv m hs) (hc:c<m) (hQ:Fit Q) (hhc:Fit (hs c)) (hl:Fit l) (hfs:∀ i,Fit (fs i)) (hin:∀ i,Bt (hs c) i=true→i<N) (htz:TZ w) (htl:Tryz.laysTZ_ren.g 1<w.heap.size) :
  Calls Tryz.prog 52 #[.pointer (some ⟨B,0,none⟩),pd Q e0,.int .i64 c] w fun e w' => e = .returned (pd (orL fs (blN (andW Q (hs c)) 512)) (!(eq8 (andW (andW Q (hs c)) l))))∧Below w.heap.size w w':=by
 obtain ⟨W0,hW0⟩ : ∃ W0,W0=((w.alloc (.cells (c9 Q e0) 115)).alloc (.cells #[.int .u64 0,.int .u64 0,.int .u64 0,.int .u64 0,.int .u64 0,.int .u64 0,.int .u64 0,.int .u64 0,.bool false] 115)).alloc (.cells #[.int .u64 0,.int .u64 0,.int .u64 0,.int .u64 0,.int .u64 0,.int .u64 0,.int .u64 0,.int .u64 0,.bool false] 115):=⟨_,rfl⟩
 have hb0:Below w.heap.size w W0:=by rw [hW0]; exact (below2 w _ _).alloc (by rw [sz_alloc,sz_alloc]; omega) _
 have hz0:W0.heap.size=w.heap.size+3:=by rw [hW0,sz_alloc,sz_alloc,sz_alloc]
 have hq0:∀ j,j<8→W0.cell? ⟨w.heap.size,j,none⟩ = some (.int .u64 (Q j:Nat)):=fun j hj => by
  have h1:W0.heap[w.heap.size]? = some (.cells (c9 Q e0) 115 (0,0)):=by
   have hb:Below (w.heap.size+1) (w.alloc (.cells (c9 Q e0) 115)) W0:=by
    have:=below2 (w.alloc (.cells (c9 Q e0) 115)) (.cells #[.int .u64 0,.int .u64 0,.int .u64 0,.int .u64 0,.int .u64 0,.int .u64 0,.int .u64 0,.int .u64 0,.bool false] 115) (.cells #[.int .u64 0,.int .u64 0,.int .u64 0,.int .u64 0,.int .u64 0,.int .u64 0,.int .u64 0,.int .u64 0,.bool false] 115)
    rw [sz_alloc,← hW0] at this
    exact this
   rw [hb.block _ (Nat.lt_succ_self _)]
   exact (pushd_alloc w _).new
  have h2:=(blk_row9 h1).cell (i:=j) (by omega)
  rw [h2]
  unfold pdF
  rw [if_pos hj]
  rfl
 obtain ⟨gh,cap,M,F,rfl,hghl,hrow,hM,hF,-⟩ := rsP_at hh hc
 have hcl:∀ W',Below w.heap.size w W'→∀ j,j<8→W'.cell? ⟨gh,c * 8+j,none⟩ = some (.int .u64 (hs c j:Nat)):=fun W' hW' j hj => by
  rw [World.cell?_of_block (a:=⟨gh,c * 8+j,none⟩) (hW'.block gh hghl),hrow.cell (by omega),hF j hj]
  rfl
 obtain ⟨n0,hn0⟩ : ∃ n0,n0=w.heap.size:=⟨_,rfl⟩
 obtain ⟨h,hhd⟩ : ∃ h,h=hs c:=⟨_,rfl⟩
 rw [← hhd] at hcl hhc hin ⊢
 obtain ⟨R,hR⟩ : ∃ R,R=andW Q h:=⟨_,rfl⟩
 rw [← hR]
 obtain ⟨L2,hL2⟩ : ∃ L2,L2=andW R l:=⟨_,rfl⟩
 rw [← hL2]
 obtain ⟨y,hy⟩ : ∃ y,y=eq8 L2:=⟨_,rfl⟩
 rw [← hy]
 obtain ⟨G,hG⟩ : ∃ G,G=orL fs (blN R 512):=⟨_,rfl⟩
 rw [← hG]
 have HG:=hide hG
 clear hG
 have hRf:Fit R:=by rw [hR]; exact fit_and hQ
 have hRin:∀ i,Bt R i=true→i<N:=fun i hi => hin i (by rw [hR,bt_and,Bool.and_eq_true] at hi; exact hi.2)
 have hM3:=fun W => meet_any R l W hRf hl
 have hes:∀ W,(Op.equalIn 10000 99 (.agg #[.int .u64 (L2 0:Nat),.int .u64 (L2 1:Nat),.int .u64 (L2 2:Nat),.int .u64 (L2 3:Nat),.int .u64 (L2 4:Nat),.int .u64 (L2 5:Nat),.int .u64 (L2 6:Nat),.int .u64 (L2 7:Nat)]) (.agg #[.int .u64 0,.int .u64 0,.int .u64 0,.int .u64 0,.int .u64 0,.int .u64 0,.int .u64 0,.int .u64 0])).run Tryz.prog W = .ok y W:=fun W => by rw [hy]; exact eqPs _ _ _ _ _ _ _ _ 0 0 0 0 0 0 0 0 W
 unfold ps8 at hM3
 simp only [← hL2] at hM3
 have hrow1:W0.rowIs (w.heap.size+1) 115 9 (pdF (fun _ => 0) false):=by
  have h1:=(pushd_alloc (w.alloc (.cells (c9 Q e0) 115)) (.cells #[.int .u64 0,.int .u64 0,.int .u64 0,.int .u64 0,.int .u64 0,.int .u64 0,.int .u64 0,.int .u64 0,.bool false] 115)).new
  rw [sz_alloc] at h1
  have hb:=below1 ((w.alloc (.cells (c9 Q e0) 115)).alloc (.cells #[.int .u64 0,.int .u64 0,.int .u64 0,.int .u64 0,.int .u64 0,.int .u64 0,.int .u64 0,.int .u64 0,.bool false] 115)) (.cells #[.int .u64 0,.int .u64 0,.int .u64 0,.int .u64 0,.int .u64 0,.int .u64 0,.int .u64 0,.int .u64 0,.bool false] 115)
  rw [← hW0,sz_alloc,sz_alloc] at hb
  have h2:W0.heap[w.heap.size+1]? = some (.cells (c9 (fun _ => 0) false) 115 (0,0)):=(hb.block _ (by omega)).trans h1
  exact blk_row9 h2
 have hrow2:W0.rowIs (w.heap.size+2) 115 9 (pdF (fun _ => 0) false):=by
  have h1:=(pushd_alloc ((w.alloc (.cells (c9 Q e0) 115)).alloc (.cells #[.int .u64 0,.int .u64 0,.int .u64 0,.int .u64 0,.int .u64 0,.int .u64 0,.int .u64 0,.int .u64 0,.bool false] 115)) (.cells #[.int .u64 0,.int .u64 0,.int .u64 0,.int .u64 0,.int .u64 0,.int .u64 0,.int .u64 0,.int .u64 0,.bool false] 115)).new
  rw [sz_alloc,sz_alloc,← hW0] at h1
  have h2:W0.heap[w.heap.size+2]? = some (.cells (c9 (fun _ => 0) false) 115 (0,0)):=h1
  exact blk_row9 h2
 rw [← hn0] at hrow1 hrow2
 have HM3:=hide hM3
 have HES:=hide hes
 have HRF:=hide hRf
 have HRIN:=hide hRin
 have HWB:=hide hB
 have HAR:=hide hA
 have HFS:=hide hfs
 have HR1:=hide hrow1
 have HR2:=hide hrow2
 have HTZ:Hid (∀ W,Below w.heap.size w W→TZ W):=fun W hW => htz.below hW htl
 clear hM3 hes hRf hRin hin hfs hrow1 hrow2 htz
 have hltB:=hB.lt
 have hS:Hid (∀ W':World,Below W0.heap.size W0 W'→W'.cell? ⟨B,2,none⟩ = some (.slice (some ⟨gh,0,none⟩) m cap)∧W'.cell? ⟨n0,0,none⟩ = some (.int .u64 (Q 0:Nat))∧W'.cell? ⟨n0,1,none⟩ = some (.int .u64 (Q 1:Nat))∧W'.cell? ⟨n0,2,none⟩ = some (.int .u64 (Q 2:Nat))∧W'.cell? ⟨n0,3,none⟩ = some (.int .u64 (Q 3:Nat))∧W'.cell? ⟨n0,4,none⟩ = some (.int .u64 (Q 4:Nat))∧W'.cell? ⟨n0,5,none⟩ = some (.int .u64 (Q 5:Nat))∧W'.cell? ⟨n0,6,none⟩ = some (.int .u64 (Q 6:Nat))∧W'.cell? ⟨n0,7,none⟩ = some (.int .u64 (Q 7:Nat))∧W'.cell? ⟨gh,c * 8,none⟩ = some (.int .u64 (h 0:Nat))∧W'.cell? ⟨gh,c * 8+1,none⟩ = some (.int .u64 (h 1:Nat))∧W'.cell? ⟨gh,c * 8+2,none⟩ = some (.int .u64 (h 2:Nat))∧W'.cell? ⟨gh,c * 8+3,none⟩ = some (.int .u64 (h 3:Nat))∧W'.cell? ⟨gh,c * 8+4,none⟩ = some (.int .u64 (h 4:Nat))∧W'.cell? ⟨gh,c * 8+5,none⟩ = some (.int .u64 (h 5:Nat))∧W'.cell? ⟨gh,c * 8+6,none⟩ = some (.int .u64 (h 6:Nat))∧W'.cell? ⟨gh,c * 8+7,none⟩ = some (.int .u64 (h 7:Nat))):=fun W' hW => by
  have hW1:Below w.heap.size w W':=hb0.trans (hW.mono (by omega))
  have k:=(hB.keep (hW1.block B hltB)).cells.2.2
  have q:=fun j (hj:j<8) => (hW.cell (p:=⟨w.heap.size,j,none⟩) (by show w.heap.size<_; omega)).trans (hq0 j hj)
  have r:=hcl W' hW1
  rw [hn0]
  exact ⟨k,q 0 (by omega),q 1 (by omega),q 2 (by omega),q 3 (by omega),q 4 (by omega),q 5 (by omega),q 6 (by omega),q 7 (by omega),r 0 (by omega),r 1 (by omega),r 2 (by omega),r 3 (by omega),r 4 (by omega),r 5 (by omega),r 6 (by omega),r 7 (by omega)⟩
 have hM:=fun W => meet_any Q h W hQ hhc
 unfold ps8 at hM
 simp only [← hR] at hM
 have HMa:=hide ((hM ((W0.alloc (.cells #[.int .u64 0,.int .u64 0,.int .u64 0,.int .u64 0,.int .u64 0,.int .u64 0,.int .u64 0,.int .u64 0] 99)).drew)).mono (fun e w' q => And.intro q.1 (zbox1 q.2)))
 have HMb:=hide ((hM W0.drew).mono (fun e w' q => And.intro q.1 (zbel q.2)))
 clear hM
 have HB0:=hide hb0
 have HW0:=hide hW0
 have HN0:=hide hn0
 have hcm:(c:Int)<(m:Int):=by omega
 have hE:=Below.refl W0.heap.size W0
 have hBaa:∀ o:Obj,Below W0.heap.size W0 (W0.alloc o):=fun o => below1 _ o
 obtain ⟨k2,q0,q1,q2,q3,q4,q5,q6,q7,r0,r1,r2,r3,r4,r5,r6,r7⟩ := unhide hS W0 hE
 have hz0a:w.heap.size+3≤W0.heap.size:=by omega
 have hz0b:W0.heap.size≤w.heap.size+3:=by omega
 clear hB hA hh hq0 hcl hrow hF hb0 hW0 hQ hhc hhd hz0 hR hL2 hy hl
 unfold pd
 go_enter Tryz.func52,Tryz.ntmps52
 go_upto_region 2 with fail
 rw [← unhide HW0,← hn0]
 clear HW0 hn0
 go_cut [8] (fun bx wx => ReadBox W0 wx bx R)
 case first =>
  go_region_held3 (fun W' => W'.cell? ⟨B,2,none⟩ = some (.slice (some ⟨gh,0,none⟩) m cap)∧W'.cell? ⟨n0,0,none⟩ = some (.int .u64 (Q 0:Nat))∧W'.cell? ⟨n0,1,none⟩ = some (.int .u64 (Q 1:Nat))∧W'.cell? ⟨n0,2,none⟩ = some (.int .u64 (Q 2:Nat))∧W'.cell? ⟨n0,3,none⟩ = some (.int .u64 (Q 3:Nat))∧W'.cell? ⟨n0,4,none⟩ = some (.int .u64 (Q 4:Nat))∧W'.cell? ⟨n0,5,none⟩ = some (.int .u64 (Q 5:Nat))∧W'.cell? ⟨n0,6,none⟩ = some (.int .u64 (Q 6:Nat))∧W'.cell? ⟨n0,7,none⟩ = some (.int .u64 (Q 7:Nat))∧W'.cell? ⟨gh,c * 8,none⟩ = some (.int .u64 (h 0:Nat))∧W'.cell? ⟨gh,c * 8+1,none⟩ = some (.int .u64 (h 1:Nat))∧W'.cell? ⟨gh,c * 8+2,none⟩ = some (.int .u64 (h 2:Nat))∧W'.cell? ⟨gh,c * 8+3,none⟩ = some (.int .u64 (h 3:Nat))∧W'.cell? ⟨gh,c * 8+4,none⟩ = some (.int .u64 (h 4:Nat))∧W'.cell? ⟨gh,c * 8+5,none⟩ = some (.int .u64 (h 5:Nat))∧W'.cell? ⟨gh,c * 8+6,none⟩ = some (.int .u64 (h 6:Nat))∧W'.cell? ⟨gh,c * 8+7,none⟩ = some (.int .u64 (h 7:Nat)))
   (first | (with_reducible exact unhide hS _ hBp) | (with_reducible exact unhide hS _ (hBba _)) | (with_reducible exact unhide hS _ hBb) | (with_reducible exact unhide hS _ (hBaa _)) | go_keep)
   (first
    | (go_at_call 83; (with_reducible refine (unhide HMa).mono ?_); rintro e w1 ⟨rfl,RZ,hBb⟩; have z0:=RZ.cell (i:=0) (by omega); have f0:=RZ.frozen 0; have z1:=RZ.cell (i:=1) (by omega); have f1:=RZ.frozen 1; have z2:=RZ.cell (i:=2) (by omega); have f2:=RZ.frozen 2; have z3:=RZ.cell (i:=3) (by omega); have f3:=RZ.frozen 3; have z4:=RZ.cell (i:=4) (by omega); have f4:=RZ.frozen 4; have z5:=RZ.cell (i:=5) (by omega); have f5:=RZ.frozen 5; have z6:=RZ.cell (i:=6) (by omega); have f6:=RZ.frozen 6; have z7:=RZ.cell (i:=7) (by omega); have f7:=RZ.frozen 7; have hBp:=put8_bel hBb (Nat.le_refl W0.heap.size) (fun j => .int .u64 (R j:Nat)); have hBba:∀ o:Obj,Below W0.heap.size W0 (w1.alloc o):=fun o => hBb.alloc hBb.size o)
    | (go_at_call 83; (with_reducible refine (unhide HMb).mono ?_); rintro e w1 ⟨rfl,hBb⟩; have z0:=zcl w1 0 (by omega); have f0:=zfr w1 0; have z1:=zcl w1 1 (by omega); have f1:=zfr w1 1; have z2:=zcl w1 2 (by omega); have f2:=zfr w1 2; have z3:=zcl w1 3 (by omega); have f3:=zfr w1 3; have z4:=zcl w1 4 (by omega); have f4:=zfr w1 4; have z5:=zcl w1 5 (by omega); have f5:=zfr w1 5; have z6:=zcl w1 6 (by omega); have f6:=zfr w1 6; have z7:=zcl w1 7 (by omega); have f7:=zfr w1 7; have hBba:∀ o:Obj,Below W0.heap.size W0 (w1.alloc o):=fun o => hBb.alloc hBb.size o))
  all_goals go_wp2_with fail
  all_goals go_meet
  all_goals first
   | exact ⟨_,rfl,Nat.le_refl _,row8_blk (row8_all RZ R),put8_bel hBb (Nat.le_refl W0.heap.size) (fun j => .int .u64 (R j:Nat))⟩
   | exact ⟨_,rfl,hBb.size,(pushd_alloc w1 _).new,hBba _⟩
 case rest =>
  obtain ⟨rb,rfl,hrb,hblk,hbel⟩ := hcut
  obtain ⟨V,hV⟩ : ∃ V,V=wc:=⟨_,rfl⟩
  rw [← hV] at hblk hbel ⊢
  have hzV:=hbel.size
  have hbw:Below w.heap.size w V:=(unhide HB0).trans (hbel.mono (by omega))
  have hn0':=unhide HN0
  have hA3:=(unhide HAR).keep hbw (Nat.le_refl _)
  have hltA:A<w.heap.size:=(by obtain ⟨⟨F,h1,-⟩,-⟩ := unhide HAR; exact h1.lt)
  have hrbl:rb<V.heap.size:=(Array.getElem?_eq_some_iff.1 hblk).1
  have hS3:Hid (∀ W':World,(∀ k,k ≠ n0+2→k<V.heap.size→W'.heap[k]? = V.heap[k]?)→W'.cell? ⟨B,0,none⟩ = some (.pointer (some ⟨A,0,none⟩))∧W'.cell? ⟨rb,0,none⟩ = some (.int .u64 (R 0:Nat))∧W'.cell? ⟨rb,1,none⟩ = some (.int .u64 (R 1:Nat))∧W'.cell? ⟨rb,2,none⟩ = some (.int .u64 (R 2:Nat))∧W'.cell? ⟨rb,3,none⟩ = some (.int .u64 (R 3:Nat))∧W'.cell? ⟨rb,4,none⟩ = some (.int .u64 (R 4:Nat))∧W'.cell? ⟨rb,5,none⟩ = some (.int .u64 (R 5:Nat))∧W'.cell? ⟨rb,6,none⟩ = some (.int .u64 (R 6:Nat))∧W'.cell? ⟨rb,7,none⟩ = some (.int .u64 (R 7:Nat))∧W'.cell? ⟨A,11,none⟩ = some (.int .u64 (l 0:Nat))∧W'.cell? ⟨A,12,none⟩ = some (.int .u64 (l 1:Nat))∧W'.cell? ⟨A,13,none⟩ = some (.int .u64 (l 2:Nat))∧W'.cell? ⟨A,14,none⟩ = some (.int .u64 (l 3:Nat))∧W'.cell? ⟨A,15,none⟩ = some (.int .u64 (l 4:Nat))∧W'.cell? ⟨A,16,none⟩ = some (.int .u64 (l 5:Nat))∧W'.cell? ⟨A,17,none⟩ = some (.int .u64 (l 6:Nat))∧W'.cell? ⟨A,18,none⟩ = some (.int .u64 (l 7:Nat))):=fun W' hW => by
   have kB:=((unhide HWB).keep ((hW B (by omega) (by omega)).trans (hbw.block B hltB))).cells.1
   have kr:∀ j,j<8→W'.cell? ⟨rb,j,none⟩ = some (.int .u64 (R j:Nat)):=fun j hj => by
    rw [World.cell?_of_block (a:=⟨rb,j,none⟩) (hW rb (by omega) hrbl)]
    have h1:V.rowIs rb 99 8 (wd R):=⟨_,hblk,rfl,fun i hi => by
     match i,hi with
     | 0,_ => rfl
     | 1,_ => rfl
     | 2,_ => rfl
     | 3,_ => rfl
     | 4,_ => rfl
     | 5,_ => rfl
     | 6,_ => rfl
     | 7,_ => rfl⟩
    exact h1.cell hj
   have kl:∀ j,j<8→W'.cell? ⟨A,11+j,none⟩ = some (.int .u64 (l j:Nat)):=fun j hj => by
    rw [World.cell?_of_block (a:=⟨A,11+j,none⟩) (hW A (by omega) (by omega))]
    exact hA3.cells.2.2.2 j hj
   exact ⟨kB,kr 0 (by omega),kr 1 (by omega),kr 2 (by omega),kr 3 (by omega),kr 4 (by omega),kr 5 (by omega),kr 6 (by omega),kr 7 (by omega),kl 0 (by omega),kl 1 (by omega),kl 2 (by omega),kl 3 (by omega),kl 4 (by omega),kl 5 (by omega),kl 6 (by omega),kl 7 (by omega)⟩
  have hRB2:=(unhide HR2).of_block (hbel.block (n0+2) (by omega))
  have hRB1:=(unhide HR1).of_block (hbel.block (n0+1) (by omega))
  have HRB2:=hide hRB2
  have HRB1:=hide hRB1
  have HC3:=hide (((unhide HM3) V.drew).mono (fun e w' q => And.intro q.1 (And.intro (zbel q.2) (And.intro (hRB2.of_block ((zbel q.2).block (n0+2) (by omega))) (fun k (_:k ≠ n0+2) hk => (zbel q.2).block k hk)))))
  have HBW:=hide hbw
  have es:=unhide HES
  obtain ⟨k0,a0,a1,a2,a3,a4,a5,a6,a7,d0,d1,d2,d3,d4,d5,d6,d7⟩ := unhide hS3 V (fun _ _ _ => rfl)
  clear hblk hbel hbw hA3 hRB2 hRB1 hV HM3 HES k2 q0 q1 q2 q3 q4 q5 q6 q7 r0 r1 r2 r3 r4 r5 r6 r7 hS hE hBaa HMa HMb hn0'
  go_upto_region 3 with fail
  go_cut [8] (fun bx wx => bx = .pointer (some ⟨rb,0,none⟩)∧wx.rowIs (n0+2) 115 9 (pdF (fun _ => 0) (!y))∧(∀ k,k ≠ n0+2→k<V.heap.size→wx.heap[k]? = V.heap[k]?)∧V.heap.size≤wx.heap.size∧wx.os=V.os∧wx.tape=V.tape∧wx.output=V.output)
  case first =>
   go_region_held3 (fun W' => W'.cell? ⟨B,0,none⟩ = some (.pointer (some ⟨A,0,none⟩))∧W'.cell? ⟨rb,0,none⟩ = some (.int .u64 (R 0:Nat))∧W'.cell? ⟨rb,1,none⟩ = some (.int .u64 (R 1:Nat))∧W'.cell? ⟨rb,2,none⟩ = some (.int .u64 (R 2:Nat))∧W'.cell? ⟨rb,3,none⟩ = some (.int .u64 (R 3:Nat))∧W'.cell? ⟨rb,4,none⟩ = some (.int .u64 (R 4:Nat))∧W'.cell? ⟨rb,5,none⟩ = some (.int .u64 (R 5:Nat))∧W'.cell? ⟨rb,6,none⟩ = some (.int .u64 (R 6:Nat))∧W'.cell? ⟨rb,7,none⟩ = some (.int .u64 (R 7:Nat))∧W'.cell? ⟨A,11,none⟩ = some (.int .u64 (l 0:Nat))∧W'.cell? ⟨A,12,none⟩ = some (.int .u64 (l 1:Nat))∧W'.cell? ⟨A,13,none⟩ = some (.int .u64 (l 2:Nat))∧W'.cell? ⟨A,14,none⟩ = some (.int .u64 (l 3:Nat))∧W'.cell? ⟨A,15,none⟩ = some (.int .u64 (l 4:Nat))∧W'.cell? ⟨A,16,none⟩ = some (.int .u64 (l 5:Nat))∧W'.cell? ⟨A,17,none⟩ = some (.int .u64 (l 6:Nat))∧W'.cell? ⟨A,18,none⟩ = some (.int .u64 (l 7:Nat)))
    (first | (with_reducible exact unhide hS3 _ (hKs _)) | (with_reducible exact unhide hS3 _ hKk) | go_keep)
    (first
     | (go_at_call 83; (with_reducible refine (unhide HC3).mono ?_); rintro e w2 ⟨rfl,hb2,hr2,hKk⟩; have zz:=hr2.cell (i:=8) (by omega); have ff:=hr2.frozen 8; have hKs:∀ v:Value,∀ k,k ≠ n0+2→k<V.heap.size→(w2.setCell ⟨n0+2,8,none⟩ v).heap[k]? = V.heap[k]? := fun v k h1 h2 => (Below.heap_setCell _ _ _ _ h1).trans (hKk k h1 h2)))
   all_goals go_wp2_with fail
   all_goals go_meet
   all_goals exact ⟨rfl,(hr2.set 8 _).congr (fun k hk => pdF_end k hk _),hKs _,by rw [sz_put]; exact hb2.size,hb2.os,hb2.tape,hb2.output⟩
  case rest =>
   obtain ⟨rfl,hT,hKk,hzc,ho1,ho2,ho3⟩ := hcut
   obtain ⟨X,hX⟩ : ∃ X,X=wc:=⟨_,rfl⟩
   rw [← hX] at hT hKk hzc ho1 ho2 ho3 ⊢
   have hn0':=unhide HN0
   have hbX:Below w.heap.size w X:=(unhide HBW).trans ⟨ho1,ho2,ho3,hzc,fun k hk => hKk k (by omega) (by have:=(unhide HBW).size; omega)⟩
   obtain ⟨e0,e1,e2,e3,e4,e5,e6,e7⟩ : X.cell? ⟨rb,0,none⟩ = some (.int .u64 (R 0:Nat))∧X.cell? ⟨rb,1,none⟩ = some (.int .u64 (R 1:Nat))∧X.cell? ⟨rb,2,none⟩ = some (.int .u64 (R 2:Nat))∧X.cell? ⟨rb,3,none⟩ = some (.int .u64 (R 3:Nat))∧X.cell? ⟨rb,4,none⟩ = some (.int .u64 (R 4:Nat))∧X.cell? ⟨rb,5,none⟩ = some (.int .u64 (R 5:Nat))∧X.cell? ⟨rb,6,none⟩ = some (.int .u64 (R 6:Nat))∧X.cell? ⟨rb,7,none⟩ = some (.int .u64 (R 7:Nat)):=by
    have q:=unhide hS3 X hKk
    exact ⟨q.2.1,q.2.2.1,q.2.2.2.1,q.2.2.2.2.1,q.2.2.2.2.2.1,q.2.2.2.2.2.2.1,q.2.2.2.2.2.2.2.1,q.2.2.2.2.2.2.2.2.1⟩
   have HT:=hide hT
   have HBX:=hide hbX
   have HRB1':=hide ((unhide HRB1).of_block (hKk (n0+1) (by omega) (by omega)))
   have hk0:Hid (∀ W',Obk (n0+2) X W'→W'.cell? ⟨B,0,none⟩ = some (.pointer (some ⟨A,0,none⟩))∧W'.cell? ⟨A,1,none⟩ = some fv):=fun W' hW => by
    have hB':Below w.heap.size w W':=hbX.trans (hW.bel2 (by omega))
    exact ⟨((unhide HWB).keep (hB'.block B hltB)).cells.1,((unhide HAR).keep hB' (Nat.le_refl _)).cells.1⟩
   clear hT hKk hzc ho1 ho2 ho3 hbX hX hS3 HC3 HRB2 HRB1 es k0 a0 a1 a2 a3 a4 a5 a6 a7 d0 d1 d2 d3 d4 d5 d6 d7 hn0'
   obtain ⟨fa,fc,rfl⟩ := own_is (unhide HAR).2
   go_wp2_with fail
   go_loopw [35] (fun iv wr => ∃ i:Nat,i≤8∧iv = .int .i64 i∧wr.rowIs (n0+2) 115 9 (pdF (orL fs (blN R (64 * i))) (!y))∧Obk (n0+2) X wr) (fun iv _ => 8 - (intOf iv).toNat)
   case atStart => exact ⟨0,by omega,rfl,unhide HT,Obk.refl _ _⟩
   case round =>
    clear HT
    obtain ⟨i,hi,rfl,hT,hob⟩ := hrel
    have HT:=hide hT
    have HOB:=hide hob
    clear hT hob
    by_cases hlt:i<8
    ·have hlt':(i:Int)<8:=by omega
     have hix:=idx8 R i hlt
     have hgi:=unhide HRF i
     have HGI:=hide (blN_next R i)
     clear e0 e1 e2 e3 e4 e5 e6 e7
     go_wp2_with fail
     go_loopw [10] (fun xv wr => ∃ (Y:List Nat) (x:Nat),xv = .int .u64 x∧x<18446744073709551616∧blN R (64 * (i+1))=Y ++ (bitsOf x).map (64 * i + ·)∧wr.rowIs (n0+2) 115 9 (pdF (orL fs Y) (!y))∧Obk (n0+2) X wr) (fun xv _ => (intOf xv).toNat)
     case atStart => exact ⟨blN R (64 * i),R i,rfl,hgi,unhide HGI,unhide HT,unhide HOB⟩
     case round =>
      clear HT HOB HGI hgi
      obtain ⟨Y,x,rfl,hx,hE,hT,hob⟩ := hrel
      by_cases hx0:x=0
      ·subst hx0
       rw [bits_nil,List.map_nil,List.append_nil] at hE
       subst hE
       have HT:=hide hT
       have HOB:=hide hob
       clear hT hob
       go_wp2
       go_roundw
       case rel => exact ⟨i+1,by omega,by go_num,unhide HT,unhide HOB⟩
       case measure => simp [intOf]; omega
      ·obtain ⟨n1,n2,n3⟩ := bits_next x hx0 hx
       have hx1:((x:Int) != 0)=true:=by simp; omega
       have hx2:((x:Int) == 0)=false:=by simp; omega
       have a1:IntKind.u64.wrap ((x:Int) - 1)=((x - 1:Nat):Int):=by rw [IntKind.wrap_u64]; omega
       obtain ⟨x',hx'⟩ : ∃ x',x'=x &&& (x - 1):=⟨_,rfl⟩
       have a2:=bits_and_u64_nat x (x - 1) hx (by omega)
       rw [← hx'] at a2 n3 n1
       obtain ⟨k,hk⟩ : ∃ k,k=Lib.ctz 64 x:=⟨_,rfl⟩
       have hB':Below w.heap.size w wr:=(unhide HBX).trans (hob.bel2 (by have:=unhide HN0; omega))
       have htz:=tz_any x hx wr.drew ((unhide HTZ _ hB').same rfl)
       rw [← hk] at htz n2 n1
       have HTT:=hide htz
       have a3:IntKind.i64.wrap ((i:Int) * 64)=(i:Int) * 64:=k64i (by omega) (by omega)
       have a4:IntKind.i64.wrap ((i:Int) * 64+(k:Int))=(i:Int) * 64+(k:Int):=k64i (by omega) (by omega)
       have HE:Hid (blN R (64 * (i+1))=(Y ++ [64 * i+k]) ++ (bitsOf x').map (64 * i + ·)):=by show _=_; rw [hE,n1]; simp
       have hmem:64 * i+k ∈ blN R (64 * (i+1)):=by rw [unhide HE]; simp
       have hkN:64 * i+k<N:=unhide HRIN _ (by unfold blN at hmem; exact (List.mem_filter.1 hmem).2)
       have hkN':(i:Int) * 64+(k:Int)<(N:Int):=by omega
       have hkp:0≤(i:Int) * 64+(k:Int):=by omega
       have htn:((i:Int) * 64+(k:Int)).toNat=64 * i+k:=by omega
       obtain ⟨gf,cf,M,F,e,hgfl,hrow,hM,hF,-⟩ := rsP_at (unhide HAR).2 hkN
       cases e
       obtain ⟨b0,b1⟩ := unhide hk0 wr hob
       have hJ:=join_any (n0+2) 0 9 gf ((64 * i+k) * 8) M _ _ _ F (orL fs Y) (fs (64 * i+k)) wr.drew (fit_orL (unhide HFS) Y) (unhide HFS _) (by have:=unhide HN0; omega) hT.drew (fun j hj => by rw [Nat.zero_add]; unfold pdF; rw [if_pos hj]) (by omega) ((hrow.of_block (hB'.block gf hgfl)).drew) hF hM
       have HJ:=hide hJ
       have HOB:=hide hob
       clear hT hob hE n1 htz hk hx' hmem hB' hrow hF hJ
       go_wp2_with fail
       refine wp_region_quiet_tail 14 (by kernel_rfl) (by kernel_rfl) ?_
       simp only [List.take_succ_cons,List.take_zero,List.drop_succ_cons,List.drop_zero]
       repeat (first | go_big_quiet_skip | (go_big_quiet_want; go_big_quiet_op; go_big_quiet_on))
       go_big_quiet_want
       go_big_quiet_op
       refine ⟨_,unhide HTT,?_⟩
       go_big_quiet_on
       repeat (first | go_big_quiet_skip | (go_big_quiet_want; go_big_quiet_op; go_big_quiet_on))
       refine wpQuiet_nil ?_
       go_wp2_with fail
       refine (unhide HJ).mono ?_
       rintro e w3 ⟨rfl,hr3,hob3⟩
       have HT3:Hid (w3.rowIs (n0+2) 115 9 (pdF (orL fs (Y ++ [64 * i+k])) (!y))):=hr3.congr (fun j hj => by
        rw [orL_snoc]
        unfold pdF
        by_cases e:j<8
        ·rw [if_pos (by omega),if_pos e,Nat.sub_zero]
        ·rw [if_neg (by omega),if_neg e,if_neg e])
       have HOB3:=hide ((unhide HOB).trans ⟨hob3.os,hob3.tape,hob3.output,hob3.size,hob3.block⟩)
       clear hr3 hob3 HJ HTT HOB b0 b1
       go_wp2
       go_roundw
       case rel => exact ⟨Y ++ [64 * i+k],x',by go_num,by omega,unhide HE,unhide HT3,unhide HOB3⟩
       case measure => simp [intOf]; omega
    ·obtain rfl:i=8:=by omega
     have hT':=unhide HT
     rw [show 64 * 8=512 from rfl,← unhide HG] at hT'
     have HA:Hid (wr.heap[n0+1+1]? = _):=row9_blk hT'
     have HZ:Hid (wr.heap[n0+1]? = _):=row9_blk ((unhide HRB1').of_block ((unhide HOB).block (n0+1) (by omega)))
     have HBF:Hid (Below w.heap.size w wr):=(unhide HBX).trans ((unhide HOB).bel2 (by have:=unhide HN0; omega))
     clear hT' HT e0 e1 e2 e3 e4 e5 e6 e7
     go_wp2_with (first
      | (refine wpList_load_row rfl 115 (.tmp 7) rfl (n0+1+1) (by first | (simp [Act.eval]; done) | (simp [Act.eval,Act.put]; done)) 115 _ _ _ (unhide HA) Tryz.underlying115 rfl (by kernel_rfl) ?_)
      | (refine wpList_store_row rfl 115 (.tmp 6) (.tmp 61) rfl (n0+1) #[.int .u64 (G 0:Nat),.int .u64 (G 1:Nat),.int .u64 (G 2:Nat),.int .u64 (G 3:Nat),.int .u64 (G 4:Nat),.int .u64 (G 5:Nat),.int .u64 (G 6:Nat),.int .u64 (G 7:Nat),.bool (!y)] (by first | (simp [Act.eval]; done) | (simp [Act.eval,Act.put]; done)) (by first | (simp [Act.eval]; done) | (simp [Act.eval,Act.put]; done)) 115 _ (unhide HZ) (by kernel_rfl) rfl (all9 _ _) ?_))
     refine bodyPost_ret (pd_ret (setRow_heap _ _ _ _ _ _ (unhide HZ)) rfl _ rfl) rfl ?_
     exact ⟨rfl,(unhide HBF).trans (Obk.bel2 ⟨rfl,rfl,rfl,by simp [World.setRow],fun k hk => setRow_other _ _ k _ hk⟩ (by have:=unhide HN0; omega))⟩
end Go.Proofs.YtlidckepahpaeaaGreatDoor
