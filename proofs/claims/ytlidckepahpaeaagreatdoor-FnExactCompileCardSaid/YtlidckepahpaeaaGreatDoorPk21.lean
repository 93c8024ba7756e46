import Derived.Test.YtlidckepahpaeaaGreatDoorPk8
import Derived.Maps.OwnSet
import Derived.Maps.OwnOps
import Derived.DeepKeys4
import Derived.Test.YtlidckepahpaeaaGreatDoorPk11
import Derived.Laws.CopyOwn
import Derived.Laws.CopyRow
import Derived.Test.YtlidckepahpaeaaGreatDoorPk1
import Derived.StillTail
import Derived.BigQuiet
import Derived.Laws.Tables
import Derived.Test.YtlidckepahpaeaaGreatDoorPk16
import Derived.Test.YtlidckepahpaeaaGreatDoorPk10
import Derived.Test.YtlidckepahpaeaaGreatDoorPk9
namespace Go.Proofs.YtlidckepahpaeaaGreatDoor
open Go.RowKit
theorem Tryz.laidOutN:laidOutB Tryz.prog=true:=by kernel_rfl
theorem wf64 {n:Nat} (h:n<18446744073709551616):(Lit.int .u64 (n:Int)).wf=true:=WalkArith.wf_u64 (by omega)
def KeyIs (kt:TypeId) (v:Value):Prop:=∃ kl,keyOf Tryz.prog kt v=some kl
def NumAt (kt:TypeId) (w:World) (b:Nat) (ks:List Value):Prop :=
 ∃ es clock,w.heap[b]? = some (.map es clock)∧WideElems.Fit Tryz.prog kt (plainElem (H:=Unit) Tryz.prog 3) es clock∧es.size=ks.length∧(∀ i v,ks[i]? = some v→∃ e ∈ es.toList,e.key=v∧e.val = .int .i64 (i:Nat))∧∀ e ∈ es.toList,∃ i:Nat,ks[i]? = some e.key∧e.val = .int .i64 i
section
variable {kt mt:TypeId} {w w':World} {b:Nat} {ks:List Value}
theorem NumAt.lt (h:NumAt kt w b ks):b<w.heap.size:=by
 obtain ⟨es,clock,hb,-⟩ := h
 exact (Array.getElem?_eq_some_iff.1 hb).1
theorem NumAt.keep (h:NumAt kt w b ks) (e:w'.heap[b]? = w.heap[b]?):NumAt kt w' b ks:=by
 obtain ⟨es,clock,hb,h2⟩ := h
 exact ⟨es,clock,e.trans hb,h2⟩
theorem num_new (kt:TypeId) (w:World):NumAt kt (w.alloc (.map #[] 0)) w.heap.size [] :=
 ⟨#[],0,(MapKept.heap_alloc w _).1,⟨by simp,MapKept.stamped_empty 0,by simp⟩,rfl,by simp,by simp⟩
theorem NumAt.len (h:NumAt kt w b ks) {et:TypeId} (ht:Tryz.prog.underlying mt=some (.map kt et)) (ty:TypeId):(Builtin.len_ #[mt] ty #[.map (some b)]).run Tryz.prog w = .ok (.int .i64 (ks.length:Nat)) w:=by
 obtain ⟨es,clock,hb,-,hs,-⟩ := h
 rw [← hs]
 simp [Builtin.len_,run_underlying ht,MapKept.run_getObj_map hb,goInt]
theorem NumAt.look (h:NumAt kt w b ks) (K:Maps.Keyed Tryz.prog kt) (ht:Tryz.prog.underlying mt=some (.map kt 3)) {v:Value} (hv:KeyIs kt v) :
  (∃ i:Nat,ks[i]? = some v∧(Instr.lookup mt (.map (some b)) v true).run Tryz.prog w = .ok (.tuple #[.int .i64 i,.bool true]) w)∨(v ∉ ks∧(Instr.lookup mt (.map (some b)) v true).run Tryz.prog w = .ok (.tuple #[.int .i64 0,.bool false]) w):=by
 obtain ⟨es,clock,hb,F,hs,h1,h2⟩ := h
 obtain ⟨kl,hkl⟩ := hv
 have hz:(zeroValue 3).run Tryz.prog w = .ok (.int .i64 0) w:=by kernel_rfl
 rcases Maps.fit_look true K ht hz hb F hkl with ⟨hrun,hno,-⟩ | ⟨e0,y,hm,hk,hrun,-⟩
 ·right
  refine ⟨fun hm => ?_,hrun⟩
  obtain ⟨i,hi⟩ := List.getElem?_of_mem hm
  obtain ⟨e,he,hek,-⟩ := h1 i v hi
  exact hno e he hek
 ·left
  obtain ⟨i,hi,hval⟩ := h2 e0 hm
  rw [hk] at hi
  rw [hval] at hrun
  exact ⟨i,hi,hrun⟩
theorem NumAt.put (h:NumAt kt w b ks) (K:Maps.Keyed Tryz.prog kt) (ht:Tryz.prog.underlying mt=some (.map kt 3)) (hn:ks.length<100000) {v:Value} (hv:KeyIs kt v) (hnew:v ∉ ks) :
  ∃ w',(Instr.mapUpdate mt (.map (some b)) v (.int .i64 (ks.length:Nat))).run Tryz.prog w = .ok () w'∧NumAt kt w' b (ks ++ [v])∧Obk b w w':=by
 obtain ⟨es,clock,hb,F,hs,h1,h2⟩ := h
 obtain ⟨kl,hkl⟩ := hv
 have hval:plainElem (H:=Unit) Tryz.prog 3 (.int .i64 (ks.length:Nat))=some (.lit (.int .i64 (ks.length:Nat)),[]):=plainElem_int Tryz.underlying3 (WalkArith.wf_i64 (by omega))
 rcases K.find w hkl es.toList F.keys with ⟨h3,h4⟩ | ⟨j,e0,-,h5,h6⟩
 ·have hrun:(Instr.mapUpdate mt (.map (some b)) v (.int .i64 (ks.length:Nat))).run Tryz.prog w = .ok () (ChangeMaps.setBlock w b (.map (es.push ⟨v,.int .i64 (ks.length:Nat),clock⟩) (clock+1))):=by
   simp [Instr.mapUpdate,run_underlying ht,MapKept.run_getObj_map hb,K.check w false hkl,h3,MapKept.run_setObj_map _ hb,Result.andThen,ChangeMaps.setBlock]
  refine ⟨_,hrun,⟨es.push ⟨v,.int .i64 (ks.length:Nat),clock⟩,clock+1,ChangeMaps.heap_setBlock_same hb _,⟨by rw [Array.size_push,hs]; unfold maxLen; omega,MapKept.stamped_push F.stamped h4,fun x hx => ?_⟩,by rw [Array.size_push,hs]; simp,fun i u hi => ?_,fun e he => ?_⟩,⟨rfl,rfl,rfl,by simp [ChangeMaps.setBlock],fun k hk => ChangeMaps.heap_setBlock_other hb _ hk⟩⟩
  ·simp only [Array.toList_push,List.mem_append,List.mem_singleton] at hx
   rcases hx with hx | rfl
   ·exact F.reads x hx
   ·exact ⟨_,WideElems.rd_mk hkl hval⟩
  ·by_cases e:i<ks.length
   ·rw [List.getElem?_append_left e] at hi
    obtain ⟨e2,he,h7⟩ := h1 i u hi
    exact ⟨e2,by simp [he],h7⟩
   ·rw [List.getElem?_append_right (by omega)] at hi
    obtain ⟨rfl,e3⟩ : i=ks.length∧v=u:=by
     by_cases e4:i=ks.length
     ·subst e4; simpa using hi
     ·rw [List.getElem?_eq_none (by simp; omega)] at hi; cases hi
    exact ⟨⟨v,.int .i64 (ks.length:Nat),clock⟩,by simp,e3,rfl⟩
  ·simp only [Array.toList_push,List.mem_append,List.mem_singleton] at he
   rcases he with he | rfl
   ·obtain ⟨i,hi,hv2⟩ := h2 e he
    have hlt:i<ks.length:=by
     apply Nat.lt_of_not_le
     intro q
     rw [List.getElem?_eq_none q] at hi
     cases hi
    exact ⟨i,by rw [List.getElem?_append_left hlt]; exact hi,hv2⟩
   ·exact ⟨ks.length,by simp,rfl⟩
 ·obtain ⟨i,hi,-⟩ := h2 e0 (List.mem_of_getElem? h5)
  rw [h6] at hi
  exact absurd (List.mem_of_getElem? hi) hnew
end
abbrev OneB (w:World) (b:Nat):Nat→Prop:=fun k => k=b∨w.heap.size≤k
def NumR (ks:List Value) (v:Value) (ks':List Value) (i:Nat) (f:Bool):Prop:=(v ∈ ks∧ks'=ks∧ks[i]? = some v∧f=false)∨(v ∉ ks∧ks'=ks ++ [v]∧i=ks.length∧f=true)
theorem Tryz.lawBs:Maps.Keyed Tryz.prog 85:=Maps.Keyed.of_law (deep_law_laid Tryz.laidOutN (m:=2) (by omega) (of_decide_eq_true (by kernel_rfl)) (by kernel_rfl) (by rw [Tryz.underlying85]))
theorem Tryz.lawPs:Maps.Keyed Tryz.prog 99:=Maps.Keyed.of_law (deep_law_laid Tryz.laidOutN (m:=2) (by omega) (of_decide_eq_true (by kernel_rfl)) (by kernel_rfl) (by rw [Tryz.underlying99]))
theorem key_bs {g:Nat→Nat} (h:Fit g):KeyIs 85 (ws4 g):=by
 have c1:Tryz.prog.cellsOf 85=4:=by kernel_rfl
 have c2:Tryz.prog.cellsOf 83=1:=by kernel_rfl
 have hk:Tryz.prog.keyType 85=true:=by kernel_rfl
 obtain ⟨m,hm⟩ : ∃ m,Tryz.prog.types.size=m+1:=⟨Tryz.prog.types.size - 1,by have:0<Tryz.prog.types.size:=of_decide_eq_true (by kernel_rfl); omega⟩
 unfold KeyIs keyOf
 simp only [Tryz.underlying85]
 rw [if_pos (by simp [hk,Value.formed,Tryz.underlying85,c1,ws4]),hm]
 unfold Program.keyLits
 simp only [Tryz.underlying85,Value.cells,ws4]
 rw [if_pos (by rw [c1]; rfl)]
 simp [List.range_succ,Program.keyLits,Tryz.underlying83,c2,wf64 (h 0),wf64 (h 1),wf64 (h 2),wf64 (h 3)]
theorem key_ps {g:Nat→Nat} (h:Fit g):KeyIs 99 (ps8 g):=by
 have c1:Tryz.prog.cellsOf 99=8:=by kernel_rfl
 have c2:Tryz.prog.cellsOf 83=1:=by kernel_rfl
 have hk:Tryz.prog.keyType 99=true:=by kernel_rfl
 obtain ⟨m,hm⟩ : ∃ m,Tryz.prog.types.size=m+1:=⟨Tryz.prog.types.size - 1,by have:0<Tryz.prog.types.size:=of_decide_eq_true (by kernel_rfl); omega⟩
 unfold KeyIs keyOf
 simp only [Tryz.underlying99]
 rw [if_pos (by simp [hk,Value.formed,Tryz.underlying99,c1,ps8]),hm]
 unfold Program.keyLits
 simp only [Tryz.underlying99,Value.cells,ps8]
 rw [if_pos (by rw [c1]; rfl)]
 simp [List.range_succ,Program.keyLits,Tryz.underlying83,c2,wf64 (h 0),wf64 (h 1),wf64 (h 2),wf64 (h 3),wf64 (h 4),wf64 (h 5),wf64 (h 6),wf64 (h 7)]
set_option maxHeartbeats 2000000 in
set_option maxRecDepth 100000 in
theorem newBs_any (w:World):Calls Tryz.prog 42 #[] w fun e w' => e = .returned (.agg #[.map (some (w.heap.size+1))])∧NumAt 85 w' (w.heap.size+1) []∧w'.heap.size=w.heap.size+2∧Below w.heap.size w w':=by
 have hmm := @run_makeMap Tryz.prog
 have hN:=num_new 85 (w.alloc (.cells #[.map (some (w.heap.size+1))] 95))
 rw [sz_alloc] at hN
 have hB:=below2 w (.cells #[.map (some (w.heap.size+1))] 95) (.map #[] 0)
 have HN:=hide hN
 have HB:=hide hB
 clear hN hB
 go_enter Tryz.func42,Tryz.ntmps42
 go_wp2
 refine bodyPost_ret (v:=.agg #[.map (some (w.heap.size+1))]) (by simp [results,Tryz.results42,go_sem]) rfl ?_
 refine ⟨rfl,unhide HN,by rw [sz_alloc,sz_alloc],unhide HB⟩
set_option maxHeartbeats 4000000 in
set_option maxRecDepth 100000 in
theorem ofBs_any (b:Nat) (g:Nat→Nat) (ks:List Value) (w:World) (h:NumAt 85 w b ks) (hg:Fit g) (hn:ks.length<100000) :
  Calls Tryz.prog 43 #[.agg #[.map (some b)],ws4 g] w fun e w' => ∃ i ks' f,e = .returned (.tuple #[.int .i64 (i:Nat),.bool f])∧NumR ks (ws4 g) ks' i f∧NumAt 85 w' b ks'∧FrO (OneB w b) w w':=by
 have hB:=below2 w (.cells #[.map (some b)] 95) (.cells #[.int .u64 (g 0:Nat),.int .u64 (g 1:Nat),.int .u64 (g 2:Nat),.int .u64 (g 3:Nat)] 85)
 have hlt:=h.lt
 have hW:=h.keep (hB.block b hlt)
 have hz:((w.alloc (.cells #[.map (some b)] 95)).alloc (.cells #[.int .u64 (g 0:Nat),.int .u64 (g 1:Nat),.int .u64 (g 2:Nat),.int .u64 (g 3:Nat)] 85)).heap.size=w.heap.size+2:=by rw [sz_alloc,sz_alloc]
 have HF0:Hid (FrO (OneB w b) w ((w.alloc (.cells #[.map (some b)] 95)).alloc (.cells #[.int .u64 (g 0:Nat),.int .u64 (g 1:Nat),.int .u64 (g 2:Nat),.int .u64 (g 3:Nat)] 85))):=fro_of hB (fun k hk => Or.inr hk)
 rcases hW.look Tryz.lawBs Tryz.underlying93 (key_bs hg) with ⟨i,hi,hl⟩ | ⟨hno,hl⟩
 ·have HW:=hide hW
  have HI:=hide hi
  clear hW hi h hB
  unfold ws4 at hl ⊢
  go_enter Tryz.func43,Tryz.ntmps43
  go_wp2
  go_ret2
  exact ⟨i,ks,false,rfl,Or.inl ⟨List.mem_of_getElem? (unhide HI),rfl,unhide HI,rfl⟩,unhide HW,unhide HF0⟩
 ·have hln:=fun ty => hW.len Tryz.underlying93 ty
  obtain ⟨w3,hput,hN3,hob⟩ := hW.put Tryz.lawBs Tryz.underlying93 hn (key_bs hg) hno
  have HN3:=hide hN3
  have HF3:=hide ((unhide HF0).trans (hob.fro (Or.inl rfl)))
  have HNO:=hide hno
  clear hW hno h hB hN3 hob
  unfold ws4 at hl hput ⊢
  go_enter Tryz.func43,Tryz.ntmps43
  go_wp2
  go_ret2
  exact ⟨ks.length,ks ++ [ws4 g],true,rfl,Or.inr ⟨unhide HNO,rfl,rfl,rfl⟩,unhide HN3,unhide HF3⟩
set_option maxHeartbeats 2000000 in
set_option maxRecDepth 100000 in
theorem newPs_any (w:World):Calls Tryz.prog 76 #[] w fun e w' => e = .returned (.agg #[.map (some (w.heap.size+1))])∧NumAt 99 w' (w.heap.size+1) []∧w'.heap.size=w.heap.size+2∧Below w.heap.size w w':=by
 have hmm := @run_makeMap Tryz.prog
 have hN:=num_new 99 (w.alloc (.cells #[.map (some (w.heap.size+1))] 145))
 rw [sz_alloc] at hN
 have hB:=below2 w (.cells #[.map (some (w.heap.size+1))] 145) (.map #[] 0)
 have HN:=hide hN
 have HB:=hide hB
 clear hN hB
 go_enter Tryz.func76,Tryz.ntmps76
 go_wp2
 refine bodyPost_ret (v:=.agg #[.map (some (w.heap.size+1))]) (by simp [results,Tryz.results76,go_sem]) rfl ?_
 refine ⟨rfl,unhide HN,by rw [sz_alloc,sz_alloc],unhide HB⟩
set_option maxHeartbeats 4000000 in
set_option maxRecDepth 100000 in
theorem ofPs_any (b:Nat) (g:Nat→Nat) (ks:List Value) (w:World) (h:NumAt 99 w b ks) (hg:Fit g) (hn:ks.length<100000) :
  Calls Tryz.prog 78 #[.agg #[.map (some b)],ps8 g] w fun e w' => ∃ i ks' f,e = .returned (.tuple #[.int .i64 (i:Nat),.bool f])∧NumR ks (ps8 g) ks' i f∧NumAt 99 w' b ks'∧FrO (OneB w b) w w':=by
 have hB:=below2 w (.cells #[.map (some b)] 145) (.cells #[.int .u64 (g 0:Nat),.int .u64 (g 1:Nat),.int .u64 (g 2:Nat),.int .u64 (g 3:Nat),.int .u64 (g 4:Nat),.int .u64 (g 5:Nat),.int .u64 (g 6:Nat),.int .u64 (g 7:Nat)] 99)
 have hlt:=h.lt
 have hW:=h.keep (hB.block b hlt)
 have hz:((w.alloc (.cells #[.map (some b)] 145)).alloc (.cells #[.int .u64 (g 0:Nat),.int .u64 (g 1:Nat),.int .u64 (g 2:Nat),.int .u64 (g 3:Nat),.int .u64 (g 4:Nat),.int .u64 (g 5:Nat),.int .u64 (g 6:Nat),.int .u64 (g 7:Nat)] 99)).heap.size=w.heap.size+2:=by rw [sz_alloc,sz_alloc]
 have HF0:Hid (FrO (OneB w b) w ((w.alloc (.cells #[.map (some b)] 145)).alloc (.cells #[.int .u64 (g 0:Nat),.int .u64 (g 1:Nat),.int .u64 (g 2:Nat),.int .u64 (g 3:Nat),.int .u64 (g 4:Nat),.int .u64 (g 5:Nat),.int .u64 (g 6:Nat),.int .u64 (g 7:Nat)] 99))):=fro_of hB (fun k hk => Or.inr hk)
 rcases hW.look Tryz.lawPs Tryz.underlying143 (key_ps hg) with ⟨i,hi,hl⟩ | ⟨hno,hl⟩
 ·have HW:=hide hW
  have HI:=hide hi
  clear hW hi h hB
  unfold ps8 at hl ⊢
  go_enter Tryz.func78,Tryz.ntmps78
  go_wp2
  go_ret2
  exact ⟨i,ks,false,rfl,Or.inl ⟨List.mem_of_getElem? (unhide HI),rfl,unhide HI,rfl⟩,unhide HW,unhide HF0⟩
 ·have hln:=fun ty => hW.len Tryz.underlying143 ty
  obtain ⟨w3,hput,hN3,hob⟩ := hW.put Tryz.lawPs Tryz.underlying143 hn (key_ps hg) hno
  have HN3:=hide hN3
  have HF3:=hide ((unhide HF0).trans (hob.fro (Or.inl rfl)))
  have HNO:=hide hno
  clear hW hno h hB hN3 hob
  unfold ps8 at hl hput ⊢
  go_enter Tryz.func78,Tryz.ntmps78
  go_wp2
  go_ret2
  exact ⟨ks.length,ks ++ [ps8 g],true,rfl,Or.inr ⟨unhide HNO,rfl,rfl,rfl⟩,unhide HN3,unhide HF3⟩
theorem still_of_quiet {P:Program} {ops:Array Oper} {W:World} {Q:Act→Prop}:∀ (l:List Oper) (a:Act),wpQuiet P ops (fun w' => w'=W) Q l a→wpStill P ops W Q l a
 | [],_,h => h
 | o :: rest,a,h => by
  unfold wpQuiet at h
  unfold wpStill
  split
  ·rename_i hw
   rw [if_pos hw] at h
   obtain ⟨v,h1,h2⟩ := h
   have h3:=h1 W rfl
   have h4:=still_of_quiet rest _ h2
   unfold Oper.quietAt at h3
   unfold Oper.still
   generalize (execOp a.eval o).run P W=r at h3 ⊢
   cases r with
   | ok n w' =>
    cases n <;> simp only [Oper.quietUpon] at h3 <;> simp only [Oper.stillUpon]
    case value u => obtain ⟨rfl,rfl⟩ := h3; exact ⟨rfl,h4⟩
    case skip => obtain ⟨rfl,rfl⟩ := h3; exact ⟨rfl,h4⟩
    case enter f args => exact ⟨h3.1,v,h3.2,h4⟩
   | halt x w' => simp only [Oper.quietUpon] at h3
  ·rename_i hw
   rw [if_neg hw] at h
   exact still_of_quiet rest _ h
theorem wp_region_quiet_tail {P:Program} {id:Nat} {Q:Exit→Act→World→Prop} {a:Act} {w:World} {l:List Oper} (n:Nat) (hm:P.follows .mixedOrders=true) (hB:Region.lexTailB .any l.toArray n=true)
  (h:wpQuiet P l.toArray (fun w' => w'=w.drew) (fun a' => wpList P l.toArray Q (l.drop n) a' w.drew) (l.take n) a):(Code.region id l.toArray true).wp P Q a w :=
 wp_region_still_tail n hm hB (still_of_quiet _ _ h)
end Go.Proofs.YtlidckepahpaeaaGreatDoor

namespace Go.Proofs.YtlidckepahpaeaaGreatDoor
open Go.RowKit
abbrev c8 (g:Nat→Nat):Array Value:=#[.int .u64 (g 0:Nat),.int .u64 (g 1:Nat),.int .u64 (g 2:Nat),.int .u64 (g 3:Nat),.int .u64 (g 4:Nat),.int .u64 (g 5:Nat),.int .u64 (g 6:Nat),.int .u64 (g 7:Nat)]
theorem row8_blk {w:World} {B:Nat} {t:TypeId} {g:Nat→Nat} (h:w.rowIs B t 8 (wd g)):w.heap[B]? = some (.cells (c8 g) t (0,0)):=by
 obtain ⟨c,hc,hs,hf⟩ := h
 rw [hc]
 congr 2
 refine Array.ext (by simp [hs]) (fun i h1 h2 => ?_)
 have h3:=hf i (by omega)
 rw [Array.getElem?_eq_getElem h1] at h3
 have h4:=Option.some.inj h3
 rw [h4]
 have h5:i<8:=by omega
 match i,h5 with
 | 0,_ => rfl
 | 1,_ => rfl
 | 2,_ => rfl
 | 3,_ => rfl
 | 4,_ => rfl
 | 5,_ => rfl
 | 6,_ => rfl
 | 7,_ => rfl
theorem all8 (g:Nat→Nat):(c8 g).all (·.oneCell')=true:=by simp [Value.oneCell']
theorem row8_new (w:World) (t:TypeId) (g:Nat→Nat):(w.alloc (.cells (c8 g) t)).rowIs w.heap.size t 8 (wd g):=eight_row w t g
theorem ps_ret {w:World} {B:Nat} {g:Nat→Nat} (h:w.heap[B]? = some (.cells (c8 g) 99 (0,0))) {fn:Func} {p:Tmp} (hr:fn.results = #[.cell p 99]) (tmps:Array Value) (hp:tmps.getD p undef = .pointer (some ⟨B,0,none⟩)):(results fn tmps).run Tryz.prog w = .ok (ps8 g) w :=
 results_cell_row hr tmps w B _ _ _ _ hp h Tryz.underlying99 rfl (by kernel_rfl)
set_option maxHeartbeats 1000000 in
theorem put_off (b o n i:Nat) (t:TypeId) (F:Nat→Value) (g:Nat→Nat) (w:World) (hg:Fit g) (hi:i<512) (hrow:w.rowIs b t n F) (hF:∀ j,j<8→F (o+j)=wd g j) (ho:o+8≤n) :
  Calls Tryz.prog 44 #[.pointer (some ⟨b,o,none⟩),.int .i64 i] w fun e w' => e = .returned (.tuple #[])∧w'.rowIs b t n (fun k => if o≤k∧k<o+8 then wd (putW g i) (k - o) else F k)∧Obk b w w':=by
 have hq:i / 64<8:=by omega
 have c0:=hrow.cell (i:=o+i / 64) (by omega)
 rw [hF _ hq] at c0
 have f0:=hrow.frozen (o+i / 64)
 unfold wd at c0
 have hq':((i / 64:Nat):Int)<8:=by omega
 have hq2:(i:Int) / 64<8:=by omega
 have hq3:0≤(i:Int) / 64:=by omega
 have hor:=or_bit (g (i / 64)) (i % 64) (hg _) (by omega)
 have Hor:=hide hor
 have HR:=hide hrow
 have HF:=hide hF
 clear hrow hor hg hF
 go_enter Tryz.func44,Tryz.ntmps44
 go_region
 go_wp2
 rw [unhide Hor]
 first | (refine bodyPost_ret (results_none rfl _ _ _) rfl ?_) | (refine bodyPost_end (results_none rfl _ _ _) rfl ?_)
 refine ⟨rfl,(((unhide HR).set (o+i / 64) _).congr (fun k _ => ?_)).drew,(obk_put _ _).drew⟩
 by_cases e:k=o+i / 64
 ·subst e
  rw [if_pos rfl,if_pos (by omega),show o+i / 64 - o=i / 64 by omega]
  unfold wd putW
  rw [if_pos rfl]
 ·rw [if_neg e]
  by_cases e2:o≤k∧k<o+8
  ·rw [if_pos e2]
   have h1:=unhide HF (k - o) (by omega)
   rw [show o+(k - o)=k by omega] at h1
   rw [h1]
   unfold wd putW
   rw [if_neg (by omega)]
  ·rw [if_neg e2]
theorem Obk.bel2 {g m:Nat} {a b:World} (h:Obk g a b) (hm:m≤g):Below m a b:=⟨h.os,h.tape,h.output,by rw [h.size]; exact Nat.le_refl _,fun k hk => h.block k (by omega)⟩
def andW (g h:Nat→Nat):Nat→Nat:=fun j => g j &&& h j
theorem fit_and {g h:Nat→Nat} (a:Fit g):Fit (andW g h):=fun j => Nat.lt_of_le_of_lt Nat.and_le_left (a j)
theorem bt_and (g h:Nat→Nat) (b:Nat):Bt (andW g h) b=(Bt g b && Bt h b):=by unfold Bt andW; rw [Nat.testBit_and]
set_option maxHeartbeats 4000000 in
set_option maxRecDepth 100000 in
theorem meet_any (g h:Nat→Nat) (w:World) (hg:Fit g) (hh:Fit h) :
  Calls Tryz.prog 83 #[ps8 g,ps8 h] w fun e w' => e = .returned (ps8 (andW g h))∧Below w.heap.size w w':=by
 obtain ⟨W,hW⟩ : ∃ W,W=((w.alloc (.cells (c8 g) 99)).alloc (.cells (c8 h) 99)).alloc (.cells #[.int .u64 0,.int .u64 0,.int .u64 0,.int .u64 0,.int .u64 0,.int .u64 0,.int .u64 0,.int .u64 0] 99):=⟨_,rfl⟩
 have hr0:W.rowIs w.heap.size 99 8 (wd g):=by rw [hW]; exact ((row8_new w _ g).alloc _).alloc _
 have hr1:W.rowIs (w.heap.size+1) 99 8 (wd h):=by
  have:=row8_new (w.alloc (.cells (c8 g) 99)) 99 h
  rw [sz_alloc] at this
  rw [hW]; exact this.alloc _
 have hr2:W.rowIs (w.heap.size+2) 99 8 (wd (fun _ => 0)):=by
  have:=row8_new ((w.alloc (.cells (c8 g) 99)).alloc (.cells (c8 h) 99)) 99 (fun _ => 0)
  rw [sz_alloc,sz_alloc] at this
  rw [hW]; exact this
 have hB:Below w.heap.size w W:=by rw [hW]; exact (below2 w _ _).alloc (by rw [sz_alloc,sz_alloc]; omega) _
 have HG:=hide hg
 have HH:=hide hh
 have H0:=hide hr0
 have H1:=hide hr1
 have H2:=hide hr2
 have HB:=hide hB
 have HW:=hide hW
 clear hg hh hr0 hr1 hr2 hB hW
 unfold ps8
 go_enter Tryz.func83,Tryz.ntmps83
 go_wp2_with fail
 rw [← unhide HW]
 clear HW
 go_loopw [6] (fun iv wr => ∃ i:Nat,i≤8∧iv = .int .i64 i∧wr.rowIs w.heap.size 99 8 (fun k => if k<i then wd (andW g h) k else wd g k)∧wr.rowIs (w.heap.size+1) 99 8 (wd h)∧wr.rowIs (w.heap.size+2) 99 8 (wd (fun _ => 0))∧Below w.heap.size w wr) (fun iv _ => 8 - (intOf iv).toNat)
 case atStart => exact ⟨0,by omega,rfl,(unhide H0).congr (fun k _ => by rw [if_neg (by omega)]),unhide H1,unhide H2,unhide HB⟩
 case round =>
  clear H0 H1 H2 HB
  obtain ⟨i,hi,rfl,hr,hr1,hr2,hb⟩ := hrel
  by_cases hlt:i<8
  ·have hlt':(i:Int)<8:=by omega
   have c0:wr.cell? ⟨w.heap.size,i,none⟩ = some (.int .u64 (g i:Nat)):=by rw [hr.cell hlt,if_neg (by omega)]; rfl
   have f0:=hr.frozen i
   have c1:wr.cell? ⟨w.heap.size+1,i,none⟩ = some (.int .u64 (h i:Nat)):=hr1.cell hlt
   have hor:=bits_and_u64_nat (g i) (h i) (unhide HG i) (unhide HH i)
   have HR:Hid ((wr.setCell ⟨w.heap.size,i,none⟩ (.int .u64 ((g i &&& h i:Nat):Int))).rowIs w.heap.size 99 8 (fun k => if k<i+1 then wd (andW g h) k else wd g k)):=(hr.set i _).congr (fun k _ => by
    by_cases e:k=i
    ·subst e; rw [if_pos rfl,if_pos (by omega)]; rfl
    ·rw [if_neg e]
     by_cases e2:k<i
     ·rw [if_pos e2,if_pos (by omega)]
     ·rw [if_neg e2,if_neg (by omega)])
   have HR1:Hid ((wr.setCell ⟨w.heap.size,i,none⟩ (.int .u64 ((g i &&& h i:Nat):Int))).rowIs (w.heap.size+1) 99 8 (wd h)):=hr1.setOther (by show w.heap.size+1 ≠ w.heap.size; omega) _
   have HR2:Hid ((wr.setCell ⟨w.heap.size,i,none⟩ (.int .u64 ((g i &&& h i:Nat):Int))).rowIs (w.heap.size+2) 99 8 (wd (fun _ => 0))):=hr2.setOther (by show w.heap.size+2 ≠ w.heap.size; omega) _
   have HB:=hide (bput hb (Nat.le_refl _) (b:=w.heap.size) (o:=i) (.int .u64 ((g i &&& h i:Nat):Int)))
   have Hor:=hide hor
   clear hr hr1 hr2 hb hor
   go_wp2_with fail
   go_region
   all_goals
    go_wp2
    rw [unhide Hor]
    go_roundw
    case rel => exact ⟨i+1,by omega,by go_num,(unhide HR).drew,(unhide HR1).drew,(unhide HR2).drew,(unhide HB).drew⟩
    case measure => simp [intOf]; omega
  ·obtain rfl:i=8:=by omega
   have hA:wr.rowIs w.heap.size 99 8 (wd (andW g h)):=hr.congr (fun k hk => by rw [if_pos hk])
   have HA:=hide (row8_blk hA)
   have HZ:Hid (wr.heap[w.heap.size+1+1]? = _):=row8_blk hr2
   have HB:=hide hb
   clear hr hr1 hr2 hb hA
   go_wp2_with (first
    | (refine wpList_load_row rfl 99 (.tmp 2) rfl w.heap.size (by first | (simp [Act.eval]; done) | (simp [Act.eval,Act.put]; done)) 99 _ _ _ (unhide HA) Tryz.underlying99 rfl (by kernel_rfl) ?_)
    | (refine wpList_store_row rfl 99 (.tmp 4) (.tmp 18) rfl (w.heap.size+1+1) #[.int .u64 ((andW g h) 0:Nat),.int .u64 ((andW g h) 1:Nat),.int .u64 ((andW g h) 2:Nat),.int .u64 ((andW g h) 3:Nat),.int .u64 ((andW g h) 4:Nat),.int .u64 ((andW g h) 5:Nat),.int .u64 ((andW g h) 6:Nat),.int .u64 ((andW g h) 7:Nat)] (by first | (simp [Act.eval]; done) | (simp [Act.eval,Act.put]; done)) (by first | (simp [Act.eval]; done) | (simp [Act.eval,Act.put]; done)) 99 _ (unhide HZ) (by kernel_rfl) rfl (all8 _) ?_))
   refine bodyPost_ret (ps_ret (setRow_heap _ _ _ _ _ _ (unhide HZ)) rfl _ rfl) rfl ?_
   exact ⟨rfl,(unhide HB).trans (Obk.bel2 ⟨rfl,rfl,rfl,by simp [World.setRow],fun k hk => setRow_other _ _ k _ hk⟩ (by omega))⟩
def holdW (ds ps:Nat→Nat→Nat) (b:Nat):Nat→Nat→Nat
 | 0 => fun _ => 0
 | k+1 => if Bt (ds k) b then orW (holdW ds ps b k) (ps k) else holdW ds ps b k
theorem fit_z:Fit (fun _ => 0):=fun _ => by show (0:Nat)<18446744073709551616; decide
theorem fit_hold {ds ps:Nat→Nat→Nat} {b:Nat}:∀ {m:Nat},(∀ j,j<m→Fit (ps j))→Fit (holdW ds ps b m)
 | 0,_ => fit_z
 | k+1,h => by
  unfold holdW
  split
  ·exact fit_or (fit_hold (fun j hj => h j (by omega))) (h k (by omega))
  ·exact fit_hold (fun j hj => h j (by omega))
theorem bt_hold {ds ps:Nat→Nat→Nat} {b:Nat} (i:Nat):∀ m:Nat,Bt (holdW ds ps b m) i=true↔∃ j,j<m∧Bt (ds j) b=true∧Bt (ps j) i=true
 | 0 => by
  constructor
  ·intro h; simp [holdW,Bt] at h
  ·rintro ⟨j,hj,-⟩; omega
 | k+1 => by
  unfold holdW
  by_cases e:Bt (ds k) b=true
  ·rw [if_pos e,bt_or,Bool.or_eq_true,bt_hold i k]
   constructor
   ·rintro (⟨j,hj,h⟩ | h)
    ·exact ⟨j,by omega,h⟩
    ·exact ⟨k,by omega,e,h⟩
   ·rintro ⟨j,hj,h⟩
    by_cases e2:j=k
    ·subst e2; exact Or.inr h.2
    ·exact Or.inl ⟨j,by omega,h⟩
  ·rw [if_neg e,bt_hold i k]
   constructor
   ·rintro ⟨j,hj,h⟩; exact ⟨j,by omega,h⟩
   ·rintro ⟨j,hj,h⟩
    by_cases e2:j=k
    ·subst e2; exact absurd h.1 e
    ·exact ⟨j,by omega,h⟩
abbrev RsB (w:World) (v:Value) (m:Nat) (ds:Nat→Nat→Nat):Prop:=w.ownsRow 0 85 4 v m (flatF 4 m ds)
abbrev RsP (w:World) (v:Value) (m:Nat) (ps:Nat→Nat→Nat):Prop:=w.ownsRow 0 99 8 v m (flatF 8 m ps)
theorem rsB_at {w:World} {v:Value} {m i:Nat} {ds:Nat→Nat→Nat} (h:RsB w v m ds) (hi:i<m):∃ g cap,v = .slice (some ⟨g,0,none⟩) m cap∧g<w.heap.size∧(∀ W:World,W.heap[g]? = w.heap[g]?→∀ j,j<4→W.cell? ⟨g,i * 4+j,none⟩ = some (wd (ds i) j)):=by
 obtain ⟨g,cap,M,F,rfl,hlt,hr,hM,hF,-⟩ := own_row h (by omega)
 refine ⟨g,cap,rfl,hlt,fun W hW j hj => ?_⟩
 have h1:=hF (i * 4+j) (by omega)
 rw [flatF_at _ _ _ (by omega),show (i * 4+j) / 4=i by omega,show (i * 4+j) % 4=j by omega] at h1
 rw [World.cell?_of_block (a:=⟨g,i * 4+j,none⟩) hW,hr.cell (by omega)]
 exact h1.symm
theorem rsP_at {w:World} {v:Value} {m i:Nat} {ps:Nat→Nat→Nat} (h:RsP w v m ps) (hi:i<m):∃ g cap M F,v = .slice (some ⟨g,0,none⟩) m cap∧g<w.heap.size∧w.rowIs g 99 M F∧i * 8+8≤M∧(∀ j,j<8→F (i * 8+j)=wd (ps i) j) ∧
  ∀ (w':World) (x:Nat→Nat),w'.rowIs g 99 M (fun k => if i * 8≤k∧k<i * 8+8 then wd x (k - i * 8) else F k)→RsP w' v m (fun j => if j=i then x else ps j):=by
 obtain ⟨g,cap,M,F,rfl,hlt,hr,hM,hF,hback⟩ := own_row h (by omega)
 refine ⟨g,cap,M,F,rfl,hlt,hr,by omega,fun j hj => ?_,fun w' x hr' => ?_⟩
 ·have h1:=hF (i * 8+j) (by omega)
  rw [flatF_at _ _ _ (by omega),show (i * 8+j) / 8=i by omega,show (i * 8+j) % 8=j by omega] at h1
  exact (Option.some.inj h1).symm
 ·refine hback w' _ _ hr' (flatF_len _ _ _) (fun k hk => ?_)
  rw [flatF_at _ _ _ hk]
  by_cases e:i * 8≤k∧k<i * 8+8
  ·rw [if_pos e,if_pos (by omega),show k % 8=k - i * 8 by omega]
  ·rw [if_neg e,if_neg (by omega)]
   have h2:=hF k hk
   rw [flatF_at _ _ _ hk] at h2
   exact h2
set_option maxHeartbeats 8000000 in
set_option maxRecDepth 100000 in
theorem holdersOf_any (b m:Nat) (sv pv:Value) (ds ps:Nat→Nat→Nat) (w:World) (hb:b<256) (hm:m≤512) (hs:RsB w sv m ds) (hp:RsP w pv m ps) (hds:∀ j,j<m→Fit (ds j)) (hps:∀ j,j<m→Fit (ps j)) :
  Calls Tryz.prog 77 #[.int .i64 b,sv,pv] w fun e w' => e = .returned (ps8 (holdW ds ps b m))∧Below w.heap.size w w':=by
 obtain ⟨sa,sc,rfl⟩ := own_is hs
 obtain ⟨pa,pc,rfl⟩ := own_is hp
 obtain ⟨H,hH⟩ : ∃ H,H=holdW ds ps b m:=⟨_,rfl⟩
 rw [← hH]
 have HHE:=hide hH
 clear hH
 obtain ⟨W,hW⟩ : ∃ W,W=(w.alloc (.cells #[.int .u64 0,.int .u64 0,.int .u64 0,.int .u64 0,.int .u64 0,.int .u64 0,.int .u64 0,.int .u64 0] 99)).alloc (.cells #[.int .u64 0,.int .u64 0,.int .u64 0,.int .u64 0,.int .u64 0,.int .u64 0,.int .u64 0,.int .u64 0] 99):=⟨_,rfl⟩
 have hr0:W.rowIs w.heap.size 99 8 (wd (fun _ => 0)):=by rw [hW]; exact (row8_new w _ (fun _ => 0)).alloc _
 have hr1:W.rowIs (w.heap.size+1) 99 8 (wd (fun _ => 0)):=by
  have:=row8_new (w.alloc (.cells #[.int .u64 0,.int .u64 0,.int .u64 0,.int .u64 0,.int .u64 0,.int .u64 0,.int .u64 0,.int .u64 0] 99)) 99 (fun _ => 0)
  rw [sz_alloc] at this
  rw [hW]; exact this
 have hB:Below w.heap.size w W:=by rw [hW]; exact below2 w _ _
 have hz:w.heap.size+2≤W.heap.size:=by rw [hW,sz_alloc,sz_alloc]; omega
 have HS:=hide hs
 have HP:=hide hp
 have HDS:=hide hds
 have HPS:=hide hps
 have H0:=hide hr0
 have H1:=hide hr1
 have HB:=hide hB
 have HW:=hide hW
 clear hs hp hds hps hr0 hr1 hB hW
 go_enter Tryz.func77,Tryz.ntmps77
 go_wp2_with fail
 rw [← unhide HW]
 clear HW
 go_loopw [12] (fun iv wr => ∃ i:Nat,i≤m∧iv = .int .i64 i∧wr.rowIs w.heap.size 99 8 (wd (fun _ => 0))∧wr.rowIs (w.heap.size+1) 99 8 (wd (holdW ds ps b i))∧w.heap.size+2≤wr.heap.size∧Below w.heap.size w wr) (fun iv _ => m - (intOf iv).toNat)
 case atStart => exact ⟨0,by omega,rfl,unhide H0,unhide H1,hz,unhide HB⟩
 case round =>
  clear H0 H1 HB hz
  obtain ⟨i,hi,rfl,hr0,hr1,hz,hbw⟩ := hrel
  by_cases hlt:i<m
  ·have hlt':(i:Int)<(m:Int):=by omega
   obtain ⟨g,cap,e,hg,hcell⟩ := rsB_at (unhide HS) hlt
   cases e
   obtain ⟨g2,cap2,M,F,e,hg2,hrow,hM,hF,-⟩ := rsP_at (unhide HP) hlt
   cases e
   have d0:=hcell wr (hbw.block g hg) 0 (by omega)
   have d1:=hcell wr (hbw.block g hg) 1 (by omega)
   have d2:=hcell wr (hbw.block g hg) 2 (by omega)
   have d3:=hcell wr (hbw.block g hg) 3 (by omega)
   unfold wd at d0 d1 d2 d3
   rw [Nat.add_zero] at d0
   have hB1:=below1 wr (.cells #[.int .u64 (ds i 0:Nat),.int .u64 (ds i 1:Nat),.int .u64 (ds i 2:Nat),.int .u64 (ds i 3:Nat)] 85)
   have HH:=hide (has_w (ds i) b (wr.alloc (.cells #[.int .u64 (ds i 0:Nat),.int .u64 (ds i 1:Nat),.int .u64 (ds i 2:Nat),.int .u64 (ds i 3:Nat)] 85)) (unhide HDS i hlt) hb)
   have HR0:=hide hr0
   have HR1:=hide hr1
   have HBW:=hide hbw
   have HROW:=hide hrow
   have HF:=hide hF
   have HB1:=hide hB1
   unfold ws4 at HH
   clear hr0 hr1 hbw hrow hF hB1 hcell
   go_wp2_with fail
   refine (unhide HH).mono ?_
   rintro e w2 ⟨rfl,hb2⟩
   have hb3:Below wr.heap.size wr w2:=(unhide HB1).trans (hb2.mono (by rw [sz_alloc]; omega))
   have hR0:=(unhide HR0).of_block (hb3.block _ (by omega))
   have hR1:=(unhide HR1).of_block (hb3.block _ (by omega))
   have hR2:=(unhide HROW).of_block ((hb3.block g2 (by have:=(unhide HBW).size; omega)).trans ((unhide HBW).block g2 hg2))
   have hBW2:Below w.heap.size w w2:=(unhide HBW).trans (hb3.mono (unhide HBW).size)
   have hz2:=hb3.size
   cases hh:Bt (ds i) b with
   | false =>
    have HR0':=hide hR0
    have HR1':Hid (w2.rowIs (w.heap.size+1) 99 8 (wd (holdW ds ps b (i+1)))):=by
     show w2.rowIs _ _ _ (wd (holdW ds ps b (i+1)))
     unfold holdW
     rw [if_neg (by rw [hh]; decide)]
     exact hR1
    have HBW2:=hide hBW2
    clear hR0 hR1 hR2 hBW2 hb2 hb3 hh HR0 HR1 HBW HROW HF HB1 HH
    go_wp2
    go_roundw
    case rel => exact ⟨i+1,by omega,by go_num,unhide HR0',unhide HR1',by omega,unhide HBW2⟩
    case measure => simp [intOf]; omega
   | true =>
    have HJ:=hide (join_any (w.heap.size+1) 0 8 g2 (i * 8) M _ _ _ F (holdW ds ps b i) (ps i) w2 (fit_hold (fun j hj => unhide HPS j (by omega))) (unhide HPS i hlt) (by omega) hR1 (fun j hj => by rw [Nat.zero_add]) (by omega) hR2 (unhide HF) hM)
    have HR0':=hide hR0
    have HBW2:=hide hBW2
    have HHH:=hide hh
    clear hR0 hR1 hR2 hBW2 hb2 hb3 hh HR0 HR1 HBW HROW HF HB1 HH
    go_wp2_with fail
    refine (unhide HJ).mono ?_
    rintro e w3 ⟨rfl,hr3,hob⟩
    have HR0'':=hide ((unhide HR0').of_block (hob.block _ (by omega)))
    have HR1'':Hid (w3.rowIs (w.heap.size+1) 99 8 (wd (holdW ds ps b (i+1)))):=by
     show w3.rowIs _ _ _ (wd (holdW ds ps b (i+1)))
     unfold holdW
     rw [if_pos (unhide HHH)]
     exact hr3.congr (fun k hk => by rw [if_pos (by omega),Nat.sub_zero])
    have HBW3:=hide ((unhide HBW2).trans (hob.bel2 (by omega)))
    have hz3:=hob.size
    clear hr3 hob HJ HR0'
    go_wp2
    go_roundw
    case rel => exact ⟨i+1,by omega,by go_num,unhide HR0'',unhide HR1'',by omega,unhide HBW3⟩
    case measure => simp [intOf]; omega
  ·obtain rfl:i=m:=by omega
   rw [← unhide HHE] at hr1
   have HA:Hid (wr.heap[w.heap.size+1]? = _):=row8_blk hr1
   have HZ:Hid (wr.heap[w.heap.size]? = _):=row8_blk hr0
   have HB:=hide hbw
   clear hr0 hr1 hbw
   go_wp2_with (first
    | (refine wpList_load_row rfl 99 (.tmp 7) rfl (w.heap.size+1) (by first | (simp [Act.eval]; done) | (simp [Act.eval,Act.put]; done)) 99 _ _ _ (unhide HA) Tryz.underlying99 rfl (by kernel_rfl) ?_)
    | (refine wpList_store_row rfl 99 (.tmp 6) (.tmp 25) rfl (w.heap.size) #[.int .u64 (H 0:Nat),.int .u64 (H 1:Nat),.int .u64 (H 2:Nat),.int .u64 (H 3:Nat),.int .u64 (H 4:Nat),.int .u64 (H 5:Nat),.int .u64 (H 6:Nat),.int .u64 (H 7:Nat)] (by first | (simp [Act.eval]; done) | (simp [Act.eval,Act.put]; done)) (by first | (simp [Act.eval]; done) | (simp [Act.eval,Act.put]; done)) 99 _ (unhide HZ) (by kernel_rfl) rfl (all8 _) ?_))
   refine bodyPost_ret (ps_ret (setRow_heap _ _ _ _ _ _ (unhide HZ)) rfl _ rfl) rfl ?_
   exact ⟨rfl,(unhide HB).trans (Obk.bel2 ⟨rfl,rfl,rfl,by simp [World.setRow],fun k hk => setRow_other _ _ k _ hk⟩ (Nat.le_refl _))⟩
def setsOf:List El→List (List Int)
 | [] => []
 | x :: r => (if x.kind=1 then [x.set] else []) ++ setsOf r
theorem oPush_ss (s:Ms) (x:El):(oPush s x).ss=s.ss ++ (if x.kind=1 then [x.set] else []):=by
 unfold oPush
 repeat' split
 all_goals simp_all
theorem oRun_ss (L:List El):∀ s:Ms,(oRun s L).ss=s.ss ++ setsOf L:=by
 induction L with
 | nil => intro s; simp [oRun,setsOf]
 | cons x r ih => intro s; simp only [oRun,setsOf]; rw [ih,oPush_ss,List.append_assoc]
theorem SegO.sets {L:List El} {n:Nat} {a:It} {ln:List Lk} {ss:List (List Int)} (h:SegO L n a ln ss):ss=setsOf L:=by
 have h1:=oRun_ss L ini
 rw [h ini] at h1
 simpa [ini] using h1
theorem setsOf_len:∀ L:List El,(setsOf L).length=lvs L
 | [] => rfl
 | x :: r => by
  have:=setsOf_len r
  simp only [setsOf,lvs,List.length_append]
  split <;> simp <;> omega
def AscI (a:It):Prop:=a.fi.Pairwise (· < ·)∧a.la.Pairwise (· < ·)
theorem asc_sh {xs:List Nat} (h:xs.Pairwise (· < ·)) (c:Nat):(xs.map (c + ·)).Pairwise (· < ·):=by
 rw [List.pairwise_map]
 exact h.imp (fun q => by omega)
theorem asc_app {xs ys:List Nat} {n:Nat} (hx:xs.Pairwise (· < ·)) (hy:ys.Pairwise (· < ·)) (b:∀ x ∈ xs,x<n):(xs ++ ys.map (n + ·)).Pairwise (· < ·):=by
 rw [List.pairwise_append]
 refine ⟨hx,asc_sh hy n,fun p hp q hq => ?_⟩
 obtain ⟨z,-,rfl⟩ := List.mem_map.1 hq
 have:=b p hp
 omega
theorem AscI.cat {a b:It} {n:Nat} (ha:AscI a) (hb:AscI b) (k:Bdd a n):AscI (itCat a (b.sh n)):=by
 refine ⟨?_,?_⟩
 ·show (a.fi ++ (if a.nl then b.fi.map (n + ·) else [])).Pairwise (· < ·)
  split
  ·exact asc_app ha.1 hb.1 k.1
  ·rw [List.append_nil]; exact ha.1
 ·show ((if b.nl then a.la else []) ++ b.la.map (n + ·)).Pairwise (· < ·)
  split
  ·exact asc_app ha.2 hb.2 k.2
  ·rw [List.nil_append]; exact asc_sh hb.2 n
theorem AscI.alt {a b:It} {n:Nat} (ha:AscI a) (hb:AscI b) (k:Bdd a n):AscI (itAlt a (b.sh n)):=⟨asc_app ha.1 hb.1 k.1,asc_app ha.2 hb.2 k.2⟩
theorem ascN_uniq:∀ {xs ys:List Nat},xs.Pairwise (· < ·)→ys.Pairwise (· < ·)→(∀ z,z ∈ xs↔z ∈ ys)→xs=ys
 | [],[],_,_,_ => rfl
 | [],y :: ys,_,_,h => by have:=(h y).2 (List.mem_cons_self ..); simp at this
 | x :: xs,[],_,_,h => by have:=(h x).1 (List.mem_cons_self ..); simp at this
 | x :: xs,y :: ys,hx,hy,h => by
  rw [List.pairwise_cons] at hx hy
  have e:x=y:=by
   have h1:=(h x).1 (List.mem_cons_self ..)
   have h2:=(h y).2 (List.mem_cons_self ..)
   rcases List.mem_cons.1 h1 with e | e
   ·exact e
   ·rcases List.mem_cons.1 h2 with e2 | e2
    ·exact e2.symm
    ·have:=hy.1 x e; have:=hx.1 y e2; omega
  subst e
  rw [ascN_uniq hx.2 hy.2 (fun z => ?_)]
  constructor
  ·intro hz
   have:=hx.1 z hz
   rcases List.mem_cons.1 ((h z).1 (List.mem_cons_of_mem _ hz)) with e | e
   ·omega
   ·exact e
  ·intro hz
   have:=hy.1 z hz
   rcases List.mem_cons.1 ((h z).2 (List.mem_cons_of_mem _ hz)) with e | e
   ·omega
   ·exact e
theorem range_asc (n:Nat):(List.range n).Pairwise (· < ·):=List.pairwise_lt_range
theorem bl_is {f:Nat→Nat} {xs:List Nat} (h:BitsOf f xs) (ha:xs.Pairwise (· < ·)) (hb:∀ x ∈ xs,x<512):blN f 512=xs:=by
 refine ascN_uniq (List.Pairwise.filter _ (range_asc 512)) ha (fun z => ?_)
 have:=mem_bl h hb z
 rw [Bool.eq_iff_iff,List.contains_iff_mem,List.contains_iff_mem] at this
 exact this
def AllOk (L:List El):Prop:=∀ k:Nat,k<L.length→ElOk (L[k]?.getD dE)
theorem AllOk.app {a b:List El} (h:AllOk a) (k:AllOk b):AllOk (a ++ b):=fun i hi => by
 by_cases e:i<a.length
 ·rw [List.getElem?_append_left e]; exact h i e
 ·rw [List.getElem?_append_right (by omega)]; exact k _ (by rw [List.length_append] at hi; omega)
theorem AllOk.one {x:El} (h:ElOk x):AllOk [x]:=fun i hi => by
 obtain rfl:i=0:=by simpa using hi
 exact h
theorem lvs_cat (L R:List El) (k:Int) (hk:k ≠ 1):lvs (L ++ R ++ [⟨k,[],0,0⟩])=lvs L+lvs R:=lvs_snoc L R _ hk
theorem lvs_half:∀ L:List El,2 * (lvs L:Int)≤L.length+wsum L
 | [] => by simp [lvs,wsum]
 | x :: r => by
  have:=lvs_half r
  simp only [lvs,wsum,List.length_cons]
  unfold wt
  repeat' split
  all_goals simp_all
  all_goals omega
end Go.Proofs.YtlidckepahpaeaaGreatDoor
