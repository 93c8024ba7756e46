import Derived.Test.YtlidckepahpaeaaGreatDoorPk8
import Derived.Test.YtlidckepahpaeaaGreatDoorPk10
import Derived.Deep.AppendLies
import Derived.Laws.Rows
namespace Go.Proofs.YtlidckepahpaeaaGreatDoor
open Go.RowKit
def flatF (sz n:Nat) (f:Nat→Nat→Nat):List Value:=(List.range (n * sz)).map (fun k => wd (f (k / sz)) (k % sz))
theorem flatF_len (sz n:Nat) (f:Nat→Nat→Nat):(flatF sz n f).length=n * sz:=by simp [flatF]
theorem flatF_next (sz n:Nat) (hs:0<sz) (f:Nat→Nat→Nat):flatF sz (n+1) f=flatF sz n f ++ (List.range sz).map (wd (f n)):=by
 unfold flatF
 rw [Nat.succ_mul,List.range_add,List.map_append,List.map_map]
 congr 1
 refine List.map_congr_left (fun j hj => ?_)
 have:=List.mem_range.1 hj
 simp only [Function.comp]
 rw [Nat.add_comm,Nat.add_mul_div_right _ _ hs,Nat.add_mul_mod_self_right,Nat.div_eq_of_lt this,Nat.mod_eq_of_lt this,Nat.zero_add]
theorem flatF_congr {sz n:Nat} {f h:Nat→Nat→Nat} (hs:0<sz) (e:∀ i,i<n→f i=h i):flatF sz n f=flatF sz n h:=by
 unfold flatF
 refine List.map_congr_left (fun k hk => ?_)
 have:=List.mem_range.1 hk
 rw [e _ ((Nat.div_lt_iff_lt_mul hs).2 this)]
theorem flatF_at (sz n:Nat) (f:Nat→Nat→Nat) {k:Nat} (hk:k<n * sz):(flatF sz n f)[k]? = some (wd (f (k / sz)) (k % sz)):=by simp [flatF,hk]
structure AuM (O:Nat→Prop) (A:Nat) (w:World) (sv fv:Value) (n m:Nat) (gs hs:Nat→Nat→Nat):Prop where
 box:∃ F,w.rowIs A 103 19 F∧F 0=sv∧F 1=fv
 oA:O A
 so:w.ownsRow 0 85 4 sv n (flatF 4 n gs)
 fo:w.ownsRow 0 99 8 fv m (flatF 8 m hs)
 sb:∀ q,sv.ownBlock=some q→O q∧q ≠ A
 fb:∀ q,fv.ownBlock=some q→O q∧q ≠ A
 sf:∀ q,sv.ownBlock=some q→fv.ownBlock ≠ some q
section
variable {O:Nat→Prop} {A:Nat} {w w':World} {sv fv:Value} {n m:Nat} {gs hs:Nat→Nat→Nat}
theorem AuM.lt (h:AuM O A w sv fv n m gs hs):A<w.heap.size:=by obtain ⟨F,hF,-⟩ := h.box; exact hF.lt
theorem AuM.keep (h:AuM O A w sv fv n m gs hs) (e:∀ k,O k→k<w.heap.size→w'.heap[k]? = w.heap[k]?):AuM O A w' sv fv n m gs hs:=by
 have hA:=h.lt
 obtain ⟨F,hF,h0,h1⟩ := h.box
 exact ⟨⟨F,hF.of_block (e A h.oA hA),h0,h1⟩,h.oA,own_blk h.so (fun q hq => e q (h.sb q hq).1 (own_lt h.so q hq)),own_blk h.fo (fun q hq => e q (h.fb q hq).1 (own_lt h.fo q hq)),h.sb,h.fb,h.sf⟩
theorem AuM.mono (h:AuM O A w sv fv n m gs hs) {O':Nat→Prop} (e:∀ k,O k→O' k):AuM O' A w sv fv n m gs hs :=
 ⟨h.box,e _ h.oA,h.so,h.fo,fun q hq => ⟨e _ (h.sb q hq).1,(h.sb q hq).2⟩,fun q hq => ⟨e _ (h.fb q hq).1,(h.fb q hq).2⟩,h.sf⟩
theorem AuM.skip (h:AuM O A w sv fv n m gs hs) (hb:Below w.heap.size w w'):AuM (Sk O w.heap.size w'.heap.size) A w' sv fv n m gs hs:=by
 have h2:=h.keep (fun k _ hk => hb.block k hk)
 exact ⟨h2.box,⟨h.oA,Or.inl h.lt⟩,h2.so,h2.fo,fun q hq => ⟨⟨(h.sb q hq).1,Or.inl (own_lt h.so q hq)⟩,(h.sb q hq).2⟩,fun q hq => ⟨⟨(h.fb q hq).1,Or.inl (own_lt h.fo q hq)⟩,(h.fb q hq).2⟩,h.sf⟩
theorem AuM.facts (h:AuM O A w sv fv n m gs hs):w.cell? ⟨A,0,none⟩ = some sv∧w.cell? ⟨A,1,none⟩ = some fv∧w.frozen? ⟨A,0,none⟩ = false∧w.frozen? ⟨A,1,none⟩ = false:=by
 obtain ⟨F,hF,h0,h1⟩ := h.box
 exact ⟨by rw [hF.cell (by omega),h0],by rw [hF.cell (by omega),h1],hF.frozen 0,hF.frozen 1⟩
theorem AuM.pushS {W w7:World} {g cap H:Nat} {x:Nat→Nat} (h:AuM O A w sv fv n m gs hs) (hW:Below w.heap.size w W) (hH:W.heap.size=H) (hO:∀ k,w.heap.size≤k→O k)
  (r1:w7.ownsRow 0 85 4 (.slice (some ⟨g,0,none⟩) (n+1) cap) (n+1) (flatF 4 n gs ++ [wd x 0,wd x 1,wd x 2,wd x 3])) (r2:W.grownBy w7 sv.ownBlock) (r3:sv.ownBlock=some g∨g=H) :
  AuM O A (w7.setCell ⟨A,0,none⟩ (.slice (some ⟨g,0,none⟩) (n+1) cap)) (.slice (some ⟨g,0,none⟩) (n+1) cap) fv (n+1) m (fun i => if i=n then x else gs i) hs∧FrO O w (w7.setCell ⟨A,0,none⟩ (.slice (some ⟨g,0,none⟩) (n+1) cap))∧FrO O w w7∧w7.frozen? ⟨A,0,none⟩ = false∧w7.cell? ⟨A,0,none⟩ = some sv:=by
 have hz:=hW.size
 have hgA:g ≠ A:=by
  rcases r3 with r3 | r3
  ·exact (h.sb g r3).2
  ·have:=h.lt; omega
 have hOg:O g:=by
  rcases r3 with r3 | r3
  ·exact (h.sb g r3).1
  ·exact hO g (by omega)
 have k7:∀ k,k<w.heap.size→sv.ownBlock ≠ some k→w7.heap[k]? = w.heap[k]? := fun k hk hne => (r2.block k (by omega) (fun e => hne e.symm)).trans (hW.block k hk)
 have kA:w7.heap[A]? = w.heap[A]? := k7 A h.lt (fun e => (h.sb A e).2 rfl)
 have hsz7:=r2.size
 obtain ⟨F,hF,h0,h1⟩ := h.box
 have hF7:=hF.of_block kA
 have fr7:FrO O w w7:=⟨r2.os.trans hW.os,r2.tape.trans hW.tape,r2.output.trans hW.output,by omega,fun k hk => by
  have hk2:k<w.heap.size:=by apply Nat.lt_of_not_le; intro e; exact hk (hO k e)
  exact k7 k hk2 (fun e => hk (h.sb k e).1)⟩
 refine ⟨⟨⟨_,hF7.set 0 _,by simp,by simp [h1]⟩,h.oA,?_,?_,fun q hq => ?_,h.fb,fun q hq hf => ?_⟩,?_,fr7,hF7.frozen 0,by rw [hF7.cell (by omega),h0]⟩
 ·have e:flatF 4 (n+1) (fun i => if i=n then x else gs i)=flatF 4 n gs ++ [wd x 0,wd x 1,wd x 2,wd x 3]:=by
   rw [flatF_next _ _ (by omega),flatF_congr (h:=gs) (by omega) (fun i hi => by rw [if_neg (by omega)])]
   simp [List.range_succ]
  rw [e]
  exact own_blk r1 (fun q hq => by cases hq; exact Below.heap_setCell _ _ _ _ (by show g ≠ A; exact hgA))
 ·exact own_blk h.fo (fun q hq => (Below.heap_setCell _ _ _ _ (by show q ≠ A; exact (h.fb q hq).2)).trans (k7 q (own_lt h.fo q hq) (fun e => h.sf q e hq)))
 ·cases hq; exact ⟨hOg,hgA⟩
 ·cases hq
  rcases r3 with r3 | r3
  ·exact h.sf g r3 hf
  ·have:=own_lt h.fo g hf; omega
 ·exact ⟨fr7.os,fr7.tape,fr7.output,by rw [sz_put]; exact fr7.size,fun k hk => (Below.heap_setCell _ _ _ _ (by show k ≠ A; exact fun e => hk (e ▸ h.oA))).trans (fr7.block k hk)⟩
theorem AuM.pushF {W w7:World} {g cap H:Nat} {x:Nat→Nat} (h:AuM O A w sv fv n m gs hs) (hW:Below w.heap.size w W) (hH:W.heap.size=H) (hO:∀ k,w.heap.size≤k→O k) (hx:hs m=x)
  (r1:w7.ownsRow 0 99 8 (.slice (some ⟨g,0,none⟩) (m+1) cap) (m+1) (flatF 8 m hs ++ [wd x 0,wd x 1,wd x 2,wd x 3,wd x 4,wd x 5,wd x 6,wd x 7])) (r2:W.grownBy w7 fv.ownBlock) (r3:fv.ownBlock=some g∨g=H) :
  AuM O A (w7.setCell ⟨A,1,none⟩ (.slice (some ⟨g,0,none⟩) (m+1) cap)) sv (.slice (some ⟨g,0,none⟩) (m+1) cap) n (m+1) gs hs∧FrO O w (w7.setCell ⟨A,1,none⟩ (.slice (some ⟨g,0,none⟩) (m+1) cap))∧FrO O w w7∧w7.frozen? ⟨A,1,none⟩ = false∧w7.cell? ⟨A,1,none⟩ = some fv:=by
 have hz:=hW.size
 have hgA:g ≠ A:=by
  rcases r3 with r3 | r3
  ·exact (h.fb g r3).2
  ·have:=h.lt; omega
 have hOg:O g:=by
  rcases r3 with r3 | r3
  ·exact (h.fb g r3).1
  ·exact hO g (by omega)
 have k7:∀ k,k<w.heap.size→fv.ownBlock ≠ some k→w7.heap[k]? = w.heap[k]? := fun k hk hne => (r2.block k (by omega) (fun e => hne e.symm)).trans (hW.block k hk)
 have kA:w7.heap[A]? = w.heap[A]? := k7 A h.lt (fun e => (h.fb A e).2 rfl)
 have hsz7:=r2.size
 obtain ⟨F,hF,h0,h1⟩ := h.box
 have hF7:=hF.of_block kA
 have fr7:FrO O w w7:=⟨r2.os.trans hW.os,r2.tape.trans hW.tape,r2.output.trans hW.output,by omega,fun k hk => by
  have hk2:k<w.heap.size:=by apply Nat.lt_of_not_le; intro e; exact hk (hO k e)
  exact k7 k hk2 (fun e => hk (h.fb k e).1)⟩
 refine ⟨⟨⟨_,hF7.set 1 _,by simp [h0],by simp⟩,h.oA,?_,?_,h.sb,fun q hq => ?_,fun q hq hf => ?_⟩,?_,fr7,hF7.frozen 1,by rw [hF7.cell (by omega),h1]⟩
 ·exact own_blk h.so (fun q hq => (Below.heap_setCell _ _ _ _ (by show q ≠ A; exact (h.sb q hq).2)).trans (k7 q (own_lt h.so q hq) (fun e => h.sf q hq e)))
 ·have e:flatF 8 (m+1) hs=flatF 8 m hs ++ [wd x 0,wd x 1,wd x 2,wd x 3,wd x 4,wd x 5,wd x 6,wd x 7]:=by
   rw [flatF_next _ _ (by omega),hx]
   simp [List.range_succ]
  rw [e]
  exact own_blk r1 (fun q hq => by cases hq; exact Below.heap_setCell _ _ _ _ (by show g ≠ A; exact hgA))
 ·cases hq; exact ⟨hOg,hgA⟩
 ·cases hf
  rcases r3 with r3 | r3
  ·exact h.sf g hq r3
  ·have:=own_lt h.so g hq; omega
 ·exact ⟨fr7.os,fr7.tape,fr7.output,by rw [sz_put]; exact fr7.size,fun k hk => (Below.heap_setCell _ _ _ _ (by show k ≠ A; exact fun e => hk (e ▸ h.oA))).trans (fr7.block k hk)⟩
theorem AuM.folRow (h:AuM O A w sv fv n m gs hs) {i:Nat} (hi:i<m):∃ g cap M F,fv = .slice (some ⟨g,0,none⟩) m cap∧O g∧g<w.heap.size∧w.rowIs g 99 M F∧i * 8+8≤M∧(∀ j,j<8→F (i * 8+j)=wd (hs i) j) ∧
  ∀ (w':World) (x:Nat→Nat),w'.rowIs g 99 M (fun k => if i * 8≤k∧k<i * 8+8 then wd x (k - i * 8) else F k)→Obk g w w'→AuM O A w' sv fv n m gs (fun j => if j=i then x else hs j):=by
 obtain ⟨g,cap,M,F,rfl,hlt,hr,hM,hF,hback⟩ := own_row h.fo (by omega)
 refine ⟨g,cap,M,F,rfl,(h.fb g rfl).1,hlt,hr,by omega,fun j hj => ?_,fun w' x hr' hob => ?_⟩
 ·have h1:=hF (i * 8+j) (by omega)
  rw [flatF_at _ _ _ (by omega),show (i * 8+j) / 8=i by omega,show (i * 8+j) % 8=j by omega] at h1
  exact (Option.some.inj h1).symm
 ·obtain ⟨F0,hF0,h0,h1⟩ := h.box
  refine ⟨⟨F0,hF0.of_block (hob.block A (fun e => (h.fb g rfl).2 e.symm)),h0,h1⟩,h.oA,own_blk h.so (fun q hq => hob.block q (fun e => h.sf q hq (by rw [e]; rfl))),?_,h.sb,h.fb,h.sf⟩
  refine hback w' _ _ hr' (flatF_len _ _ _) (fun k hk => ?_)
  rw [flatF_at _ _ _ hk]
  by_cases e:i * 8≤k∧k<i * 8+8
  ·rw [if_pos e,if_pos (by omega),show k % 8=k - i * 8 by omega]
  ·rw [if_neg e,if_neg (by omega)]
   have h2:=hF k hk
   rw [flatF_at _ _ _ hk] at h2
   exact h2
end
def BitsOf (f:Nat→Nat) (xs:List Nat):Prop:=Fit f∧∀ b,Bt f b=xs.contains b
def AuAt (O:Nat→Prop) (A:Nat) (w:World) (N:Nat) (S:List (List Int)) (K:List Lk):Prop :=
 ∃ sv fv gs hs,AuM O A w sv fv N N gs hs∧S.length=N∧(∀ i,i<N→Canon (S[i]?.getD [])∧WordsOf (S[i]?.getD []) (gs i))∧(∀ i,Fit (hs i))∧(∀ i j,Bt (hs i) j=mkd K i j)∧∀ i,N≤i→hs i=fun _ => 0
def TzO (O:Nat→Prop) (w:World):Prop:=TZ w∧Tryz.laysTZ_ren.g 1<w.heap.size∧¬ O (Tryz.laysTZ_ren.g 1)
section
variable {O O':Nat→Prop} {A N:Nat} {w w':World} {S:List (List Int)} {K K':List Lk}
theorem AuAt.mono (h:AuAt O A w N S K) (e:∀ k,O k→O' k):AuAt O' A w N S K:=by
 obtain ⟨sv,fv,gs,hs,h1,h2⟩ := h
 exact ⟨sv,fv,gs,hs,h1.mono e,h2⟩
theorem AuAt.keep (h:AuAt O A w N S K) (e:∀ k,O k→k<w.heap.size→w'.heap[k]? = w.heap[k]?):AuAt O A w' N S K:=by
 obtain ⟨sv,fv,gs,hs,h1,h2⟩ := h
 exact ⟨sv,fv,gs,hs,h1.keep e,h2⟩
theorem AuAt.skip (h:AuAt O A w N S K) (hb:Below w.heap.size w w'):AuAt (Sk O w.heap.size w'.heap.size) A w' N S K:=by
 obtain ⟨sv,fv,gs,hs,h1,h2⟩ := h
 exact ⟨sv,fv,gs,hs,h1.skip hb,h2⟩
theorem AuAt.same (h:AuAt O A w N S K) (e:∀ i j,mkd K i j=mkd K' i j):AuAt O A w N S K':=by
 obtain ⟨sv,fv,gs,hs,h1,h2,h3,h4,h5,h6⟩ := h
 exact ⟨sv,fv,gs,hs,h1,h2,h3,h4,fun i j => (h5 i j).trans (e i j),h6⟩
theorem TzO.fr (h:TzO O w) (hf:FrO O w w'):TzO O w':=⟨h.1.same (hf.block _ h.2.2),Nat.lt_of_lt_of_le h.2.1 hf.size,h.2.2⟩
theorem TzO.less (h:TzO O w) (e:∀ k,O' k→O k):TzO O' w:=⟨h.1,h.2.1,fun q => h.2.2 (e _ q)⟩
theorem TzO.below (h:TzO O w) (hb:Below w.heap.size w w'):TzO O w':=⟨h.1.below hb h.2.1,Nat.lt_of_lt_of_le h.2.1 hb.size,h.2.2⟩
end
theorem mem_bl {f:Nat→Nat} {xs:List Nat} (h:BitsOf f xs) (hx:∀ x ∈ xs,x<512) (i:Nat):(blN f 512).contains i=xs.contains i:=by
 rw [Bool.eq_iff_iff,List.contains_iff_mem,List.contains_iff_mem]
 unfold blN
 rw [List.mem_filter,List.mem_range,h.2 i,List.contains_iff_mem]
 exact ⟨fun q => q.2,fun q => ⟨hx i q,q⟩⟩
theorem eight_row (w:World) (t:TypeId) (g:Nat→Nat):(w.alloc (.cells #[.int .u64 (g 0:Nat),.int .u64 (g 1:Nat),.int .u64 (g 2:Nat),.int .u64 (g 3:Nat),.int .u64 (g 4:Nat),.int .u64 (g 5:Nat),.int .u64 (g 6:Nat),.int .u64 (g 7:Nat)] t)).rowIs w.heap.size t 8 (wd g):=by
 refine World.rowIs_alloc w #[.int .u64 (g 0:Nat),.int .u64 (g 1:Nat),.int .u64 (g 2:Nat),.int .u64 (g 3:Nat),.int .u64 (g 4:Nat),.int .u64 (g 5:Nat),.int .u64 (g 6:Nat),.int .u64 (g 7:Nat)] t (wd g) ?_
 intro i hi
 match i,hi with
 | 0,_ => rfl
 | 1,_ => rfl
 | 2,_ => rfl
 | 3,_ => rfl
 | 4,_ => rfl
 | 5,_ => rfl
 | 6,_ => rfl
 | 7,_ => rfl
abbrev o8 (g:Nat→Nat):Obj:=.cells #[.int .u64 (g 0:Nat),.int .u64 (g 1:Nat),.int .u64 (g 2:Nat),.int .u64 (g 3:Nat),.int .u64 (g 4:Nat),.int .u64 (g 5:Nat),.int .u64 (g 6:Nat),.int .u64 (g 7:Nat)] 99
set_option maxHeartbeats 4000000 in
set_option maxRecDepth 100000 in
theorem link_any (O:Nat→Prop) (A N:Nat) (S:List (List Int)) (K:List Lk) (f g:Nat→Nat) (xs ys:List Nat) (w:World) (h:AuAt O A w N S K) (hO:∀ k,w.heap.size≤k→O k) (htz:TzO O w) (hf:BitsOf f xs) (hg:BitsOf g ys) (hx:∀ x ∈ xs,x<N) (hN:N≤512) :
  Calls Tryz.prog 82 #[.pointer (some ⟨A,0,none⟩),ps8 f,ps8 g] w fun e w' => e = .returned (.tuple #[])∧AuAt O A w' N S (K ++ [(xs,ys)])∧FrO O w w':=by
 have HC:=hide (mem_bl hf (fun x h => Nat.lt_of_lt_of_le (hx x h) hN))
 have hlf:=blN_len f 512
 have HF:=hide hf
 have HG:=hide hg
 have HX:=hide hx
 have hR2:((w.alloc (o8 f)).alloc (o8 g)).rowIs (w.heap.size+1) 99 8 (wd g):=by
  have:=eight_row (w.alloc (o8 f)) 99 g
  rwa [sz_alloc] at this
 have hB1:Below w.heap.size w ((w.alloc (o8 f)).alloc (o8 g)):=below2 w _ _
 have hL:=list_any f hf.1 ((w.alloc (o8 f)).alloc (o8 g)) (htz.below hB1).1 (htz.below hB1).2.1
 have HL:=hide hL
 have hz1:((w.alloc (o8 f)).alloc (o8 g)).heap.size=w.heap.size+2:=by rw [sz_alloc,sz_alloc]
 have HH:=hide h
 have HO:=hide hO
 have HR:=hide hR2
 unfold ps8
 clear hf hg hx h hO hR2 hL htz
 go_enter Tryz.func82,Tryz.ntmps82
 go_wp2_with fail
 refine (unhide HL).mono ?_
 rintro e w2 ⟨lv,rfl,ho,hb2⟩
 obtain ⟨X,hX⟩ : ∃ X,X=blN f 512:=⟨_,rfl⟩
 rw [← hX] at ho HC hlf
 have hB2:Below w.heap.size w w2:=hB1.trans (hb2.mono (by omega))
 have HR2:=hide ((unhide HR).of_block (hb2.block _ (by omega)))
 obtain ⟨la,lc,rfl,hrd⟩ := own_far ho rfl (by omega)
 have HRD:=hide hrd
 have HA2:=hide ((unhide HH).skip hB2)
 have hz2:=hb2.size
 clear ho hrd hb2 HL HR hX HH hB1
 go_wp2_with fail
 go_loopw [11] (fun iv wr => ∃ x:Nat,x≤X.length∧iv = .int .i64 x∧AuAt (Sk O w.heap.size w2.heap.size) A wr N S (K ++ [(X.take x,ys)])∧FrO (Sk O w.heap.size w2.heap.size) w2 wr) (fun iv _ => X.length - (intOf iv).toNat)
 case atStart => exact ⟨0,Nat.zero_le _,rfl,(unhide HA2).same (fun i j => by rw [List.take_zero,mkd_none]),FrO.refl _ _⟩
 case round =>
  clear HA2
  obtain ⟨x,hx,rfl,hA,hfr⟩ := hrel
  by_cases hlt:x<X.length
  ·have hlt':(x:Int)<(X.length:Int):=by omega
   obtain ⟨q,o,rfl,hq1,hq2,hcell⟩ := unhide HRD (by omega)
   have hnO:∀ k,w.heap.size≤k→k<w2.heap.size→wr.heap[k]? = w2.heap[k]? := fun k h1 h2 => hfr.block k (fun e => by rcases e.2 with e | e <;> omega)
   have c0:=hcell wr (hnO q (by omega) hq2) x hlt
   have hi:X[x]<N:=unhide HX _ (by
    have h1:X.contains X[x]=true:=List.contains_iff_mem.2 (List.getElem_mem hlt)
    rw [unhide HC] at h1
    exact List.contains_iff_mem.1 h1)
   obtain ⟨i,hiX⟩ : ∃ i,i=X[x]:=⟨_,rfl⟩
   rw [← hiX] at c0 hi
   have HIX:=hide hiX
   obtain ⟨sv,fv,gs,hs,hM,hn,hset,hfit,hbt,hzero⟩ := hA
   obtain ⟨g2,cap,M,F,rfl,hOg,hglt,hrow,hMi,hFi,hback⟩ := hM.folRow hi
   obtain ⟨-,c1,-,-⟩ := hM.facts
   have hi':(i:Int)<(N:Int):=by omega
   have hne:g2 ≠ w.heap.size+1:=fun e => by rcases hOg.2 with q | q <;> omega
   have hJ:=join_any g2 (i * 8) M (w.heap.size+1) 0 8 _ _ F (wd g) (hs i) g wr (hfit i) (unhide HG).1 hne hrow hFi hMi ((unhide HR2).of_block (hnO _ (by omega) (by omega))) (fun j hj => by rw [Nat.zero_add]) (by omega)
   have HJ:=hide hJ
   have HSET:=hide hset
   have HFIT:=hide hfit
   have HBT:=hide hbt
   have HZ:=hide hzero
   have HBK:=hide hback
   have HFR:=hide hfr
   clear hJ hM hset hfit hbt hzero hrow hFi hback hfr hcell hiX hnO
   go_wp2_with fail
   refine (unhide HJ).mono ?_
   rintro e w3 ⟨rfl,hr3,hob⟩
   have hM3:=unhide HBK w3 _ hr3 hob
   have HA3:Hid (AuAt (Sk O w.heap.size w2.heap.size) A w3 N S (K ++ [(X.take (x+1),ys)])):=by
    refine ⟨_,_,gs,_,hM3,hn,unhide HSET,fun a => ?_,fun a b => ?_,fun a ha => ?_⟩
    ·(try dsimp only)
     split
     ·exact fit_or (unhide HFIT i) (unhide HG).1
     ·exact unhide HFIT a
    ·have e1:mkd (K ++ [(X.take (x+1),ys)]) a b=(mkd (K ++ [(X.take x,ys)]) a b || (decide (a=i) && ys.contains b)):=by
      rw [mkd_app,mkd_app,mkd_one,mkd_one,Bool.or_assoc]
      congr 1
      rw [List.take_add_one,List.getElem?_eq_getElem hlt,unhide HIX]
      simp only [Option.toList_some,List.contains_append]
      rw [Bool.and_or_distrib_right]
      congr 1
      simp
     rw [e1]
     (try dsimp only)
     by_cases ea:a=i
     ·subst ea
      rw [if_pos rfl,bt_or,unhide HBT,(unhide HG).2]
      simp
     ·rw [if_neg ea,unhide HBT]
      simp [ea]
    ·(try dsimp only)
     rw [if_neg (by omega)]
     exact unhide HZ a ha
   have HF3:=hide ((unhide HFR).trans (hob.fro hOg))
   clear hr3 hob hM3 HJ HBK HFR HBT HFIT HSET HZ
   go_wp2
   go_roundw
   case rel => exact ⟨x+1,by omega,by go_num,unhide HA3,unhide HF3⟩
   case measure => simp [intOf]; omega
  ·have ex:x=X.length:=by omega
   subst ex
   rw [List.take_length] at hA
   have HA3:Hid (AuAt O A wr N S (K ++ [(xs,ys)])):=(hA.mono Sk.sub).same (fun i j => by rw [mkd_app,mkd_app,mkd_one,mkd_one,unhide HC])
   have HF3:Hid (FrO O w wr):=(fro_of hB2 (unhide HO)).trans (hfr.mono Sk.sub)
   clear hA hfr
   go_wp2
   first | (refine bodyPost_ret (results_none rfl _ _ _) rfl ?_) | (refine bodyPost_end (results_none rfl _ _ _) rfl ?_)
   exact ⟨rfl,unhide HA3,unhide HF3⟩
theorem Tryz.zinBS:(Tryz.prog.info? 85).map (fun i => (i.zero,i.size,i.bytes))=some (some (.agg #[.int .u64 0,.int .u64 0,.int .u64 0,.int .u64 0]),4,32):=by kernel_rfl
theorem Tryz.zinPS:(Tryz.prog.info? 99).map (fun i => (i.zero,i.size,i.bytes))=some (some (.agg #[.int .u64 0,.int .u64 0,.int .u64 0,.int .u64 0,.int .u64 0,.int .u64 0,.int .u64 0,.int .u64 0]),8,64):=by kernel_rfl
def endV (b:Bool) (f l:Nat→Nat):Value:=.agg #[.bool b,.int .u64 (f 0:Nat),.int .u64 (f 1:Nat),.int .u64 (f 2:Nat),.int .u64 (f 3:Nat),.int .u64 (f 4:Nat),.int .u64 (f 5:Nat),.int .u64 (f 6:Nat),.int .u64 (f 7:Nat),.int .u64 (l 0:Nat),.int .u64 (l 1:Nat),.int .u64 (l 2:Nat),.int .u64 (l 3:Nat),.int .u64 (l 4:Nat),.int .u64 (l 5:Nat),.int .u64 (l 6:Nat),.int .u64 (l 7:Nat)]
abbrev oE (b:Bool) (f l:Nat→Nat):Obj:=.cells #[.bool b,.int .u64 (f 0:Nat),.int .u64 (f 1:Nat),.int .u64 (f 2:Nat),.int .u64 (f 3:Nat),.int .u64 (f 4:Nat),.int .u64 (f 5:Nat),.int .u64 (f 6:Nat),.int .u64 (f 7:Nat),.int .u64 (l 0:Nat),.int .u64 (l 1:Nat),.int .u64 (l 2:Nat),.int .u64 (l 3:Nat),.int .u64 (l 4:Nat),.int .u64 (l 5:Nat),.int .u64 (l 6:Nat),.int .u64 (l 7:Nat)] 101
abbrev oE0:Obj:=.cells #[.bool false,.int .u64 0,.int .u64 0,.int .u64 0,.int .u64 0,.int .u64 0,.int .u64 0,.int .u64 0,.int .u64 0,.int .u64 0,.int .u64 0,.int .u64 0,.int .u64 0,.int .u64 0,.int .u64 0,.int .u64 0,.int .u64 0] 101
abbrev o80:Obj:=.cells #[.int .u64 0,.int .u64 0,.int .u64 0,.int .u64 0,.int .u64 0,.int .u64 0,.int .u64 0,.int .u64 0] 99
abbrev o4 (g:Nat→Nat):Obj:=.cells #[.int .u64 (g 0:Nat),.int .u64 (g 1:Nat),.int .u64 (g 2:Nat),.int .u64 (g 3:Nat)] 85
def endF (b:Bool) (f l:Nat→Nat):Nat→Value:=fun k => if k=0 then .bool b else if k<9 then wd f (k - 1) else wd l (k - 9)
def EndAt (w:World) (B:Nat) (b:Bool) (f l:Nat→Nat):Prop:=w.rowIs B 101 17 (endF b f l)
def z8:Nat→Nat:=fun _ => 0
theorem z8_fit:Fit z8:=fun _ => by show 0<18446744073709551616; omega
theorem end_new (w:World) (b:Bool) (f l:Nat→Nat):EndAt (w.alloc (oE b f l)) w.heap.size b f l:=by
 refine World.rowIs_alloc w #[.bool b,.int .u64 (f 0:Nat),.int .u64 (f 1:Nat),.int .u64 (f 2:Nat),.int .u64 (f 3:Nat),.int .u64 (f 4:Nat),.int .u64 (f 5:Nat),.int .u64 (f 6:Nat),.int .u64 (f 7:Nat),.int .u64 (l 0:Nat),.int .u64 (l 1:Nat),.int .u64 (l 2:Nat),.int .u64 (l 3:Nat),.int .u64 (l 4:Nat),.int .u64 (l 5:Nat),.int .u64 (l 6:Nat),.int .u64 (l 7:Nat)] 101 (endF b f l) ?_
 intro i hi
 match i,hi with
 | 0,_ => rfl
 | 1,_ => rfl
 | 2,_ => rfl
 | 3,_ => rfl
 | 4,_ => rfl
 | 5,_ => rfl
 | 6,_ => rfl
 | 7,_ => rfl
 | 8,_ => rfl
 | 9,_ => rfl
 | 10,_ => rfl
 | 11,_ => rfl
 | 12,_ => rfl
 | 13,_ => rfl
 | 14,_ => rfl
 | 15,_ => rfl
 | 16,_ => rfl
 | n+17,h => exact absurd h (by show ¬ (n+17<17); omega)
theorem end_new0 (w:World):EndAt (w.alloc oE0) w.heap.size false z8 z8:=end_new w false z8 z8
theorem eight_new0 (w:World):(w.alloc o80).rowIs w.heap.size 99 8 (wd z8):=eight_row w 99 z8
theorem EndAt.on {w w':World} {B:Nat} {b:Bool} {f l:Nat→Nat} (h:EndAt w B b f l) (e:w'.heap[B]? = w.heap[B]?):EndAt w' B b f l:=World.rowIs.of_block h e
theorem EndAt.cell {w:World} {B:Nat} {b:Bool} {f l:Nat→Nat} (h:EndAt w B b f l) (k:Nat) (hk:k<17):w.cell? ⟨B,k,none⟩ = some (endF b f l k):=World.rowIs.cell h hk
abbrev s17 (w:World) (B:Nat) (b:Bool) (f l:Nat→Nat):World:=(((((((((((((((((w).setCell ⟨B,0,none⟩ (.bool b)).setCell ⟨B,1,none⟩ (.int .u64 (f 0:Nat))).setCell ⟨B,2,none⟩ (.int .u64 (f 1:Nat))).setCell ⟨B,3,none⟩ (.int .u64 (f 2:Nat))).setCell ⟨B,4,none⟩ (.int .u64 (f 3:Nat))).setCell ⟨B,5,none⟩ (.int .u64 (f 4:Nat))).setCell ⟨B,6,none⟩ (.int .u64 (f 5:Nat))).setCell ⟨B,7,none⟩ (.int .u64 (f 6:Nat))).setCell ⟨B,8,none⟩ (.int .u64 (f 7:Nat))).setCell ⟨B,9,none⟩ (.int .u64 (l 0:Nat))).setCell ⟨B,10,none⟩ (.int .u64 (l 1:Nat))).setCell ⟨B,11,none⟩ (.int .u64 (l 2:Nat))).setCell ⟨B,12,none⟩ (.int .u64 (l 3:Nat))).setCell ⟨B,13,none⟩ (.int .u64 (l 4:Nat))).setCell ⟨B,14,none⟩ (.int .u64 (l 5:Nat))).setCell ⟨B,15,none⟩ (.int .u64 (l 6:Nat))).setCell ⟨B,16,none⟩ (.int .u64 (l 7:Nat))
theorem s17_end {w:World} {B:Nat} {F:Nat→Value} (h:w.rowIs B 101 17 F) (b:Bool) (f l:Nat→Nat):EndAt (s17 w B b f l) B b f l:=by
 have h2:=(((((((((((((((((h).set 0 (.bool b)).set 1 (.int .u64 (f 0:Nat))).set 2 (.int .u64 (f 1:Nat))).set 3 (.int .u64 (f 2:Nat))).set 4 (.int .u64 (f 3:Nat))).set 5 (.int .u64 (f 4:Nat))).set 6 (.int .u64 (f 5:Nat))).set 7 (.int .u64 (f 6:Nat))).set 8 (.int .u64 (f 7:Nat))).set 9 (.int .u64 (l 0:Nat))).set 10 (.int .u64 (l 1:Nat))).set 11 (.int .u64 (l 2:Nat))).set 12 (.int .u64 (l 3:Nat))).set 13 (.int .u64 (l 4:Nat))).set 14 (.int .u64 (l 5:Nat))).set 15 (.int .u64 (l 6:Nat))).set 16 (.int .u64 (l 7:Nat))
 refine h2.congr (fun k hk => ?_)
 match k,hk with
 | 0,_ => simp [endF]
 | 1,_ => simp [endF,wd]
 | 2,_ => simp [endF,wd]
 | 3,_ => simp [endF,wd]
 | 4,_ => simp [endF,wd]
 | 5,_ => simp [endF,wd]
 | 6,_ => simp [endF,wd]
 | 7,_ => simp [endF,wd]
 | 8,_ => simp [endF,wd]
 | 9,_ => simp [endF,wd]
 | 10,_ => simp [endF,wd]
 | 11,_ => simp [endF,wd]
 | 12,_ => simp [endF,wd]
 | 13,_ => simp [endF,wd]
 | 14,_ => simp [endF,wd]
 | 15,_ => simp [endF,wd]
 | 16,_ => simp [endF,wd]
 | n+17,h => exact absurd h (by omega)
theorem s17_ob (w:World) (B:Nat) (b:Bool) (f l:Nat→Nat):Obk B w (s17 w B b f l):=(((((((((((((((((Obk.refl _ _).trans (obk_put _ _)).trans (obk_put _ _)).trans (obk_put _ _)).trans (obk_put _ _)).trans (obk_put _ _)).trans (obk_put _ _)).trans (obk_put _ _)).trans (obk_put _ _)).trans (obk_put _ _)).trans (obk_put _ _)).trans (obk_put _ _)).trans (obk_put _ _)).trans (obk_put _ _)).trans (obk_put _ _)).trans (obk_put _ _)).trans (obk_put _ _)).trans (obk_put _ _)
theorem EndAt.blk {w:World} {B:Nat} {b:Bool} {f l:Nat→Nat} (h:EndAt w B b f l):w.heap[B]? = some (.cells #[.bool b,.int .u64 (f 0:Nat),.int .u64 (f 1:Nat),.int .u64 (f 2:Nat),.int .u64 (f 3:Nat),.int .u64 (f 4:Nat),.int .u64 (f 5:Nat),.int .u64 (f 6:Nat),.int .u64 (f 7:Nat),.int .u64 (l 0:Nat),.int .u64 (l 1:Nat),.int .u64 (l 2:Nat),.int .u64 (l 3:Nat),.int .u64 (l 4:Nat),.int .u64 (l 5:Nat),.int .u64 (l 6:Nat),.int .u64 (l 7:Nat)] 101):=by
 obtain ⟨cur,h1,h2,h3⟩ := h
 rw [h1]
 congr 2
 refine Array.ext (by rw [h2]; rfl) (fun i hi hj => ?_)
 have h4:=h3 i (by omega)
 rw [Array.getElem?_eq_getElem hi] at h4
 rw [Option.some.inj h4]
 have hi2:i<17:=by omega
 match i,hi2 with
 | 0,_ => rfl
 | 1,_ => rfl
 | 2,_ => rfl
 | 3,_ => rfl
 | 4,_ => rfl
 | 5,_ => rfl
 | 6,_ => rfl
 | 7,_ => rfl
 | 8,_ => rfl
 | 9,_ => rfl
 | 10,_ => rfl
 | 11,_ => rfl
 | 12,_ => rfl
 | 13,_ => rfl
 | 14,_ => rfl
 | 15,_ => rfl
 | 16,_ => rfl
 | n+17,h => exact absurd h (by omega)
theorem end_ret {w:World} {B:Nat} {b:Bool} {f l:Nat→Nat} (h:EndAt w B b f l) {fn:Func} {p:Tmp} (hr:fn.results = #[.cell p 101]) (tmps:Array Value) (hp:tmps.getD p undef = .pointer (some ⟨B,0,none⟩)):(results fn tmps).run Tryz.prog w = .ok (endV b f l) w :=
 results_cell_row hr tmps w B _ _ _ _ hp h.blk Tryz.underlying101 rfl (by kernel_rfl)
theorem bits_put0 (N:Nat):BitsOf (putW z8 N) [N]:=by
 refine ⟨fit_put z8_fit N,fun b => ?_⟩
 have h:=bt_put z8 N b
 unfold putW
 rw [h]
 simp [Bt,z8]
end Go.Proofs.YtlidckepahpaeaaGreatDoor
