import Derived.Test.YtlidckepahpaeaaGreatDoorPk27
import Derived.Test.YtlidckepahpaeaaGreatDoorPk30
import Derived.Test.YtlidckepahpaeaaGreatDoorPk22
import Derived.Test.YtlidckepahpaeaaGreatDoorPk21
import Derived.BigRegion
import Derived.Deep.RegionWith
import Derived.Test.YtlidckepahpaeaaGreatDoorPk23
namespace Go.Proofs.YtlidckepahpaeaaGreatDoor
open Go.RowKit
structure NbAt (w4 w:World) (mp nb n:Nat) (key:Nat→Nat) (ds ns fs:List Nat) (fv:Value):Prop where
 num:NumAt 3 w mp (ds.map mN)
 nr:RowN w nb n (fun s => ns[s]?.getD 0)
 fo:w.ownsRow w4.heap.size 3 1 fv fs.length (fs.map mN)
 nl:NumL key ds ns fs
 fr:FrO (fun k => k=mp∨k=nb∨w4.heap.size≤k) w4 w
 lt:mp<w4.heap.size∧nb<w4.heap.size∧mp ≠ nb
theorem NbAt.fl {w4 w:World} {mp nb n:Nat} {key:Nat→Nat} {ds ns fs:List Nat} {fv:Value} (h:NbAt w4 w mp nb n key ds ns fs fv):ds.length≤ns.length:=by
 have:=h.nl.num1
 refine Nat.le_of_not_lt fun hlt => ?_
 have h1:((List.range ds.length).map (fun j => fs[j]?.getD 0)).Nodup:=by
  rw [List.nodup_iff_pairwise_ne,List.pairwise_map]
  refine (List.nodup_range (n:=ds.length)).imp_of_mem (fun {a b} ha hb hne he => hne ?_)
  have ha:=List.mem_range.1 ha
  have hb:=List.mem_range.1 hb
  rw [← (h.nl.fr a ha).2,← (h.nl.fr b hb).2,he]
 have h2:=nodup_le ns.length _ h1 (fun x hx => by
  obtain ⟨a,ha,rfl⟩ := List.mem_map.1 hx
  exact (h.nl.fr a (List.mem_range.1 ha)).1)
 simp at h2
 omega
structure OtAt (w5 w:World) (c:Nat) (cl kv nv av:Value) (ys:List Nat) (zs:List Bool):Prop where
 out:Row4 w c 29 cl kv nv av
 on:w.ownsRow w5.heap.size 3 1 nv ys.length (ys.map mN)
 oa:w.ownsRow w5.heap.size 4 1 av zs.length (zs.map mT)
 na:∀ r,nv.ownBlock=some r→av.ownBlock ≠ some r
 fr:FrO (OneB w5 c) w5 w
 lt:c<w5.heap.size
theorem OtAt.keep {w5 w w':World} {c:Nat} {cl kv nv av:Value} {ys:List Nat} {zs:List Bool} (h:OtAt w5 w c cl kv nv av ys zs) (hb:Below w.heap.size w w'):OtAt w5 w' c cl kv nv av ys zs :=
 have hz:=h.fr.size
 ⟨h.out.below hb (by have:=h.lt; omega),own_blk h.on (fun r hr => hb.block r (own_lt h.on r hr)),own_blk h.oa (fun r hr => hb.block r (own_lt h.oa r hr)),h.na,h.fr.trans (fro_of hb (fun k hk => .inr (by omega))),h.lt⟩
theorem OtAt.pushN {w5 w W w2:World} {c:Nat} {cl kv nv av v':Value} {ys:List Nat} {zs:List Bool} {x:Nat} (h:OtAt w5 w c cl kv nv av ys zs) (hW:Below w.heap.size w W) (r1:w2.ownsRow w5.heap.size 3 1 v' (ys ++ [x]).length ((ys ++ [x]).map mN)) (r2:W.grownBy w2 nv.ownBlock) (r3:∀ q,v'.ownBlock=some q→nv.ownBlock=some q∨w.heap.size≤q) :
  w2.cell? ⟨c,2,none⟩ = some nv∧w2.frozen? ⟨c,2,none⟩ = false∧OtAt w5 (w2.setCell ⟨c,2,none⟩ v') c cl kv v' av (ys ++ [x]) zs:=by
 have hz:=h.fr.size
 have hlt:=h.lt
 have k2:=grown_old hW r2
 have hzW:=hW.size
 have hz2:=r2.size
 have nq:∀ k,k<w5.heap.size→nv.ownBlock ≠ some k:=fun k hk e => by have:=(h.on.lt k e).1; omega
 have ho2:Row4 w2 c 29 cl kv nv av:=World.rowIs.of_block h.out (k2 _ (by omega) (nq _ (by omega)))
 have ks:∀ k,k ≠ c→(w2.setCell ⟨c,2,none⟩ v').heap[k]? = w2.heap[k]? := fun k hk => Below.heap_setCell _ _ _ _ (by show k ≠ c; exact hk)
 refine ⟨ho2.facts.2.2.1,World.rowIs.frozen ho2 2,ho2.put2,own_blk r1 (fun r hr => ks r (by have:=(r1.lt r hr).1; omega)),own_blk h.oa (fun r hr => ?_),fun r hr => ?_,⟨r2.os.trans (hW.os.trans h.fr.os),r2.tape.trans (hW.tape.trans h.fr.tape),r2.output.trans (hW.output.trans h.fr.output),by rw [sz_put]; omega,fun k hk => ?_⟩,hlt⟩
 ·have:=h.oa.lt r hr
  rw [ks r (by omega)]
  exact k2 r this.2 (fun e => h.na r e hr)
 ·rcases r3 r hr with e | e
  ·exact h.na r e
  ·exact fun e2 => by have:=own_lt h.oa r e2; omega
 ·have k1:k ≠ c:=fun e => hk (.inl e)
  have k3:k<w5.heap.size:=Nat.lt_of_not_le fun e => hk (.inr e)
  rw [ks k k1,k2 k (by omega) (nq k k3)]
  exact h.fr.block k hk
theorem OtAt.pushA {w5 w W w2:World} {c:Nat} {cl kv nv av v':Value} {ys:List Nat} {zs:List Bool} {x:Bool} (h:OtAt w5 w c cl kv nv av ys zs) (hW:Below w.heap.size w W) (r1:w2.ownsRow w5.heap.size 4 1 v' (zs ++ [x]).length ((zs ++ [x]).map mT)) (r2:W.grownBy w2 av.ownBlock) (r3:∀ q,v'.ownBlock=some q→av.ownBlock=some q∨w.heap.size≤q) :
  w2.cell? ⟨c,3,none⟩ = some av∧w2.frozen? ⟨c,3,none⟩ = false∧OtAt w5 (w2.setCell ⟨c,3,none⟩ v') c cl kv nv v' ys (zs ++ [x]):=by
 have hz:=h.fr.size
 have hlt:=h.lt
 have k2:=grown_old hW r2
 have hzW:=hW.size
 have hz2:=r2.size
 have nq:∀ k,k<w5.heap.size→av.ownBlock ≠ some k:=fun k hk e => by have:=(h.oa.lt k e).1; omega
 have ho2:Row4 w2 c 29 cl kv nv av:=World.rowIs.of_block h.out (k2 _ (by omega) (nq _ (by omega)))
 have ks:∀ k,k ≠ c→(w2.setCell ⟨c,3,none⟩ v').heap[k]? = w2.heap[k]? := fun k hk => Below.heap_setCell _ _ _ _ (by show k ≠ c; exact hk)
 refine ⟨ho2.facts.2.2.2.1,World.rowIs.frozen ho2 3,ho2.put3',own_blk h.on (fun r hr => ?_),own_blk r1 (fun r hr => ks r (by have:=(r1.lt r hr).1; omega)),fun r hr e2 => ?_,⟨r2.os.trans (hW.os.trans h.fr.os),r2.tape.trans (hW.tape.trans h.fr.tape),r2.output.trans (hW.output.trans h.fr.output),by rw [sz_put]; omega,fun k hk => ?_⟩,hlt⟩
 ·have:=h.on.lt r hr
  rw [ks r (by omega)]
  exact k2 r this.2 (fun e => h.na r hr e)
 ·rcases r3 r e2 with e | e
  ·exact h.na r hr e
  ·have:=own_lt h.on r hr; omega
 ·have k1:k ≠ c:=fun e => hk (.inl e)
  have k3:k<w5.heap.size:=Nat.lt_of_not_le fun e => hk (.inr e)
  rw [ks k k1,k2 k (by omega) (nq k k3)]
  exact h.fr.block k hk
theorem snoc_row {ns:List Nat} {i x:Nat} (hi:ns.length=i):∀ s,upd (fun s => ns[s]?.getD 0) i x s=(ns ++ [x])[s]?.getD 0:=fun s => by
 by_cases e:s=i
 ·subst e; rw [upd_at,← hi]; simp
 ·rw [upd_ne _ e]
  by_cases h:s<ns.length
  ·rw [List.getElem?_append_left h]
  ·rw [List.getElem?_eq_none (by omega),List.getElem?_eq_none (by simp; omega)]
theorem NbAt.at7 {w4 w w7:World} {mp nb n:Nat} {key:Nat→Nat} {ds ns fs:List Nat} {fv:Value} (h:NbAt w4 w mp nb n key ds ns fs fv) (hF:FrO (OneB w mp) w w7):RowN w7 nb n (fun s => ns[s]?.getD 0)∧w7.ownsRow w4.heap.size 3 1 fv fs.length (fs.map mN)∧FrO (fun k => k=mp∨k=nb∨w4.heap.size≤k) w4 w7:=by
 have hz:=h.fr.size
 obtain ⟨l1,l2,l3⟩ := h.lt
 refine ⟨h.nr.on (hF.block _ (by rintro (e | e) <;> omega)),own_blk h.fo (fun r hr => hF.block r ?_),h.fr.trans (hF.mono (fun k hk => by rcases hk with e | e; exact .inl e; exact .inr (.inr (by omega))))⟩
 have:=h.fo.lt r hr
 rintro (e | e) <;> omega
theorem NbAt.store {w4 w8:World} {mp nb n i x:Nat} {key:Nat→Nat} {ds ns fs:List Nat} {fv:Value} (hi:ns.length=i) (hl:mp<w4.heap.size∧nb<w4.heap.size∧mp ≠ nb) (h1:NumAt 3 w8 mp (ds.map mN)) (h2:RowN w8 nb n (fun s => ns[s]?.getD 0)) (h3:w8.ownsRow w4.heap.size 3 1 fv fs.length (fs.map mN)) (h4:FrO (fun k => k=mp∨k=nb∨w4.heap.size≤k) w4 w8) (h5:NumL key ds (ns ++ [x]) fs) :
  NbAt w4 (w8.setCell ⟨nb,i,none⟩ (.int .i64 (x:Nat))) mp nb n key ds (ns ++ [x]) fs fv:=by
 have ks:∀ k,k ≠ nb→(w8.setCell ⟨nb,i,none⟩ (.int .i64 (x:Nat))).heap[k]? = w8.heap[k]? := fun k hk => Below.heap_setCell _ _ _ _ (by show k ≠ nb; exact hk)
 obtain ⟨l1,l2,l3⟩ := hl
 exact ⟨h1.keep (ks _ l3),(h2.put i x).congr (fun j _ => snoc_row hi j),own_blk h3 (fun r hr => ks r (by have:=(h3.lt r hr).1; omega)),h5,h4.trans ((obk_put _ _).fro (.inr (.inl rfl))),l1,l2,l3⟩
def msY (A:Tb) (num F:Nat→Nat) (l:Nat):List Nat:=(List.range l).map (fun t => num (A.nx (F (t / A.k)) (t % A.k)))
def msZ (A:Tb) (F:Nat→Nat) (j:Nat):List Bool:=(List.range j).map (fun i => A.ac (F i))
theorem msY_next (A:Tb) (num F:Nat→Nat) {j c:Nat} (hc:c<A.k):msY A num F (j * A.k+(c+1))=msY A num F (j * A.k+c) ++ [num (A.nx (F j) c)]:=by
 unfold msY
 rw [← Nat.add_assoc,List.range_succ,List.map_append,List.map_singleton,(row_at hc).1,(row_at hc).2]
theorem msZ_next (A:Tb) (F:Nat→Nat) (j:Nat):msZ A F (j+1)=msZ A F j ++ [A.ac (F j)]:=by simp [msZ,List.range_succ]
set_option maxHeartbeats 4000000 in
set_option maxRecDepth 100000 in
theorem mergeStates_any (A:Tb) (cl:Value) (b off cN ab ao ca:Nat) (w:World) (hw:A.Wf) (hf:A.Full) (hn:A.n≤1024) (hk:1≤A.k∧A.k≤256) (hcN:A.n * A.k≤cN) (hb:b<w.heap.size) (hx:NxAt w b off A.n A.k A.nx)
  (hab:ab<w.heap.size) (hac:∀ q,q<A.n→w.cell? ⟨ab,ao+q,none⟩ = some (.bool (A.ac q))) (hcl:∃ a n c,cl = .slice a n c) :
  Calls Tryz.prog 55 #[.agg #[cl,.int .i64 (A.k:Nat),.slice (some ⟨b,off,none⟩) (A.n * A.k) cN,.slice (some ⟨ab,ao,none⟩) A.n ca]] w fun e w' => ∃ nv av,e = .returned (.agg #[cl,.int .i64 (A.k:Nat),nv,av])∧Below w.heap.size w w' ∧
   ∃ (m:Nat) (num F:Nat→Nat),Num1 A.n m num F∧(∀ p q,p<A.n→q<A.n→(num p=num q↔Tel A A p q))∧m≤A.n∧w'.ownsRow w.heap.size 3 1 nv (m * A.k) ((msY A num F (m * A.k)).map mN)∧w'.ownsRow w.heap.size 4 1 av m ((msZ A F m).map mT)∧∀ r,nv.ownBlock=some r→av.ownBlock ≠ some r:=by
 obtain ⟨i0,hi0,hz0,hz1,hz2⟩ := info_parts Tryz.zinInt
 obtain ⟨ca0,cl0,cc0,rfl⟩ := hcl
 have hn1:1≤A.n:=hw.pos
 have hLn:A.n * A.k≤1024 * 256:=Nat.mul_le_mul hn hk.2
 obtain ⟨W2,hW2⟩ : ∃ W2,W2=(w.alloc (.cells #[.slice ca0 cl0 cc0,.int .i64 (A.k:Nat),.slice (some ⟨b,off,none⟩) (A.n * A.k) cN,.slice (some ⟨ab,ao,none⟩) A.n ca] 29)).alloc (.cells #[.slice none 0 0,.int .i64 0,.slice none 0 0,.slice none 0 0] 29):=⟨_,rfl⟩
 have hB2:Below w.heap.size w W2:=by rw [hW2]; exact below2 w _ _
 have hsz2:W2.heap.size=w.heap.size+2:=by rw [hW2,sz_alloc,sz_alloc]
 have hD2:Row4 W2 w.heap.size 29 (.slice ca0 cl0 cc0) (.int .i64 (A.k:Nat)) (.slice (some ⟨b,off,none⟩) (A.n * A.k) cN) (.slice (some ⟨ab,ao,none⟩) A.n ca):=by rw [hW2]; exact (Row4.new w _ _ _ _ _).alloc _
 have hE2:Row4 W2 (w.heap.size+1) 29 (.slice none 0 0) (.int .i64 0) (.slice none 0 0) (.slice none 0 0):=by
  have:=Row4.new (w.alloc (.cells #[.slice ca0 cl0 cc0,.int .i64 (A.k:Nat),.slice (some ⟨b,off,none⟩) (A.n * A.k) cN,.slice (some ⟨ab,ao,none⟩) A.n ca] 29)) 29 (.slice none 0 0) (.int .i64 0) (.slice none 0 0) (.slice none 0 0)
  rw [sz_alloc] at this
  rw [hW2]
  exact this
 have HTE:=hide (tellApart_any A (.slice ca0 cl0 cc0) b off cN ab ao ca W2 hw hf hn hk hcN (by omega) (fun q c hq hc => ⟨(hx q c hq hc).1,by rw [hB2.cell (p:=⟨b,off+(q * A.k+c),none⟩) hb]; exact (hx q c hq hc).2⟩) (by omega) (fun q hq => by rw [hB2.cell (p:=⟨ab,ao+q,none⟩) hab]; exact hac q hq))
 obtain ⟨L,hL⟩ : ∃ L,L=A.n * A.k:=⟨_,rfl⟩
 rw [← hL] at hcN hLn hD2 hW2 ⊢
 rw [← hL] at HTE
 obtain ⟨f0,f1,f2,f3,-⟩ := hD2.facts
 have HL:=hide hL
 have HX:=hide hx
 have HAC:=hide hac
 have HW2:=hide hW2
 have HB2:=hide hB2
 have HD2:=hide hD2
 have HE2:=hide hE2
 clear hL hx hac hW2 hB2 hD2 hE2
 go_enter Tryz.func55,Tryz.ntmps55
 go_wp2_with fail
 rw [← unhide HW2]
 refine (unhide HTE).mono ?_
 rintro e w3 ⟨bb,bc,rfl,hB3,hbb,bs,hRb,hTel,hbsn⟩
 have hz3:=hB3.size
 have hlb:=hRb.lt
 obtain ⟨f0,f1,f2,f3,-⟩ := ((unhide HD2).below hB3 (by omega)).facts
 have HB3:=hide hB3
 have HRB:=hide hRb
 have HTEL:=hide hTel
 have HBN:=hide hbsn
 obtain ⟨W4,hW4⟩ : ∃ W4,W4=w3.alloc (.cells #[.slice ca0 cl0 cc0,.int .i64 (A.k:Nat),.slice none 0 0,.slice none 0 0] 29):=⟨_,rfl⟩
 have HN:=hide (newI_any W4)
 have HW4:=hide hW4
 have hsz4:W4.heap.size=w3.heap.size+1:=by rw [hW4,sz_alloc]
 have HO4:Hid (Row4 W4 w3.heap.size 29 (.slice ca0 cl0 cc0) (.int .i64 (A.k:Nat)) (.slice none 0 0) (.slice none 0 0)):=by
  show Row4 _ _ _ _ _ _ _
  rw [hW4]; exact Row4.new w3 _ _ _ _ _
 have HB4:Hid (Below w3.heap.size w3 W4):=by
  show Below _ _ _
  rw [hW4]; exact below1 w3 _
 clear hW4 HTE HW2 hB3 hRb hTel hbsn
 go_wp2_with fail
 rw [← unhide HW4]
 refine (unhide HN).mono ?_
 rintro e w5 ⟨rfl,hN5,hz5,hB5⟩
 rw [hsz4] at hN5 hz5 ⊢
 have hmk:=run_make_row' (P:=Tryz.prog) 26 3 (.int .i64 0) 8 Tryz.underlying26 Tryz.zinInt rfl .i64 .i64 A.n (by omega) (by omega)
 obtain ⟨W6,hW6⟩ : ∃ W6,W6=(w5.alloc (.cells #[.map (some (w3.heap.size+1+1))] 165)).alloc (.cells (madeCells #[.int .i64 0] A.n) 3):=⟨_,rfl⟩
 have HW6:=hide hW6
 have hb56:Below w5.heap.size w5 W6:=by rw [hW6]; exact below2 w5 _ _
 have hb46:Below W4.heap.size W4 W6:=hB5.trans (hb56.mono (by omega))
 have hsz6:W6.heap.size=w3.heap.size+5:=by rw [hW6,sz_alloc,sz_alloc]; omega
 have hkb6:W6.rowIs (w3.heap.size+3) 165 1 (fun _ => .map (some (w3.heap.size+2))):=by
  have:=World.rowIs_alloc w5 #[.map (some (w3.heap.size+1+1))] 165 (fun _ => .map (some (w3.heap.size+1+1))) (fun j hj => by
   match j,hj with
   | 0,_ => rfl)
  rw [hz5] at this
  rw [hW6]
  exact this.alloc _
 have hnr6:RowN W6 (w3.heap.size+4) A.n (fun s => ([]:List Nat)[s]?.getD 0):=by
  have:=World.rowIs_made (w5.alloc (.cells #[.map (some (w3.heap.size+1+1))] 165)) (.int .i64 0) A.n 3
  rw [sz_alloc,hz5] at this
  rw [hW6]
  exact ⟨_,_,this,Nat.le_refl _,fun j hj => rfl⟩
 have hb36:Below w3.heap.size w3 W6:=(unhide HB4).trans (hb46.mono (by omega))
 have hNb:NbAt W6 W6 (w3.heap.size+2) (w3.heap.size+4) A.n bs [] [] [] (.slice none 0 0):=⟨hN5.keep (hb56.block _ (by omega)),hnr6,World.ownsRow_nil _ _ _ _,NumL.nil _,FrO.refl _ _,by omega,by omega,by omega⟩
 have HNB:=hide hNb
 have HKB:=hide hkb6
 have HRB6:=hide ((unhide HRB).on (hb36.block _ hlb))
 have HO6:=hide ((unhide HO4).below hb46 (by omega))
 have HB36:=hide hb36
 clear HN HW4 hW6 hN5 hB5 hb56 hb46 hkb6 hnr6 hb36 hNb HRB HO4 HB4
 go_wp2_with fail
 rw [← unhide HW6]
 clear HW6 hmk f0 f1 f2 f3
 simp only [Nat.add_assoc,Nat.reduceAdd]
 go_loopw [7,29] (fun fv iv wr => ∃ (i:Nat) (ds ns fs:List Nat),i≤A.n∧iv = .int .i64 (i:Nat)∧ns.length=i∧NbAt W6 wr (w3.heap.size+2) (w3.heap.size+4) A.n bs ds ns fs fv) (fun _ iv _ => A.n - (intOf iv).toNat)
 case atStart => exact ⟨0,[],[],[],by omega,rfl,rfl,unhide HNB⟩
 case round =>
  clear HNB
  obtain ⟨i,ds,ns,fs,hi,rfl,hns,hNb⟩ := hrel
  by_cases hlt:i<A.n
  ·have hlt':(i:Int)<(A.n:Int):=by omega
   have hds:=hNb.fl
   have hzr:=hNb.fr.size
   have u0:wr.cell? ⟨w3.heap.size+3,0,none⟩ = some (.map (some (w3.heap.size+2))):=((unhide HKB).of_block (hNb.fr.block _ (by rintro (h | h | h) <;> omega))).cell (by omega)
   have y0:wr.cell? ⟨bb,i,none⟩ = some (.int .i64 (bs i:Nat)):=((unhide HRB6).on (hNb.fr.block bb (by rintro (h | h | h) <;> omega))).cell hlt
   have hbi:=unhide HBN i hlt
   have HOF:=hide (ofI_any (w3.heap.size+2) (bs i:Nat) (ds.map mN) wr hNb.num (by omega) (by omega) (by rw [List.length_map]; omega))
   have HNB:=hide hNb
   have hfs:fs.length≤1024:=by have:=hNb.nl.fl; omega
   obtain ⟨fa,fc,e7⟩ := own_is hNb.fo
   subst e7
   clear hNb
   go_wp2_with fail
   refine (unhide HOF).mono ?_
   rintro e w7 ⟨num,ks',f,rfl,hR,hN7,hF7⟩
   obtain ⟨q1,q2,q3⟩ := (unhide HNB).at7 hF7
   have hz7:=hF7.size
   rcases hR with ⟨h1,rfl,h2,rfl⟩ | ⟨h1,rfl,rfl,rfl⟩
   ·have hnum:=mN_get h2
    have hST:=NbAt.store (x:=num) hns (unhide HNB).lt hN7 q1 q2 q3 ((unhide HNB).nl.old (by rw [hns]; exact hnum))
    have c1:=q1.cell hlt
    have c2:=q1.frozen i
    have HST:=hide hST
    clear hST q1 q2 q3 hN7 hF7 hnum h1 h2 HOF u0 y0
    go_wp2
    go_roundw
    case rel => exact ⟨i+1,ds,ns ++ [num],fs,by omega,by go_num,by rw [List.length_append,hns]; rfl,unhide HST⟩
    case measure => simp [intOf]; omega
   ·have hnew:bs i ∉ ds:=fun hm => h1 (mN_mem.2 hm)
    rw [List.length_map]
    have HQ1:=hide q1
    have HQ2:=hide q2
    have HQ3:=hide q3
    have HN7:=hide hN7
    have HNW:=hide hnew
    clear q1 q2 q3 hN7 hF7 hnew h1 HOF u0 y0
    go_wp2_with (at_builtin; refine wpList_append_own_at _ rfl _ _ 26 rfl W6.heap.size 3 i0 (.int .i64 0) 1 8 Tryz.underlying26 hi0 hz0 hz1 hz2 rfl (by decide) _ _ _ rfl ((unhide HQ2).alloc _) ⟨w7.heap.size,0,none⟩ 1 1 [.int .i64 (i:Nat)] rfl rfl ?_ ?_ ?_ ?_ ?_ ?_)
    ·exact cell_1 (cell_new _ _ _)
    ·intro u hu; simp at hu; subst hu; rfl
    ·unfold maxLen; omega
    ·omega
    ·rw [sz_alloc]; omega
    intro v' w8 r1 r2 _ r3
    have hz8:=r2.size
    rw [sz_alloc] at hz8
    have k2:=grown_old (below1 w7 _) r2
    have nq:∀ k,k<W6.heap.size→(Value.slice fa fs.length fc).ownBlock ≠ some k:=fun k hk e => by have:=((unhide HQ2).lt k e).1; omega
    obtain ⟨l1,l2,l3⟩ := (unhide HNB).lt
    have q1:=(unhide HQ1).on (k2 _ (by omega) (nq _ l2))
    have hST:=NbAt.store (x:=ds.length) (ds:=ds ++ [bs i]) (fs:=fs ++ [i]) hns (unhide HNB).lt (by
      have:=unhide HN7
      rw [List.map_append]
      exact this.keep (k2 _ (by omega) (nq _ l1))) q1 (by rw [List.length_append,List.map_append,hsz6]; exact r1) ((unhide HQ3).trans ⟨r2.os,r2.tape,r2.output,by omega,fun k hk => k2 k (by have:=Nat.lt_of_not_le (fun e => hk (.inr (.inr e))); omega) (nq k (Nat.lt_of_not_le (fun e => hk (.inr (.inr e)))))⟩) (by
      have:=(unhide HNB).nl.new (fun j hj e => by
       rw [hns] at e
       exact unhide HNW (List.mem_of_getElem? e))
      rw [hns] at this
      exact this)
    obtain ⟨va,vc,rfl⟩ := own_is r1
    have c1:=q1.cell hlt
    have c2:=q1.frozen i
    have HST:=hide hST
    clear hST q1 r1 r2 r3 k2 nq HQ1 HQ2 HQ3 HN7
    go_wp2
    go_roundw
    case rel => exact ⟨i+1,ds ++ [bs i],ns ++ [ds.length],fs ++ [i],by omega,by go_num,by rw [List.length_append,hns]; rfl,unhide HST⟩
    case measure => simp [intOf]; omega
  ·have hlt':¬ (i:Int)<(A.n:Int):=by omega
   obtain rfl:i=A.n:=by omega
   obtain ⟨w5',rfl⟩ : ∃ w5',w5'=wr:=⟨_,rfl⟩
   have hz5':=hNb.fr.size
   have hnum1:=hNb.nl.num1
   have hfl:=hNb.nl.fl
   have hds:=hNb.fl
   obtain ⟨fa,fc,e7⟩ := own_is hNb.fo
   subst e7
   have hb5:∀ k,k<w3.heap.size+2→w5'.heap[k]? = W6.heap[k]? := fun k hk => hNb.fr.block k (by rintro (h | h | h) <;> omega)
   have hOt:OtAt w5' w5' w3.heap.size (.slice ca0 cl0 cc0) (.int .i64 (A.k:Nat)) (.slice none 0 0) (.slice none 0 0) [] []:=⟨World.rowIs.of_block (unhide HO6) (hb5 _ (by omega)),World.ownsRow_nil _ _ _ _,World.ownsRow_nil _ _ _ _,(fun r hr => by cases hr),FrO.refl _ _,by omega⟩
   have hlow:∀ k,k<W2.heap.size→w5'.heap[k]? = W2.heap[k]? := fun k hk => (hb5 k (by omega)).trans (((unhide HB36).block k (by omega)).trans ((unhide HB3).block k hk))
   obtain ⟨m,hm⟩ : ∃ m,m=fs.length:=⟨_,rfl⟩
   obtain ⟨num,hnum⟩ : ∃ num:Nat→Nat,num=fun s => ns[s]?.getD 0:=⟨_,rfl⟩
   obtain ⟨F,hF⟩ : ∃ F:Nat→Nat,F=fun j => fs[j]?.getD 0:=⟨_,rfl⟩
   rw [hns,← hfl,← hm,← hnum,← hF] at hnum1
   have hmn:m≤A.n:=by omega
   have htel:∀ p q,p<A.n→q<A.n→(num p=num q↔Tel A A p q):=fun p q hp hq => by
    rw [hnum,hNb.nl.eq_iff (by omega) (by omega)]
    exact unhide HTEL p q hp hq
   have hnr:=hNb.nr
   rw [← hnum] at hnr
   have hfo:=hNb.fo
   rw [← hm] at hfo
   have hD5:=World.rowIs.of_block (unhide HD2) (hlow w.heap.size (by omega))
   have hE5:=World.rowIs.of_block (unhide HE2) (hlow (w.heap.size+1) (by omega))
   have HT5:Hid (∀ W,FrO (OneB w5' w3.heap.size) w5' W→Row4 W w.heap.size 29 (.slice ca0 cl0 cc0) (.int .i64 (A.k:Nat)) (.slice (some ⟨b,off,none⟩) L cN) (.slice (some ⟨ab,ao,none⟩) A.n ca)∧Below w.heap.size w W∧RowN W (w3.heap.size+4) A.n num∧∀ j,j<m→F j<A.n∧∃ fb c2,fa=some ⟨fb,0,none⟩∧fc=c2∧W.cell? ⟨fb,j,none⟩ = some (.int .i64 (F j:Nat))):=fun W hW => by
    have hk:∀ k,k<w5'.heap.size→k ≠ w3.heap.size→W.heap[k]? = w5'.heap[k]? := fun k h1 h2 => hW.block k (by rintro (h | h) <;> omega)
    have hzW:=hW.size
    refine ⟨World.rowIs.of_block hD5 (hk _ (by omega) (by omega)),⟨?_,?_,?_,by have:=(unhide HB2).size; omega,fun k h1 => ?_⟩,hnr.on (hk _ (by omega) (by omega)),fun j hj => ?_⟩
    ·exact hW.os.trans (hNb.fr.os.trans ((unhide HB36).os.trans ((unhide HB3).os.trans (unhide HB2).os)))
    ·exact hW.tape.trans (hNb.fr.tape.trans ((unhide HB36).tape.trans ((unhide HB3).tape.trans (unhide HB2).tape)))
    ·exact hW.output.trans (hNb.fr.output.trans ((unhide HB36).output.trans ((unhide HB3).output.trans (unhide HB2).output)))
    ·exact (hk k (by omega) (by omega)).trans ((hlow k (by omega)).trans ((unhide HB2).block k h1))
    ·obtain ⟨g,cap,e,hc⟩ := own_at hfo (by omega)
     have hl:=hfo.lt
     cases e
     have hg:=hl g rfl
     refine ⟨by have:=(hnum1.fst j hj).1; exact this,g,_,rfl,rfl,?_⟩
     rw [World.cell?_of_block (a:=⟨g,j,none⟩) (hk g (by omega) (by omega)),hc j hj,List.getElem?_map,List.getElem?_eq_getElem (by omega),hF]
     simp [mN,mI,List.getElem?_eq_getElem (show j<fs.length by omega)]
   have HOT:=hide hOt
   have HN1:=hide hnum1
   have HTL:=hide htel
   have HE5:=hide hE5
   rw [← hm]
   clear hNb hb5 hOt hlow hnum1 htel hnr hfo hD5 hE5 hfl hm hnum hF HKB HRB6 HO6 HB36 HB3 HTEL HBN HD2 HE2 HB2
   go_wp2_with fail
   go_loopw [52] (fun jv wr => ∃ (j:Nat) (nv av:Value),j≤m∧jv = .int .i64 (j:Nat)∧OtAt w5' wr w3.heap.size (.slice ca0 cl0 cc0) (.int .i64 (A.k:Nat)) nv av (msY A num F (j * A.k)) (msZ A F j)) (fun jv _ => m - (intOf jv).toNat)
   case atStart => exact ⟨0,_,_,by omega,rfl,by rw [Nat.zero_mul]; exact unhide HOT⟩
   case round =>
    clear HOT
    obtain ⟨j,nv,av,hj,rfl,hO⟩ := hrel
    obtain ⟨w8,rfl⟩ : ∃ w8,w8=wr:=⟨_,rfl⟩
    by_cases hjm:j<m
    ·have hjm':(j:Int)<(m:Int):=by omega
     obtain ⟨hD,hBw,hNr,hFj⟩ := unhide HT5 w8 hO.fr
     obtain ⟨hsn,fb,c2,rfl,rfl,y0⟩ := hFj j hjm
     obtain ⟨d0,d1,d2,d3,-⟩ := hD.facts
     obtain ⟨g0,g1,g2,g3,-⟩ := hO.out.facts
     have y1:w8.cell? ⟨ab,ao+F j,none⟩ = some (.bool (A.ac (F j))):=by rw [hBw.cell (p:=⟨ab,ao+F j,none⟩) hab]; exact unhide HAC _ hsn
     obtain ⟨va,vc,e2⟩ := own_is hO.oa
     have hzl:(msZ A F j).length=j:=by simp [msZ]
     rw [hzl] at e2
     have hoa:=hO.oa
     rw [hzl,e2] at hoa
     rw [e2] at g3
     obtain ⟨sj,hsj⟩ : ∃ sj,sj=F j:=⟨_,rfl⟩
     rw [← hsj] at y0 y1 hsn
     have hz8:=hO.fr.size
     have HO:=hide hO
     have HSJ:=hide hsj
     have HE2':=hide e2
     have HZL:=hide hzl
     have HG3:=hide g3
     have HD3:=hide d3
     have HY1:=hide y1
     have HOA:=hide hoa
     clear hO hD hBw hNr hFj hsj e2 hzl g0 g1 g2 g3 d0 d1 d2 d3 y1 hoa
     go_wp2_with fail
     refine merge_acc w8 w.heap.size w3.heap.size ab ao A.n ca sj j vc w5'.heap.size va (A.ac sj) _ hsn (by omega) (by omega) (by omega) (unhide HG3) (unhide HD3) (by rw [unhide HSJ]; rw [unhide HSJ] at HY1; exact unhide HY1) (unhide HOA) (fun WA w9 gg cap r1 r2 r3 hP => ?_)
     have hA:=(unhide HO).pushA (x:=A.ac sj) (v':=.slice (some ⟨gg,0,none⟩) (j+1) cap) hP.below (by rw [List.length_append,unhide HZL,List.map_append]; exact r1) (by rw [unhide HE2']; exact r2) (fun q hq => by
      rw [unhide HE2']
      have hq':gg=q:=Option.some.inj hq
      subst hq'
      rcases r3 with e | e
      ·exact .inl e
      ·exact .inr (by omega))
     rw [unhide HE2'] at hA
     refine ⟨hA.1,hA.2.1,?_⟩
     have hA3:=hA.2.2
     obtain ⟨w10,hw10⟩ : ∃ w10,w10=w9.setCell ⟨w3.heap.size,3,none⟩ (.slice (some ⟨gg,0,none⟩) (j+1) cap):=⟨_,rfl⟩
     rw [← hw10] at hA3 ⊢
     have hzt:msZ A F j ++ [A.ac sj]=msZ A F (j+1):=by rw [msZ_next,← unhide HSJ]
     rw [hzt] at hA3
     clear hA hw10 r1 r2 r3 hP hzt HG3 HD3 HY1 HOA HE2' HZL HO y0
     obtain ⟨hD,-,-,-⟩ := unhide HT5 w10 hA3.fr
     obtain ⟨d0,d1,d2,d3,-⟩ := hD.facts
     have hsL:(sj+1) * A.k≤L:=by rw [unhide HL]; exact Nat.mul_le_mul_right _ hsn
     have hrw:=row_any (.slice ca0 cl0 cc0) (.slice (some ⟨ab,ao,none⟩) A.n ca) b off L cN A.k sj w10 hsL (by omega) hcN (by omega) hk
     obtain ⟨rq,hrq⟩ : ∃ rq,rq=sj * A.k:=⟨_,rfl⟩
     rw [← hrq] at hrw
     have HRW:=hide hrw
     have HRQ:=hide hrq
     have HA3:=hide hA3
     clear hrw hrq hsL hA3 hD
     go_wp2_with fail
     refine (unhide HRW).mono ?_
     rintro e w11 ⟨rfl,hb11⟩
     have HR11:=hide ((unhide HA3).keep hb11)
     clear HA3 hb11 d0 d1 d2 d3 HRW
     go_wp2_with fail
     go_loopw [70] (fun cv wx => ∃ (c:Nat) (nv av:Value),c≤A.k∧cv = .int .i64 (c:Nat)∧OtAt w5' wx w3.heap.size (.slice ca0 cl0 cc0) (.int .i64 (A.k:Nat)) nv av (msY A num F (j * A.k+c)) (msZ A F (j+1))) (fun cv _ => A.k - (intOf cv).toNat)
     case atStart => exact ⟨0,_,_,by omega,rfl,unhide HR11⟩
     case round =>
      clear HR11
      obtain ⟨c,nv,av,hc,rfl,hO⟩ := hrel
      by_cases hcl:c<A.k
      ·have hcl':(c:Int)<(A.k:Int):=by omega
       obtain ⟨hD,hBw,hNr,-⟩ := unhide HT5 wr hO.fr
       obtain ⟨x1,x2⟩ := unhide HX sj c hsn hcl
       have y0:wr.cell? ⟨b,off+rq+c,none⟩ = some (.int .i64 (A.nx sj c:Nat)):=by rw [unhide HRQ,Nat.add_assoc,hBw.cell (p:=⟨b,off+(sj * A.k+c),none⟩) hb]; exact x2
       obtain ⟨g0,g1,g2,g3,-⟩ := hO.out.facts
       obtain ⟨na,nc,e1⟩ := own_is hO.on
       have hyb:(msY A num F (j * A.k+c)).length≤262144:=by
        have h1:(msY A num F (j * A.k+c)).length=j * A.k+c:=by simp [msY]
        have h2:=row_in (k:=A.k) (Nat.lt_of_lt_of_le hjm hmn) hcl
        rw [← unhide HL] at h2
        omega
       have hmY:=msY_next A num F (j:=j) hcl
       rw [← unhide HSJ] at hmY
       obtain ⟨Y,hY⟩ : ∃ Y,Y=msY A num F (j * A.k+c):=⟨_,rfl⟩
       rw [← hY] at e1 hyb hmY
       have hon:=hO.on
       rw [← hY,e1] at hon
       rw [e1] at g2
       obtain ⟨nxt,hnxt⟩ : ∃ y,y=A.nx sj c:=⟨_,rfl⟩
       rw [← hnxt] at y0 x1 hmY
       have k0:=hNr.cell x1
       have hzr:=hO.fr.size
       have HO:=hide hO
       have HE1:=hide e1
       have HMY:=hide hmY
       have HG2:=hide g2
       have HK0:=hide k0
       have HON:=hide hon
       have HYY:=hide hY
       clear hO hD hBw hNr x2 g0 g1 g2 g3 e1 hmY hY hnxt k0 hon
       go_wp2_with fail
       refine merge_num wr w3.heap.size (w3.heap.size+4) A.n A.n nxt (num nxt) Y.length nc w5'.heap.size na _ x1 (by omega) (by omega) (by omega) (unhide HG2) (unhide HK0) (unhide HON) (fun WA w12 gg2 cap2 r1 r2 r3 hP => ?_)
       have hP2:=unhide HO
       rw [← unhide HYY] at hP2
       have hA:=hP2.pushN (x:=num nxt) (v':=.slice (some ⟨gg2,0,none⟩) (Y.length+1) cap2) hP.below (by rw [List.length_append,List.map_append]; exact r1) (by rw [unhide HE1]; exact r2) (fun q hq => by
        rw [unhide HE1]
        have hq':gg2=q:=Option.some.inj hq
        subst hq'
        rcases r3 with e | e
        ·exact .inl e
        ·exact .inr (by omega))
       rw [unhide HE1] at hA
       refine ⟨hA.1,hA.2.1,?_⟩
       have HA:=hide hA.2.2
       clear hA hP2 r1 r2 r3 hP HG2 HK0 HON HO y0
       go_wp2
       go_roundw
       case rel => exact ⟨c+1,_,_,by omega,by go_num,by rw [unhide HMY]; exact unhide HA⟩
       case measure => simp [intOf]; omega
      ·have hcl':¬ (c:Int)<(A.k:Int):=by omega
       obtain rfl:c=A.k:=by omega
       have HO:=hide hO
       clear hO
       go_wp2
       go_roundw
       case rel => exact ⟨j+1,_,_,by omega,by go_num,by rw [Nat.add_mul,Nat.one_mul]; exact unhide HO⟩
       case measure => simp [intOf]; omega
    ·have hjm':¬ (j:Int)<(m:Int):=by omega
     obtain rfl:j=m:=by omega
     obtain ⟨hD,hBw,-,-⟩ := unhide HT5 w8 hO.fr
     obtain ⟨g0,g1,g2,g3,-⟩ := hO.out.facts
     have hz8:=hO.fr.size
     have hE8:Row4 w8 (w.heap.size+1) 29 (.slice none 0 0) (.int .i64 0) (.slice none 0 0) (.slice none 0 0):=World.rowIs.of_block (unhide HE5) (hO.fr.block _ (by rintro (h | h) <;> omega))
     obtain ⟨x0,x1,x2,x3,z0,z1,z2,z3⟩ := hE8.facts
     obtain ⟨na,nc,e1⟩ := own_is hO.on
     obtain ⟨va,vc,e2⟩ := own_is hO.oa
     have hyl:(msY A num F (j * A.k)).length=j * A.k:=by simp [msY]
     have hzl:(msZ A F j).length=j:=by simp [msZ]
     rw [hyl] at e1
     rw [hzl] at e2
     have hon:=hO.on
     have hoa:=hO.oa
     rw [hyl,e1] at hon
     rw [hzl,e2] at hoa
     have hna:=hO.na
     rw [e1,e2] at hna
     rw [e1] at g2
     rw [e2] at g3
     obtain ⟨yl,hyl2⟩ : ∃ yl,yl=j * A.k:=⟨_,rfl⟩
     rw [← hyl2] at g2 hon hna
     have hR4:=(((hE8.put0 (u:=.slice ca0 cl0 cc0)).put1 (u:=.int .i64 (A.k:Nat))).put2 (u:=.slice na yl nc)).put3' (u:=.slice va j vc)
     have hob:Obk (w.heap.size+1) w8 ((((w8.setCell ⟨w.heap.size+1,0,none⟩ (.slice ca0 cl0 cc0)).setCell ⟨w.heap.size+1,1,none⟩ (.int .i64 (A.k:Nat))).setCell ⟨w.heap.size+1,2,none⟩ (.slice na yl nc)).setCell ⟨w.heap.size+1,3,none⟩ (.slice va j vc)):=(((obk_put _ _).trans (obk_put _ _)).trans (obk_put _ _)).trans (obk_put _ _)
     have HR4:=hide hR4
     have HOB:=hide hob
     have HBW:=hide hBw
     have HON:=hide hon
     have HOA:=hide hoa
     have HNA:=hide hna
     have HY2:=hide hyl2
     clear hO hD hBw hE8 e1 e2 hyl hzl hon hoa hna hR4 hob hyl2
     go_wp2
     refine bodyPost_ret (dfa_ret (unhide HR4) rfl _ rfl) rfl ?_
     have hob:=unhide HOB
     have hbw:=unhide HBW
     refine ⟨_,_,rfl,⟨hob.os.trans hbw.os,hob.tape.trans hbw.tape,hob.output.trans hbw.output,by rw [hob.size]; exact hbw.size,fun k hk => (hob.block k (by omega)).trans (hbw.block k hk)⟩,j,num,F,unhide HN1,unhide HTL,hmn,?_,own_low (own_blk (unhide HOA) (fun r hr => hob.block r (by have:=((unhide HOA).lt r hr).1; omega))) (by omega),unhide HNA⟩
     rw [← unhide HY2]
     exact own_low (own_blk (unhide HON) (fun r hr => hob.block r (by have:=((unhide HON).lt r hr).1; omega))) (by omega)
def pN (p:Nat × Nat):Value:=ii (p.1:Int) (p.2:Int)
theorem pN_inj {p q:Nat × Nat} (h:pN p=pN q):p=q:=by
 simp only [pN,ii,Value.agg.injEq] at h
 have h1:(p.1:Int)=q.1∧(p.2:Int)=q.2:=by simpa using h
 exact Prod.ext (by omega) (by omega)
theorem pN_get {o:List (Nat × Nat)} {i:Nat} {x:Nat × Nat} (h:(o.map pN)[i]? = some (pN x)):o[i]? = some x:=by
 rw [List.getElem?_map] at h
 cases e:o[i]? with
 | none => rw [e] at h; cases h
 | some y =>
  rw [e] at h
  rw [pN_inj (Option.some.inj h)]
theorem pN_mem {o:List (Nat × Nat)} {x:Nat × Nat}:pN x ∈ o.map pN↔x ∈ o:=by
 constructor
 ·intro h
  obtain ⟨i,hi⟩ := List.getElem?_of_mem h
  exact List.mem_of_getElem? (pN_get hi)
 ·intro h
  exact List.mem_map.2 ⟨x,h,rfl⟩
structure PrAt (w4 w:World) (mp mb k:Nat) (key:Nat→Nat × Nat) (mg:Nat→Nat) (ds:List (Nat × Nat)) (ns fs:List Nat):Prop where
 num:NumAt 160 w mp (ds.map pN)
 nr:RowN w mb k (fun c => if c<ns.length then ns[c]?.getD 0 else mg c)
 nl:NumL key ds ns fs
 fr:FrO (fun k => k=mp∨k=mb∨w4.heap.size≤k) w4 w
 lt:mp<w4.heap.size∧mb<w4.heap.size∧mp ≠ mb
theorem numl_le {α:Type} {key:Nat→α} {ds:List α} {ns fs:List Nat} (h:NumL key ds ns fs):ds.length≤ns.length:=by
 refine Nat.le_of_not_lt fun hlt => ?_
 have h1:((List.range ds.length).map (fun j => fs[j]?.getD 0)).Nodup:=by
  rw [List.nodup_iff_pairwise_ne,List.pairwise_map]
  refine (List.nodup_range (n:=ds.length)).imp_of_mem (fun {a b} ha hb hne he => hne ?_)
  have ha:=List.mem_range.1 ha
  have hb:=List.mem_range.1 hb
  rw [← (h.fr a ha).2,← (h.fr b hb).2,he]
 have h2:=nodup_le ns.length _ h1 (fun x hx => by
  obtain ⟨a,ha,rfl⟩ := List.mem_map.1 hx
  exact (h.fr a (List.mem_range.1 ha)).1)
 simp at h2
 omega
theorem PrAt.step {w4 w w7:World} {mp mb k c:Nat} {key:Nat→Nat × Nat} {mg:Nat→Nat} {ds:List (Nat × Nat)} {ns fs:List Nat} {i:Nat} {f:Bool} {ks':List Value} (h:PrAt w4 w mp mb k key mg ds ns fs) (hc:ns.length=c) (hR:NumR (ds.map pN) (pN (key c)) ks' i f) (hN:NumAt 160 w7 mp ks') (hF:FrO (OneB w mp) w w7) :
  RowN w7 mb k (fun c => if c<ns.length then ns[c]?.getD 0 else mg c)∧∃ ds' fs',PrAt w4 (w7.setCell ⟨mb,c,none⟩ (.int .i64 (i:Nat))) mp mb k key mg ds' (ns ++ [i]) fs':=by
 have hz:=h.fr.size
 obtain ⟨l1,l2,l3⟩ := h.lt
 have hz7:=hF.size
 have q1:=h.nr.on (hF.block _ (by rintro (e | e) <;> omega))
 have q3:FrO (fun k => k=mp∨k=mb∨w4.heap.size≤k) w4 w7:=h.fr.trans (hF.mono (fun k hk => by rcases hk with e | e; exact .inl e; exact .inr (.inr (by omega))))
 have ks:∀ k,k ≠ mb→(w7.setCell ⟨mb,c,none⟩ (.int .i64 (i:Nat))).heap[k]? = w7.heap[k]? := fun k hk => Below.heap_setCell _ _ _ _ (by show k ≠ mb; exact hk)
 have q4:RowN (w7.setCell ⟨mb,c,none⟩ (.int .i64 (i:Nat))) mb k (fun c => if c<(ns ++ [i]).length then (ns ++ [i])[c]?.getD 0 else mg c):=(q1.put c i).congr (fun j _ => by
  by_cases e:j=c
  ·subst e; rw [upd_at,if_pos (by rw [List.length_append,hc]; simp),← hc]; simp
  ·rw [upd_ne _ e]
   by_cases e2:j<ns.length
   ·rw [if_pos e2,if_pos (by rw [List.length_append]; omega),List.getElem?_append_left e2]
   ·rw [if_neg e2,if_neg (by rw [List.length_append,List.length_singleton]; omega)])
 have q5:=q3.trans ((obk_put (w:=w7) (b:=mb) c (.int .i64 (i:Nat))).fro (.inr (.inl rfl)))
 refine ⟨q1,?_⟩
 rcases hR with ⟨h1,rfl,h2,rfl⟩ | ⟨h1,rfl,rfl,rfl⟩
 ·exact ⟨ds,fs,hN.keep (ks _ l3),q4,h.nl.old (by rw [hc]; exact pN_get h2),q5,l1,l2,l3⟩
 ·rw [List.length_map] at q4 q5 ks ⊢
  refine ⟨ds ++ [key c],fs ++ [c],?_,q4,?_,q5,l1,l2,l3⟩
  ·rw [List.map_append]; exact hN.keep (ks _ l3)
  ·have:=h.nl.new (fun j hj e => by
    rw [hc] at e
    exact h1 (pN_mem.2 (List.mem_of_getElem? e)))
   rw [hc] at this
   exact this
set_option maxHeartbeats 4000000 in
set_option maxRecDepth 100000 in
theorem class_of {u0 u1 u2 u4 u5 u9 u10 u11 u12 u13 u14 u15 u16 u17 u18 u19 u20 u21 u22 u23 u24 u25 u26 u27 u28 u29 u30 u31 u32 u33 u34 u35 u36 u37 u38 u39 u40 u41 u42 u43 u44 u45 u46 u47 u48 u49 u50 u51 u52 u53 u54 u55 u56 u57 u58 u59 u60 u61 u62 u63 u64 u65 u66 u67 u68 u69 u70 u71 u72 u73 u74 u75 u76 u77 u78 u79 u80 u81 u82 u83 u84 u85 u86 u87 u88 u89 u90 u91 u92 u93 u94 u95 u96 u97 u98 u99 u100 u101 u102 u103 u104 u105:Value} {K K1 K2 K3 L1 L2:Act→World→Prop} {n1 n2 n3 n4:Nat} {R:Ending→World→Prop} (w7:World) (kb mp mb k ck c x y:Nat) (Post:Nat→Bool→World→Prop) (hc:c<k)
  (hu:w7.cell? ⟨kb,0,none⟩ = some (.map (some mp))) (y1:w7.cell? ⟨mb,c,none⟩ = some (.int .i64 (x:Nat)))
  (hof:Calls Tryz.prog 88 #[.agg #[.map (some mp)],.agg #[.int .i64 (x:Nat),.int .i64 (y:Nat)]] w7.drew fun e w' => ∃ num f,e = .returned (.tuple #[.int .i64 (num:Nat),.bool f])∧Post num f w')
  (hps:∀ (num:Nat) (f:Bool) (w8:World),Post num f w8→(∃ v,w8.cell? ⟨mb,c,none⟩ = some v)∧w8.frozen? ⟨mb,c,none⟩ = false∧K { tmps:=#[u0,u1,u2,.slice (some ⟨mb,0,none⟩) k ck,u4,u5,.pointer (some ⟨kb,0,none⟩),.int .i64 (c:Nat),.int .i64 (y:Nat),u9,u10,u11,u12,u13,u14,u15,u16,u17,u18,u19,u20,u21,u22,u23,u24,u25,u26,u27,u28,u29,u30,u31,u32,u33,u34,.tuple #[.int .i64 (num:Nat),.bool f],.slice (some ⟨mb,0,none⟩) k ck,.int .i64 (c:Nat),.agg #[.map (some mp)],.slice (some ⟨mb,0,none⟩) k ck,.int .i64 (c:Nat),.pointer (some ⟨mb,c,none⟩),.int .i64 (x:Nat),.int .i64 (y:Nat),.agg #[.int .i64 (x:Nat),.int .i64 (y:Nat)],.tuple #[.int .i64 (num:Nat),.bool f],.int .i64 (num:Nat),.bool f,.pointer (some ⟨mb,c,none⟩),u49,u50,u51,u52,u53,u54,u55,u56,u57,u58,u59,u60,u61,u62,u63,u64,u65,u66,u67,u68,u69,u70,u71,u72,u73,u74,u75,u76,u77,u78,u79,u80,u81,u82,u83,u84,u85,u86,u87,u88,u89,u90,u91,u92,u93,u94,u95,u96,u97,u98,u99,u100,u101,u102,u103,u104,u105],defers := [] } (w8.setCell ⟨mb,c,none⟩ (.int .i64 (num:Nat)))) :
  Code.wp Tryz.prog (Code.region 10 #[{ dst:=some 36,op:=Op.move (Operand.tmp 3),type:=26,pos := "l2_dfa.go:479",after:=#[],guard:=none },{ dst:=some 37,op:=Op.move (Operand.tmp 7),type:=3,pos := "l2_dfa.go:479",after:=#[],guard:=none },{ dst:=some 38,op:=Op.load 158 (Operand.tmp 6),type:=158,pos := "l2_dfa.go:479",after:=#[],guard:=none },{ dst:=some 39,op:=Op.move (Operand.tmp 3),type:=26,pos := "l2_dfa.go:479",after:=#[],guard:=none },{ dst:=some 40,op:=Op.move (Operand.tmp 7),type:=3,pos := "l2_dfa.go:479",after:=#[],guard:=none },{ dst:=some 41,op:=Op.indexAddr 26 (Operand.tmp 39) (Operand.tmp 40),type:=0,pos := "l2_dfa.go:479",after:=#[{ on:=3,ground:=Ground.data },{ on:=4,ground:=Ground.data }],guard:=none },{ dst:=some 42,op:=Op.load 3 (Operand.tmp 41),type:=3,pos := "l2_dfa.go:479",after:=#[{ on:=5,ground:=Ground.data }],guard:=none },{ dst:=some 43,op:=Op.move (Operand.tmp 8),type:=3,pos := "l2_dfa.go:479",after:=#[],guard:=none },{ dst:=some 44,op:=Op.build 160 #[(0,Operand.tmp 42),(1,Operand.tmp 43)],type:=160,pos := "l2_dfa.go:479",after:=#[{ on:=6,ground:=Ground.data },{ on:=7,ground:=Ground.data }],guard:=none },{ dst:=some 45,op:=Op.call { callee:=Callee.value (Operand.func 88),args:=#[Operand.tmp 38,Operand.tmp 44],argTypes:=#[158,160] },type:=104,pos := "l2_dfa.go:479",after:=#[{ on:=2,ground:=Ground.data },{ on:=8,ground:=Ground.data }],guard:=none },{ dst:=some 35,op:=Op.move (Operand.tmp 45),type:=104,pos := "l2_dfa.go:479",after:=#[{ on:=9,ground:=Ground.data }],guard:=none },{ dst:=some 46,op:=Op.extract (Operand.tmp 35) 0,type:=3,pos := "l2_dfa.go:479",after:=#[{ on:=10,ground:=Ground.data }],guard:=none },{ dst:=some 47,op:=Op.extract (Operand.tmp 35) 1,type:=4,pos := "l2_dfa.go:479",after:=#[{ on:=10,ground:=Ground.data },{ on:=14,ground:=Ground.gcOnly Departure.lateStores }],guard:=none },{ dst:=some 48,op:=Op.indexAddr 26 (Operand.tmp 36) (Operand.tmp 37),type:=0,pos := "l2_dfa.go:479",after:=#[{ on:=0,ground:=Ground.data },{ on:=1,ground:=Ground.data },{ on:=0,ground:=Ground.phase },{ on:=1,ground:=Ground.phase },{ on:=2,ground:=Ground.phase },{ on:=3,ground:=Ground.phase },{ on:=4,ground:=Ground.phase },{ on:=5,ground:=Ground.phase },{ on:=6,ground:=Ground.phase },{ on:=7,ground:=Ground.phase },{ on:=8,ground:=Ground.phase },{ on:=9,ground:=Ground.phase },{ on:=10,ground:=Ground.phase },{ on:=11,ground:=Ground.phase },{ on:=12,ground:=Ground.textOnly Departure.lateStores }],guard:=none },{ dst:=none,op:=Op.store 3 (Operand.tmp 48) (Operand.tmp 46),type:=0,pos := "l2_dfa.go:479",after:=#[{ on:=13,ground:=Ground.data },{ on:=11,ground:=Ground.data },{ on:=9,ground:=Ground.chain },{ on:=0,ground:=Ground.phase },{ on:=1,ground:=Ground.phase },{ on:=2,ground:=Ground.phase },{ on:=3,ground:=Ground.phase },{ on:=4,ground:=Ground.phase },{ on:=5,ground:=Ground.phase },{ on:=6,ground:=Ground.phase },{ on:=7,ground:=Ground.phase },{ on:=8,ground:=Ground.phase },{ on:=9,ground:=Ground.phase },{ on:=10,ground:=Ground.phase },{ on:=11,ground:=Ground.phase },{ on:=12,ground:=Ground.textOnly Departure.lateStores }],guard:=none }] true) (Exit.inBlock n1 (Exit.then K (Exit.then L1 (Exit.inBlock n2 (Exit.then K1 (Exit.inBlock n3 (Exit.then K2 (Exit.then L2 (Exit.inBlock n4 (Exit.then K3 (bodyPost Tryz.prog Tryz.f54 R))))))))))) { tmps:=#[u0,u1,u2,.slice (some ⟨mb,0,none⟩) k ck,u4,u5,.pointer (some ⟨kb,0,none⟩),.int .i64 (c:Nat),.int .i64 (y:Nat),u9,u10,u11,u12,u13,u14,u15,u16,u17,u18,u19,u20,u21,u22,u23,u24,u25,u26,u27,u28,u29,u30,u31,u32,u33,u34,u35,u36,u37,u38,u39,u40,u41,u42,u43,u44,u45,u46,u47,u48,u49,u50,u51,u52,u53,u54,u55,u56,u57,u58,u59,u60,u61,u62,u63,u64,u65,u66,u67,u68,u69,u70,u71,u72,u73,u74,u75,u76,u77,u78,u79,u80,u81,u82,u83,u84,u85,u86,u87,u88,u89,u90,u91,u92,u93,u94,u95,u96,u97,u98,u99,u100,u101,u102,u103,u104,u105],defers := [] } w7:=by
 have hc':(c:Int)<(k:Int):=by omega
 have HOF:=hide hof
 have HPS:=hide hps
 clear hof hps
 go_region_with (go_at_call 88; refine (unhide HOF).mono ?_; rintro e w8 ⟨num,f,rfl,hP⟩; obtain ⟨⟨v,c1⟩,c2,c3⟩ := unhide HPS num f w8 hP; have C3:=hide c3; clear c3 hP)
 all_goals exact unhide C3
structure CtAt (w5 w:World) (c:Nat) (kv av xv nv:Value) (xs ys:List Nat):Prop where
 out:Row4 w c 29 xv kv nv av
 ox:w.ownsRow w5.heap.size 3 1 xv xs.length (xs.map mN)
 on:w.ownsRow w5.heap.size 3 1 nv ys.length (ys.map mN)
 na:∀ r,xv.ownBlock=some r→nv.ownBlock ≠ some r
 fr:FrO (OneB w5 c) w5 w
 lt:c<w5.heap.size
theorem CtAt.keep {w5 w w':World} {c:Nat} {kv av xv nv:Value} {xs ys:List Nat} (h:CtAt w5 w c kv av xv nv xs ys) (hb:Below w.heap.size w w'):CtAt w5 w' c kv av xv nv xs ys :=
 have hz:=h.fr.size
 ⟨h.out.below hb (by have:=h.lt; omega),own_blk h.ox (fun r hr => hb.block r (own_lt h.ox r hr)),own_blk h.on (fun r hr => hb.block r (own_lt h.on r hr)),h.na,h.fr.trans (fro_of hb (fun k hk => .inr (by omega))),h.lt⟩
theorem CtAt.pushN {w5 w W w2:World} {c:Nat} {kv av xv nv v':Value} {xs ys:List Nat} {x:Nat} (h:CtAt w5 w c kv av xv nv xs ys) (hW:Below w.heap.size w W) (r1:w2.ownsRow w5.heap.size 3 1 v' (ys ++ [x]).length ((ys ++ [x]).map mN)) (r2:W.grownBy w2 nv.ownBlock) (r3:∀ q,v'.ownBlock=some q→nv.ownBlock=some q∨w.heap.size≤q) :
  w2.cell? ⟨c,2,none⟩ = some nv∧w2.frozen? ⟨c,2,none⟩ = false∧CtAt w5 (w2.setCell ⟨c,2,none⟩ v') c kv av xv v' xs (ys ++ [x]):=by
 have hz:=h.fr.size
 have hlt:=h.lt
 have k2:=grown_old hW r2
 have hzW:=hW.size
 have hz2:=r2.size
 have nq:∀ k,k<w5.heap.size→nv.ownBlock ≠ some k:=fun k hk e => by have:=(h.on.lt k e).1; omega
 have ho2:Row4 w2 c 29 xv kv nv av:=World.rowIs.of_block h.out (k2 _ (by omega) (nq _ (by omega)))
 have ks:∀ k,k ≠ c→(w2.setCell ⟨c,2,none⟩ v').heap[k]? = w2.heap[k]? := fun k hk => Below.heap_setCell _ _ _ _ (by show k ≠ c; exact hk)
 refine ⟨ho2.facts.2.2.1,World.rowIs.frozen ho2 2,ho2.put2,own_blk h.ox (fun r hr => ?_),own_blk r1 (fun r hr => ks r (by have:=(r1.lt r hr).1; omega)),fun r hr e2 => ?_,⟨r2.os.trans (hW.os.trans h.fr.os),r2.tape.trans (hW.tape.trans h.fr.tape),r2.output.trans (hW.output.trans h.fr.output),by rw [sz_put]; omega,fun k hk => ?_⟩,hlt⟩
 ·have:=h.ox.lt r hr
  rw [ks r (by omega)]
  exact k2 r this.2 (fun e => h.na r hr e)
 ·rcases r3 r e2 with e | e
  ·exact h.na r hr e
  ·have:=own_lt h.ox r hr; omega
 ·have k1:k ≠ c:=fun e => hk (.inl e)
  have k3:k<w5.heap.size:=Nat.lt_of_not_le fun e => hk (.inr e)
  rw [ks k k1,k2 k (by omega) (nq k k3)]
  exact h.fr.block k hk
theorem CtAt.pushX {w5 w W w2:World} {c:Nat} {kv av xv nv v':Value} {xs ys:List Nat} {x:Nat} (h:CtAt w5 w c kv av xv nv xs ys) (hW:Below w.heap.size w W) (r1:w2.ownsRow w5.heap.size 3 1 v' (xs ++ [x]).length ((xs ++ [x]).map mN)) (r2:W.grownBy w2 xv.ownBlock) (r3:∀ q,v'.ownBlock=some q→xv.ownBlock=some q∨w.heap.size≤q) :
  w2.cell? ⟨c,0,none⟩ = some xv∧w2.frozen? ⟨c,0,none⟩ = false∧CtAt w5 (w2.setCell ⟨c,0,none⟩ v') c kv av v' nv (xs ++ [x]) ys:=by
 have hz:=h.fr.size
 have hlt:=h.lt
 have k2:=grown_old hW r2
 have hzW:=hW.size
 have hz2:=r2.size
 have nq:∀ k,k<w5.heap.size→xv.ownBlock ≠ some k:=fun k hk e => by have:=(h.ox.lt k e).1; omega
 have ho2:Row4 w2 c 29 xv kv nv av:=World.rowIs.of_block h.out (k2 _ (by omega) (nq _ (by omega)))
 have ks:∀ k,k ≠ c→(w2.setCell ⟨c,0,none⟩ v').heap[k]? = w2.heap[k]? := fun k hk => Below.heap_setCell _ _ _ _ (by show k ≠ c; exact hk)
 refine ⟨ho2.facts.1,World.rowIs.frozen ho2 0,ho2.put0,own_blk r1 (fun r hr => ks r (by have:=(r1.lt r hr).1; omega)),own_blk h.on (fun r hr => ?_),fun r hr => ?_,⟨r2.os.trans (hW.os.trans h.fr.os),r2.tape.trans (hW.tape.trans h.fr.tape),r2.output.trans (hW.output.trans h.fr.output),by rw [sz_put]; omega,fun k hk => ?_⟩,hlt⟩
 ·have:=h.on.lt r hr
  rw [ks r (by omega)]
  exact k2 r this.2 (fun e => h.na r e hr)
 ·rcases r3 r hr with e | e
  ·exact h.na r e
  ·exact fun e2 => by have:=own_lt h.on r e2; omega
 ·have k1:k ≠ c:=fun e => hk (.inl e)
  have k3:k<w5.heap.size:=Nat.lt_of_not_le fun e => hk (.inr e)
  rw [ks k k1,k2 k (by omega) (nq k k3)]
  exact h.fr.block k hk
def mcX (A:Tb) (mg:Nat→Nat) (l:Nat):List Nat:=(List.range l).map (fun b => mg (A.cl b))
def mcY (A:Tb) (G:Nat→Nat) (m l:Nat):List Nat:=(List.range l).map (fun t => A.nx (t / m) (G (t % m)))
theorem mcX_next (A:Tb) (mg:Nat→Nat) (l:Nat):mcX A mg (l+1)=mcX A mg l ++ [mg (A.cl l)]:=by simp [mcX,List.range_succ]
theorem mcY_next (A:Tb) (G:Nat→Nat) {m q e:Nat} (he:e<m):mcY A G m (q * m+(e+1))=mcY A G m (q * m+e) ++ [A.nx q (G e)]:=by
 unfold mcY
 rw [← Nat.add_assoc,List.range_succ,List.map_append,List.map_singleton,(row_at he).1,(row_at he).2]
theorem mcX_len (A:Tb) (mg:Nat→Nat) (l:Nat):(mcX A mg l).length=l:=by simp [mcX]
theorem mcY_len (A:Tb) (G:Nat→Nat) (m l:Nat):(mcY A G m l).length=l:=by simp [mcY]
set_option maxHeartbeats 4000000 in
set_option maxRecDepth 100000 in
theorem mergeClasses_any (A:Tb) (xb xo xc b off cN ab ao ca:Nat) (w:World) (hw:A.Wf) (hn:A.n≤1024) (hk:1≤A.k∧A.k≤256) (hcN:A.n * A.k≤cN) (hb:b<w.heap.size) (hx:NxAt w b off A.n A.k A.nx)
  (hxb:xb<w.heap.size) (hcl:∀ q,q<256→w.cell? ⟨xb,xo+q,none⟩ = some (.int .i64 (A.cl q:Nat))) :
  Calls Tryz.prog 54 #[.agg #[.slice (some ⟨xb,xo,none⟩) 256 xc,.int .i64 (A.k:Nat),.slice (some ⟨b,off,none⟩) (A.n * A.k) cN,.slice (some ⟨ab,ao,none⟩) A.n ca]] w fun e w' => ∃ (xv nv:Value) (m:Nat),e = .returned (.agg #[xv,.int .i64 (m:Nat),nv,.slice (some ⟨ab,ao,none⟩) A.n ca])∧Below w.heap.size w w' ∧
   ∃ (mg G:Nat→Nat),MgC A A.n m mg G∧m≤A.k∧w'.ownsRow w.heap.size 3 1 xv 256 ((mcX A mg 256).map mN)∧w'.ownsRow w.heap.size 3 1 nv (A.n * m) ((mcY A G m (A.n * m)).map mN)∧∀ r,xv.ownBlock=some r→nv.ownBlock ≠ some r:=by
 obtain ⟨i0,hi0,hz0,hz1,hz2⟩ := info_parts Tryz.zinInt
 have hn1:1≤A.n:=hw.pos
 have hLn:A.n * A.k≤1024 * 256:=Nat.mul_le_mul hn hk.2
 obtain ⟨L,hL⟩ : ∃ L,L=A.n * A.k:=⟨_,rfl⟩
 rw [← hL] at hcN hLn ⊢
 have hmk:=run_make_row' (P:=Tryz.prog) 26 3 (.int .i64 0) 8 Tryz.underlying26 Tryz.zinInt rfl .i64 .i64 A.k (by omega) (by omega)
 obtain ⟨W2,hW2⟩ : ∃ W2,W2=(w.alloc (.cells #[.slice (some ⟨xb,xo,none⟩) 256 xc,.int .i64 (A.k:Nat),.slice (some ⟨b,off,none⟩) L cN,.slice (some ⟨ab,ao,none⟩) A.n ca] 29)).alloc (.cells #[.slice none 0 0,.int .i64 0,.slice none 0 0,.slice none 0 0] 29):=⟨_,rfl⟩
 have hsz2:W2.heap.size=w.heap.size+2:=by rw [hW2,sz_alloc,sz_alloc]
 have hD2:Row4 W2 w.heap.size 29 (.slice (some ⟨xb,xo,none⟩) 256 xc) (.int .i64 (A.k:Nat)) (.slice (some ⟨b,off,none⟩) L cN) (.slice (some ⟨ab,ao,none⟩) A.n ca):=by rw [hW2]; exact (Row4.new w _ _ _ _ _).alloc _
 have hE2:Row4 W2 (w.heap.size+1) 29 (.slice none 0 0) (.int .i64 0) (.slice none 0 0) (.slice none 0 0):=by
  have:=Row4.new (w.alloc (.cells #[.slice (some ⟨xb,xo,none⟩) 256 xc,.int .i64 (A.k:Nat),.slice (some ⟨b,off,none⟩) L cN,.slice (some ⟨ab,ao,none⟩) A.n ca] 29)) 29 (.slice none 0 0) (.int .i64 0) (.slice none 0 0) (.slice none 0 0)
  rw [sz_alloc] at this
  rw [hW2]
  exact this
 obtain ⟨W3,hW3⟩ : ∃ W3,W3=W2.alloc (.cells (madeCells #[.int .i64 0] A.k) 3):=⟨_,rfl⟩
 have hsz3:W3.heap.size=w.heap.size+3:=by rw [hW3,sz_alloc,hsz2]
 have hD3:Row4 W3 w.heap.size 29 (.slice (some ⟨xb,xo,none⟩) 256 xc) (.int .i64 (A.k:Nat)) (.slice (some ⟨b,off,none⟩) L cN) (.slice (some ⟨ab,ao,none⟩) A.n ca):=by rw [hW3]; exact hD2.alloc _
 have hE3:Row4 W3 (w.heap.size+1) 29 (.slice none 0 0) (.int .i64 0) (.slice none 0 0) (.slice none 0 0):=by rw [hW3]; exact hE2.alloc _
 have hM3:RowN W3 (w.heap.size+2) A.k (fun _ => 0):=by
  have:=World.rowIs_made W2 (.int .i64 0) A.k 3
  rw [hsz2] at this
  rw [hW3]
  exact ⟨_,_,this,Nat.le_refl _,fun j hj => rfl⟩
 have hB3:Below w.heap.size w W3:=by rw [hW3,hW2]; exact (below2 w _ _).trans ((below1 _ _).mono (by rw [sz_alloc,sz_alloc]; omega))
 obtain ⟨e0,e1,e2,e3,-⟩ := hD2.facts
 obtain ⟨f0,f1,f2,f3,-⟩ := hD3.facts
 have HL:=hide hL
 have HX:=hide hx
 have HCL:=hide hcl
 have HW2:=hide hW2
 have HW3:=hide hW3
 have HD3:=hide hD3
 have HE3:=hide hE3
 have HM3:=hide hM3
 have HB3:=hide hB3
 clear hL hx hcl hW2 hW3 hD2 hD3 hE2 hE3 hM3 hB3
 go_enter Tryz.func54,Tryz.ntmps54
 go_wp2_with fail
 rw [← unhide HW2,← unhide HW3]
 clear HW2 HW3 e0 e1 e2 e3 f0 f1 f2 f3 hmk
 simp only [Nat.add_assoc,Nat.reduceAdd]
 go_loopw [4,22] (fun nv qv wr => ∃ (q m:Nat) (mg G:Nat→Nat),q≤A.n∧qv = .int .i64 (q:Nat)∧nv = .int .i64 (m:Nat)∧m≤A.k∧MgC A q m mg G∧RowN wr (w.heap.size+2) A.k mg∧FrO (OneB W3 (w.heap.size+2)) W3 wr) (fun _ qv _ => A.n - (intOf qv).toNat)
 case atStart => exact ⟨0,1,_,_,by omega,rfl,rfl,hk.1,MgC.start hk.1,unhide HM3,FrO.refl _ _⟩
 case round =>
  clear HM3
  obtain ⟨q,m,mg,G,hq,rfl,rfl,hmk,hMg,hRm,hF⟩ := hrel
  obtain ⟨w4,rfl⟩ : ∃ w4,w4=wr:=⟨_,rfl⟩
  have hz4:=hF.size
  have hD4:Row4 w4 w.heap.size 29 (.slice (some ⟨xb,xo,none⟩) 256 xc) (.int .i64 (A.k:Nat)) (.slice (some ⟨b,off,none⟩) L cN) (.slice (some ⟨ab,ao,none⟩) A.n ca):=World.rowIs.of_block (unhide HD3) (hF.block _ (by rintro (h | h) <;> omega))
  have hB4:Below w.heap.size w w4:=(unhide HB3).trans (hF.below (fun k hk => by rintro (h | h) <;> omega))
  by_cases hlt:q<A.n
  ·have hlt':(q:Int)<(A.n:Int):=by omega
   have HN:=hide (newII_any w4)
   have hlm:=hRm.lt
   have HMG:=hide hMg
   have HRM:=hide hRm
   have HF:=hide hF
   have HD4:=hide hD4
   have HB4:=hide hB4
   clear hMg hRm hF hD4 hB4
   go_wp2_with fail
   refine (unhide HN).mono ?_
   rintro e w5 ⟨rfl,hN5,hz5,hB5⟩
   obtain ⟨W6,hW6⟩ : ∃ W6,W6=w5.alloc (.cells #[.map (some (w4.heap.size+1))] 158):=⟨_,rfl⟩
   have hb6:Below w5.heap.size w5 W6:=by rw [hW6]; exact below1 w5 _
   have hb46:Below w4.heap.size w4 W6:=hB5.trans (hb6.mono (by omega))
   have hsz6:W6.heap.size=w4.heap.size+3:=by rw [hW6,sz_alloc]; omega
   have hkb:W6.rowIs (w4.heap.size+2) 158 1 (fun _ => .map (some (w4.heap.size+1))):=by
    have:=World.rowIs_alloc w5 #[.map (some (w4.heap.size+1))] 158 (fun _ => .map (some (w4.heap.size+1))) (fun j hj => by
     match j,hj with
     | 0,_ => rfl)
    rw [hz5] at this
    rw [hW6]
    exact this
   obtain ⟨f0,f1,f2,f3,-⟩ := ((unhide HD4).below hb46 (by omega)).facts
   have hqL:(q+1) * A.k≤L:=by rw [unhide HL]; exact Nat.mul_le_mul_right _ hlt
   have hrw:=row_any (.slice (some ⟨xb,xo,none⟩) 256 xc) (.slice (some ⟨ab,ao,none⟩) A.n ca) b off L cN A.k q W6 hqL (by omega) hcN (by omega) hk
   obtain ⟨rq,hrq⟩ : ∃ rq,rq=q * A.k:=⟨_,rfl⟩
   rw [← hrq] at hrw
   have HRW:=hide hrw
   have HRQ:=hide hrq
   have HN6:=hide (hN5.keep (hb6.block _ (by omega)))
   have HKB:=hide hkb
   have HB46:=hide hb46
   have HW6:=hide hW6
   rw [hW6] at f0 f1 f2 f3
   clear hrw hrq hqL hN5 hB5 hb6 hb46 hkb hW6 HN
   go_wp2_with fail
   try rw [hz5]
   rw [← unhide HW6]
   refine (unhide HRW).mono ?_
   rintro e w7 ⟨rfl,hb7⟩
   have hz7:=hb7.size
   have hb47:Below w4.heap.size w4 w7:=(unhide HB46).trans (hb7.mono (by omega))
   have hPr:PrAt w7 w7 (w4.heap.size+1) (w.heap.size+2) A.k (fun c => (mg c,A.nx q c)) mg [] [] []:=⟨(unhide HN6).keep (hb7.block _ (by omega)),((unhide HRM).on (hb47.block _ hlm)).congr (fun j _ => rfl),NumL.nil _,FrO.refl _ _,by omega,by omega,by omega⟩
   have HPR:=hide hPr
   have HKB7:=hide ((unhide HKB).of_block (hb7.block _ (by omega)))
   have HB47:=hide hb47
   clear HRW HN6 HKB HRM hPr hb47 hb7 f0 f1 f2 f3 HW6
   go_wp2_with fail
   go_loopw [30] (fun cv wx => ∃ (c:Nat) (ds:List (Nat × Nat)) (ns fs:List Nat),c≤A.k∧cv = .int .i64 (c:Nat)∧ns.length=c∧PrAt w7 wx (w4.heap.size+1) (w.heap.size+2) A.k (fun c => (mg c,A.nx q c)) mg ds ns fs) (fun cv _ => A.k - (intOf cv).toNat)
   case atStart => exact ⟨0,[],[],[],by omega,rfl,rfl,unhide HPR⟩
   case round =>
    clear HPR
    obtain ⟨c,ds,ns,fs,hc,rfl,hns,hPr⟩ := hrel
    have hzr:=hPr.fr.size
    have hkr:=(unhide HKB7).of_block (hPr.fr.block _ (by rintro (h | h | h) <;> omega))
    have u0:wr.cell? ⟨w4.heap.size+2,0,none⟩ = some (.map (some (w4.heap.size+1))):=hkr.cell (by omega)
    have hdn:=numl_le hPr.nl
    by_cases hcl:c<A.k
    ·have hcl':(c:Int)<(A.k:Int):=by omega
     obtain ⟨x1,x2⟩ := unhide HX q c hlt hcl
     have hlow:∀ k,k<w.heap.size→wr.heap[k]? = w.heap[k]? := fun k hk => (hPr.fr.block k (by rintro (h | h | h) <;> omega)).trans (((unhide HB47).block k (by omega)).trans ((unhide HB4).block k hk))
     have y0:wr.cell? ⟨b,off+rq+c,none⟩ = some (.int .i64 (A.nx q c:Nat)):=by rw [unhide HRQ,Nat.add_assoc,World.cell?_of_block (a:=⟨b,off+(q * A.k+c),none⟩) (hlow b hb)]; exact x2
     have y1:wr.cell? ⟨w.heap.size+2,c,none⟩ = some (.int .i64 (mg c:Nat)):=by rw [hPr.nr.cell hcl,if_neg (by omega)]
     have hmg:=(unhide HMG).num.lt c hcl
     obtain ⟨nxt,hnxt⟩ : ∃ y,y=A.nx q c:=⟨_,rfl⟩
     obtain ⟨mc,hmc⟩ : ∃ y,y=mg c:=⟨_,rfl⟩
     rw [← hnxt] at y0 x1
     rw [← hmc] at y1 hmg
     have hof:=ofII_any (w4.heap.size+1) (mc:Nat) (nxt:Nat) (ds.map pN) wr.drew (hPr.num.keep rfl) ⟨by omega,by omega⟩ ⟨by omega,by omega⟩ (by rw [List.length_map]; omega)
     have HOF:=hide hof
     have HPR:=hide hPr
     have HKE:Hid (pN ((fun c => (mg c,A.nx q c)) c)=ii (mc:Int) (nxt:Int)):=by
      show pN _=_
      rw [hmc,hnxt]; rfl
     unfold ii at HOF
     clear hPr hof x2 hnxt hmc hkr hlow
     go_wp2_with fail
     refine class_of wr (w4.heap.size+2) (w4.heap.size+1) (w.heap.size+2) A.k A.k c mc nxt (fun num f w8 => ∃ ks',NumR (ds.map pN) (.agg #[.int .i64 (mc:Nat),.int .i64 (nxt:Nat)]) ks' num f∧NumAt 160 w8 (w4.heap.size+1) ks'∧FrO (OneB wr (w4.heap.size+1)) wr w8) hcl u0 y1 ?_ (fun num f w8 hP => ?_)
     ·refine (unhide HOF).mono ?_
      rintro e w8 ⟨num,ks',f,rfl,hR,hN8,hF8⟩
      exact ⟨num,f,rfl,ks',hR,hN8,⟨hF8.os,hF8.tape,hF8.output,hF8.size,hF8.block⟩⟩
     ·obtain ⟨ks',hR,hN8,hF8⟩ := hP
      have hke:=unhide HKE
      unfold ii at hke
      rw [← hke] at hR
      obtain ⟨q1,ds',fs',hST⟩ := (unhide HPR).step hns hR hN8 hF8
      refine ⟨⟨_,q1.cell hcl⟩,q1.frozen c,?_⟩
      have HST:=hide hST
      clear q1 hST hR hN8 hF8 hke HOF HPR u0 y0 y1
      go_wp2
      go_roundw
      case rel => exact ⟨c+1,ds',ns ++ [num],fs',by omega,by go_num,by rw [List.length_append,hns]; rfl,unhide HST⟩
      case measure => simp [intOf]; omega
    ·have hcl':¬ (c:Int)<(A.k:Int):=by omega
     obtain rfl:c=A.k:=by omega
     have HCO:=hide (countII_any (w4.heap.size+1) (ds.map pN) wr hPr.num)
     have HPR:=hide hPr
     clear hPr hkr
     go_wp2_with fail
     refine (unhide HCO).mono ?_
     rintro e w8 ⟨rfl,hb8⟩
     rw [List.length_map]
     have hMg2:=(unhide HMG).next (unhide HPR).nl hns
     have hRm2:RowN w8 (w.heap.size+2) A.k (fun c => ns[c]?.getD 0):=((unhide HPR).nr.on (hb8.block _ (by omega))).congr (fun j hj => by rw [if_pos (by omega)])
     have hF2:FrO (OneB W3 (w.heap.size+2)) W3 w8:=by
      refine (unhide HF).trans ((fro_of (unhide HB47) (fun k hk => .inr (by omega))).trans (FrO.trans ((unhide HPR).fr.mono (fun k hk => ?_)) (fro_of hb8 (fun k hk => .inr (by omega)))))
      rcases hk with h | h | h
      ·exact .inr (by omega)
      ·exact .inl h
      ·exact .inr (by omega)
     have HM2:=hide hMg2
     have HR2:=hide hRm2
     have HF2:=hide hF2
     clear hMg2 hRm2 hF2 hb8 HCO HPR u0
     go_wp2
     go_roundw
     case rel => exact ⟨q+1,ds.length,_,_,by omega,by go_num,rfl,by omega,unhide HM2,unhide HR2,unhide HF2⟩
     case measure => simp [intOf]; omega
  ·have hlt':¬ (q:Int)<(A.n:Int):=by omega
   obtain rfl:q=A.n:=by omega
   obtain ⟨f0,f1,f2,f3,-⟩ := hD4.facts
   have hm2:=hMg.num
   obtain ⟨W5,hW5⟩ : ∃ W5,W5=w4.alloc (.cells #[.slice none 0 0,.int .i64 (m:Nat),.slice none 0 0,.slice (some ⟨ab,ao,none⟩) A.n ca] 29):=⟨_,rfl⟩
   have hsz5:W5.heap.size=w4.heap.size+1:=by rw [hW5,sz_alloc]
   have hO5:Row4 W5 w4.heap.size 29 (.slice none 0 0) (.int .i64 (m:Nat)) (.slice none 0 0) (.slice (some ⟨ab,ao,none⟩) A.n ca):=by rw [hW5]; exact Row4.new w4 _ _ _ _ _
   have hb5:Below w4.heap.size w4 W5:=by rw [hW5]; exact below1 w4 _
   obtain ⟨e0,e1,e2,e3,-⟩ := (hD4.below hb5 (by omega)).facts
   rw [hW5] at e0 e1 e2 e3
   have HW5:=hide hW5
   have HO5:=hide hO5
   have HB5:=hide hb5
   have HMG:=hide hMg
   have HRM:=hide hRm
   have HF:=hide hF
   have HD4:=hide hD4
   have HB4:=hide hB4
   clear hMg hRm hF hD4 hB4 hW5 hO5 hb5 hm2
   go_wp2_with fail
   rw [← unhide HW5]
   clear e0 e1 e2 e3 f0 f1 f2 f3
   have hlm:=(unhide HRM).lt
   have HT5:Hid (∀ W,FrO (OneB W5 w4.heap.size) W5 W→Row4 W w.heap.size 29 (.slice (some ⟨xb,xo,none⟩) 256 xc) (.int .i64 (A.k:Nat)) (.slice (some ⟨b,off,none⟩) L cN) (.slice (some ⟨ab,ao,none⟩) A.n ca)∧Below w.heap.size w W∧RowN W (w.heap.size+2) A.k mg∧Row4 W (w.heap.size+1) 29 (.slice none 0 0) (.int .i64 0) (.slice none 0 0) (.slice none 0 0)):=fun W hW => by
    have hk4:∀ k,k<w4.heap.size→W.heap[k]? = w4.heap[k]? := fun k hk => (hW.block k (by rintro (h | h) <;> omega)).trans ((unhide HB5).block k hk)
    have hb4W:Below w4.heap.size w4 W:=⟨hW.os.trans (unhide HB5).os,hW.tape.trans (unhide HB5).tape,hW.output.trans (unhide HB5).output,by have:=hW.size; omega,hk4⟩
    exact ⟨(unhide HD4).below hb4W (by omega),(unhide HB4).trans (hb4W.mono (by omega)),(unhide HRM).on (hk4 _ hlm),World.rowIs.of_block (unhide HE3) ((hk4 _ (by omega)).trans ((unhide HF).block _ (by rintro (h | h) <;> omega)))⟩
   have hC5:CtAt W5 W5 w4.heap.size (.int .i64 (m:Nat)) (.slice (some ⟨ab,ao,none⟩) A.n ca) (.slice none 0 0) (.slice none 0 0) (mcX A mg 0) []:=⟨unhide HO5,World.ownsRow_nil _ _ _ _,World.ownsRow_nil _ _ _ _,(fun r hr => by cases hr),FrO.refl _ _,by omega⟩
   have HC5:=hide hC5
   clear hC5 HW5 HO5 HB5 HRM HF HD4 HB4 HE3 HD3 HB3
   go_loopw [60] (fun iv wr => ∃ (i:Nat) (xv:Value),i≤256∧iv = .int .i64 (i:Nat)∧CtAt W5 wr w4.heap.size (.int .i64 (m:Nat)) (.slice (some ⟨ab,ao,none⟩) A.n ca) xv (.slice none 0 0) (mcX A mg i) []) (fun iv _ => 256 - (intOf iv).toNat)
   case atStart => exact ⟨0,_,by omega,rfl,unhide HC5⟩
   case round =>
    clear HC5
    obtain ⟨i,xv,hi,rfl,hC⟩ := hrel
    obtain ⟨w6,rfl⟩ : ∃ w6,w6=wr:=⟨_,rfl⟩
    obtain ⟨hD,hBw,hRm,hE⟩ := unhide HT5 w6 hC.fr
    have hz6:=hC.fr.size
    by_cases hil:i<256
    ·have hil':(i:Int)<256:=by omega
     have hci:=hw.cls i hil
     have y0:w6.cell? ⟨xb,xo+i,none⟩ = some (.int .i64 (A.cl i:Nat)):=by rw [hBw.cell (p:=⟨xb,xo+i,none⟩) hxb]; exact unhide HCL i hil
     have k0:=hRm.cell hci
     obtain ⟨g0,-⟩ := hC.out.facts
     have hox:=hC.ox
     obtain ⟨oa,oc,e1⟩ := own_is hC.ox
     rw [mcX_len] at e1
     rw [mcX_len,e1] at hox
     rw [e1] at g0
     obtain ⟨ci,hci2⟩ : ∃ y,y=A.cl i:=⟨_,rfl⟩
     rw [← hci2] at y0 k0 hci
     have HC:=hide hC
     have HE1:=hide e1
     have HCI:=hide hci2
     have HG0:=hide g0
     have HK0:=hide k0
     have HOX:=hide hox
     clear hC hD hBw hRm hE e1 hci2 g0 k0 hox
     go_wp2_with fail
     refine class_app w6 w4.heap.size (w.heap.size+2) A.k A.k ci (mg ci) i oc W5.heap.size oa _ hci (by omega) (by omega) (by omega) (unhide HG0) (unhide HK0) (unhide HOX) (fun WA w7 gg cap r1 r2 r3 hP => ?_)
     have hA:=(unhide HC).pushX (x:=mg ci) (v':=.slice (some ⟨gg,0,none⟩) (i+1) cap) hP.below (by rw [List.length_append,mcX_len,List.map_append]; exact r1) (by rw [unhide HE1]; exact r2) (fun q hq => by
      rw [unhide HE1]
      have hq':gg=q:=Option.some.inj hq
      subst hq'
      rcases r3 with e | e
      ·exact .inl e
      ·exact .inr (by omega))
     rw [unhide HE1] at hA
     refine ⟨hA.1,hA.2.1,?_⟩
     have HA:=hide hA.2.2
     clear hA r1 r2 r3 hP HG0 HK0 HOX HC y0
     go_wp2
     go_roundw
     case rel => exact ⟨i+1,_,by omega,by go_num,by rw [mcX_next,← unhide HCI]; exact unhide HA⟩
     case measure => simp [intOf]; omega
    ·have hil':¬ (i:Int)<256:=by omega
     obtain rfl:i=256:=by omega
     obtain ⟨f0,f1,f2,f3,-⟩ := hD.facts
     have HC:=hide hC
     clear hC hD hBw hRm hE
     go_wp2_with fail
     clear f0 f1 f2 f3
     go_loopw [77] (fun qv wr => ∃ (q:Nat) (nv:Value),q≤A.n∧qv = .int .i64 (q:Nat)∧CtAt W5 wr w4.heap.size (.int .i64 (m:Nat)) (.slice (some ⟨ab,ao,none⟩) A.n ca) xv nv (mcX A mg 256) (mcY A G m (q * m))) (fun qv _ => A.n - (intOf qv).toNat)
     case atStart => exact ⟨0,_,by omega,rfl,by rw [Nat.zero_mul]; exact unhide HC⟩
     case round =>
      clear HC
      obtain ⟨q,nv,hq,rfl,hC⟩ := hrel
      obtain ⟨w7,rfl⟩ : ∃ w7,w7=wr:=⟨_,rfl⟩
      obtain ⟨hD,hBw,hRm,hE⟩ := unhide HT5 w7 hC.fr
      have hz7:=hC.fr.size
      by_cases hqn:q<A.n
      ·have hqn':(q:Int)<(A.n:Int):=by omega
       obtain ⟨f0,f1,f2,f3,-⟩ := hD.facts
       have hqL:(q+1) * A.k≤L:=by rw [unhide HL]; exact Nat.mul_le_mul_right _ hqn
       have hrw:=row_any (.slice (some ⟨xb,xo,none⟩) 256 xc) (.slice (some ⟨ab,ao,none⟩) A.n ca) b off L cN A.k q w7 hqL (by omega) hcN (by omega) hk
       obtain ⟨rq,hrq⟩ : ∃ rq,rq=q * A.k:=⟨_,rfl⟩
       rw [← hrq] at hrw
       have HRW:=hide hrw
       have HRQ:=hide hrq
       have HC:=hide hC
       clear hrw hrq hqL hC hD hBw hRm hE
       go_wp2_with fail
       refine (unhide HRW).mono ?_
       rintro e w8 ⟨rfl,hb8⟩
       have HC8:=hide ((unhide HC).keep hb8)
       clear HC HRW hb8 f0 f1 f2 f3
       go_wp2_with fail
       go_loopw [13,84] (fun ev cv wr => ∃ (c met:Nat) (nv:Value),c≤A.k∧met≤m∧ev = .int .i64 (met:Nat)∧cv = .int .i64 (c:Nat)∧(∀ j,j<m→(G j<c↔j<met))∧CtAt W5 wr w4.heap.size (.int .i64 (m:Nat)) (.slice (some ⟨ab,ao,none⟩) A.n ca) xv nv (mcX A mg 256) (mcY A G m (q * m+met))) (fun _ cv _ => A.k - (intOf cv).toNat)
       case atStart => exact ⟨0,0,_,by omega,by omega,rfl,rfl,fun j _ => by omega,unhide HC8⟩
       case round =>
        clear HC8
        obtain ⟨c,met,nv,hc,hme,rfl,rfl,hmt,hC⟩ := hrel
        obtain ⟨hD,hBw,hRm,hE⟩ := unhide HT5 wr hC.fr
        have hzr:=hC.fr.size
        by_cases hcl:c<A.k
        ·have hcl':(c:Int)<(A.k:Int):=by omega
         obtain ⟨x1,x2⟩ := unhide HX q c hqn hcl
         have y0:wr.cell? ⟨b,off+rq+c,none⟩ = some (.int .i64 (A.nx q c:Nat)):=by rw [unhide HRQ,Nat.add_assoc,hBw.cell (p:=⟨b,off+(q * A.k+c),none⟩) hb]; exact x2
         have y1:=hRm.cell hcl
         obtain ⟨t1,t2,t3⟩ := (unhide HMG).num.meet hcl hmt
         obtain ⟨-,-,g2,-⟩ := hC.out.facts
         have hmgc:=(unhide HMG).num.lt c hcl
         have hyb:(mcY A G m (q * m+met)).length≤600000:=by
          rw [mcY_len]
          have h1:q * m≤1024 * 256:=Nat.mul_le_mul (by omega) (by omega)
          omega
         obtain ⟨nxt,hnxt⟩ : ∃ y,y=A.nx q c:=⟨_,rfl⟩
         obtain ⟨mc,hmc⟩ : ∃ y,y=mg c:=⟨_,rfl⟩
         rw [← hnxt] at y0
         rw [← hmc] at y1 t1 t2 t3 hmgc
         have HNX:=hide hnxt
         by_cases heq:mc=met
         ·obtain ⟨t4,t5⟩ := t1 heq
          have hY:=mcY_next A G (q:=q) t5
          rw [t4,← hnxt] at hY
          have T3:=hide (t3 heq)
          have heq':((mc:Nat):Int)=(met:Int):=by omega
          obtain ⟨na,nc,e1⟩ := own_is hC.on
          obtain ⟨Y,hYY⟩ : ∃ Y,Y=mcY A G m (q * m+met):=⟨_,rfl⟩
          rw [← hYY] at e1 hyb hY
          have hon:=hC.on
          rw [← hYY,e1] at hon
          rw [e1] at g2
          have hC2:=hC
          rw [← hYY] at hC2
          have HC:=hide hC2
          have HE1:=hide e1
          have HON:=hide hon
          have HY:=hide hY
          subst heq
          clear hC hC2 hD hBw hRm hE x2 t1 t2 t3 t4 e1 hon hY hYY hmc hnxt heq' hmt
          go_wp2_with (at_builtin; refine wpList_append_own_at _ rfl _ _ 26 rfl W5.heap.size 3 i0 (.int .i64 0) 1 8 Tryz.underlying26 hi0 hz0 hz1 hz2 rfl (by decide) _ _ _ rfl ((unhide HON).alloc _) ⟨wr.heap.size,0,none⟩ 1 1 [.int .i64 (nxt:Nat)] rfl rfl ?_ ?_ ?_ ?_ ?_ ?_)
          ·exact cell_1 (cell_new _ _ _)
          ·intro u hu; simp at hu; subst hu; rfl
          ·unfold maxLen; omega
          ·omega
          ·rw [sz_alloc]; omega
          intro v' w9 r1 r2 _ r3
          have hA:=(unhide HC).pushN (x:=nxt) (v':=v') (below1 wr _) (by rw [List.length_append,List.map_append]; first | exact r1 | (rw [hsz5]; exact r1)) (by rw [unhide HE1]; exact r2) (fun q hq => by
           rw [unhide HE1]
           rcases r3 with e | e
           ·rw [e] at hq; exact .inl hq
           ·rw [e] at hq; have:=Option.some.inj hq; exact .inr (by omega))
          rw [unhide HE1] at hA
          obtain ⟨va,vc,rfl⟩ := own_is r1
          have z1:=hA.1
          have z2:=hA.2.1
          have HA:=hide hA.2.2
          clear hA r1 r2 r3 HON HC g2 y0
          go_wp2
          go_roundw
          case rel => exact ⟨c+1,mc+1,_,by omega,by omega,by go_num,by go_num,unhide T3,by rw [unhide HY]; exact unhide HA⟩
          case measure => simp [intOf]; omega
         ·have heq':¬ ((mc:Nat):Int)=(met:Int):=by omega
          have T2:=hide (t2 heq)
          have HC:=hide hC
          clear hC hD hBw hRm hE x2 t1 t2 t3 hmt g2
          go_wp2
          go_roundw
          case rel => exact ⟨c+1,met,_,by omega,by omega,rfl,by go_num,unhide T2,unhide HC⟩
          case measure => simp [intOf]; omega
        ·have hcl':¬ (c:Int)<(A.k:Int):=by omega
         obtain rfl:c=A.k:=by omega
         have hmm:met=m:=by
          apply Nat.le_antisymm hme
          apply Nat.le_of_not_lt
          intro hlt2
          have:=(hmt met hlt2).1 ((unhide HMG).num.fst met hlt2).1
          omega
         subst hmm
         have HC:=hide hC
         clear hC hD hBw hRm hE hmt
         go_wp2
         go_roundw
         case rel => exact ⟨q+1,_,by omega,by go_num,by rw [Nat.add_mul,Nat.one_mul]; exact unhide HC⟩
         case measure => simp [intOf]; omega
      ·have hqn':¬ (q:Int)<(A.n:Int):=by omega
       obtain rfl:q=A.n:=by omega
       obtain ⟨g0,g1,g2,g3,-⟩ := hC.out.facts
       obtain ⟨x0,x1,x2,x3,z0,z1,z2,z3⟩ := hE.facts
       obtain ⟨na,nc,e1⟩ := own_is hC.on
       obtain ⟨va,vc,e2⟩ := own_is hC.ox
       have hon:=hC.on
       have hox:=hC.ox
       have hna:=hC.na
       rw [mcY_len] at e1
       rw [mcX_len] at e2
       rw [mcY_len,e1] at hon
       rw [mcX_len,e2] at hox
       rw [e1,e2] at hna
       rw [e1] at g2
       rw [e2] at g0
       obtain ⟨yl,hyl2⟩ : ∃ yl,yl=A.n * m:=⟨_,rfl⟩
       rw [← hyl2] at g2 hon hna
       have hR4:=(((hE.put0 (u:=.slice va 256 vc)).put1 (u:=.int .i64 (m:Nat))).put2 (u:=.slice na yl nc)).put3' (u:=.slice (some ⟨ab,ao,none⟩) A.n ca)
       have hob:Obk (w.heap.size+1) w7 ((((w7.setCell ⟨w.heap.size+1,0,none⟩ (.slice va 256 vc)).setCell ⟨w.heap.size+1,1,none⟩ (.int .i64 (m:Nat))).setCell ⟨w.heap.size+1,2,none⟩ (.slice na yl nc)).setCell ⟨w.heap.size+1,3,none⟩ (.slice (some ⟨ab,ao,none⟩) A.n ca)):=(((obk_put _ _).trans (obk_put _ _)).trans (obk_put _ _)).trans (obk_put _ _)
       have HR4:=hide hR4
       have HOB:=hide hob
       have HBW:=hide hBw
       have HON:=hide hon
       have HOX:=hide hox
       have HNA:=hide hna
       have HY2:=hide hyl2
       clear hC hD hBw hE hRm e1 e2 hon hox hna hR4 hob hyl2
       go_wp2
       refine bodyPost_ret (dfa_ret (unhide HR4) rfl _ rfl) rfl ?_
       have hob:=unhide HOB
       have hbw:=unhide HBW
       refine ⟨_,_,m,rfl,⟨hob.os.trans hbw.os,hob.tape.trans hbw.tape,hob.output.trans hbw.output,by rw [hob.size]; exact hbw.size,fun k hk => (hob.block k (by omega)).trans (hbw.block k hk)⟩,mg,G,unhide HMG,hmk,own_low (own_blk (unhide HOX) (fun r hr => hob.block r (by have:=((unhide HOX).lt r hr).1; omega))) (by omega),?_,unhide HNA⟩
       rw [← unhide HY2]
       exact own_low (own_blk (unhide HON) (fun r hr => hob.block r (by have:=((unhide HON).lt r hr).1; omega))) (by omega)
theorem own_cells {base e n:Nat} {w:World} {v:Value} {xs:List Value} (h:w.ownsRow base e 1 v n xs) (hp:0<n):∃ g cap,v = .slice (some ⟨g,0,none⟩) n cap∧base≤g∧g<w.heap.size∧n≤cap∧∀ j,j<n→w.cell? ⟨g,j,none⟩ = xs[j]? := by
 obtain ⟨g,cap,m,F,rfl,hlt,hr,hm,hx,-⟩ := own_row h hp
 refine ⟨g,cap,rfl,(h.lt g rfl).1,hlt,(own_cap h).le.1,fun j hj => ?_⟩
 rw [hr.cell (by omega),hx j (by omega)]
theorem nx_own {base:Nat} {w:World} {v:Value} {A:Tb} {ys:List Nat} (h:w.ownsRow base 3 1 v (A.n * A.k) (ys.map mN)) (hp:0<A.n * A.k) (hw:A.Wf) (hx:∀ q c,q<A.n→c<A.k→ys[q * A.k+c]? = some (A.nx q c)) :
  ∃ g cap,v = .slice (some ⟨g,0,none⟩) (A.n * A.k) cap∧base≤g∧g<w.heap.size∧A.n * A.k≤cap∧NxAt w g 0 A.n A.k A.nx:=by
 obtain ⟨g,cap,e,hb,hg,hc,hcell⟩ := own_cells h hp
 refine ⟨g,cap,e,hb,hg,hc,fun q c hq hc2 => ⟨hw.nxt q c hq hc2,?_⟩⟩
 rw [Nat.zero_add,hcell _ (idx_lt hq hc2),List.getElem?_map,hx q c hq hc2]
 rfl
theorem ac_own {base n:Nat} {w:World} {v:Value} {ac:Nat→Bool} {zs:List Bool} (h:w.ownsRow base 4 1 v n (zs.map mT)) (hp:0<n) (hz:∀ q,q<n→zs[q]? = some (ac q)) :
  ∃ g cap,v = .slice (some ⟨g,0,none⟩) n cap∧base≤g∧g<w.heap.size∧∀ q,q<n→w.cell? ⟨g,0+q,none⟩ = some (.bool (ac q)):=by
 obtain ⟨g,cap,e,hb,hg,hc,hcell⟩ := own_cells h hp
 refine ⟨g,cap,e,hb,hg,fun q hq => ?_⟩
 rw [Nat.zero_add,hcell q hq,List.getElem?_map,hz q hq]
 rfl
set_option maxHeartbeats 4000000 in
set_option maxRecDepth 100000 in
theorem smallest_any (A:Tb) (xb xo xc b off cN ab ao ca:Nat) (w:World) (hw:A.Wf) (hup:∀ b,b<256→∀ c,c<A.cl b→∃ b',b'<b∧A.cl b'=c) (hf:A.Full) (hn:A.n≤1024) (hk:1≤A.k∧A.k≤256) (hcN:A.n * A.k≤cN) (hb:b<w.heap.size) (hx:NxAt w b off A.n A.k A.nx)
  (hxb:xb<w.heap.size) (hcl:∀ q,q<256→w.cell? ⟨xb,xo+q,none⟩ = some (.int .i64 (A.cl q:Nat))) (hab:ab<w.heap.size) (hac:∀ q,q<A.n→w.cell? ⟨ab,ao+q,none⟩ = some (.bool (A.ac q))) :
  Calls Tryz.prog 22 #[.agg #[.slice (some ⟨xb,xo,none⟩) 256 xc,.int .i64 (A.k:Nat),.slice (some ⟨b,off,none⟩) (A.n * A.k) cN,.slice (some ⟨ab,ao,none⟩) A.n ca]] w fun e w' => ∃ (xv nv av:Value) (k:Nat),e = .returned (.agg #[xv,.int .i64 (k:Nat),nv,av])∧Below w.heap.size w w' ∧
   ∃ (o ys:List Nat) (m:Nat) (num F mg G:Nat→Nat),ProgT A o ys m num F k mg G∧m≤1024∧k≤256∧w'.ownsRow w.heap.size 3 1 xv 256 ((clL (ProgT.out A o ys m num F k mg G)).map mI)∧w'.ownsRow w.heap.size 3 1 nv (m * k) ((nxL (ProgT.out A o ys m num F k mg G)).map mI)∧w'.ownsRow w.heap.size 4 1 av m ((acL (ProgT.out A o ys m num F k mg G)).map mT) ∧
    (∀ r,xv.ownBlock=some r→nv.ownBlock ≠ some r∧av.ownBlock ≠ some r)∧∀ r,nv.ownBlock=some r→av.ownBlock ≠ some r:=by
 obtain ⟨W2,hW2⟩ : ∃ W2,W2=(w.alloc (.cells #[.slice (some ⟨xb,xo,none⟩) 256 xc,.int .i64 (A.k:Nat),.slice (some ⟨b,off,none⟩) (A.n * A.k) cN,.slice (some ⟨ab,ao,none⟩) A.n ca] 29)).alloc (.cells #[.slice none 0 0,.int .i64 0,.slice none 0 0,.slice none 0 0] 29):=⟨_,rfl⟩
 have hB2:Below w.heap.size w W2:=by rw [hW2]; exact below2 w _ _
 have hsz2:W2.heap.size=w.heap.size+2:=by rw [hW2,sz_alloc,sz_alloc]
 have hD2:Row4 W2 w.heap.size 29 (.slice (some ⟨xb,xo,none⟩) 256 xc) (.int .i64 (A.k:Nat)) (.slice (some ⟨b,off,none⟩) (A.n * A.k) cN) (.slice (some ⟨ab,ao,none⟩) A.n ca):=by rw [hW2]; exact (Row4.new w _ _ _ _ _).alloc _
 have hE2:Row4 W2 (w.heap.size+1) 29 (.slice none 0 0) (.int .i64 0) (.slice none 0 0) (.slice none 0 0):=by
  have:=Row4.new (w.alloc (.cells #[.slice (some ⟨xb,xo,none⟩) 256 xc,.int .i64 (A.k:Nat),.slice (some ⟨b,off,none⟩) (A.n * A.k) cN,.slice (some ⟨ab,ao,none⟩) A.n ca] 29)) 29 (.slice none 0 0) (.int .i64 0) (.slice none 0 0) (.slice none 0 0)
  rw [sz_alloc] at this
  rw [hW2]
  exact this
 have HRE:=hide (reached_any A (.slice (some ⟨xb,xo,none⟩) 256 xc) b off cN ab ao ca W2 hw hn hk hcN (by omega) (fun q c hq hc => ⟨(hx q c hq hc).1,by rw [hB2.cell (p:=⟨b,off+(q * A.k+c),none⟩) hb]; exact (hx q c hq hc).2⟩) (by omega) (fun q hq => by rw [hB2.cell (p:=⟨ab,ao+q,none⟩) hab]; exact hac q hq) ⟨_,_,_,rfl⟩)
 obtain ⟨L,hL⟩ : ∃ L,L=A.n * A.k:=⟨_,rfl⟩
 rw [← hL] at hcN hD2 hW2 ⊢
 rw [← hL] at HRE
 obtain ⟨f0,f1,f2,f3,-⟩ := hD2.facts
 have HCL:=hide hcl
 have HUP:=hide hup
 have HW2:=hide hW2
 have HB2:=hide hB2
 have HE2:=hide hE2
 clear hL hx hac hW2 hB2 hD2 hE2 hcl hup
 go_enter Tryz.func22,Tryz.ntmps22
 go_wp2_with fail
 rw [← unhide HW2]
 refine (unhide HRE).mono ?_
 rintro e w3 ⟨nv3,av3,rfl,hB3,o,ys,hBf,hyl,hol,hon3,hoa3,-⟩
 have hpre:=bfs_pre (ac:=A.ac) hBf hyl hw.cls (unhide HUP) hf
 obtain ⟨A1,hA1⟩ : ∃ A1,A1=bfsT A.k A.cl A.ac o ys:=⟨_,rfl⟩
 rw [← hA1] at hpre
 have e1n:A1.n=o.length:=by rw [hA1]; rfl
 have e1k:A1.k=A.k:=by rw [hA1]; rfl
 have hop:=hBf.pos
 obtain ⟨g3,c3,rfl,hg3b,hg3,hc3,hNx3⟩ := nx_own (A:=A1) (ys:=ys) (by rw [e1n,e1k,← hyl]; exact hon3) (by rw [e1n,e1k]; exact Nat.mul_pos hop (by omega)) hpre.wf (fun q c hq hc => by
  rw [e1n] at hq
  rw [e1k] at hc ⊢
  rw [hA1]
  show ys[q * A.k+c]? = some (ys[q * A.k+c]?.getD 0)
  rw [List.getElem?_eq_getElem (by rw [hyl]; exact idx_lt hq hc)]
  rfl)
 obtain ⟨a3,ca3,rfl,ha3b,ha3,hAc3⟩ := ac_own (ac:=A1.ac) hoa3 hop (fun q hq => by
  rw [hA1]
  show (o.map A.ac)[q]? = some ((o[q]?.map A.ac).getD false)
  rw [List.getElem?_map,List.getElem?_eq_getElem hq]
  rfl)
 have HMS:=hide (mergeStates_any A1 (.slice (some ⟨xb,xo,none⟩) 256 xc) g3 0 c3 a3 0 ca3 w3 hpre.wf hpre.clAll (by omega) (by omega) hc3 hg3 hNx3 ha3 (by rw [e1n]; exact hAc3) ⟨_,_,_,rfl⟩)
 rw [e1k,e1n] at HMS
 rw [e1k,e1n]
 have HB3:=hide hB3
 have HBF:=hide hBf
 have HYL:=hide hyl
 have HPRE:=hide hpre
 have HA1:=hide hA1
 have HEN:=hide e1n
 have HEK:=hide e1k
 have hz3:=hB3.size
 clear HRE HW2 hB3 hBf hyl hpre hA1 e1n e1k f0 f1 f2 f3 hon3 hoa3 hNx3 hAc3
 go_wp2_with fail
 refine (unhide HMS).mono ?_
 rintro e w4 ⟨nv4,av4,rfl,hB4,m,num,F,hN1,hTel,hmn,hon4,hoa4,-⟩
 have hz4:=hB4.size
 have eA1:=unhide HA1
 subst eA1
 have hpre:=unhide HPRE
 have hpre2:=mrgS_pre hpre hN1 hTel
 have hm0:0<m:=(hN1.zero hpre.wf.pos).2.2
 obtain ⟨g4,c4,rfl,hg4b,hg4,hc4,hNx4⟩ := nx_own (A:=mrgS (bfsT A.k A.cl A.ac o ys) m num F) (ys:=msY (bfsT A.k A.cl A.ac o ys) num F (m * A.k)) hon4 (Nat.mul_pos hm0 (by show 0<A.k; omega)) hpre2.wf (fun q c hq hc => by
  have hlt:q * A.k+c<m * A.k:=idx_lt hq hc
  show (msY (bfsT A.k A.cl A.ac o ys) num F (m * A.k))[q * A.k+c]? = _
  unfold msY
  rw [List.getElem?_map,List.getElem?_range hlt]
  show some (num ((bfsT A.k A.cl A.ac o ys).nx (F ((q * A.k+c) / A.k)) ((q * A.k+c) % A.k)))=_
  have hc':c<A.k:=hc
  rw [(row_at hc').1,(row_at hc').2]
  rfl)
 obtain ⟨a4,ca4,rfl,ha4b,ha4,-⟩ := ac_own (ac:=(mrgS (bfsT A.k A.cl A.ac o ys) m num F).ac) hoa4 hm0 (fun q hq => by
  unfold msZ
  rw [List.getElem?_map,List.getElem?_range hq]
  rfl)
 have hBw4:Below w.heap.size w w4:=(unhide HB2).trans (((unhide HB3).mono (by omega)).trans (hB4.mono (by omega)))
 have HMC:=hide (mergeClasses_any (mrgS (bfsT A.k A.cl A.ac o ys) m num F) xb xo xc g4 0 c4 a4 0 ca4 w4 hpre2.wf (by show m≤1024; omega) hk hc4 hg4 hNx4 (by omega) (fun q hq => by rw [hBw4.cell (p:=⟨xb,xo+q,none⟩) hxb]; exact unhide HCL q hq))
 have HB4:=hide hB4
 have HBW:=hide hBw4
 have HN1:=hide hN1
 have HTL:=hide hTel
 have HOA:=hide hoa4
 clear HMS hB4 hBw4 hN1 hTel hon4 hoa4 hNx4 hpre hpre2
 go_wp2_with fail
 refine (unhide HMC).mono ?_
 rintro e w5 ⟨xv,nv5,k2,rfl,hB5,mg,G,hMg,hk2,hox5,hon5,hna5⟩
 have hz5:=hB5.size
 have hE5:Row4 w5 (w.heap.size+1) 29 (.slice none 0 0) (.int .i64 0) (.slice none 0 0) (.slice none 0 0):=World.rowIs.of_block (unhide HE2) ((hB5.block _ (by omega)).trans (((unhide HB4).block _ (by omega)).trans ((unhide HB3).block _ (by omega))))
 obtain ⟨x0,x1,x2,x3,z0,z1,z2,z3⟩ := hE5.facts
 obtain ⟨oa,oc,e1⟩ := own_is hox5
 obtain ⟨na,nc,e2⟩ := own_is hon5
 subst e1
 subst e2
 obtain ⟨yl,hyl2⟩ : ∃ yl,yl=(mrgS (bfsT A.k A.cl A.ac o ys) m num F).n * k2:=⟨_,rfl⟩
 rw [← hyl2] at hon5 hna5 ⊢
 have hR4:=(((hE5.put0 (u:=.slice oa 256 oc)).put1 (u:=.int .i64 (k2:Nat))).put2 (u:=.slice na yl nc)).put3' (u:=.slice (some ⟨a4,0,none⟩) m ca4)
 have hob:Obk (w.heap.size+1) w5 ((((w5.setCell ⟨w.heap.size+1,0,none⟩ (.slice oa 256 oc)).setCell ⟨w.heap.size+1,1,none⟩ (.int .i64 (k2:Nat))).setCell ⟨w.heap.size+1,2,none⟩ (.slice na yl nc)).setCell ⟨w.heap.size+1,3,none⟩ (.slice (some ⟨a4,0,none⟩) m ca4)):=(((obk_put _ _).trans (obk_put _ _)).trans (obk_put _ _)).trans (obk_put _ _)
 have HR4:=hide hR4
 have HOB:=hide hob
 have HON:=hide hon5
 have HOX:=hide hox5
 have HNA:=hide hna5
 have HMG:=hide hMg
 have HB5:=hide hB5
 have HY2:=hide hyl2
 clear HMC hB5 hMg hox5 hon5 hna5 hE5 hR4 hob hyl2
 go_wp2
 refine bodyPost_ret (dfa_ret (unhide HR4) rfl _ rfl) rfl ?_
 have hob:=unhide HOB
 have hb5:=(unhide HBW).trans ((unhide HB5).mono (by omega))
 have hoa5:=own_blk (unhide HOA) (fun r hr => (unhide HB5).block r (own_lt (unhide HOA) r hr))
 refine ⟨_,_,_,k2,rfl,⟨hob.os.trans hb5.os,hob.tape.trans hb5.tape,hob.output.trans hb5.output,Nat.le_trans hb5.size (Nat.le_of_eq hob.size.symm),fun k hk => (hob.block k (by omega)).trans (hb5.block k hk)⟩,o,ys,m,num,F,mg,G,⟨hw,unhide HUP,hf,unhide HBF,unhide HYL,unhide HN1,unhide HTL,(unhide HMG).num,(unhide HMG).sm⟩,?_,?_,?_,?_,?_,fun r hr => ⟨unhide HNA r hr,fun e => ?_⟩,fun r hr e => ?_⟩
 ·have:m≤o.length:=hmn
  omega
 ·have:k2≤A.k:=hk2
  omega
 ·have e9:(clL (ProgT.out A o ys m num F k2 mg G)).map mI=(mcX (mrgS (bfsT A.k A.cl A.ac o ys) m num F) mg 256).map mN:=by
   unfold clL mcX
   rw [List.map_map,List.map_map]
   rfl
  rw [e9]
  exact own_low (own_blk (unhide HOX) (fun r hr => hob.block r (by have:=((unhide HOX).lt r hr).1; omega))) (by omega)
 ·have e9:(nxL (ProgT.out A o ys m num F k2 mg G)).map mI=(mcY (mrgS (bfsT A.k A.cl A.ac o ys) m num F) G k2 (m * k2)).map mN:=by
   unfold nxL mcY
   rw [List.map_map,List.map_map]
   rfl
  rw [e9]
  have e10:yl=m * k2:=unhide HY2
  rw [← e10]
  have h9:=own_low (own_blk (unhide HON) (fun r hr => hob.block r (by have:=((unhide HON).lt r hr).1; omega))) (b':=w.heap.size) (by omega)
  exact h9
 ·have e9:(acL (ProgT.out A o ys m num F k2 mg G)).map mT=(msZ (bfsT A.k A.cl A.ac o ys) F m).map mT:=rfl
  rw [e9]
  exact own_low (own_blk hoa5 (fun r hr => hob.block r (by have:=(hoa5.lt r hr).1; omega))) (by omega)
 ·have h1:=((unhide HOX).lt r hr).1
  have h2:=Option.some.inj e
  have h3:a4=r:=h2
  omega
 ·have h1:=((unhide HON).lt r hr).1
  have h3:a4=r:=Option.some.inj e
  omega
def Gro (v:Value) (z:Nat):Nat→Prop:=fun q => v.ownBlock=some q∨z≤q
theorem gro_of {w w':World} {v:Value} {o:Obj} (r2:(w.alloc o).grownBy w' v.ownBlock):FrO (Gro v w.heap.size) w w':=by
 have hz:w.heap.size≤(w.alloc o).heap.size:=by rw [sz_alloc]; omega
 refine ⟨r2.os,r2.tape,r2.output,Nat.le_trans hz r2.size,fun k hk => ?_⟩
 have h1:v.ownBlock ≠ some k:=fun e => hk (.inl e)
 have h2:k<w.heap.size:=by apply Nat.lt_of_not_le; intro e; exact hk (.inr e)
 have h3:=r2.block k (by rw [sz_alloc]; omega) (Ne.symm h1)
 rw [h3]
 exact (below1 w o).block k h2
theorem app_n1 {w:World} {ops:Array Oper} {rest:List Oper} {o:Oper} {a:Act} {Q:Exit→Act→World→Prop} (hgd:o.guard=none) (s x:Operand)
  (ho:o.op = .call { callee:=.builtin .append,args:=#[s,x],argTypes:=#[26,26] }) (base:Nat) (v:Value) (hs:a.eval s=v) (y:Nat) (hx:a.eval x = .slice (some ⟨w.heap.size,0,none⟩) 1 1) (xs:List Nat)
  (h1:w.ownsRow base 3 1 v xs.length (xs.map mN)) (hb:base≤w.heap.size) (hl:xs.length≤1000000)
  (h:∀ v' w',w'.ownsRow base 3 1 v' (xs ++ [y]).length ((xs ++ [y]).map mN)→FrO (Gro v w.heap.size) w w'→(∀ q,v'.ownBlock=some q→v.ownBlock=some q∨w.heap.size≤q)→wpList Tryz.prog ops Q rest (a.put o.dst v') w'):wpList Tryz.prog ops Q (o :: rest) a (w.alloc (.cells #[.int .i64 (y:Nat)] 3)):=by
 obtain ⟨i0,hi,hz0,hz1,hz2⟩ := info_parts Tryz.zinInt
 refine wpList_append_own_at _ hgd s x 26 ho base 3 i0 (.int .i64 0) 1 8 Tryz.underlying26 hi hz0 hz1 hz2 rfl (by decide) v xs.length (xs.map mN) hs (h1.alloc _) ⟨w.heap.size,0,none⟩ 1 1 [.int .i64 (y:Nat)] hx rfl (cell_one_new _ _ _) (fun u hu => by rw [List.mem_singleton] at hu; subst hu; rfl) (by unfold maxLen; omega) (by omega) (by rw [sz_alloc]; omega) ?_
 intro v' w' r1 r2 _ r3
 refine h v' w' (by rw [List.map_append,List.length_append]; exact r1) (gro_of r2) (fun q hq => ?_)
 rcases r3 with e | e
 ·rw [e] at hq; exact .inl hq
 ·rw [e] at hq
  cases hq
  rw [sz_alloc]
  exact .inr (by omega)
theorem app_t1 {w:World} {ops:Array Oper} {rest:List Oper} {o:Oper} {a:Act} {Q:Exit→Act→World→Prop} (hgd:o.guard=none) (s x:Operand)
  (ho:o.op = .call { callee:=.builtin .append,args:=#[s,x],argTypes:=#[27,27] }) (base:Nat) (v:Value) (hs:a.eval s=v) (y:Bool) (hx:a.eval x = .slice (some ⟨w.heap.size,0,none⟩) 1 1) (xs:List Bool)
  (h1:w.ownsRow base 4 1 v xs.length (xs.map mT)) (hb:base≤w.heap.size) (hl:xs.length≤1000000)
  (h:∀ v' w',w'.ownsRow base 4 1 v' (xs ++ [y]).length ((xs ++ [y]).map mT)→FrO (Gro v w.heap.size) w w'→(∀ q,v'.ownBlock=some q→v.ownBlock=some q∨w.heap.size≤q)→wpList Tryz.prog ops Q rest (a.put o.dst v') w'):wpList Tryz.prog ops Q (o :: rest) a (w.alloc (.cells #[.bool y] 4)):=by
 obtain ⟨i0,hi,hz0,hz1,hz2⟩ := info_parts Tryz.zinBoR
 refine wpList_append_own_at _ hgd s x 27 ho base 4 i0 (.bool false) 1 1 Tryz.underlying27 hi hz0 hz1 hz2 rfl (by decide) v xs.length (xs.map mT) hs (h1.alloc _) ⟨w.heap.size,0,none⟩ 1 1 [.bool y] hx rfl (cell_one_new _ _ _) (fun u hu => by rw [List.mem_singleton] at hu; subst hu; rfl) (by unfold maxLen; omega) (by omega) (by rw [sz_alloc]; omega) ?_
 intro v' w' r1 r2 _ r3
 refine h v' w' (by rw [List.map_append,List.length_append]; exact r1) (gro_of r2) (fun q hq => ?_)
 rcases r3 with e | e
 ·rw [e] at hq; exact .inl hq
 ·rw [e] at hq
  cases hq
  rw [sz_alloc]
  exact .inr (by omega)
def Ap (v u:Value):Prop:=∀ q,v.ownBlock=some q→u.ownBlock ≠ some q
theorem Ap.symm {v u:Value} (h:Ap v u):Ap u v:=fun q hq e => h q e hq
theorem FrO.own {base e sz n:Nat} {w w':World} {v u:Value} {xs:List Value} (h:FrO (Gro v w.heap.size) w w') (ho:w.ownsRow base e sz u n xs) (ha:Ap u v):w'.ownsRow base e sz u n xs :=
 own_blk ho fun q hq => h.block q (fun hg => by
  rcases hg with k | k
  ·exact ha q hq k
  ·have:=(ho.lt q hq).2; omega)
theorem Ap.grow {base e sz n:Nat} {w:World} {v v' u:Value} {xs:List Value} (ha:Ap u v) (ho:w.ownsRow base e sz u n xs) (hv:∀ q,v'.ownBlock=some q→v.ownBlock=some q∨w.heap.size≤q):Ap u v':=fun q hq e9 => by
 rcases hv q e9 with k | k
 ·exact ha q hq k
 ·have:=(ho.lt q hq).2; omega
theorem FrO.belowG {base e sz n m:Nat} {w w':World} {v:Value} {xs:List Value} (h:FrO (Gro v w.heap.size) w w') (ho:w.ownsRow base e sz v n xs) (hm:m≤base) (hb:base≤w.heap.size):Below m w w' :=
 h.below fun k hk hg => by
  rcases hg with e | e
  ·have:=(ho.lt k e).1; omega
  ·omega
structure RdS (A:Tb) (n k:Nat) (xb xo xc b off L cN ab ao ca D pb:Nat) (pv:Nat→Int) (w:World):Prop where
 d:Row4 w D 29 (.slice (some ⟨xb,xo,none⟩) 256 xc) (.int .i64 (k:Nat)) (.slice (some ⟨b,off,none⟩) L cN) (.slice (some ⟨ab,ao,none⟩) n ca)
 p:w.rowIs pb 3 n (fun q => .int .i64 (pv q))
 x:NxAt w b off n k A.nx
 c:∀ q,q<256→w.cell? ⟨xb,xo+q,none⟩ = some (.int .i64 (A.cl q:Nat))
 a:∀ q,q<n→w.cell? ⟨ab,ao+q,none⟩ = some (.bool (A.ac q))
theorem RdS.keep {A:Tb} {n k:Nat} {xb xo xc b off L cN ab ao ca D pb g:Nat} {pv:Nat→Int} {w w':World} (h:RdS A n k xb xo xc b off L cN ab ao ca D pb pv w) (hB:Below g w w') (h1:D<g) (h2:pb<g) (h3:b<g) (h4:ab<g) (h5:xb<g):RdS A n k xb xo xc b off L cN ab ao ca D pb pv w' where
 d:=h.d.below hB h1
 p:=h.p.of_block (hB.block pb h2)
 x:=fun q c hq hc => ⟨(h.x q c hq hc).1,by rw [hB.cell (p:=⟨b,off+(q * k+c),none⟩) h3]; exact (h.x q c hq hc).2⟩
 c:=fun q hq => by rw [hB.cell (p:=⟨xb,xo+q,none⟩) h5]; exact h.c q hq
 a:=fun q hq => by rw [hB.cell (p:=⟨ab,ao+q,none⟩) h4]; exact h.a q hq
end Go.Proofs.YtlidckepahpaeaaGreatDoor
