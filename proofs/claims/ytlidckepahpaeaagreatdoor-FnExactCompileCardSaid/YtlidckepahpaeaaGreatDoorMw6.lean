import Derived.Test.YtlidckepahpaeaaGreatDoorPk31
namespace Go.Proofs.YtlidckepahpaeaaGreatDoor
open Go.RowKit
theorem bkK_eq {A:Tb} {pv:Nat→Int} {b b':Nat} (h:∀ q,q<A.n→pv q=(q:Int)→pv (A.nx q (A.cl b))=pv (A.nx q (A.cl b'))):bkK A pv b=bkK A pv b':=by
 funext q
 simp only [bkK]
 split
 ·rename_i hq; exact h q hq.1 hq.2
 ·rfl
theorem bkK_ne {A:Tb} {pv:Nat→Int} {b b' q:Nat} (hq:q<A.n) (h1:pv q=(q:Int)) (h:pv (A.nx q (A.cl b)) ≠ pv (A.nx q (A.cl b'))):bkK A pv b ≠ bkK A pv b':=fun e => by
 have:=congrFun e q
 simp only [bkK,hq,h1,and_self,if_true] at this
 exact h this
theorem bfs_few {k n:Nat} {f:Nat→Nat→Nat} {s0:Nat} {o ys:List Nat} (h:Bfs k f s0 o ys) (ho:∀ x ∈ o,x<n):o.length≤n:=by
 refine nodup_le n o ?_ ho
 rw [List.nodup_iff_pairwise_ne,List.pairwise_iff_getElem]
 intro i j hi hj hij e
 have:=h.nd i j hi hj (by rw [List.getElem?_eq_getElem hi,List.getElem?_eq_getElem hj,e])
 omega
set_option maxHeartbeats 4000000 in
set_option maxRecDepth 100000 in
theorem l2smallest_any (A:Tb) (n k:Nat) (xb xo xc b off cN ab ao ca:Nat) (w:World) (hAn:A.n=n) (hAk:A.k=k) (hw:A.Wf) (hf:A.Full) (hn:n≤1024) (hk:1≤k∧k≤256) (hb:b<w.heap.size) (hx:NxAt w b off n k A.nx)
  (hxb:xb<w.heap.size) (hcl:∀ q,q<256→w.cell? ⟨xb,xo+q,none⟩ = some (.int .i64 (A.cl q:Nat))) (hab:ab<w.heap.size) (hac:∀ q,q<n→w.cell? ⟨ab,ao+q,none⟩ = some (.bool (A.ac q))) :
  Calls Tryz.prog 16 #[.agg #[.slice (some ⟨xb,xo,none⟩) 256 xc,.int .i64 (k:Nat),.slice (some ⟨b,off,none⟩) (n * k) cN,.slice (some ⟨ab,ao,none⟩) n ca]] w fun e w' => ∃ (xv nv av:Value) (kk:Nat),e = .returned (.agg #[xv,.int .i64 (kk:Nat),nv,av])∧Below w.heap.size w w' ∧
   ∃ (P cls rep:Nat→Nat) (o ys:List Nat),SpecT A P kk cls rep o ys∧o.length≤1024∧kk≤256∧w'.ownsRow w.heap.size 3 1 xv 256 ((clL (bfsT kk cls A.ac o ys)).map mI)∧w'.ownsRow w.heap.size 3 1 nv (o.length * kk) ((nxL (bfsT kk cls A.ac o ys)).map mI)∧w'.ownsRow w.heap.size 4 1 av o.length ((acL (bfsT kk cls A.ac o ys)).map mT):=by
 have hn1:1≤n:=by rw [← hAn]; exact hw.pos
 have hLn:n * k≤1024 * 256:=Nat.mul_le_mul hn hk.2
 obtain ⟨W2,hW2⟩ : ∃ W2,W2=(w.alloc (.cells #[.slice (some ⟨xb,xo,none⟩) 256 xc,.int .i64 (k:Nat),.slice (some ⟨b,off,none⟩) (n * k) cN,.slice (some ⟨ab,ao,none⟩) n ca] 29)).alloc (.cells #[.slice none 0 0,.int .i64 0,.slice none 0 0,.slice none 0 0] 29):=⟨_,rfl⟩
 have hB2:Below w.heap.size w W2:=by rw [hW2]; exact below2 w _ _
 have hsz2:W2.heap.size=w.heap.size+2:=by rw [hW2,sz_alloc,sz_alloc]
 have hD2:Row4 W2 w.heap.size 29 (.slice (some ⟨xb,xo,none⟩) 256 xc) (.int .i64 (k:Nat)) (.slice (some ⟨b,off,none⟩) (n * k) cN) (.slice (some ⟨ab,ao,none⟩) n ca):=by rw [hW2]; exact (Row4.new w _ _ _ _ _).alloc _
 have hE2:Row4 W2 (w.heap.size+1) 29 (.slice none 0 0) (.int .i64 0) (.slice none 0 0) (.slice none 0 0):=by
  have:=Row4.new (w.alloc (.cells #[.slice (some ⟨xb,xo,none⟩) 256 xc,.int .i64 (k:Nat),.slice (some ⟨b,off,none⟩) (n * k) cN,.slice (some ⟨ab,ao,none⟩) n ca] 29)) 29 (.slice none 0 0) (.int .i64 0) (.slice none 0 0) (.slice none 0 0)
  rw [sz_alloc] at this
  rw [hW2]
  exact this
 have hx2:NxAt W2 b off n k A.nx:=fun q c hq hc => ⟨(hx q c hq hc).1,by rw [hB2.cell (p:=⟨b,off+(q * k+c),none⟩) hb]; exact (hx q c hq hc).2⟩
 have hac2:∀ q,q<n→W2.cell? ⟨ab,ao+q,none⟩ = some (.bool (A.ac q)):=fun q hq => by rw [hB2.cell (p:=⟨ab,ao+q,none⟩) hab]; exact hac q hq
 have hcl2:∀ q,q<256→W2.cell? ⟨xb,xo+q,none⟩ = some (.int .i64 (A.cl q:Nat)):=fun q hq => by rw [hB2.cell (p:=⟨xb,xo+q,none⟩) hxb]; exact hcl q hq
 have HBL:=hide (l2blocks_any A n k (.slice (some ⟨xb,xo,none⟩) 256 xc) b off cN ab ao ca W2 hAn hAk hw hf hn hk (by omega) hx2 (by omega) hac2)
 obtain ⟨L,hL⟩ : ∃ L,L=n * k:=⟨_,rfl⟩
 rw [← hL] at hLn hW2 hD2 ⊢
 rw [← hL] at HBL
 obtain ⟨f0,f1,f2,f3,-⟩ := hD2.facts
 have HL:=hide hL
 have HX2:=hide hx2
 have HAC:=hide hac2
 have HCL:=hide hcl2
 have HAn:=hide hAn
 have HAk:=hide hAk
 have HW:=hide hw
 have HF:=hide hf
 have HW2:=hide hW2
 have HB2:=hide hB2
 have HD2:=hide hD2
 have HE2:=hide hE2
 clear hL hx hAn hAk hw hf hac hcl hx2 hac2 hcl2 hW2 hB2 hD2 hE2
 go_enter Tryz.func16,Tryz.ntmps16
 go_wp2_with fail
 rw [← unhide HW2]
 refine (unhide HBL).mono ?_
 rintro e w3 ⟨pb,rfl,hB3,hpb,pv,r,hP3,hr,hBk,hFs⟩
 have hz3:=hB3.size
 have hpb3:=hP3.lt
 have hRd3:RdS A n k xb xo xc b off L cN ab ao ca w.heap.size pb pv w3:=⟨(unhide HD2).below hB3 (by omega),hP3,fun q c hq hc => ⟨(unhide HX2 q c hq hc).1,by rw [hB3.cell (p:=⟨b,off+(q * k+c),none⟩) (by show b<W2.heap.size; omega)]; exact (unhide HX2 q c hq hc).2⟩,fun q hq => by rw [hB3.cell (p:=⟨xb,xo+q,none⟩) (by show xb<W2.heap.size; omega)]; exact unhide HCL q hq,fun q hq => by rw [hB3.cell (p:=⟨ab,ao+q,none⟩) (by show ab<W2.heap.size; omega)]; exact unhide HAC q hq⟩
 have hE3:=(unhide HE2).below hB3 (by omega)
 have hBw3:Below w.heap.size w w3:=(unhide HB2).trans (hB3.mono (by omega))
 have hcls:∀ q,q<256→A.cl q<k:=fun q hq => by rw [← unhide HAk]; exact (unhide HW).cls q hq
 have HRd3:=hide hRd3
 have HE3:=hide hE3
 have HBw3:=hide hBw3
 have HR:=hide hr
 have HBk:=hide hBk
 have HFs:=hide hFs
 have HCLS:=hide hcls
 clear hRd3 hE3 hBw3 hr hBk hFs hB3 hP3 HBL HX2 HAC HCL HW2 HB2 HD2 HE2 f0 f1 f2 f3 hcls
 go_wp2_with fail
 go_loopw [4,5,6] (fun cv rv bv wr => ∃ (i:Nat) (ns fs:List Nat),i≤256∧bv = .int .i64 (i:Nat)∧ns.length=i∧fs.length≤i∧wr.ownsRow w3.heap.size 3 1 cv ns.length (ns.map mN)∧wr.ownsRow w3.heap.size 3 1 rv fs.length (fs.map mN)∧Ap cv rv∧Below w3.heap.size w3 wr∧NumL (bkK A pv) (fs.map (bkK A pv)) ns fs∧∀ x ∈ fs,x<256) (fun _ _ bv _ => 256 - (intOf bv).toNat)
 case atStart => exact ⟨0,[],[],by omega,rfl,rfl,by simp,World.ownsRow_nil _ _ _ _,World.ownsRow_nil _ _ _ _,(fun q hq => by cases hq),Below.refl _ _,NumL.nil _,fun x hx => by cases hx⟩
 case round =>
  obtain ⟨i,ns,fs,hi,rfl,hns,hfs,hoc,hor,hap,hB,hN,h256⟩ := hrel
  obtain ⟨w4,rfl⟩ : ∃ w4,w4=wr:=⟨_,rfl⟩
  have hz4:=hB.size
  have hRd4:=(unhide HRd3).keep hB (by omega) (by omega) (by omega) (by omega) (by omega)
  obtain ⟨oa,oc,rfl⟩ := own_is hoc
  obtain ⟨ra,rc,rfl⟩ := own_is hor
  have HRd4:=hide hRd4
  have HOC:=hide hoc
  have HOR:=hide hor
  have HAP:=hide hap
  have HB4:=hide hB
  have HN:=hide hN
  have H256:=hide h256
  have HNS:=hide hns
  have hnl:ns.length≤256:=by omega
  clear hRd4 hoc hor hap hB hN h256 hns
  by_cases hlt:i<256
  ·have hlt':(i:Int)<256:=by omega
   go_wp2_with fail
   go_loopw [7,8] (fun fv kv wx => ∃ j:Nat,j≤fs.length∧kv = .int .i64 (j:Nat)∧Obk w4.heap.size w4 wx∧((fv = .int .i64 (-1)∧∀ j' y,j'<j→fs[j']? = some y→bkK A pv y ≠ bkK A pv i)∨∃ m:Nat,fv = .int .i64 (m:Nat)∧(fs.map (bkK A pv))[m]? = some (bkK A pv i))) (fun _ kv _ => fs.length - (intOf kv).toNat)
   case atStart => exact ⟨0,by omega,rfl,Obk.refl _ _,.inl ⟨rfl,fun j' y hj' => by omega⟩⟩
   case round =>
    obtain ⟨j,hj,rfl,hO,hfv⟩ := hrel
    obtain ⟨w5,rfl⟩ : ∃ w5,w5=wr:=⟨_,rfl⟩
    have hz5:=Nat.le_of_eq hO.size.symm
    rcases hfv with ⟨rfl,hno⟩ | ⟨m,rfl,hm⟩
    ·by_cases hjl:j<fs.length
     ·have hjl':(j:Int)<(fs.length:Int):=by omega
      obtain ⟨y,hy⟩ : ∃ y,fs[j]? = some y:=⟨_,List.getElem?_eq_getElem hjl⟩
      have hy256:=unhide H256 y (List.mem_of_getElem? hy)
      obtain ⟨cy,hcy⟩ : ∃ cy,cy=A.cl y:=⟨_,rfl⟩
      obtain ⟨ci,hci⟩ : ∃ ci,ci=A.cl i:=⟨_,rfl⟩
      have hcyk:cy<k:=by rw [hcy]; exact unhide HCLS y hy256
      have hcik:ci<k:=by rw [hci]; exact unhide HCLS i hlt
      have HNO:=hide hno
      have HO:=hide hO
      have HY:=hide hy
      have HCY:=hide hcy
      have HCI:=hide hci
      clear hno hO hy hcy hci
      go_wp2_with fail
      go_loopw [9,10] (fun sv qv wx => ∃ (q:Nat) (sm:Bool),q≤n∧qv = .int .i64 (q:Nat)∧sv = .bool sm∧Obk w4.heap.size w4 wx∧(sm=true→∀ q',q'<q→pv q'=(q':Int)→pv (A.nx q' ci)=pv (A.nx q' cy))∧(sm=false→∃ q',q'<n∧pv q'=(q':Int)∧pv (A.nx q' ci) ≠ pv (A.nx q' cy))) (fun _ qv _ => n - (intOf qv).toNat)
      case atStart => exact ⟨0,true,by omega,rfl,rfl,unhide HO,fun _ q' hq' => by omega,fun h => by cases h⟩
      case round =>
       obtain ⟨q,sm,hq,rfl,rfl,hOx,hs1,hs2⟩ := hrel
       obtain ⟨w6,rfl⟩ : ∃ w6,w6=wr:=⟨_,rfl⟩
       clear HO
       have hz6:=Nat.le_of_eq hOx.size.symm
       cases sm
       ·have HO:=hide hOx
        have HS2:=hide (hs2 rfl)
        clear hOx hs1 hs2
        by_cases hql:q<n
        ·have hql':(q:Int)<(n:Int):=by omega
         go_wp2_with fail
         go_roundw
         case rel => exact ⟨j+1,by omega,by go_num,unhide HO,.inl ⟨rfl,fun j' y' hj' hy' => (by
          by_cases e:j'=j
          ·subst e
           have hyy:=(unhide HY).symm.trans hy'
           cases hyy
           obtain ⟨q',h1,h2,h3⟩ := unhide HS2
           exact fun hh => bkK_ne (by rw [unhide HAn]; exact h1) h2 (by rw [← unhide HCI,← unhide HCY]; exact h3) hh.symm
          ·exact unhide HNO j' y' (by omega) hy')⟩⟩
         case measure => simp [intOf]; omega
        ·have hql':¬ (q:Int)<(n:Int):=by omega
         go_wp2_with fail
         go_roundw
         case rel => exact ⟨j+1,by omega,by go_num,unhide HO,.inl ⟨rfl,fun j' y' hj' hy' => (by
          by_cases e:j'=j
          ·subst e
           have hyy:=(unhide HY).symm.trans hy'
           cases hyy
           obtain ⟨q',h1,h2,h3⟩ := unhide HS2
           exact fun hh => bkK_ne (by rw [unhide HAn]; exact h1) h2 (by rw [← unhide HCI,← unhide HCY]; exact h3) hh.symm
          ·exact unhide HNO j' y' (by omega) hy')⟩⟩
         case measure => simp [intOf]; omega
       by_cases hql:q<n
       ·have hql':(q:Int)<(n:Int):=by omega
        have hRd:=(unhide HRd4).keep hOx.blw (by omega) (by omega) (by omega) (by omega) (by omega)
        obtain ⟨f0,f1,f2,f3,-⟩ := hRd.d.facts
        have y0:=hRd.p.cell (i:=q) hql
        obtain ⟨xq,hxq⟩ : ∃ xq,xq=pv q:=⟨_,rfl⟩
        rw [← hxq] at y0
        by_cases hself:xq=(q:Int)
        ·have hself':=hself
         rw [hself] at y0
         have y1:=hRd.c i hlt
         have y2:=hRd.c y hy256
         rw [← unhide HCI] at y1
         rw [← unhide HCY] at y2
         have hcell:=(own_at (own_blk (unhide HOR) (fun g hg => hOx.block g (by have:=((unhide HOR).lt g hg).2; omega))) (by omega))
         obtain ⟨rg,rcap,e9,hcell⟩ := hcell
         have y3:w6.cell? ⟨rg,j,none⟩ = some (.int .i64 (y:Nat)):=by rw [hcell j hjl,List.getElem?_map,unhide HY]; rfl
         obtain ⟨v1,v2⟩ := hRd.x q ci hql hcik
         obtain ⟨u1,u2⟩ := hRd.x q cy hql hcyk
         have hat0:q * k+ci<L:=by rw [unhide HL]; exact idx_lt hql hcik
         have hau0:q * k+cy<L:=by rw [unhide HL]; exact idx_lt hql hcyk
         obtain ⟨m,t,a1,ht,hat,a2,a3,a4⟩ := at_facts (by omega) hat0
         obtain ⟨m',t',b1,ht',hat',b2,b3,b4⟩ := at_facts (by omega) hau0
         obtain ⟨np,hnp⟩ : ∃ y,y=A.nx q ci:=⟨_,rfl⟩
         obtain ⟨nq',hnq⟩ : ∃ y,y=A.nx q cy:=⟨_,rfl⟩
         rw [← ht,← hnp] at v2
         rw [← ht',← hnq] at u2
         rw [← hnp] at v1
         rw [← hnq] at u1
         have y4:=hRd.p.cell (i:=np) v1
         have y5:=hRd.p.cell (i:=nq') u1
         obtain ⟨xv,hxv⟩ : ∃ xv,xv=pv np:=⟨_,rfl⟩
         obtain ⟨yv,hyv⟩ : ∃ yv,yv=pv nq':=⟨_,rfl⟩
         rw [← hxv] at y4
         rw [← hyv] at y5
         have v1':(np:Int)<(n:Int):=by omega
         have u1':(nq':Int)<(n:Int):=by omega
         rw [hnp] at hxv
         rw [hnq] at hyv
         have em:m'=m:=Int.ofNat.inj (b1.symm.trans a1)
         subst em
         have hrax:ra=some ⟨rg,0,none⟩∧rc=rcap:=by simpa using e9
         obtain ⟨rfl,rfl⟩ := hrax
         have HXV:=hide hxv
         have HYV:=hide hyv
         have HO:=hide hOx
         have HS1:=hide (hs1 rfl)
         have HXQ:=hide hxq
         have HSELF:=hide hself'
         clear hOx hs1 hs2 hRd hxv hyv hnp hnq ht ht' hat0 hau0 hcell e9 hxq hself hself' b1 b2
         by_cases he:xv=yv
         ·go_wp2_with fail
          go_quiet (fail)
          go_wp2_with fail
          go_quiet (fail)
          go_wp2_with fail
          go_roundw
          case rel => exact ⟨q+1,true,by omega,by go_num,rfl,(unhide HO).drewN _,fun _ q' hq' hp' => (by
           by_cases e:q'=q
           ·subst e; rw [← unhide HXV,← unhide HYV]; exact he
           ·exact unhide HS1 q' (by omega) hp'),fun h => by cases h⟩
          case measure => simp [intOf]; omega
         ·go_wp2_with fail
          go_quiet (fail)
          go_wp2_with fail
          go_quiet (fail)
          go_wp2_with fail
          go_roundw
          case rel => exact ⟨q+1,false,by omega,by go_num,by rw [beq_eq_false_iff_ne.mpr he],(unhide HO).drewN _,(fun h => by cases h),fun _ => ⟨q,hql,(unhide HXQ).symm.trans (unhide HSELF),by rw [← unhide HXV,← unhide HYV]; exact he⟩⟩
          case measure => simp [intOf]; omega
        ·have HO:=hide hOx
         have HS1:=hide (hs1 rfl)
         have HXQ:=hide hxq
         clear hOx hs1 hs2 hRd hxq
         go_wp2_with fail
         go_roundw
         case rel => exact ⟨q+1,true,by omega,by go_num,rfl,unhide HO,fun _ q' hq' hp' => (by
          by_cases e:q'=q
          ·subst e; exact absurd ((unhide HXQ).trans hp') hself
          ·exact unhide HS1 q' (by omega) hp'),fun h => by cases h⟩
         case measure => simp [intOf]; omega
       ·have hql':¬ (q:Int)<(n:Int):=by omega
        obtain rfl:q=n:=by omega
        have heq:bkK A pv i=bkK A pv y:=bkK_eq (by rw [unhide HAn,← unhide HCI,← unhide HCY]; exact hs1 rfl)
        have HEQ:=hide heq
        have HO:=hide hOx
        clear hOx hs1 hs2 heq
        go_wp2_with fail
        go_roundw
        case rel => exact ⟨j+1,by omega,by go_num,unhide HO,.inr ⟨j,rfl,by rw [List.getElem?_map,unhide HY,unhide HEQ]; rfl⟩⟩
        case measure => simp [intOf]; omega
     ·have hjl':¬ (j:Int)<(fs.length:Int):=by omega
      obtain rfl:j=fs.length:=by omega
      have hor5:=own_blk (unhide HOR) (fun g hg => hO.block g (by have:=((unhide HOR).lt g hg).2; omega))
      have hoc5:=own_blk (unhide HOC) (fun g hg => hO.block g (by have:=((unhide HOC).lt g hg).2; omega))
      have hB5:Below w3.heap.size w3 w5:=(unhide HB4).trans (hO.blw.mono (by omega))
      have hN5:NumL (bkK A pv) ((fs ++ [i]).map (bkK A pv)) (ns ++ [fs.length]) (fs ++ [i]):=by
       have:=(unhide HN).new (fun j' hj' e => by
        rw [List.getElem?_map] at e
        obtain ⟨y,hy,hy2⟩ := Option.map_eq_some_iff.1 e
        rw [unhide HNS] at hy2
        exact hno j' y (by rw [List.length_map] at hj'; exact hj') hy hy2)
       rw [unhide HNS,List.length_map] at this
       rw [List.map_append]
       exact this
      have HOR5:=hide hor5
      have HOC5:=hide hoc5
      have HB5:=hide hB5
      have HN5:=hide hN5
      clear hor5 hoc5 hB5 hN5 hno hO
      go_wp2_with (at_builtin; refine app_n1 rfl _ _ rfl w3.heap.size (.slice ra fs.length rc) rfl i rfl fs (unhide HOR5) ?_ ?_ ?_)
      ·omega
      ·omega
      intro rv6 w6 r1 r2 r3
      have hoc6:=r2.own (unhide HOC5) (unhide HAP)
      have hap6:=(unhide HAP).grow (unhide HOC5) r3
      have hB6:Below w3.heap.size w3 w6:=(unhide HB5).trans (r2.belowG (unhide HOR5) (Nat.le_refl _) (by omega))
      have hz6:=hB6.size
      obtain ⟨fs2,hfs2⟩ : ∃ fs2,fs2=fs ++ [i]:=⟨_,rfl⟩
      have hfl2:fs2.length≤i+1:=by rw [hfs2]; simp; omega
      have r1:w6.ownsRow w3.heap.size 3 1 rv6 fs2.length (fs2.map mN):=by rw [hfs2,List.length_append,List.map_append]; exact r1
      rw [← hfs2] at HN5
      have h256b:∀ x ∈ fs2,x<256:=fun x hx => by
       rw [hfs2,List.mem_append,List.mem_singleton] at hx
       rcases hx with hx | hx
       ·exact unhide H256 x hx
       ·omega
      obtain ⟨ra2,rc2,rfl⟩ := own_is r1
      have HOR6:=hide r1
      have HOC6:=hide hoc6
      have HAP6:=hide hap6
      have HB6:=hide hB6
      have H256b:=hide h256b
      clear r1 r2 r3 hoc6 hap6 hB6 hfs2 h256b HOR5 HOC5 HB5
      go_wp2_with (at_builtin; refine app_n1 rfl _ _ rfl w3.heap.size (.slice oa ns.length oc) rfl fs.length rfl ns (unhide HOC6) ?_ ?_ ?_)
      ·omega
      ·omega
      intro cv7 w7 r1 r2 r3
      have hor7:=r2.own (unhide HOR6) (unhide HAP6).symm
      have hap7:=((unhide HAP6).symm.grow (unhide HOR6) r3).symm
      have hB7:Below w3.heap.size w3 w7:=(unhide HB6).trans (r2.belowG (unhide HOC6) (Nat.le_refl _) (by omega))
      obtain ⟨ns2,hns2⟩ : ∃ ns2,ns2=ns ++ [fs.length]:=⟨_,rfl⟩
      have hnl2:ns2.length=i+1:=by rw [hns2,← unhide HNS]; simp
      have r1:w7.ownsRow w3.heap.size 3 1 cv7 ns2.length (ns2.map mN):=by rw [hns2,List.length_append,List.map_append]; exact r1
      rw [← hns2] at HN5
      have HOC7:=hide r1
      have HOR7:=hide hor7
      have HAP7:=hide hap7
      have HB7:=hide hB7
      have HNL2:=hide hnl2
      clear r1 r2 r3 hor7 hap7 hB7 hns2 hnl2 HOC6 HOR6
      go_wp2
      go_roundw
      case rel => exact ⟨i+1,ns2,fs2,by omega,by go_num,unhide HNL2,hfl2,unhide HOC7,unhide HOR7,unhide HAP7,unhide HB7,unhide HN5,unhide H256b⟩
      case measure => simp [intOf]; omega
    ·have hor5:=own_blk (unhide HOR) (fun g hg => hO.block g (by have:=((unhide HOR).lt g hg).2; omega))
     have hoc5:=own_blk (unhide HOC) (fun g hg => hO.block g (by have:=((unhide HOC).lt g hg).2; omega))
     have hB5:Below w3.heap.size w3 w5:=(unhide HB4).trans (hO.blw.mono (by omega))
     have hN5:NumL (bkK A pv) (fs.map (bkK A pv)) (ns ++ [m]) fs:=(unhide HN).old (by rw [unhide HNS]; exact hm)
     have HOR5:=hide hor5
     have HOC5:=hide hoc5
     have HB5:=hide hB5
     have HN5:=hide hN5
     have hm0:¬ (m:Int)<0:=by omega
     clear hor5 hoc5 hB5 hN5 hm hO
     by_cases hjl:j<fs.length
     ·have hjl':(j:Int)<(fs.length:Int):=by omega
      go_wp2_with (at_builtin; refine app_n1 rfl _ _ rfl w3.heap.size (.slice oa ns.length oc) rfl m rfl ns (unhide HOC5) ?_ ?_ ?_)
      ·omega
      ·omega
      intro cv7 w7 r1 r2 r3
      have hor7:=r2.own (unhide HOR5) (unhide HAP).symm
      have hap7:=((unhide HAP).symm.grow (unhide HOR5) r3).symm
      have hB7:Below w3.heap.size w3 w7:=(unhide HB5).trans (r2.belowG (unhide HOC5) (Nat.le_refl _) (by omega))
      obtain ⟨ns2,hns2⟩ : ∃ ns2,ns2=ns ++ [m]:=⟨_,rfl⟩
      have hnl2:ns2.length=i+1:=by rw [hns2,← unhide HNS]; simp
      have r1:w7.ownsRow w3.heap.size 3 1 cv7 ns2.length (ns2.map mN):=by rw [hns2,List.length_append,List.map_append]; exact r1
      rw [← hns2] at HN5
      have HOC7:=hide r1
      have HOR7:=hide hor7
      have HAP7:=hide hap7
      have HB7:=hide hB7
      have HNL2:=hide hnl2
      clear r1 r2 r3 hor7 hap7 hB7 hns2 hnl2
      go_wp2
      go_roundw
      case rel => exact ⟨i+1,ns2,fs,by omega,by go_num,unhide HNL2,by omega,unhide HOC7,unhide HOR7,unhide HAP7,unhide HB7,unhide HN5,unhide H256⟩
      case measure => simp [intOf]; omega
     ·have hjl':¬ (j:Int)<(fs.length:Int):=by omega
      go_wp2_with (at_builtin; refine app_n1 rfl _ _ rfl w3.heap.size (.slice oa ns.length oc) rfl m rfl ns (unhide HOC5) ?_ ?_ ?_)
      ·omega
      ·omega
      intro cv7 w7 r1 r2 r3
      have hor7:=r2.own (unhide HOR5) (unhide HAP).symm
      have hap7:=((unhide HAP).symm.grow (unhide HOR5) r3).symm
      have hB7:Below w3.heap.size w3 w7:=(unhide HB5).trans (r2.belowG (unhide HOC5) (Nat.le_refl _) (by omega))
      obtain ⟨ns2,hns2⟩ : ∃ ns2,ns2=ns ++ [m]:=⟨_,rfl⟩
      have hnl2:ns2.length=i+1:=by rw [hns2,← unhide HNS]; simp
      have r1:w7.ownsRow w3.heap.size 3 1 cv7 ns2.length (ns2.map mN):=by rw [hns2,List.length_append,List.map_append]; exact r1
      rw [← hns2] at HN5
      have HOC7:=hide r1
      have HOR7:=hide hor7
      have HAP7:=hide hap7
      have HB7:=hide hB7
      have HNL2:=hide hnl2
      clear r1 r2 r3 hor7 hap7 hB7 hns2 hnl2
      go_wp2
      go_roundw
      case rel => exact ⟨i+1,ns2,fs,by omega,by go_num,unhide HNL2,by omega,unhide HOC7,unhide HOR7,unhide HAP7,unhide HB7,unhide HN5,unhide H256⟩
      case measure => simp [intOf]; omega
  ·have hlt':¬ (i:Int)<256:=by omega
   obtain rfl:i=256:=by omega
   have hN4:=unhide HN
   have hr0:r 0=true:=(unhide HR 0 hn1).2 (Tb.Rch.zero A)
   obtain ⟨p0,hp0⟩ : ∃ p0,p0=(pv 0).toNat:=⟨_,rfl⟩
   have hpv0:pv 0=(p0:Int):=by rw [hp0]; exact (unhide HBk).nat hn1 hr0
   have hRd:=unhide HRd4
   have y0:=hRd.p.cell (i:=0) hn1
   rw [hpv0] at y0
   have h0n:(0:Int)<(n:Int):=by omega
   have hgo:∀ x y:Nat,x<n→pv x=(x:Int)→y<256→∃ tg:Nat,pv (A.stp x y)=(tg:Int)∧(pv (A.stp x y)).toNat=tg∧tg<n∧pv tg=(tg:Int):=fun x y hx hs hy => by
    have hrx:A.Rch x:=(unhide HR x hx).1 (((unhide HBk).self hx).1 hs).1
    have hrs:=hrx.stp hy
    have hl:A.stp x y<n:=by rw [← unhide HAn]; exact hrs.lt (unhide HW)
    have h1:=(unhide HBk).nat hl ((unhide HR _ hl).2 hrs)
    have h2:=(unhide HFs).rch _ hrs
    have h3:(pv (A.stp x y)).toNat<n:=by rw [← unhide HAn]; exact h2.lt (unhide HW)
    exact ⟨_,h1,rfl,h3,((unhide HBk).self h3).2 ⟨(unhide HR _ h3).2 h2,(unhide HFs).idem hrs⟩⟩
   have hp0n:p0<n∧pv p0=(p0:Int):=by
    have h2:=(unhide HFs).rch 0 (Tb.Rch.zero A)
    have h3:(pv 0).toNat<n:=by rw [← unhide HAn]; exact h2.lt (unhide HW)
    rw [hp0]
    exact ⟨h3,((unhide HBk).self h3).2 ⟨(unhide HR _ h3).2 h2,(unhide HFs).idem (Tb.Rch.zero A)⟩⟩
   obtain ⟨w5,hw5⟩ : ∃ w5,w5=w4.alloc (.cells #[.int .i64 (p0:Nat)] 3):=⟨_,rfl⟩
   have hz5:w4.heap.size+1≤w5.heap.size:=by rw [hw5,sz_alloc]; omega
   have hB5:Below w4.heap.size w4 w5:=by rw [hw5]; exact below1 w4 _
   have hO5:w5.ownsRow w4.heap.size 3 1 (.slice (some ⟨w4.heap.size,0,none⟩) 1 1) [p0].length ([p0].map mN):=by
    refine ⟨rfl,.inr ⟨_,1,#[.int .i64 (p0:Nat)],rfl,Nat.le_refl _,?_,Nat.le_refl _,by unfold maxLen; omega,rfl,rfl⟩⟩
    rw [hw5]
    exact (MapKept.heap_alloc _ _).1
   obtain ⟨fn,hfn⟩ : ∃ fn:Nat→Nat→Nat,fn=fun q e => (pv (A.stp q (fs[e]?.getD 0))).toNat:=⟨_,rfl⟩
   have HFN:=hide hfn
   have HGO:=hide hgo
   have HP0:=hide hp0
   have HP0N:=hide hp0n
   have HW5:=hide hw5
   have HB5:=hide hB5
   have HO5:=hide hO5
   have hfl:=hfs
   clear hgo hp0 hp0n hw5 hB5 hO5 hRd hN4 hpv0 hr0 hfn
   go_wp2_with fail
   rw [← unhide HW5]
   clear HW5 y0
   go_loopw [13,14,15,16] (fun ov nv av iv wr => ∃ (i:Nat) (o ys:List Nat) (zs:List Bool),i≤o.length∧iv = .int .i64 (i:Nat)∧wr.ownsRow w4.heap.size 3 1 ov o.length (o.map mN)∧wr.ownsRow w4.heap.size 3 1 nv ys.length (ys.map mN)∧wr.ownsRow w4.heap.size 4 1 av zs.length (zs.map mT)∧Ap ov nv∧Ap ov av∧Ap nv av∧Below w4.heap.size w4 wr∧Bfs fs.length fn p0 o ys∧ys.length=i * fs.length∧zs=(o.take i).map A.ac∧∀ x ∈ o,x<n∧pv x=(x:Int)) (fun _ _ _ iv _ => n - (intOf iv).toNat)
   case atStart => exact ⟨0,[p0],[],[],by simp,rfl,unhide HO5,World.ownsRow_nil _ _ _ _,World.ownsRow_nil _ _ _ _,(fun q _ h => by cases h),(fun q _ h => by cases h),(fun q h => by cases h),unhide HB5,Bfs.start _ _ _,by simp,by simp,fun x hx => by rw [List.mem_singleton] at hx; rw [hx]; exact unhide HP0N⟩
   case round =>
    clear HO5 HB5 hz5
    obtain ⟨i,o,ys,zs,hi,rfl,hoo,hon,hoa,ha1,ha2,ha3,hB,hBf,hyl,hzs,hin⟩ := hrel
    obtain ⟨w6,rfl⟩ : ∃ w6,w6=wr:=⟨_,rfl⟩
    have hz6:=hB.size
    have hol:=bfs_few hBf (fun x hx => (hin x hx).1)
    have hyb:ys.length≤1024 * 256:=by rw [hyl]; exact Nat.mul_le_mul (Nat.le_trans hi (Nat.le_trans hol hn)) hfl
    have hzb:zs.length≤1024:=by rw [hzs]; simp; omega
    obtain ⟨oa1,oc1,rfl⟩ := own_is hoo
    obtain ⟨na1,nc1,rfl⟩ := own_is hon
    obtain ⟨aa1,ac1,rfl⟩ := own_is hoa
    have hRd6:=(unhide HRd4).keep hB (by omega) (by omega) (by omega) (by omega) (by omega)
    have HOO:=hide hoo
    have HON:=hide hon
    have HOA:=hide hoa
    have HA1:=hide ha1
    have HA2:=hide ha2
    have HA3:=hide ha3
    have HB6:=hide hB
    have HBF:=hide hBf
    have HYL:=hide hyl
    have HZS:=hide hzs
    have HIN:=hide hin
    have HRd6:=hide hRd6
    clear hoo hon hoa ha1 ha2 ha3 hB hBf hyl hzs hin hRd6
    by_cases hlt2:i<o.length
    ·have hlt2':(i:Int)<(o.length:Int):=by omega
     obtain ⟨x,hx⟩ : ∃ x,o[i]? = some x:=⟨_,List.getElem?_eq_getElem hlt2⟩
     obtain ⟨hxn,hxs⟩ := unhide HIN x (List.mem_of_getElem? hx)
     obtain ⟨og,ocap,e9,hcell⟩ := own_at (unhide HOO) (by omega)
     have hoax:oa1=some ⟨og,0,none⟩∧oc1=ocap:=by simpa using e9
     obtain ⟨rfl,rfl⟩ := hoax
     have y0:w6.cell? ⟨og,i,none⟩ = some (.int .i64 (x:Nat)):=by rw [hcell i hlt2,List.getElem?_map,hx]; rfl
     have y1:=(unhide HRd6).a x hxn
     obtain ⟨ax,hax⟩ : ∃ ax,ax=A.ac x:=⟨_,rfl⟩
     rw [← hax] at y1
     obtain ⟨f0,f1,f2,f3,-⟩ := (unhide HRd6).d.facts
     have hxn':(x:Int)<(n:Int):=by omega
     have HXX:=hide hx
     have HAX:=hide hax
     have HXS:=hide hxs
     clear hx hax hxs hcell e9
     go_wp2_with (at_builtin; refine app_t1 rfl _ _ rfl w4.heap.size (.slice aa1 zs.length ac1) rfl ax rfl zs (unhide HOA) ?_ ?_ ?_)
     ·omega
     ·omega
     intro av7 w7 r1 r2 r3
     have hoo7:=r2.own (unhide HOO) (unhide HA2)
     have hon7:=r2.own (unhide HON) (unhide HA3)
     have ha2:=(unhide HA2).grow (unhide HOO) r3
     have ha3:=(unhide HA3).grow (unhide HON) r3
     have hB7:Below w4.heap.size w4 w7:=(unhide HB6).trans (r2.belowG (unhide HOA) (Nat.le_refl _) (by omega))
     obtain ⟨zs2,hzs2⟩ : ∃ zs2,zs2=zs ++ [ax]:=⟨_,rfl⟩
     have r1:w7.ownsRow w4.heap.size 4 1 av7 zs2.length (zs2.map mT):=by rw [hzs2,List.length_append,List.map_append]; exact r1
     have hzt:(o.take (i+1)).map A.ac=zs2:=by rw [hzs2,unhide HZS,unhide HAX,List.take_add_one,unhide HXX]; simp
     obtain ⟨aa7,ac7,rfl⟩ := own_is r1
     have HOO7:=hide hoo7
     have HON7:=hide hon7
     have HOA7:=hide r1
     have HA27:=hide ha2
     have HA37:=hide ha3
     have HB7:=hide hB7
     have HZT:=hide hzt
     clear hoo7 hon7 r1 r2 r3 ha2 ha3 hB7 hzs2 hzt HOO HON HOA HA2 HA3 HB6 HZS y0 y1 f0 f1 f2 f3 HRd6 hzb
     go_wp2_with fail
     go_loopw [13,14,18] (fun ov nv kv wx => ∃ (e:Nat) (o ys:List Nat),e≤fs.length∧kv = .int .i64 (e:Nat)∧o[i]? = some x∧wx.ownsRow w4.heap.size 3 1 ov o.length (o.map mN)∧wx.ownsRow w4.heap.size 3 1 nv ys.length (ys.map mN)∧wx.ownsRow w4.heap.size 4 1 (.slice aa7 zs2.length ac7) zs2.length (zs2.map mT)∧Ap ov nv∧Ap ov (.slice aa7 zs2.length ac7)∧Ap nv (.slice aa7 zs2.length ac7)∧Below w4.heap.size w4 wx∧Bfs fs.length fn p0 o ys∧ys.length=i * fs.length+e∧(o.take (i+1)).map A.ac=zs2∧∀ x ∈ o,x<n∧pv x=(x:Int)) (fun _ _ kv _ => fs.length - (intOf kv).toNat)
     case atStart => exact ⟨0,o,ys,by omega,rfl,unhide HXX,unhide HOO7,unhide HON7,unhide HOA7,unhide HA1,unhide HA27,unhide HA37,unhide HB7,unhide HBF,by rw [unhide HYL]; rfl,unhide HZT,unhide HIN⟩
     case round =>
      clear HXX HOO7 HON7 HOA7 HA1 HA27 HA37 HB7 HBF HYL HZT HIN hlt2 hlt2' hi hol hyb
      obtain ⟨e,o,ys,he,rfl,hxx,hoo,hon,hoa,ha1,ha2,ha3,hB,hBf,hyl,hzt,hin⟩ := hrel
      obtain ⟨w8,rfl⟩ : ∃ w8,w8=wr:=⟨_,rfl⟩
      have hz8:=hB.size
      have hol:=bfs_few hBf (fun x hx => (hin x hx).1)
      have hilt:=get_lt hxx
      have hyb:ys.length≤1024 * 256+256:=by
       rw [hyl]; exact Nat.add_le_add (Nat.mul_le_mul (Nat.le_trans (Nat.le_of_lt hilt) (Nat.le_trans hol hn)) hfl) (Nat.le_trans he hfl)
      obtain ⟨oa1,oc1,rfl⟩ := own_is hoo
      obtain ⟨na1,nc1,rfl⟩ := own_is hon
      have hRd8:=(unhide HRd4).keep hB (by omega) (by omega) (by omega) (by omega) (by omega)
      by_cases hel:e<fs.length
      ·have hel':(e:Int)<(fs.length:Int):=by omega
       obtain ⟨y,hy⟩ : ∃ y,fs[e]? = some y:=⟨_,List.getElem?_eq_getElem hel⟩
       have hy256:=unhide H256 y (List.mem_of_getElem? hy)
       obtain ⟨cy,hcy⟩ : ∃ cy,cy=A.cl y:=⟨_,rfl⟩
       have hcyk:cy<k:=by rw [hcy]; exact unhide HCLS y hy256
       obtain ⟨tg,hto,hto2,hton,htos⟩ := unhide HGO x y hxn (unhide HXS) hy256
       have hfto:fn x e=tg:=by rw [unhide HFN]; simp only [hy,Option.getD_some]; exact hto2
       obtain ⟨rg,rcap,e9,hcell⟩ := own_at (own_blk (unhide HOR) (fun g hg => hB.block g ((unhide HOR).lt g hg).2)) (by omega)
       have hrax:ra=some ⟨rg,0,none⟩∧rc=rcap:=by simpa using e9
       obtain ⟨era,erc⟩ := hrax
       have y3:w8.cell? ⟨rg,e,none⟩ = some (.int .i64 (y:Nat)):=by rw [hcell e hel,List.getElem?_map,hy]; rfl
       obtain ⟨f0,f1,f2,f3,-⟩ := hRd8.d.facts
       have y2:=hRd8.c y hy256
       rw [← hcy] at y2
       obtain ⟨v1,v2⟩ := hRd8.x x cy hxn hcyk
       have hat0:x * k+cy<L:=by rw [unhide HL]; exact idx_lt hxn hcyk
       obtain ⟨m,t,a1,ht,hat,a2,a3,a4⟩ := at_facts (by omega) hat0
       obtain ⟨np,hnp⟩ : ∃ y,y=A.nx x cy:=⟨_,rfl⟩
       rw [← ht,← hnp] at v2
       rw [← hnp] at v1
       have y4:=hRd8.p.cell (i:=np) v1
       have epn:pv np=(tg:Int):=by rw [hnp,hcy]; exact hto
       rw [epn] at y4
       have v1':(np:Int)<(n:Int):=by omega
       have hidx:=row_at (q:=i) hel
       rw [← hyl] at hidx
       have HHY:=hide hy
       have HXX:=hide hxx
       have HOO:=hide hoo
       have HON:=hide hon
       have HOA:=hide hoa
       have HA1:=hide ha1
       have HA2:=hide ha2
       have HA3:=hide ha3
       have HB8:=hide hB
       have HBF:=hide hBf
       have HYL:=hide hyl
       have HZT:=hide hzt
       have HIN:=hide hin
       have HRd8:=hide hRd8
       have HFTO:=hide hfto
       have HIDX:=hide hidx
       have HTOS:=hide (And.intro hton htos)
       subst era
       subst erc
       clear hy hxx hoo hon hoa ha1 ha2 ha3 hB hBf hyl hzt hin hRd8 hfto hidx hto hto2 htos hcy hnp ht hat0 epn hcell e9
       go_wp2_with fail
       go_quiet (fail)
       go_wp2_with fail
       obtain ⟨w9,hw9⟩ : ∃ w9,w9=w8.drewN nq:=⟨_,rfl⟩
       have hO9:Obk w8.heap.size w8 w9:=by rw [hw9]; exact (Obk.refl _ _).drewN _
       rw [← hw9]
       have hz9:=Nat.le_of_eq hO9.size.symm
       have HO9:=hide hO9
       clear hO9 hw9 y2 y3 y4 f0 f1 f2 f3 v2
       go_loopw [20,21] (fun tv jv wy => ∃ j:Nat,j≤o.length∧jv = .int .i64 (j:Nat)∧Obk w8.heap.size w8 wy∧((tv = .int .i64 (-1)∧∀ j':Nat,j'<j→o[j']? ≠ some tg)∨∃ m:Nat,tv = .int .i64 (m:Nat)∧o[m]? = some tg)) (fun _ jv _ => o.length - (intOf jv).toNat)
       case atStart => exact ⟨0,by omega,rfl,unhide HO9,.inl ⟨rfl,fun j' hj' => by omega⟩⟩
       case round =>
        clear HO9 hz9
        obtain ⟨j,hj,rfl,hO,htv⟩ := hrel
        obtain ⟨w10,rfl⟩ : ∃ w10,w10=wr:=⟨_,rfl⟩
        have hz10:=Nat.le_of_eq hO.size.symm
        have hoo:=own_blk (unhide HOO) (fun g hg => hO.block g (by have:=((unhide HOO).lt g hg).2; omega))
        by_cases hjl:j<o.length
        ·have hjl':(j:Int)<(o.length:Int):=by omega
         obtain ⟨z,hz⟩ : ∃ z,o[j]? = some z:=⟨_,List.getElem?_eq_getElem hjl⟩
         obtain ⟨og,ocap,e9,hcell⟩ := own_at hoo (by omega)
         have hoax:oa1=some ⟨og,0,none⟩∧oc1=ocap:=by simpa using e9
         obtain ⟨era,erc⟩ := hoax
         have y0:w10.cell? ⟨og,j,none⟩ = some (.int .i64 (z:Nat)):=by rw [hcell j hjl,List.getElem?_map,hz]; rfl
         have HZ:=hide hz
         have HO:=hide hO
         clear hz hO hoo hcell e9
         subst era
         subst erc
         by_cases hzt2:z=tg
         ·subst hzt2
          rcases htv with ⟨rfl,hno⟩ | ⟨m9,rfl,hm⟩
          ·clear hno
           go_wp2_with fail
           go_roundw
           case rel => exact ⟨j+1,by omega,by go_num,unhide HO,.inr ⟨j,rfl,unhide HZ⟩⟩
           case measure => simp [intOf]; omega
          ·clear hm
           go_wp2_with fail
           go_roundw
           case rel => exact ⟨j+1,by omega,by go_num,unhide HO,.inr ⟨j,rfl,unhide HZ⟩⟩
           case measure => simp [intOf]; omega
         ·have hzi:¬ (z:Int)=(tg:Int):=by omega
          rcases htv with ⟨rfl,hno⟩ | ⟨m9,rfl,hm⟩
          ·have HNO:=hide hno
           clear hno
           go_wp2_with fail
           go_roundw
           case rel => exact ⟨j+1,by omega,by go_num,unhide HO,.inl ⟨rfl,fun j' hj' h9 => (by
            by_cases e9:j'=j
            ·subst e9; rw [unhide HZ] at h9; exact hzt2 (Option.some.inj h9)
            ·exact unhide HNO j' (by omega) h9)⟩⟩
           case measure => simp [intOf]; omega
          ·have HM:=hide hm
           clear hm
           go_wp2_with fail
           go_roundw
           case rel => exact ⟨j+1,by omega,by go_num,unhide HO,.inr ⟨m9,rfl,unhide HM⟩⟩
           case measure => simp [intOf]; omega
        ·have hjl':¬ (j:Int)<(o.length:Int):=by omega
         obtain rfl:j=o.length:=by omega
         have hon:=own_blk (unhide HON) (fun g hg => hO.block g (by have:=((unhide HON).lt g hg).2; omega))
         have hoa:=own_blk (unhide HOA) (fun g hg => hO.block g (by have:=((unhide HOA).lt g hg).2; omega))
         have hB10:Below w4.heap.size w4 w10:=(unhide HB8).trans (hO.blw.mono (by omega))
         have HOO10:=hide hoo
         have HON10:=hide hon
         have HOA10:=hide hoa
         have HB10:=hide hB10
         clear hoo hon hoa hB10 hO
         rcases htv with ⟨rfl,hno⟩ | ⟨m9,rfl,hm⟩
         ·have hbf:Bfs fs.length fn p0 (o ++ [tg]) (ys ++ [o.length]):=by
           have h1:=unhide HIDX
           have h2:=unhide HFTO
           have:=(unhide HBF).new (x:=x) (by rw [h1.1]; exact unhide HXX) (fun j' hj' h9 => hno j' hj' (by rw [h1.2,h2] at h9; exact h9))
           rw [h1.2,h2] at this
           exact this
          have HBF2:=hide hbf
          clear hbf hno
          go_wp2_with (at_builtin; refine app_n1 rfl _ _ rfl w4.heap.size (.slice oa1 o.length oc1) rfl tg rfl o (unhide HOO10) ?_ ?_ ?_)
          ·omega
          ·omega
          intro ov11 w11 r1 r2 r3
          have hon11:=r2.own (unhide HON10) (unhide HA1).symm
          have hoa11:=r2.own (unhide HOA10) (unhide HA2).symm
          have ha1:=((unhide HA1).symm.grow (unhide HON10) r3).symm
          have ha2:=((unhide HA2).symm.grow (unhide HOA10) r3).symm
          have hB11:Below w4.heap.size w4 w11:=(unhide HB10).trans (r2.belowG (unhide HOO10) (Nat.le_refl _) (by omega))
          have hz11:=hB11.size
          obtain ⟨o2,ho2⟩ : ∃ o2,o2=o ++ [tg]:=⟨_,rfl⟩
          have r1:w11.ownsRow w4.heap.size 3 1 ov11 o2.length (o2.map mN):=by rw [ho2,List.length_append,List.map_append]; exact r1
          rw [← ho2] at HBF2
          have hxx2:o2[i]? = some x:=by rw [ho2,List.getElem?_append_left hilt]; exact unhide HXX
          have hzt2:(o2.take (i+1)).map A.ac=zs2:=by rw [ho2,List.take_append_of_le_length (by omega)]; exact unhide HZT
          have hin2:∀ x ∈ o2,x<n∧pv x=(x:Int):=fun x hx => by
           rw [ho2,List.mem_append,List.mem_singleton] at hx
           rcases hx with hx | hx
           ·exact unhide HIN x hx
           ·rw [hx]; exact unhide HTOS
          obtain ⟨oa11,oc11,rfl⟩ := own_is r1
          have HOO11:=hide r1
          have HON11:=hide hon11
          have HOA11:=hide hoa11
          have HA111:=hide ha1
          have HA211:=hide ha2
          have HB11:=hide hB11
          have HXX2:=hide hxx2
          have HZT2:=hide hzt2
          have HIN2:=hide hin2
          clear r1 r2 r3 hon11 hoa11 ha1 ha2 hB11 ho2 hxx2 hzt2 hin2 HOO10 HON10 HOA10 HB10
          go_wp2_with (at_builtin; refine app_n1 rfl _ _ rfl w4.heap.size (.slice na1 ys.length nc1) rfl o.length rfl ys (unhide HON11) ?_ ?_ ?_)
          ·omega
          ·omega
          intro nv12 w12 r1 r2 r3
          have hoo12:=r2.own (unhide HOO11) (unhide HA111)
          have hoa12:=r2.own (unhide HOA11) (unhide HA3).symm
          have ha112:=(unhide HA111).grow (unhide HOO11) r3
          have ha312:=((unhide HA3).symm.grow (unhide HOA11) r3).symm
          have hB12:Below w4.heap.size w4 w12:=(unhide HB11).trans (r2.belowG (unhide HON11) (Nat.le_refl _) (by omega))
          obtain ⟨ys2,hys2⟩ : ∃ ys2,ys2=ys ++ [o.length]:=⟨_,rfl⟩
          have r1:w12.ownsRow w4.heap.size 3 1 nv12 ys2.length (ys2.map mN):=by rw [hys2,List.length_append,List.map_append]; exact r1
          have hyl2:ys2.length=i * fs.length+(e+1):=by rw [hys2,List.length_append,unhide HYL]; rfl
          rw [← hys2] at HBF2
          have HOO12:=hide hoo12
          have HON12:=hide r1
          have HOA12:=hide hoa12
          have HA112:=hide ha112
          have HA312:=hide ha312
          have HB12:=hide hB12
          have HYL2:=hide hyl2
          clear r1 r2 r3 hoo12 hoa12 ha112 ha312 hB12 hys2 hyl2
          go_wp2
          go_roundw
          case rel => exact ⟨e+1,o2,ys2,by omega,by go_num,unhide HXX2,unhide HOO12,unhide HON12,unhide HOA12,unhide HA112,unhide HA211,unhide HA312,unhide HB12,unhide HBF2,unhide HYL2,unhide HZT2,unhide HIN2⟩
          case measure => simp [intOf]; omega
         ·have hbf:Bfs fs.length fn p0 o (ys ++ [m9]):=by
           have h1:=unhide HIDX
           have h2:=unhide HFTO
           exact (unhide HBF).old (x:=x) (by rw [h1.1]; exact unhide HXX) (by rw [h1.2,h2]; exact hm)
          have HBF2:=hide hbf
          have hm0:¬ (m9:Int)<0:=by omega
          clear hbf hm
          go_wp2_with (at_builtin; refine app_n1 rfl _ _ rfl w4.heap.size (.slice na1 ys.length nc1) rfl m9 rfl ys (unhide HON10) ?_ ?_ ?_)
          ·omega
          ·omega
          intro nv12 w12 r1 r2 r3
          have hoo12:=r2.own (unhide HOO10) (unhide HA1)
          have hoa12:=r2.own (unhide HOA10) (unhide HA3).symm
          have ha112:=(unhide HA1).grow (unhide HOO10) r3
          have ha312:=((unhide HA3).symm.grow (unhide HOA10) r3).symm
          have hB12:Below w4.heap.size w4 w12:=(unhide HB10).trans (r2.belowG (unhide HON10) (Nat.le_refl _) (by omega))
          obtain ⟨ys2,hys2⟩ : ∃ ys2,ys2=ys ++ [m9]:=⟨_,rfl⟩
          have r1:w12.ownsRow w4.heap.size 3 1 nv12 ys2.length (ys2.map mN):=by rw [hys2,List.length_append,List.map_append]; exact r1
          have hyl2:ys2.length=i * fs.length+(e+1):=by rw [hys2,List.length_append,unhide HYL]; rfl
          rw [← hys2] at HBF2
          have HOO12:=hide hoo12
          have HON12:=hide r1
          have HOA12:=hide hoa12
          have HA112:=hide ha112
          have HA312:=hide ha312
          have HB12:=hide hB12
          have HYL2:=hide hyl2
          clear r1 r2 r3 hoo12 hoa12 ha112 ha312 hB12 hys2 hyl2
          go_wp2
          go_roundw
          case rel => exact ⟨e+1,o,ys2,by omega,by go_num,unhide HXX,unhide HOO12,unhide HON12,unhide HOA12,unhide HA112,unhide HA2,unhide HA312,unhide HB12,unhide HBF2,unhide HYL2,unhide HZT,unhide HIN⟩
          case measure => simp [intOf]; omega
      ·have hel':¬ (e:Int)<(fs.length:Int):=by omega
       obtain rfl:e=fs.length:=by omega
       have hyl2:ys.length=(i+1) * fs.length:=by rw [hyl,Nat.add_mul,Nat.one_mul]
       have HOO:=hide hoo
       have HON:=hide hon
       have HOA:=hide hoa
       have HA1:=hide ha1
       have HA2:=hide ha2
       have HA3:=hide ha3
       have HB8:=hide hB
       have HBF:=hide hBf
       have HYL:=hide hyl2
       have HZT:=hide hzt
       have HIN:=hide hin
       clear hoo hon hoa ha1 ha2 ha3 hB hBf hyl hyl2 hzt hin hxx hRd8
       go_wp2
       go_roundw
       case rel => exact ⟨i+1,o,ys,zs2,by omega,by go_num,unhide HOO,unhide HON,unhide HOA,unhide HA1,unhide HA2,unhide HA3,unhide HB8,unhide HBF,unhide HYL,(unhide HZT).symm,unhide HIN⟩
       case measure => simp [intOf]; omega
    ·have hlt2':¬ (i:Int)<(o.length:Int):=by omega
     obtain rfl:i=o.length:=by omega
     have hE6:=(unhide HE3).below ((unhide HB4).trans ((unhide HB6).mono (by omega))) (by omega)
     have hoc6:=own_blk (unhide HOC) (fun g hg => (unhide HB6).block g ((unhide HOC).lt g hg).2)
     have hSp:SpecT A (fun j => (pv j).toNat) fs.length (fun b => ns[b]?.getD 0) (fun e => fs[e]?.getD 0) o ys:=specT_of (unhide HW) (by rw [unhide HAn]; exact unhide HR) (by rw [unhide HAn]; exact unhide HBk) (unhide HFs) (unhide HN) (unhide HNS) (by have h:=unhide HBF; rw [unhide HFN,unhide HP0] at h; exact h) (unhide HYL)
     have ezs:zs=o.map A.ac:=by rw [unhide HZS,List.take_length]
     have hzl:zs.length=o.length:=by rw [ezs]; simp
     have hbb:Below w.heap.size w w6:=(unhide HBw3).trans (((unhide HB4).mono (by omega)).trans ((unhide HB6).mono (by omega)))
     obtain ⟨x0,x1,x2,x3,z0,z1,z2,z3⟩ := hE6.facts
     have hR4:=(((hE6.put0 (u:=.slice oa ns.length oc)).put1 (u:=.int .i64 (fs.length:Nat))).put2 (u:=.slice na1 ys.length nc1)).put3' (u:=.slice aa1 zs.length ac1)
     have hob:Obk (w.heap.size+1) w6 ((((w6.setCell ⟨w.heap.size+1,0,none⟩ (.slice oa ns.length oc)).setCell ⟨w.heap.size+1,1,none⟩ (.int .i64 (fs.length:Nat))).setCell ⟨w.heap.size+1,2,none⟩ (.slice na1 ys.length nc1)).setCell ⟨w.heap.size+1,3,none⟩ (.slice aa1 zs.length ac1)):=(((obk_put _ _).trans (obk_put _ _)).trans (obk_put _ _)).trans (obk_put _ _)
     have HR4:=hide hR4
     have HOB:=hide hob
     have HOC6:=hide hoc6
     have HSP:=hide hSp
     have HEZ:=hide ezs
     have HZL:=hide hzl
     have HBB:=hide hbb
     clear hR4 hob hoc6 hSp ezs hzl hE6 hbb
     go_wp2
     refine bodyPost_ret (dfa_ret (unhide HR4) rfl _ rfl) rfl ?_
     have hob:=unhide HOB
     have hbw:=unhide HBB
     have k1:=own_blk (unhide HOC6) (fun g hg => hob.block g (by have:=((unhide HOC6).lt g hg).1; omega))
     have k2:=own_blk (unhide HON) (fun g hg => hob.block g (by have:=((unhide HON).lt g hg).1; omega))
     have k3:=own_blk (unhide HOA) (fun g hg => hob.block g (by have:=((unhide HOA).lt g hg).1; omega))
     refine ⟨_,_,_,fs.length,rfl,⟨hob.os.trans hbw.os,hob.tape.trans hbw.tape,hob.output.trans hbw.output,Nat.le_trans hbw.size (Nat.le_of_eq hob.size.symm),fun k hk => (hob.block k (by omega)).trans (hbw.block k hk)⟩,_,_,_,o,ys,unhide HSP,by omega,hfl,?_,?_,?_⟩
     ·rw [clL_of (unhide HNS),List.map_map]
      have k1:=own_low k1 (show w.heap.size≤w3.heap.size by omega)
      rw [unhide HNS] at k1
      rw [unhide HNS]
      exact k1
     ·rw [nxL_of (unhide HYL),List.map_map,← unhide HYL]
      exact own_low k2 (by omega)
     ·rw [acL_of,← unhide HEZ,← unhide HZL]
      exact own_low k3 (by omega)
end Go.Proofs.YtlidckepahpaeaaGreatDoor
