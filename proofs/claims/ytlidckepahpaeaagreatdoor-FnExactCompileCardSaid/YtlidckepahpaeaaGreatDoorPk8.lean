import Derived.Test.YtlidckepahpaeaaGreatDoorPk5
import Derived.Test.YtlidckepahpaeaaGreatDoorX0
import Derived.Test.YtlidckepahpaeaaGreatDoorPk7
import Derived.Test.YtlidckepahpaeaaGreatDoorPk4
import Derived.Lib.TrailingZeros
import Derived.Laws.Bits64b
namespace Go.Proofs.YtlidckepahpaeaaGreatDoor
open Go.RowKit
def ps8 (g:Nat→Nat):Value:=.agg #[.int .u64 (g 0:Nat),.int .u64 (g 1:Nat),.int .u64 (g 2:Nat),.int .u64 (g 3:Nat),.int .u64 (g 4:Nat),.int .u64 (g 5:Nat),.int .u64 (g 6:Nat),.int .u64 (g 7:Nat)]
def bitsOf (x:Nat):List Nat:=(List.range 64).filter (fun j => x.testBit j)
def blN (g:Nat→Nat) (n:Nat):List Nat:=(List.range n).filter (Bt g)
theorem clear_low (k m j:Nat):((2 ^ k * (2 * m+1)) &&& (2 ^ k * (2 * m+1) - 1)).testBit j=((2 ^ k * (2 * m+1)).testBit j && decide (j ≠ k)):=by
 have hp:0<2 ^ k:=Nat.two_pow_pos k
 have e1:2 ^ k * (2 * m+1) - 1=2 ^ k * (2 * m)+(2 ^ k - 1):=by rw [Nat.mul_add]; omega
 have e2:2 ^ k * (2 * m+1)=2 ^ k * (2 * m+1)+0:=rfl
 rw [Nat.testBit_and,e1,Nat.testBit_two_pow_mul_add _ (by omega)]
 conv => lhs; lhs; rw [e2,Nat.testBit_two_pow_mul_add _ hp]
 conv => rhs; lhs; rw [e2,Nat.testBit_two_pow_mul_add _ hp]
 by_cases h:j<k
 ·simp [h]
 ·simp only [h,if_false]
  by_cases he:j=k
  ·subst he; simp [Nat.testBit_zero]
  ·obtain ⟨d,rfl⟩ : ∃ d,j=k+(d+1):=⟨j - k - 1,by omega⟩
   rw [show k+(d+1) - k=d+1 by omega,Nat.testBit_succ,Nat.testBit_succ,show (2 * m+1) / 2=m by omega,show 2 * m / 2=m by omega]
   simp
theorem low_bits (k m:Nat) (hk:k<64):bitsOf (2 ^ k * (2 * m+1))=k :: bitsOf ((2 ^ k * (2 * m+1)) &&& (2 ^ k * (2 * m+1) - 1)):=by
 have hp:0<2 ^ k:=Nat.two_pow_pos k
 have e:List.range 64=List.range k ++ (k :: List.range' (k+1) (63 - k)):=by
  rw [List.range_eq_range',List.range_eq_range',show k :: List.range' (k+1) (63 - k)=List.range' (0+1 * k) (63 - k+1) by rw [List.range'_succ]; simp,List.range'_append]
  congr 1
  omega
 have t:∀ j,(2 ^ k * (2 * m+1)).testBit j=if j<k then false else (2 * m+1).testBit (j - k):=fun j => by
  have:=Nat.testBit_two_pow_mul_add (2 * m+1) hp j
  simpa using this
 unfold bitsOf
 rw [e,List.filter_append,List.filter_append,List.filter_cons,List.filter_cons]
 have n1:(List.range k).filter (fun j => (2 ^ k * (2 * m+1)).testBit j) = []:=List.filter_eq_nil_iff.2 (fun j hj => by rw [t,if_pos (List.mem_range.1 hj)]; simp)
 have n2:(List.range k).filter (fun j => ((2 ^ k * (2 * m+1)) &&& (2 ^ k * (2 * m+1) - 1)).testBit j) = []:=List.filter_eq_nil_iff.2 (fun j hj => by rw [clear_low,t,if_pos (List.mem_range.1 hj)]; simp)
 rw [n1,n2,if_pos (by rw [t,if_neg (Nat.lt_irrefl _)]; simp [Nat.testBit_zero]),if_neg (by rw [clear_low]; simp)]
 simp only [List.nil_append]
 congr 1
 refine List.filter_congr (fun j hj => ?_)
 have:=(List.mem_range'_1.1 hj).1
 rw [clear_low]
 simp
 omega
theorem bits_next (x:Nat) (h0:x ≠ 0) (hx:x<18446744073709551616):bitsOf x=Lib.ctz 64 x :: bitsOf (x &&& (x - 1))∧Lib.ctz 64 x<64∧x &&& (x - 1)<x:=by
 obtain ⟨m,hm,hk⟩ := Lib.ctzFrom_spec 64 x (by omega) hx
 have e:Lib.ctz 64 x=Lib.ctzFrom 64 x:=by simp [Lib.ctz,h0]
 rw [e]
 refine ⟨?_,hk,?_⟩
 ·have h:=low_bits _ m hk
  rw [← hm] at h
  exact h
 ·have:x &&& (x - 1)≤x - 1:=Nat.and_le_right
  omega
theorem bits_nil:bitsOf 0 = []:=by unfold bitsOf; exact List.filter_eq_nil_iff.2 (fun j _ => by simp)
theorem bits_len (x:Nat):(bitsOf x).length≤64:=by unfold bitsOf; exact Nat.le_trans (List.length_filter_le _ _) (by simp)
theorem blN_len (g:Nat→Nat) (n:Nat):(blN g n).length≤n:=by unfold blN; exact Nat.le_trans (List.length_filter_le _ _) (by simp)
theorem blN_next (g:Nat→Nat) (i:Nat):blN g (64 * (i+1))=blN g (64 * i) ++ (bitsOf (g i)).map (64 * i + ·):=by
 unfold blN bitsOf
 rw [show 64 * (i+1)=64 * i+64 by omega,List.range_add,List.filter_append,List.filter_map]
 congr 2
 refine List.filter_congr (fun j hj => ?_)
 have:=List.mem_range.1 hj
 simp only [Function.comp,Bt]
 rw [show (64 * i+j) / 64=i by omega,show (64 * i+j) % 64=j by omega]
def TZ (w:World):Prop:=TabAt (Tryz.laysTZ_ren.g 1) Lib.deBruijn64tab w
theorem tz_any (x:Nat) (h0:x<18446744073709551616) (w:World) (h:TZ w):Calls Tryz.prog 85 #[.int .u64 (x:Nat)] w fun e w' => e = .returned (.int .i64 ((Lib.ctz 64 x:Nat):Int))∧w'=w :=
 Any7.bits_TrailingZeros64 Tryz.laysTZ x h0 w (fun _ => h)
theorem TZ.same {w w':World} (h:TZ w) (e:w'.heap[Tryz.laysTZ_ren.g 1]? = w.heap[Tryz.laysTZ_ren.g 1]?):TZ w':=fun j hj => by
 rw [World.cell?_of_block (w:=w) (a:=⟨Tryz.laysTZ_ren.g 1,j,none⟩) e]
 exact h j hj
theorem TZ.below {w w':World} {m:Nat} (h:TZ w) (hb:Below m w w') (hm:Tryz.laysTZ_ren.g 1<m):TZ w':=h.same (hb.block _ hm)
theorem idx8 (g:Nat→Nat) (i:Nat) (h:i<8) (W:World):(Instr.index 99 (.agg #[.int .u64 (g 0:Nat),.int .u64 (g 1:Nat),.int .u64 (g 2:Nat),.int .u64 (g 3:Nat),.int .u64 (g 4:Nat),.int .u64 (g 5:Nat),.int .u64 (g 6:Nat),.int .u64 (g 7:Nat)]) (.int .i64 (i:Int))).run Tryz.prog W = .ok (.int .u64 (g i:Nat)) W:=by
 obtain rfl | rfl | rfl | rfl | rfl | rfl | rfl | rfl:i=0∨i=1∨i=2∨i=3∨i=4∨i=5∨i=6∨i=7:=by omega
 all_goals kernel_rfl
set_option maxHeartbeats 4000000 in
set_option maxRecDepth 100000 in
theorem list_any (g:Nat→Nat) (hf:Fit g) (w:World) (htz:TZ w) (h0:Tryz.laysTZ_ren.g 1<w.heap.size) :
  Calls Tryz.prog 110 #[ps8 g] w fun e w' => ∃ v',e = .returned v'∧w'.ownsRow w.heap.size 3 1 v' (blN g 512).length (((blN g 512).map Int.ofNat).map mI)∧Below w.heap.size w w':=by
 unfold ps8
 have HTZ:Hid (∀ W,Below w.heap.size w W→TZ W):=fun W hW => htz.below hW h0
 have HF:=hide hf
 have hB0:=below1 w (.cells #[.int .u64 (g 0:Nat),.int .u64 (g 1:Nat),.int .u64 (g 2:Nat),.int .u64 (g 3:Nat),.int .u64 (g 4:Nat),.int .u64 (g 5:Nat),.int .u64 (g 6:Nat),.int .u64 (g 7:Nat)] 99)
 clear htz hf
 go_enter Tryz.func110,Tryz.ntmps110
 go_wp2_with fail
 go_loopw [3,7] (fun ov iv wr => ∃ i:Nat,i≤8∧iv = .int .i64 i∧wr.ownsRow w.heap.size 3 1 ov (blN g (64 * i)).length (((blN g (64 * i)).map Int.ofNat).map mI)∧Below w.heap.size w wr) (fun _ iv _ => 8 - (intOf iv).toNat)
 case atStart => exact ⟨0,by omega,rfl,World.ownsRow_nil _ _ _ _,hB0⟩
 case round =>
  clear hB0
  obtain ⟨i,hi,rfl,hown,hb⟩ := hrel
  obtain ⟨oa,oc,rfl⟩ := own_is hown
  have HO:=hide hown
  clear hown
  by_cases hlt:i<8
  ·have hlt':(i:Int)<8:=by omega
   have hix:=idx8 g i hlt
   have hgi:=unhide HF i
   have HGI:=hide (blN_next g i)
   have hbl:=blN_len g (64 * i)
   clear HF
   go_wp2_with fail
   go_loopw [3,5] (fun ov xv wr => ∃ (Y:List Nat) (x:Nat),xv = .int .u64 x∧x<18446744073709551616∧Y.length+(bitsOf x).length≤1000∧blN g (64 * (i+1))=Y ++ (bitsOf x).map (64 * i + ·)∧wr.ownsRow w.heap.size 3 1 ov Y.length ((Y.map Int.ofNat).map mI)∧Below w.heap.size w wr) (fun _ xv _ => (intOf xv).toNat)
   case atStart => exact ⟨blN g (64 * i),g i,rfl,hgi,by have:=bits_len (g i); omega,unhide HGI,unhide HO,hb⟩
   case round =>
    clear HO hb HGI hgi
    obtain ⟨Y,x,rfl,hx,hDl,hE,hown,hb⟩ := hrel
    obtain ⟨oa,oc,rfl⟩ := own_is hown
    by_cases hx0:x=0
    ·subst hx0
     rw [bits_nil,List.map_nil,List.append_nil] at hE
     subst hE
     have HO:=hide hown
     clear hown
     go_wp2
     go_roundw
     case rel => exact ⟨i+1,by omega,by go_num,unhide HO,hb⟩
     case measure => simp [intOf]; omega
    ·obtain ⟨n1,n2,n3⟩ := bits_next x hx0 hx
     have hx1:((x:Int) != 0)=true:=by simp; omega
     have hx2:((x:Int) == 0)=false:=by simp; omega
     have a1:IntKind.u64.wrap ((x:Int) - 1)=((x - 1:Nat):Int):=by rw [IntKind.wrap_u64]; omega
     obtain ⟨x',hx'⟩ : ∃ x',x'=x &&& (x - 1):=⟨_,rfl⟩
     have a2:=bits_and_u64_nat x (x - 1) hx (by omega)
     rw [← hx'] at a2 n3 n1
     have HO:=hide hown
     obtain ⟨k,hk⟩ : ∃ k,k=Lib.ctz 64 x:=⟨_,rfl⟩
     have htz:=tz_any x hx wr (unhide HTZ _ hb)
     rw [← hk] at htz n2 n1
     have HT:=hide htz
     have a3:IntKind.i64.wrap ((i:Int) * 64)=(i:Int) * 64:=k64i (by omega) (by omega)
     have a4:IntKind.i64.wrap ((i:Int) * 64+(k:Int))=(i:Int) * 64+(k:Int):=k64i (by omega) (by omega)
     have hl9:Y.length≤1000:=by omega
     have HL:Hid ((Y ++ [64 * i+k]).length+(bitsOf x').length≤1000):=by show _≤_; rw [n1] at hDl; simp only [List.length_cons,List.length_append,List.length_nil] at hDl ⊢; omega
     have HE:Hid (blN g (64 * (i+1))=(Y ++ [64 * i+k]) ++ (bitsOf x').map (64 * i + ·)):=by show _=_; rw [hE,n1]; simp
     have HM:Hid (((Y ++ [64 * i+k]).map Int.ofNat).map mI=(Y.map Int.ofNat).map mI ++ [.int .i64 ((i:Int) * 64+(k:Int))]):=by show _=_; simp [mI]; omega
     have hsz1:=hb.size
     obtain ⟨i0,hi2,hz0,hz1,hz2⟩ := info_parts Tryz.zinInt
     clear hown hE n1 htz hk hx' hDl
     go_wp2_with fail
     refine (unhide HT).mono ?_
     rintro e w2 ⟨rfl,rfl⟩
     go_wp2_with (at_builtin; refine wpList_append_own _ rfl _ _ 26 rfl w.heap.size 3 i0 (.int .i64 0) 1 8 Tryz.underlying26 hi2 hz0 hz1 hz2 rfl (by decide) _ _ _ rfl (World.ownsRow.alloc (w:=w2) (unhide HO) _) ⟨w2.heap.size,0,none⟩ 1 1 [.int .i64 ((i:Int) * 64+(k:Int))] rfl rfl (cell_1 (by simp)) (fun u' hu => by simp at hu; subst hu; rfl) (by unfold maxLen; omega) (by omega) (by rw [sz_alloc]; omega) ?_)
     intro v' w3 h5 hg5 _
     have h5':w3.ownsRow w.heap.size 3 1 v' ((Y.map Int.ofNat).length+1) ((Y.map Int.ofNat).map mI ++ [.int .i64 ((i:Int) * 64+(k:Int))]):=by rw [List.length_map,List.map_map]; exact h5
     have hst:=grow_int (os:=Y.map Int.ofNat) (by rw [List.length_map]; exact unhide HO) hsz1 (pushd_alloc w2 _) h5' hg5
     have HR:Hid (w3.ownsRow w.heap.size 3 1 v' (Y ++ [64 * i+k]).length (((Y ++ [64 * i+k]).map Int.ofNat).map mI)):=by
      have h:=h5'
      rw [← unhide HM,List.length_map] at h
      show World.ownsRow _ _ _ _ _ _ _
      rw [List.length_append]
      exact h
     have HB3:=hide (hb.trans hst.2)
     clear h5 hg5 h5' hst
     go_wp2
     go_roundw
     case rel => exact ⟨Y ++ [64 * i+k],x',by go_num,by omega,unhide HL,unhide HE,unhide HR,unhide HB3⟩
     case measure => simp [intOf]; omega
  ·obtain rfl:i=8:=by omega
   go_wp2
   go_ret
   exact ⟨_,rfl,unhide HO,hb⟩
structure Obk (g:Nat) (w w':World):Prop where
 os:w'.os=w.os
 tape:w'.tape=w.tape
 output:w'.output=w.output
 size:w'.heap.size=w.heap.size
 block:∀ k,k ≠ g→w'.heap[k]? = w.heap[k]?
theorem Obk.trans {g:Nat} {a b c:World} (h:Obk g a b) (k:Obk g b c):Obk g a c:=⟨k.os.trans h.os,k.tape.trans h.tape,k.output.trans h.output,k.size.trans h.size,fun i hi => (k.block i hi).trans (h.block i hi)⟩
theorem Obk.refl (g:Nat) (w:World):Obk g w w:=⟨rfl,rfl,rfl,rfl,fun _ _ => rfl⟩
theorem obk_put {w:World} {b:Nat} (o:Nat) (u:Value):Obk b w (w.setCell ⟨b,o,none⟩ u):=⟨rfl,rfl,rfl,by simp [World.setCell],fun k hk => Below.heap_setCell _ _ _ _ (by show k ≠ b; exact hk)⟩
theorem Obk.drew {g:Nat} {a b:World} (h:Obk g a b):Obk g a b.drew:=⟨h.os,h.tape,h.output,h.size,h.block⟩
structure FrO (O:Nat→Prop) (w w':World):Prop where
 os:w'.os=w.os
 tape:w'.tape=w.tape
 output:w'.output=w.output
 size:w.heap.size≤w'.heap.size
 block:∀ k,¬ O k→w'.heap[k]? = w.heap[k]?
theorem FrO.refl (O:Nat→Prop) (w:World):FrO O w w:=⟨rfl,rfl,rfl,Nat.le_refl _,fun _ _ => rfl⟩
theorem FrO.trans {O:Nat→Prop} {a b c:World} (h:FrO O a b) (k:FrO O b c):FrO O a c:=⟨k.os.trans h.os,k.tape.trans h.tape,k.output.trans h.output,Nat.le_trans h.size k.size,fun i hi => (k.block i hi).trans (h.block i hi)⟩
theorem FrO.mono {O O':Nat→Prop} {a b:World} (h:FrO O a b) (hO:∀ k,O k→O' k):FrO O' a b:=⟨h.os,h.tape,h.output,h.size,fun k hk => h.block k (fun e => hk (hO k e))⟩
theorem FrO.drew {O:Nat→Prop} {a b:World} (h:FrO O a b):FrO O a b.drew:=⟨h.os,h.tape,h.output,h.size,h.block⟩
theorem fro_of {O:Nat→Prop} {a b:World} (h:Below a.heap.size a b) (hO:∀ k,a.heap.size≤k→O k):FrO O a b:=⟨h.os,h.tape,h.output,h.size,fun k hk => h.block k (by apply Nat.lt_of_not_le; intro e; exact hk (hO k e))⟩
theorem Obk.fro {O:Nat→Prop} {g:Nat} {a b:World} (h:Obk g a b) (hO:O g):FrO O a b:=⟨h.os,h.tape,h.output,by rw [h.size]; exact Nat.le_refl _,fun k hk => h.block k (fun e => hk (e ▸ hO))⟩
theorem FrO.below {O:Nat→Prop} {a b:World} {m:Nat} (h:FrO O a b) (hO:∀ k,k<m→¬ O k):Below m a b:=⟨h.os,h.tape,h.output,h.size,fun k hk => h.block k (hO k hk)⟩
theorem own_row {base e sz n:Nat} {w:World} {v:Value} {xs:List Value} (h:w.ownsRow base e sz v n xs) (hp:0<n):∃ g cap m F,v = .slice (some ⟨g,0,none⟩) n cap∧g<w.heap.size∧w.rowIs g e m F∧n * sz≤m∧(∀ k,k<n * sz→xs[k]? = some (F k)) ∧
  ∀ (w':World) (F':Nat→Value) (ys:List Value),w'.rowIs g e m F'→ys.length=n * sz→(∀ k,k<n * sz→ys[k]? = some (F' k))→w'.ownsRow base e sz v n ys:=by
 obtain ⟨hl,h⟩ := h
 rcases h with ⟨-,h⟩ | ⟨g,cap,cur,rfl,hb,hg,hnc,hcm,hcs,ht⟩
 ·omega
 ·have hm:n * sz≤cap * sz:=Nat.mul_le_mul_right _ hnc
  refine ⟨g,cap,cur.size,fun k => cur[k]?.getD undef,rfl,?_,⟨cur,hg,rfl,fun i hi => by simp [Array.getElem?_eq_getElem hi]⟩,by omega,fun k hk => ?_,fun w' F' ys hr hy hF => ?_⟩
  ·rcases Nat.lt_or_ge g w.heap.size with h | h
   ·exact h
   ·rw [Array.getElem?_eq_none h] at hg; cases hg
  ·rw [← ht,List.getElem?_take_of_lt hk,Array.getElem?_toList,Array.getElem?_eq_getElem (show k<cur.size by omega)]; simp [Array.getElem?_eq_getElem (show k<cur.size by omega)]
  ·obtain ⟨c,h1,h2,h3⟩ := hr
   refine ⟨hy,Or.inr ⟨g,cap,c,rfl,hb,h1,hnc,hcm,by omega,?_⟩⟩
   refine List.ext_getElem? (fun k => ?_)
   by_cases hk:k<n * sz
   ·rw [List.getElem?_take_of_lt hk,Array.getElem?_toList,h3 k (by omega),hF k hk]
   ·rw [List.getElem?_eq_none (by rw [List.length_take]; omega),List.getElem?_eq_none (by omega)]
theorem own_blk {base e sz n:Nat} {w w':World} {v:Value} {xs:List Value} (h:w.ownsRow base e sz v n xs) (hs:∀ q,v.ownBlock=some q→w'.heap[q]? = w.heap[q]?):w'.ownsRow base e sz v n xs:=by
 refine ⟨h.1,?_⟩
 rcases h.2 with hn | ⟨g,cap,cur,rfl,hb,hg,rest⟩
 ·exact .inl hn
 ·exact .inr ⟨g,cap,cur,rfl,hb,(hs g rfl).trans hg,rest⟩
theorem own_lt {base e sz n:Nat} {w:World} {v:Value} {xs:List Value} (h:w.ownsRow base e sz v n xs):∀ q,v.ownBlock=some q→q<w.heap.size:=fun q hq => (h.lt q hq).2
def Sk (O:Nat→Prop) (a b:Nat):Nat→Prop:=fun k => O k∧(k<a∨b≤k)
theorem Sk.sub {O:Nat→Prop} {a b:Nat}:∀ k,Sk O a b k→O k:=fun _ h => h.1
def wd (g:Nat→Nat) (j:Nat):Value:=.int .u64 (g j:Nat)
def putW (g:Nat→Nat) (k:Nat):Nat→Nat:=fun j => if j=k / 64 then g (k / 64) ||| 2 ^ (k % 64) else g j
theorem fit_put {g:Nat→Nat} (h:Fit g) (k:Nat):Fit (putW g k):=fun j => by
 unfold putW
 split
 ·exact or_lt _ _ (h _) (by omega)
 ·exact h j
def orW (g h:Nat→Nat):Nat→Nat:=fun j => g j ||| h j
theorem fit_or {g h:Nat→Nat} (a:Fit g) (b:Fit h):Fit (orW g h):=fun j => by
 have h1:g j<2 ^ 64:=a j
 have h2:h j<2 ^ 64:=b j
 exact Nat.or_lt_two_pow h1 h2
theorem bt_or (g h:Nat→Nat) (b:Nat):Bt (orW g h) b=(Bt g b || Bt h b):=by unfold Bt orW; rw [Nat.testBit_or]
set_option maxHeartbeats 1000000 in
theorem put_any (b i:Nat) (g:Nat→Nat) (w:World) (hg:Fit g) (hi:i<512) (hrow:w.rowIs b 99 8 (wd g)) :
  Calls Tryz.prog 44 #[.pointer (some ⟨b,0,none⟩),.int .i64 i] w fun e w' => e = .returned (.tuple #[])∧w'.rowIs b 99 8 (wd (putW g i))∧Obk b w w':=by
 have hq:i / 64<8:=by omega
 have c0:=hrow.cell hq
 have f0:=hrow.frozen (i / 64)
 unfold wd at c0
 have hq':((i / 64:Nat):Int)<8:=by omega
 have hq2:(i:Int) / 64<8:=by omega
 have hq3:0≤(i:Int) / 64:=by omega
 have hor:=or_bit (g (i / 64)) (i % 64) (hg _) (by omega)
 have Hor:=hide hor
 have HR:=hide hrow
 clear hrow hor hg
 go_enter Tryz.func44,Tryz.ntmps44
 go_region
 go_wp2
 rw [unhide Hor]
 first | (refine bodyPost_ret (results_none rfl _ _ _) rfl ?_) | (refine bodyPost_end (results_none rfl _ _ _) rfl ?_)
 exact ⟨rfl,(((unhide HR).set (i / 64) _).congr (fun j _ => by unfold wd putW; by_cases e:j=i / 64 <;> simp [e])).drew,(obk_put _ _).drew⟩
set_option maxHeartbeats 2000000 in
theorem join_any (b o n c p m:Nat) (t t':TypeId) (F F':Nat→Value) (g h:Nat→Nat) (w:World) (hg:Fit g) (hh:Fit h) (hbc:b ≠ c) (hrow:w.rowIs b t n F) (hF:∀ j,j<8→F (o+j)=wd g j) (ho:o+8≤n)
  (hrow':w.rowIs c t' m F') (hF':∀ j,j<8→F' (p+j)=wd h j) (hp:p+8≤m) :
  Calls Tryz.prog 84 #[.pointer (some ⟨b,o,none⟩),.pointer (some ⟨c,p,none⟩)] w fun e w' => e = .returned (.tuple #[])∧w'.rowIs b t n (fun k => if o≤k∧k<o+8 then wd (orW g h) (k - o) else F k)∧Obk b w w':=by
 have HG:=hide hg
 have HH:=hide hh
 have HF:=hide hF
 have HF':=hide hF'
 have HR:=hide hrow
 have HR':=hide hrow'
 clear hg hh hF hF' hrow hrow'
 go_enter Tryz.func84,Tryz.ntmps84
 go_wp2_with fail
 go_loopw [5] (fun iv wr => ∃ i:Nat,i≤8∧iv = .int .i64 i∧wr.rowIs b t n (fun k => if o≤k∧k<o+i then wd (orW g h) (k - o) else F k)∧Obk b w wr) (fun iv _ => 8 - (intOf iv).toNat)
 case atStart => exact ⟨0,by omega,rfl,(unhide HR).congr (fun k _ => by rw [if_neg (by omega)]),⟨rfl,rfl,rfl,rfl,fun _ _ => rfl⟩⟩
 case round =>
  obtain ⟨i,hi,rfl,hr,hb⟩ := hrel
  by_cases hlt:i<8
  ·have hlt':(i:Int)<8:=by omega
   have c0:wr.cell? ⟨b,o+i,none⟩ = some (.int .u64 (g i:Nat)):=by
    rw [hr.cell (by omega),if_neg (by omega),unhide HF i hlt]; rfl
   have f0:=hr.frozen (o+i)
   have c1:wr.cell? ⟨c,p+i,none⟩ = some (.int .u64 (h i:Nat)):=by
    rw [World.cell?_of_block (w:=w) (a:=⟨c,p+i,none⟩) (hb.block c (fun e => hbc e.symm)),(unhide HR').cell (by omega),unhide HF' i hlt]; rfl
   have hor:=bits_or_u64_nat (g i) (h i) (unhide HG i) (unhide HH i)
   have HR2:Hid ((wr.setCell ⟨b,o+i,none⟩ (.int .u64 ((g i ||| h i:Nat):Int))).rowIs b t n (fun k => if o≤k∧k<o+(i+1) then wd (orW g h) (k - o) else F k)):=(hr.set (o+i) _).congr (fun k hk => by
    by_cases e:k=o+i
    ·subst e; rw [if_pos rfl,if_pos (by omega),show o+i - o=i by omega]; rfl
    ·rw [if_neg e]
     by_cases e2:o≤k∧k<o+i
     ·rw [if_pos e2,if_pos (by omega)]
     ·rw [if_neg e2,if_neg (by omega)])
   have HB2:Hid (Obk b w (wr.setCell ⟨b,o+i,none⟩ (.int .u64 ((g i ||| h i:Nat):Int)))):=hb.trans (obk_put _ _)
   have Hor:=hide hor
   clear hr hor
   go_wp2_with fail
   go_region
   all_goals
    go_wp2
    rw [unhide Hor]
    go_roundw
    case rel => exact ⟨i+1,by omega,by go_num,unhide HR2,⟨(unhide HB2).os,(unhide HB2).tape,(unhide HB2).output,(unhide HB2).size,(unhide HB2).block⟩⟩
    case measure => simp [intOf]; omega
  ·obtain rfl:i=8:=by omega
   have HR2:=hide hr
   clear hr
   go_wp2
   first | (refine bodyPost_ret (results_none rfl _ _ _) rfl ?_) | (refine bodyPost_end (results_none rfl _ _ _) rfl ?_)
   exact ⟨rfl,unhide HR2,hb⟩
def InP (xs:List Int):Nat→Nat→Bool
 | 0,_ => false
 | m+1,b => InP xs m b || decide (xs[2 * m]?.getD 0≤(b:Int)∧(b:Int)≤xs[2 * m+1]?.getD 0)
def WordsOf (xs:List Int) (g:Nat→Nat):Prop:=Fit g∧∀ b:Nat,Bt g b=InP xs (xs.length / 2) b
theorem words_put {w1:World} {N:Nat} {t:TypeId} {g:Nat→Nat} (h:w1.rowIs N t 4 (fun j => .int .u64 (g j:Nat))) (q:Nat→Nat) :
  ((((w1.setCell ⟨N,0,none⟩ (.int .u64 (q 0:Nat))).setCell ⟨N,1,none⟩ (.int .u64 (q 1:Nat))).setCell ⟨N,2,none⟩ (.int .u64 (q 2:Nat))).setCell ⟨N,3,none⟩ (.int .u64 (q 3:Nat))).rowIs N t 4 (fun j => .int .u64 (q j:Nat)):=by
 refine ((((h.set 0 _).set 1 _).set 2 _).set 3 _).congr ?_
 intro j hj
 match j,hj with
 | 0,_ => rfl
 | 1,_ => rfl
 | 2,_ => rfl
 | 3,_ => rfl
set_option maxHeartbeats 2000000 in
theorem setOf_w (v:Value) (xs:List Int) (w:World) (hv:IntsAt 0 w.heap.size w v xs) (hcn:Canon xs) :
  Calls Tryz.prog 106 #[v] w fun e w' => ∃ g:Nat→Nat,e = .returned (ws4 g)∧WordsOf xs g∧Below w.heap.size w w':=by
 obtain ⟨a,cap,rfl,hl,hr,hc⟩ := hv
 unfold maxLen at hl
 have Hcn:=hide hcn
 clear hcn hr
 go_enter Tryz.func106,Tryz.ntmps106
 go_wp2
 go_loopw [4] (fun i wr => ∃ p:Nat,p≤xs.length∧p % 2=0∧i = .int .i64 p∧(∃ g:Nat→Value,wr.rowIs w.heap.size 85 4 g)∧(∃ g:Nat→Nat,wr.rowIs (w.heap.size+1) 85 4 (fun j => .int .u64 (g j:Nat))∧Fit g∧∀ b:Nat,Bt g b=InP xs (p / 2) b)∧Below w.heap.size w wr) (fun i _ => xs.length - (intOf i).toNat)
 case atStart =>
  refine ⟨0,Nat.zero_le _,rfl,rfl,⟨_,(zero_row w 85).alloc _⟩,⟨fun _ => 0,?_,fun j => by show 0<18446744073709551616; omega,fun b => ?_⟩,below2 w _ _⟩
  ·have h:=zero_row (w.alloc (.cells #[.int .u64 0,.int .u64 0,.int .u64 0,.int .u64 0] 85)) 85
   rw [sz_alloc] at h; exact h
  ·simp [Bt,InP]
 case round =>
  obtain ⟨p,hm,hp2,rfl,⟨g2,hrow2⟩,⟨g,hrow,hfit,hbt⟩,hb⟩ := hrel
  have hev:=(unhide Hcn).1
  by_cases hlt2:p<xs.length
  ·obtain ⟨b,off,rfl,-,hbn,hcell⟩ := hc (by omega)
   have hx:wr.cell? ⟨b,off+p,none⟩ = some (.int .i64 (xs[p]?.getD 0)):=by rw [hb.cell (p:=⟨b,off+p,none⟩) hbn]; exact hcell _ hlt2
   have hy:wr.cell? ⟨b,off+(p+1),none⟩ = some (.int .i64 (xs[p+1]?.getD 0)):=by rw [hb.cell (p:=⟨b,off+(p+1),none⟩) hbn]; exact hcell _ (by omega)
   have hlt2':(p:Int)<(xs.length:Int):=by omega
   have hlt3':(p:Int)+1<(xs.length:Int):=by omega
   have bx:=((unhide Hcn).2.1 (p) hlt2).1
   have byy:=((unhide Hcn).2.1 (p+1) (by omega)).2
   have bxy:xs[p]?.getD 0≤xs[p+1]?.getD 0:=by
    have:=((unhide Hcn).2.2 (p / 2) (by omega)).1
    rwa [show 2 * (p / 2)=p by omega] at this
   have Hstep:Hid (∀ c:Nat,InP xs ((p+2) / 2) c=(InP xs (p / 2) c || decide (xs[p]?.getD 0≤(c:Int)∧(c:Int)≤xs[p+1]?.getD 0))):=fun c => by
    rw [show (p+2) / 2=p / 2+1 by omega]
    simp only [InP]
    rw [show 2 * (p / 2)=p by omega]
   have Hbt:=hide hbt
   have Hfit:=hide hfit
   generalize xs[p]?.getD 0=x at *
   generalize xs[p+1]?.getD 0=y at *
   have c0:=hrow.cell (i:=0) (by omega)
   have c1:=hrow.cell (i:=1) (by omega)
   have c2:=hrow.cell (i:=2) (by omega)
   have c3:=hrow.cell (i:=3) (by omega)
   have hN:=hrow.lt
   have f0:=hrow.frozen 0
   have f1:=hrow.frozen 1
   have f2:=hrow.frozen 2
   have f3:=hrow.frozen 3
   have hrow':=hide hrow
   have hrow2':=hide hrow2
   clear hrow hrow2 hcell hbt hfit hc
   go_wp2
   have hw2:IntKind.i64.wrap ((p:Int)+1)=(p:Int)+1:=by rw [IntKind.wrap_i64]; omega
   have hw1:wrap64 ((p:Int)+1)=(p:Int)+1:=by unfold wrap64; omega
   go_region_with (go_at_call 119; refine (with_w g x y _ (unhide Hfit) bx byy bxy).mono ?_; rintro e w1 ⟨g',rfl,hg1,hg2,hb1⟩; unfold ws4; have hb2:Below wr.heap.size wr w1:=⟨hb1.os,hb1.tape,hb1.output,hb1.size,hb1.block⟩; have Hg1:=hide hg1; have Hg2:=hide hg2; clear hb1 hg1 hg2; have hc1:=(bcell hb2).1; have hf1:=(bcell hb2).2)
   all_goals
    clear hc1 hf1 c0 c1 c2 c3 f0 f1 f2 f3 hx hy
    go_wp2
    have hr1:=(unhide hrow').of_block (hb2.block _ hN)
    have hr2:=(unhide hrow2').of_block (hb2.block _ (unhide hrow2').lt)
    refine ⟨⟨p+2,by omega,by omega,by go_num,⟨g2,?_⟩,⟨g',words_put hr1 g',unhide Hg1,fun c => ?_⟩,?_⟩,by simp [intOf]; omega⟩
    ·exact (((hr2.setOther (by show w.heap.size ≠ w.heap.size+1; omega) _).setOther (by show w.heap.size ≠ w.heap.size+1; omega) _).setOther (by show w.heap.size ≠ w.heap.size+1; omega) _).setOther (by show w.heap.size ≠ w.heap.size+1; omega) _
    ·rw [unhide Hg2 c,unhide Hstep c,unhide Hbt c]
    ·exact bput (bput (bput (bput (hb.trans (hb2.mono hb.size)) (by omega) _) (by omega) _) (by omega) _) (by omega) _
  ·have c0:=hrow.cell (i:=0) (by omega)
   have c1:=hrow.cell (i:=1) (by omega)
   have c2:=hrow.cell (i:=2) (by omega)
   have c3:=hrow.cell (i:=3) (by omega)
   have d0:=hrow2.cell (i:=0) (by omega)
   have d1:=hrow2.cell (i:=1) (by omega)
   have d2:=hrow2.cell (i:=2) (by omega)
   have d3:=hrow2.cell (i:=3) (by omega)
   have f0:=hrow2.frozen 0
   have f1:=hrow2.frozen 1
   have f2:=hrow2.frozen 2
   have f3:=hrow2.frozen 3
   obtain rfl:p=xs.length:=by omega
   have Hbt:=hide hbt
   have Hfit:=hide hfit
   clear hrow hrow2 hbt hfit hc
   go_wp2
   refine bodyPost_ret (v:=.agg #[.int .u64 (g 0:Nat),.int .u64 (g 1:Nat),.int .u64 (g 2:Nat),.int .u64 (g 3:Nat)]) (by simp [results,Tryz.results106,go_sem,d0,d1,d2,d3]) rfl ⟨g,rfl,⟨unhide Hfit,unhide Hbt⟩,?_⟩
   exact bput (bput (bput (bput hb (by omega) _) (by omega) _) (by omega) _) (by omega) _
end Go.Proofs.YtlidckepahpaeaaGreatDoor
