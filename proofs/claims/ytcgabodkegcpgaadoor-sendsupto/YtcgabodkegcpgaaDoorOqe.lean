/- heap.Push of one that is not less than the others, alone. -/
import Derived.Test.YtcgabodkegcpgaaDoorOqa
set_option linter.unusedVariables false
set_option linter.unusedSimpArgs false
set_option maxHeartbeats 20000000
set_option maxRecDepth 100000
namespace Go.Proofs.YtcgabodkegcpgaaDoor
open Go.RowKit
attribute [local go_sem ↓] Go.wp_at_zero Go.wp_at_succ
theorem lis_dn {w w2:World}{fp:Nat}{V:Value}{ys:List Int}(L:Lis w w2 V ys)(hc:w2.cell? ⟨fp,0,none⟩=some V)(hne:ys≠[]):∃ g cap,V=.slice (some ⟨g,0,none⟩) ys.length cap∧Dn w2 w2 fp 0 g cap 3 ys ys.length:=by
 obtain ⟨o1,⟨_,h0⟩|⟨g,cap,cur,rfl,hg,hcur,h1,h2,h3,h4⟩⟩:=L.own
 ·exact absurd (List.length_eq_zero_iff.1 h0) hne
 ·refine ⟨g,cap,rfl,⟨rfl,fun _ _=>rfl,cur,hcur,fun i x hi=>?_⟩,rfl,hc⟩
  have hl:i<ys.length:=(List.getElem?_eq_some_iff.1 hi).1
  have e1:(ints ys)[i]?=some (.int .i64 x):=by simp [ints,hi]
  rw [← h4,List.getElem?_take,if_pos (by omega)] at e1
  simpa using e1
theorem lis_drew {w w2:World}{V:Value}{ys:List Int}(L:Lis w w2 V ys)(q:Nat):Lis w (w2.drewN q) V ys:=⟨⟨L.bel.os,L.bel.tape,L.bel.output,L.bel.size,L.bel.block⟩,L.own⟩
theorem push_le {xs:List Int}{x:Int}{j:Nat}(hl:xs.length=j+1)(hx:∀ y∈xs,y≤x):(xs ++ [x]).getD (j / 2) 0≤(xs ++ [x]).getD (j+1) 0:=by
 rw [List.getD_eq_getElem?_getD,List.getD_eq_getElem?_getD,List.getElem?_append_left (by omega),List.getElem?_append_right (by omega),hl,Nat.sub_self,List.getElem?_eq_getElem (show j / 2<xs.length by omega)]
 exact hx _ (List.getElem_mem _)
theorem hpush_any {w w':World}{fp:Nat}{V:Value}{xs:List Int}(x:Int)(L:Lis w w' V xs)(hn:xs.length<40)(hfp:w.heap.size≤fp)(hc:w'.cell? ⟨fp,0,none⟩=some V)(hz:w'.frozen? ⟨fp,0,none⟩=false)(hV:V.ownBlock≠some fp)(hx:∀ y∈xs,y≤x) :
  Calls Tryd.prog 85 #[.iface 129 (.pointer (some ⟨fp,0,none⟩)),.iface 3 (.int .i64 x)] w' fun e w2=>(∃ v,e=.returned v)∧∃ V',Lis w w2 V' (xs ++ [x])∧w2.cell? ⟨fp,0,none⟩=some V'∧w2.frozen? ⟨fp,0,none⟩=false∧V'.ownBlock≠some fp:=by
 have key:=fpush_any x L (Nat.le_of_lt hn) hfp hc hz hV
 have mpu:=m_push
 have hll:xs.length<1000:=by omega
 have HX:Hid (xs.length<40∧∀ y∈xs,y≤x):=⟨hn,hx⟩
 clear L hn hc hz hV hx
 have hl:(xs ++ [x]).length=xs.length+1:=by simp
 cases hm:xs.length with
 | zero =>
  rw [hm] at hl
  go_enter Tryd.func85,Tryd.ntmps85
  go_wp2_with (first|(go_at_call 118;refine key.mono ?_;rintro e w2 ⟨⟨v2,rfl⟩,V',L2,c2,f2,o2⟩;obtain ⟨g,cap,rfl,D2⟩:=lis_dn L2 c2 (by simp);rw [hl] at D2;have ml:=m_len w2 fp 0 _ _ _ D2.hdr;have H2:Hid (Lis w w2 (.slice (some ⟨g,0,none⟩) (xs ++ [x]).length cap) (xs ++ [x])∧w2.cell? ⟨fp,0,none⟩=some (.slice (some ⟨g,0,none⟩) (xs ++ [x]).length cap)∧w2.frozen? ⟨fp,0,none⟩=false∧(Value.slice (some ⟨g,0,none⟩) (xs ++ [x]).length cap).ownBlock≠some fp):=⟨L2,c2,f2,o2⟩;have HD:Hid (Dn w2 w2 fp 0 g cap 3 (xs ++ [x]) (0+1)):=D2;clear L2 c2 f2 o2 D2)|(go_at_call 114;refine (flen_any _ _ _ _).mono ?_;rintro e w3 ⟨rfl,rfl⟩)|(go_at_call 96;refine (up_zero HD.out).mono ?_;rintro e w4 ⟨⟨v4,rfl⟩,q,rfl⟩))
  go_end0
  exact ⟨⟨_,rfl⟩,_,lis_drew H2.out.1 q,H2.out.2⟩
 | succ j =>
  rw [hm] at hl
  have HJ:Hid (xs.length=j+1∧j+1<40):=⟨hm,by have:=HX.out.1;omega⟩
  have hjj:j<1000:=by omega
  go_enter Tryd.func85,Tryd.ntmps85
  go_wp2_with (first|(go_at_call 118;refine key.mono ?_;rintro e w2 ⟨⟨v2,rfl⟩,V',L2,c2,f2,o2⟩;obtain ⟨g,cap,rfl,D2⟩:=lis_dn L2 c2 (by simp);rw [hl] at D2;have ml:=m_len w2 fp 0 _ _ _ D2.hdr;have H2:Hid (Lis w w2 (.slice (some ⟨g,0,none⟩) (xs ++ [x]).length cap) (xs ++ [x])∧w2.cell? ⟨fp,0,none⟩=some (.slice (some ⟨g,0,none⟩) (xs ++ [x]).length cap)∧w2.frozen? ⟨fp,0,none⟩=false∧(Value.slice (some ⟨g,0,none⟩) (xs ++ [x]).length cap).ownBlock≠some fp):=⟨L2,c2,f2,o2⟩;have HD:Hid (Dn w2 w2 fp 0 g cap 3 (xs ++ [x]) (j+1+1)):=D2;clear L2 c2 f2 o2 D2)|(go_at_call 114;refine (flen_any _ _ _ _).mono ?_;rintro e w3 ⟨rfl,rfl⟩)|(go_at_call 96;refine (up_still HD.out j (by omega) (by have:=HJ.out;omega) (push_le HJ.out.1 HX.out.2)).mono ?_;rintro e w4 ⟨⟨v4,rfl⟩,q,rfl⟩))
  go_end0
  exact ⟨⟨_,rfl⟩,_,lis_drew H2.out.1 q,H2.out.2⟩
attribute [local go_sem ↓] Go.wp_at_zero Go.wp_at_succ
def freeL (K:Ker)(k:Nat):List Int:=((List.range k).filter fun j=>K.F j 0 == 0).map Int.ofNat
theorem freeL_succ (K:Ker)(k:Nat):freeL K (k+1)=freeL K k ++ (if K.F k 0 == 0 then [(k:Int)] else []):=by
 unfold freeL
 rw [List.range_succ,List.filter_append,List.map_append]
 congr 1
 by_cases h:K.F k 0=0<;>simp [h]
theorem freeL_len (K:Ker)(k:Nat):(freeL K k).length≤k:=by
 unfold freeL
 rw [List.length_map]
 exact Nat.le_trans (List.length_filter_le _ _) (by simp)
theorem freeL_le (K:Ker)(k:Nat):∀ y∈freeL K k,y≤(k:Int):=by
 intro y hy
 unfold freeL at hy
 obtain ⟨j,hj,rfl⟩:=List.mem_map.1 hy
 have:=List.mem_range.1 (List.mem_filter.1 hj).1
 show (j:Int)≤k
 omega
theorem fcut_one (K:Ker)(o m:Nat):(cut (fCell K) o m).toArray.all (·.oneCell')=true :=
 all_oneCell_toArray fun v hv=>by unfold cut at hv;obtain ⟨j,_,rfl⟩:=List.mem_map.1 hv;rfl
structure Hdr (w':World) (fp:Nat) (V:Value):Prop where
 c:w'.cell? ⟨fp,0,none⟩=some V
 z:w'.frozen? ⟨fp,0,none⟩=false
 o:V.ownBlock≠some fp
theorem Hdr.later {w' W:World}{fp:Nat}{V:Value}(h:Hdr w' fp V)(b:Below w'.heap.size w' W):Hdr W fp V:=by
 have hlt:fp<w'.heap.size:=World.block_lt_of_cell? _ _ h.c
 have e:=b.block fp hlt
 have c:=h.c
 have z:=h.z
 refine ⟨?_,?_,h.o⟩
 ·simp only [World.cell?,e] at *;exact c
 ·simp only [World.frozen?,e] at *;exact z
theorem hdr_new (w:World)(A:Obj)(t:TypeId):Hdr ((w.alloc A).alloc (.cells #[.slice none 0 0] t)) (w.heap.size+1) (.slice none 0 0):=by
 have e:((w.alloc A).alloc (.cells #[.slice none 0 0] t)).heap[w.heap.size+1]?=some (.cells #[.slice none 0 0] t):=by
  have h:=new_here (w.alloc A) (.cells #[.slice none 0 0] t)
  rwa [show (w.alloc A).heap.size=w.heap.size+1 by simp] at h
 refine ⟨?_,?_,fun h=>by cases h⟩
 ·simp only [World.cell?,e];rfl
 ·simp only [World.frozen?,e];rfl
theorem below2 (w:World)(A B:Obj):Below w.heap.size w ((w.alloc A).alloc B):=((Below.refl _ _).alloc (Nat.le_refl _) _).alloc (by simp) _
theorem free_any (w:World)(K:Ker)(gF gS gD:Nat)(hF:K.nF≤32)(hrow:w.rowIs gF 75 (K.nF*6) (fCell K))(hlt:gF<w.heap.size) :
  Calls Tryd.prog 78 #[stVal K gF gS gD] w fun e w'=>∃ V,e=.returned V∧Lis w w' V (freeL K K.nF):=by
 unfold stVal
 have HR:Hid (w.rowIs gF 75 (K.nF*6) (fCell K)∧gF<w.heap.size∧K.nF≤32):=⟨hrow,hlt,hF⟩
 clear hrow hlt hF
 go_enter Tryd.func78,Tryd.ntmps78
 go_wp2_with fail
 go_loopw [9] (fun i w'=>∃ (k:Nat) (V:Value),k≤K.nF∧i=.int .i64 k∧Lis w w' V (freeL K k)∧Hdr w' (w.heap.size+1) V) (fun i _=>K.nF - (intOf i).toNat)
 case atStart=>exact ⟨0,.slice none 0 0,by omega,rfl,lis_nil _ _ (below2 _ _ _),hdr_new _ _ _⟩
 case round =>
  obtain ⟨k,V,hk,rfl,L,Hd⟩:=hrel
  have hc0:=Hd.c
  have HL:Hid (Lis w wr V (freeL K k)∧Hdr wr (w.heap.size+1) V):=⟨L,Hd⟩
  clear L Hd
  by_cases hlt:k<K.nF
  ·obtain ⟨cs,hcs⟩:∃ cs,cs=cut (fCell K) (k*6) 6:=⟨_,rfl⟩
   have ei:Hid ((Tryd.prog.info? 75).map (·.size)=some cs.length):=by unfold Hid;rw [hcs,cut_len];kernel_rfl
   have ei2:Hid ((Tryd.prog.info? 75).map (·.size)=some cs.toArray.size):=by unfold Hid;rw [List.size_toArray,hcs,cut_len];kernel_rfl
   have o1:Hid (cs.toArray.all (·.oneCell')=true):=by unfold Hid;rw [hcs];exact fcut_one K _ _
   have z1:Hid (cs.toArray.size=6):=by unfold Hid;rw [List.size_toArray,hcs,cut_len]
   have LA:Hid (wr.rangeAt gF (k*6) cs):=by unfold Hid;rw [hcs];exact rowIs_range (HR.out.1.of_block (HL.out.1.bel.block _ HR.out.2.1)) (o:=k*6) (m:=6) (by omega)
   have Hcs:Hid (cs=cut (fCell K) (k*6) 6):=hcs
   clear hcs
   have b1:(0:Int)≤(k:Int):=by omega
   have hkk:k<1000:=by have:=HR.out.2.2;omega
   have b2:(k:Int)<(K.nF:Int):=by omega
   cases hf:(K.F k 0 == 0)
   ·go_wp2_with (first|(refine wpList_load_mid rfl 75 _ rfl gF (k*6) rfl cs _ LA.out Tryd.underlying75 rfl ei.out ?_)|(refine wpList_store_any rfl 75 _ _ rfl _ 0 cs.toArray rfl rfl (by rw [z1.out];exact there_new1 _ _ _ _ (by rfl)) ei2.out o1.out ?_;intro W1 f1 f2 f3 f4;have q0:W1.cell? ⟨wr.heap.size,0,none⟩=some (.int .i64 (K.F k 0)):=by { have:=cut_cell (f:=fCell K) (o:=k*6) (m:=6) (w:=W1) (b:=wr.heap.size) (by rw [← Hcs.out];exact f1) (j:=0) (by omega);rw [this];unfold fCell;rw [show (k*6+0) / 6=k by omega,show (k*6+0) % 6=0 by omega] };have HW:Hid (Below wr.heap.size wr W1):=f4 _ _ ((Below.refl _ _).alloc (Nat.le_refl _) _) (Nat.le_refl _);clear f1 f2 f3 f4))
    exact ⟨⟨k+1,V,by omega,by simp,by have:=freeL_succ K k;rw [hf,if_neg (by decide),List.append_nil] at this;rw [this];exact HL.out.1.later HW.out,HL.out.2.later HW.out⟩,by simp [intOf];omega⟩
   ·go_wp2_with (first|(refine wpList_load_mid rfl 75 _ rfl gF (k*6) rfl cs _ LA.out Tryd.underlying75 rfl ei.out ?_)|(refine wpList_store_any rfl 75 _ _ rfl _ 0 cs.toArray rfl rfl (by rw [z1.out];exact there_new1 _ _ _ _ (by rfl)) ei2.out o1.out ?_;intro W1 f1 f2 f3 f4;have q0:W1.cell? ⟨wr.heap.size,0,none⟩=some (.int .i64 (K.F k 0)):=by { have:=cut_cell (f:=fCell K) (o:=k*6) (m:=6) (w:=W1) (b:=wr.heap.size) (by rw [← Hcs.out];exact f1) (j:=0) (by omega);rw [this];unfold fCell;rw [show (k*6+0) / 6=k by omega,show (k*6+0) % 6=0 by omega] };have HW:Hid (Below wr.heap.size wr W1):=f4 _ _ ((Below.refl _ _).alloc (Nat.le_refl _) _) (Nat.le_refl _);clear f1 f2 f3 f4)|(go_at_call 85;refine (hpush_any (w:=w) (k:Int) (HL.out.1.later HW.out) (by have:=freeL_len K k;have:=HR.out.2.2;omega) (Nat.le_succ _) (HL.out.2.later HW.out).c (HL.out.2.later HW.out).z (HL.out.2.later HW.out).o (freeL_le K k)).mono ?_;rintro e w5 ⟨⟨v5,rfl⟩,V5,L5,c5,z5,o5⟩;have H5:Hid (Lis w w5 V5 (freeL K k ++ [(k:Int)])∧Hdr w5 (w.heap.size+1) V5):=⟨L5,c5,z5,o5⟩;clear L5 c5 z5 o5))
    exact ⟨⟨k+1,V5,by omega,by simp,by have:=freeL_succ K k;rw [hf,if_pos rfl] at this;rw [this];exact H5.out.1,H5.out.2⟩,by simp [intOf];omega⟩
  ·obtain rfl:k=K.nF:=by omega
   go_wp2
   go_ret
   exact ⟨V,rfl,HL.out.1⟩
end Go.Proofs.YtcgabodkegcpgaaDoor
