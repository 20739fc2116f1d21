/- frames.Push, alone. No statement of the program is proved here. -/
import Derived.Test.YtcgabodkegcpgaaDoorOpz
import Derived.Deep.RegionLaw
namespace Go.Proofs.YtcgabodkegcpgaaDoor
open Go.RowKit
set_option linter.unusedVariables false
set_option linter.unusedSimpArgs false
set_option maxHeartbeats 20000000
attribute [local go_sem ↓] Go.wp_at_zero Go.wp_at_succ
theorem step_lis {w U:World}{V:Value}{xs:List Int}(L:Lis w U V xs)(hn:xs.length≤40)(val:Int){ops:Array Oper}{o:Oper}{a:Go.Act}{K:Go.Act→World→Prop}{Q:Exit→Go.Act→World→Prop}{E:Prop}(hgd:o.guard=none)(s x:Operand)
  (ho:o.op=.call { callee:=.builtin .append,args:=#[s,x],argTypes:=#[109,109] })(hs:a.eval s=V)(H:Nat)(hH:U.heap[H]?=some (.cells #[.int .i64 val] 3))(hx:a.eval x=.slice (some ⟨H,0,none⟩) 1 1)
  (h:∀ g cap W',Lis w W' (.slice (some ⟨g,0,none⟩) (xs.length+1) cap) (xs ++ [val])→U.grownBy W' V.ownBlock→(V.ownBlock=some g∨g=U.heap.size)→K (a.put o.dst (.slice (some ⟨g,0,none⟩) (xs.length+1) cap)) W') :
  if Region.wanted o (yielded ops a.tmps)=true then Oper.wp Tryd.prog o a U K Q else E:=by
 have hinfo:=infoInt'
 cases hq:Tryd.prog.info? 3 with
 | none=>rw [hq] at hinfo;cases hinfo
 | some i =>
  rw [hq] at hinfo
  simp only [Option.map_some,Option.some.injEq,Prod.mk.injEq] at hinfo
  refine step_append_lies _ hgd s x 109 ho w.heap.size 3 i _ 1 8 (by kernel_rfl) hq hinfo.1 hinfo.2.1 hinfo.2.2 (by rfl) (by omega) V xs.length (ints xs) hs L.own ⟨H,0,none⟩ 1 1 [.int .i64 val] hx rfl (World.news_of_block hH) (one_one' _) (by omega) (by simp [maxLen];omega) (by omega) L.bel.size U.heap.size rfl ?_
  intro g cap w2 o2 g2 at2 lt2
  refine h g cap w2 ⟨⟨g2.os.trans L.bel.os,g2.tape.trans L.bel.tape,g2.output.trans L.bel.output,Nat.le_trans L.bel.size g2.size,fun q hq=>?_⟩,by simpa [ints] using o2⟩ g2 at2
  rw [g2.block q (by have:=L.bel.size;omega) (fun h=>by have:=(L.own.lt q h.symm).1;omega)];exact L.bel.block q hq
theorem new_here (u:World)(o:Obj):(u.alloc o).heap[u.heap.size]?=some o:=by show (u.heap.push _)[u.heap.size]?=_;simp
theorem below_al (u:World)(o:Obj):Below u.heap.size u (u.alloc o):=(Below.refl u.heap.size u).alloc (Nat.le_refl _) o
theorem below_da (u:World)(o:Obj):Below u.heap.size u (u.drew.alloc o):=⟨rfl,rfl,rfl,(below_al u o).size,(below_al u o).block⟩
theorem below_ad (u:World)(o:Obj):Below u.heap.size u (u.alloc o).drew:=⟨rfl,rfl,rfl,(below_al u o).size,(below_al u o).block⟩
theorem push_hdr {w' U W':World}{fp:Nat}{V:Value}(hc:w'.cell? ⟨fp,0,none⟩=some V)(hz:w'.frozen? ⟨fp,0,none⟩=false)(hV:V.ownBlock≠some fp)(b:Below w'.heap.size w' U)(g2:U.grownBy W' V.ownBlock):W'.cell? ⟨fp,0,none⟩=some V∧W'.frozen? ⟨fp,0,none⟩=false:=by
 have hlt:fp<w'.heap.size:=World.block_lt_of_cell? _ _ hc
 have e:W'.heap[fp]?=w'.heap[fp]?:=(g2.block fp (Nat.lt_of_lt_of_le hlt b.size) (fun e=>hV e.symm)).trans (b.block fp hlt)
 simp only [World.cell?,World.frozen?,e] at *
 exact ⟨hc,hz⟩
theorem push_end {w W':World}{fp g k cap:Nat}{V:Value}{ys:List Int}(L:Lis w W' (.slice (some ⟨g,0,none⟩) k cap) ys)(hfp:w.heap.size≤fp)(z1:W'.cell? ⟨fp,0,none⟩=some V)(z2:W'.frozen? ⟨fp,0,none⟩=false)(hne:g≠fp) :
  ∃ V',Lis w (W'.setCell ⟨fp,0,none⟩ (.slice (some ⟨g,0,none⟩) k cap)) V' ys∧(W'.setCell ⟨fp,0,none⟩ (.slice (some ⟨g,0,none⟩) k cap)).cell? ⟨fp,0,none⟩=some V'∧(W'.setCell ⟨fp,0,none⟩ (.slice (some ⟨g,0,none⟩) k cap)).frozen? ⟨fp,0,none⟩=false∧V'.ownBlock≠some fp:=by
 refine ⟨_,⟨L.bel.setCell hfp _,L.own.1,?_⟩,World.cell?_setCell_same _ _ _ z1,?_,fun e=>hne (Option.some.inj e)⟩
 ·rcases L.own.2 with h|⟨g',c',cur,e,h1,h2,rest⟩
  ·exact .inl h
  ·obtain ⟨rfl⟩:g=g':=by injection e with e1;injection e1 with e2;injection e2
   exact .inr ⟨g,c',cur,e,h1,by rw [Br.heap_setCell,if_neg (Ne.symm hne)];exact h2,rest⟩
 ·rw [World.frozen?_setCell];exact z2
set_option maxRecDepth 100000 in
theorem fpush_any {w w':World}{fp:Nat}{V:Value}{xs:List Int}(x:Int)(L:Lis w w' V xs)(hn:xs.length≤40)(hfp:w.heap.size≤fp)(hc:w'.cell? ⟨fp,0,none⟩=some V)(hz:w'.frozen? ⟨fp,0,none⟩=false)(hV:V.ownBlock≠some fp) :
  Calls Tryd.prog 118 #[.pointer (some ⟨fp,0,none⟩),.iface 3 (.int .i64 x)] w' fun e w2=>(∃ v,e=.returned v)∧∃ V',Lis w w2 V' (xs ++ [x])∧w2.cell? ⟨fp,0,none⟩=some V'∧w2.frozen? ⟨fp,0,none⟩=false∧V'.ownBlock≠some fp:=by
 obtain ⟨iN,hi⟩:∃ i,Tryd.prog.info? 3=some i∧i.zero=some (.int .i64 0)∧i.size=1∧i.bytes=8:=by
  have hinfo:=infoInt'
  cases hq:Tryd.prog.info? 3 with
  | none=>rw [hq] at hinfo;cases hinfo
  | some i =>
   rw [hq] at hinfo
   simp only [Option.map_some,Option.some.injEq,Prod.mk.injEq] at hinfo
   exact ⟨i,rfl,hinfo.1,hinfo.2.1,hinfo.2.2⟩
 have HI:Hid _:=hi
 have HL:Hid (Lis w w' V xs∧xs.length≤40):=⟨L,hn⟩
 have ta:∀ u,(Instr.typeAssert (.iface 3 (.int .i64 x)) 20 3 false).run Tryd.prog u=.ok (.int .i64 x) u:=fun _=>by kernel_rfl
 have k1:∀ o,(w'.alloc o).cell? ⟨fp,0,none⟩=some V:=fun o=>below_cell (below_al w' o) (World.block_lt_of_cell? _ _ hc) hc
 have ne:w'.heap.size≠fp:=World.new_ne w' ⟨fp,0,none⟩ hc
 clear L hn hi
 go_enter Tryd.func118,Tryd.ntmps118
 go_region_law (refine step_lis (w:=w) (V:=V) (xs:=xs) (by exact HL.out.1.later (by first|exact below_da w' _|exact below_ad w' _)) HL.out.2 x rfl (.tmp 7) (.tmp 10) rfl (by rfl) w'.heap.size (by exact new_here w' _) (by rfl) ?_;intro g cap W' L' g2 at2;have HL':Hid (Lis w W' (.slice (some ⟨g,0,none⟩) (xs.length+1) cap) (xs ++ [x])):=L';have HZ:Hid (V.ownBlock=some g∨w'.heap.size≤g):=at2.imp id (fun h=>by rw [h];simp);have z1:=(push_hdr hc hz hV (by first|exact below_da w' _|exact below_ad w' _|exact below_al w' _) g2).1;have z2:=(push_hdr hc hz hV (by first|exact below_da w' _|exact below_ad w' _|exact below_al w' _) g2).2;clear at2 g2;clear L')
 all_goals (go_end0;exact ⟨⟨_,rfl⟩,push_end HL'.out hfp z1 z2 (fun e=>by subst e;rcases HZ.out with h|h;exact hV h;have:=World.block_lt_of_cell? _ _ hc;exact absurd this (Nat.not_lt.2 h))⟩)
attribute [local go_sem ↓] Go.wp_at_zero Go.wp_at_succ
theorem lis_dn {w w2:World}{fp:Nat}{V:Value}{ys:List Int}(L:Lis w w2 V ys)(hc:w2.cell? ⟨fp,0,none⟩=some V)(hne:ys≠[]):∃ g cap,V=.slice (some ⟨g,0,none⟩) ys.length cap∧Dn w2 w2 fp 0 g cap 3 ys ys.length:=by
 obtain ⟨o1,⟨_,h0⟩|⟨g,cap,cur,rfl,hg,hcur,h1,h2,h3,h4⟩⟩:=L.own
 ·exact absurd (List.length_eq_zero_iff.1 h0) hne
 ·refine ⟨g,cap,rfl,⟨rfl,fun _ _=>rfl,cur,hcur,fun i x hi=>?_⟩,rfl,hc⟩
  have hl:i<ys.length:=(List.getElem?_eq_some_iff.1 hi).1
  have e1:(ints ys)[i]?=some (.int .i64 x):=by simp [ints,hi]
  rw [← h4,List.getElem?_take,if_pos (by omega)] at e1
  simpa using e1
theorem lis_drew {w w2:World}{V:Value}{ys:List Int}(L:Lis w w2 V ys)(q:Nat):Lis w (w2.drewN q) V ys:=⟨⟨L.bel.os,L.bel.tape,L.bel.output,L.bel.size,L.bel.block⟩,L.own⟩
theorem push_le {xs:List Int}{x:Int}{j:Nat}(hl:xs.length=j+1)(hx:∀ y∈xs,y≤x):(xs ++ [x]).getD (j / 2) 0≤(xs ++ [x]).getD (j+1) 0:=by
 rw [List.getD_eq_getElem?_getD,List.getD_eq_getElem?_getD,List.getElem?_append_left (by omega),List.getElem?_append_right (by omega),hl,Nat.sub_self,List.getElem?_eq_getElem (show j / 2<xs.length by omega)]
 exact hx _ (List.getElem_mem _)
set_option maxRecDepth 100000 in
theorem hpush_any {w w':World}{fp:Nat}{V:Value}{xs:List Int}(x:Int)(L:Lis w w' V xs)(hn:xs.length<40)(hfp:w.heap.size≤fp)(hc:w'.cell? ⟨fp,0,none⟩=some V)(hz:w'.frozen? ⟨fp,0,none⟩=false)(hV:V.ownBlock≠some fp)(hx:∀ y∈xs,y≤x) :
  Calls Tryd.prog 85 #[.iface 129 (.pointer (some ⟨fp,0,none⟩)),.iface 3 (.int .i64 x)] w' fun e w2=>(∃ v,e=.returned v)∧∃ V',Lis w w2 V' (xs ++ [x])∧w2.cell? ⟨fp,0,none⟩=some V'∧w2.frozen? ⟨fp,0,none⟩=false∧V'.ownBlock≠some fp:=by
 have key:=fpush_any x L (Nat.le_of_lt hn) hfp hc hz hV
 have mpu:=m_push
 have hll:xs.length<1000:=by omega
 have HX:Hid (xs.length<40∧∀ y∈xs,y≤x):=⟨hn,hx⟩
 clear L hn hc hz hV hx
 have hl:(xs ++ [x]).length=xs.length+1:=by simp
 cases hm:xs.length with
 | zero =>
  rw [hm] at hl
  go_enter Tryd.func85,Tryd.ntmps85
  go_wp2_with (first|(go_at_call 118;refine key.mono ?_;rintro e w2 ⟨⟨v2,rfl⟩,V',L2,c2,f2,o2⟩;obtain ⟨g,cap,rfl,D2⟩:=lis_dn L2 c2 (by simp);rw [hl] at D2;have ml:=m_len w2 fp 0 _ _ _ D2.hdr;have H2:Hid (Lis w w2 (.slice (some ⟨g,0,none⟩) (xs ++ [x]).length cap) (xs ++ [x])∧w2.cell? ⟨fp,0,none⟩=some (.slice (some ⟨g,0,none⟩) (xs ++ [x]).length cap)∧w2.frozen? ⟨fp,0,none⟩=false∧(Value.slice (some ⟨g,0,none⟩) (xs ++ [x]).length cap).ownBlock≠some fp):=⟨L2,c2,f2,o2⟩;have HD:Hid (Dn w2 w2 fp 0 g cap 3 (xs ++ [x]) (0+1)):=D2;clear L2 c2 f2 o2 D2)|(go_at_call 114;refine (flen_any _ _ _ _).mono ?_;rintro e w3 ⟨rfl,rfl⟩)|(go_at_call 96;refine (up_zero HD.out).mono ?_;rintro e w4 ⟨⟨v4,rfl⟩,q,rfl⟩))
  go_end0
  exact ⟨⟨_,rfl⟩,_,lis_drew H2.out.1 q,H2.out.2⟩
 | succ j =>
  rw [hm] at hl
  have HJ:Hid (xs.length=j+1∧j+1<40):=⟨hm,by have:=HX.out.1;omega⟩
  have hjj:j<1000:=by omega
  go_enter Tryd.func85,Tryd.ntmps85
  go_wp2_with (first|(go_at_call 118;refine key.mono ?_;rintro e w2 ⟨⟨v2,rfl⟩,V',L2,c2,f2,o2⟩;obtain ⟨g,cap,rfl,D2⟩:=lis_dn L2 c2 (by simp);rw [hl] at D2;have ml:=m_len w2 fp 0 _ _ _ D2.hdr;have H2:Hid (Lis w w2 (.slice (some ⟨g,0,none⟩) (xs ++ [x]).length cap) (xs ++ [x])∧w2.cell? ⟨fp,0,none⟩=some (.slice (some ⟨g,0,none⟩) (xs ++ [x]).length cap)∧w2.frozen? ⟨fp,0,none⟩=false∧(Value.slice (some ⟨g,0,none⟩) (xs ++ [x]).length cap).ownBlock≠some fp):=⟨L2,c2,f2,o2⟩;have HD:Hid (Dn w2 w2 fp 0 g cap 3 (xs ++ [x]) (j+1+1)):=D2;clear L2 c2 f2 o2 D2)|(go_at_call 114;refine (flen_any _ _ _ _).mono ?_;rintro e w3 ⟨rfl,rfl⟩)|(go_at_call 96;refine (up_still HD.out j (by omega) (by have:=HJ.out;omega) (push_le HJ.out.1 HX.out.2)).mono ?_;rintro e w4 ⟨⟨v4,rfl⟩,q,rfl⟩))
  go_end0
  exact ⟨⟨_,rfl⟩,_,lis_drew H2.out.1 q,H2.out.2⟩
attribute [local go_sem ↓] Go.wp_at_zero Go.wp_at_succ
def freeL (K:Ker)(k:Nat):List Int:=((List.range k).filter fun j=>K.F j 0 == 0).map Int.ofNat
theorem freeL_succ (K:Ker)(k:Nat):freeL K (k+1)=freeL K k ++ (if K.F k 0 == 0 then [(k:Int)] else []):=by
 unfold freeL
 rw [List.range_succ,List.filter_append,List.map_append]
 congr 1
 by_cases h:K.F k 0=0<;>simp [h]
theorem freeL_len (K:Ker)(k:Nat):(freeL K k).length≤k:=by
 unfold freeL
 rw [List.length_map]
 exact Nat.le_trans (List.length_filter_le _ _) (by simp)
theorem freeL_le (K:Ker)(k:Nat):∀ y∈freeL K k,y≤(k:Int):=by
 intro y hy
 unfold freeL at hy
 obtain ⟨j,hj,rfl⟩:=List.mem_map.1 hy
 have:=List.mem_range.1 (List.mem_filter.1 hj).1
 show (j:Int)≤k
 omega
theorem fcut_one (K:Ker)(o m:Nat):(cut (fCell K) o m).toArray.all (·.oneCell')=true :=
 all_oneCell_toArray fun v hv=>by unfold cut at hv;obtain ⟨j,_,rfl⟩:=List.mem_map.1 hv;rfl
structure Hdr (w':World) (fp:Nat) (V:Value):Prop where
 c:w'.cell? ⟨fp,0,none⟩=some V
 z:w'.frozen? ⟨fp,0,none⟩=false
 o:V.ownBlock≠some fp
theorem Hdr.later {w' W:World}{fp:Nat}{V:Value}(h:Hdr w' fp V)(b:Below w'.heap.size w' W):Hdr W fp V:=by
 have hlt:fp<w'.heap.size:=World.block_lt_of_cell? _ _ h.c
 have e:=b.block fp hlt
 have c:=h.c
 have z:=h.z
 refine ⟨?_,?_,h.o⟩
 ·simp only [World.cell?,e] at *;exact c
 ·simp only [World.frozen?,e] at *;exact z
theorem hdr_new (w:World)(A:Obj)(t:TypeId):Hdr ((w.alloc A).alloc (.cells #[.slice none 0 0] t)) (w.heap.size+1) (.slice none 0 0):=by
 have e:((w.alloc A).alloc (.cells #[.slice none 0 0] t)).heap[w.heap.size+1]?=some (.cells #[.slice none 0 0] t):=by
  have h:=new_here (w.alloc A) (.cells #[.slice none 0 0] t)
  rwa [show (w.alloc A).heap.size=w.heap.size+1 by simp] at h
 refine ⟨?_,?_,fun h=>by cases h⟩
 ·simp only [World.cell?,e];rfl
 ·simp only [World.frozen?,e];rfl
theorem below2 (w:World)(A B:Obj):Below w.heap.size w ((w.alloc A).alloc B):=((Below.refl _ _).alloc (Nat.le_refl _) _).alloc (by simp) _
set_option maxRecDepth 100000 in
theorem free_any (w:World)(K:Ker)(gF gS gD:Nat)(hF:K.nF≤32)(hrow:w.rowIs gF 75 (K.nF*6) (fCell K))(hlt:gF<w.heap.size) :
  Calls Tryd.prog 78 #[stVal K gF gS gD] w fun e w'=>∃ V,e=.returned V∧Lis w w' V (freeL K K.nF):=by
 unfold stVal
 have HR:Hid (w.rowIs gF 75 (K.nF*6) (fCell K)∧gF<w.heap.size∧K.nF≤32):=⟨hrow,hlt,hF⟩
 clear hrow hlt hF
 go_enter Tryd.func78,Tryd.ntmps78
 go_wp2_with fail
 go_loopw [9] (fun i w'=>∃ (k:Nat) (V:Value),k≤K.nF∧i=.int .i64 k∧Lis w w' V (freeL K k)∧Hdr w' (w.heap.size+1) V) (fun i _=>K.nF - (intOf i).toNat)
 case atStart=>exact ⟨0,.slice none 0 0,by omega,rfl,lis_nil _ _ (below2 _ _ _),hdr_new _ _ _⟩
 case round =>
  obtain ⟨k,V,hk,rfl,L,Hd⟩:=hrel
  have hc0:=Hd.c
  have HL:Hid (Lis w wr V (freeL K k)∧Hdr wr (w.heap.size+1) V):=⟨L,Hd⟩
  clear L Hd
  by_cases hlt:k<K.nF
  ·obtain ⟨cs,hcs⟩:∃ cs,cs=cut (fCell K) (k*6) 6:=⟨_,rfl⟩
   have ei:Hid ((Tryd.prog.info? 75).map (·.size)=some cs.length):=by unfold Hid;rw [hcs,cut_len];kernel_rfl
   have ei2:Hid ((Tryd.prog.info? 75).map (·.size)=some cs.toArray.size):=by unfold Hid;rw [List.size_toArray,hcs,cut_len];kernel_rfl
   have o1:Hid (cs.toArray.all (·.oneCell')=true):=by unfold Hid;rw [hcs];exact fcut_one K _ _
   have z1:Hid (cs.toArray.size=6):=by unfold Hid;rw [List.size_toArray,hcs,cut_len]
   have LA:Hid (wr.rangeAt gF (k*6) cs):=by unfold Hid;rw [hcs];exact rowIs_range (HR.out.1.of_block (HL.out.1.bel.block _ HR.out.2.1)) (o:=k*6) (m:=6) (by omega)
   have Hcs:Hid (cs=cut (fCell K) (k*6) 6):=hcs
   clear hcs
   have b1:(0:Int)≤(k:Int):=by omega
   have hkk:k<1000:=by have:=HR.out.2.2;omega
   have b2:(k:Int)<(K.nF:Int):=by omega
   cases hf:(K.F k 0 == 0)
   ·go_wp2_with (first|(refine wpList_load_mid rfl 75 _ rfl gF (k*6) rfl cs _ LA.out Tryd.underlying75 rfl ei.out ?_)|(refine wpList_store_any rfl 75 _ _ rfl _ 0 cs.toArray rfl rfl (by rw [z1.out];exact there_new1 _ _ _ _ (by rfl)) ei2.out o1.out ?_;intro W1 f1 f2 f3 f4;have q0:W1.cell? ⟨wr.heap.size,0,none⟩=some (.int .i64 (K.F k 0)):=by { have:=cut_cell (f:=fCell K) (o:=k*6) (m:=6) (w:=W1) (b:=wr.heap.size) (by rw [← Hcs.out];exact f1) (j:=0) (by omega);rw [this];unfold fCell;rw [show (k*6+0) / 6=k by omega,show (k*6+0) % 6=0 by omega] };have HW:Hid (Below wr.heap.size wr W1):=f4 _ _ ((Below.refl _ _).alloc (Nat.le_refl _) _) (Nat.le_refl _);clear f1 f2 f3 f4))
    exact ⟨⟨k+1,V,by omega,by simp,by have:=freeL_succ K k;rw [hf,if_neg (by decide),List.append_nil] at this;rw [this];exact HL.out.1.later HW.out,HL.out.2.later HW.out⟩,by simp [intOf];omega⟩
   ·go_wp2_with (first|(refine wpList_load_mid rfl 75 _ rfl gF (k*6) rfl cs _ LA.out Tryd.underlying75 rfl ei.out ?_)|(refine wpList_store_any rfl 75 _ _ rfl _ 0 cs.toArray rfl rfl (by rw [z1.out];exact there_new1 _ _ _ _ (by rfl)) ei2.out o1.out ?_;intro W1 f1 f2 f3 f4;have q0:W1.cell? ⟨wr.heap.size,0,none⟩=some (.int .i64 (K.F k 0)):=by { have:=cut_cell (f:=fCell K) (o:=k*6) (m:=6) (w:=W1) (b:=wr.heap.size) (by rw [← Hcs.out];exact f1) (j:=0) (by omega);rw [this];unfold fCell;rw [show (k*6+0) / 6=k by omega,show (k*6+0) % 6=0 by omega] };have HW:Hid (Below wr.heap.size wr W1):=f4 _ _ ((Below.refl _ _).alloc (Nat.le_refl _) _) (Nat.le_refl _);clear f1 f2 f3 f4)|(go_at_call 85;refine (hpush_any (w:=w) (k:Int) (HL.out.1.later HW.out) (by have:=freeL_len K k;have:=HR.out.2.2;omega) (Nat.le_succ _) (HL.out.2.later HW.out).c (HL.out.2.later HW.out).z (HL.out.2.later HW.out).o (freeL_le K k)).mono ?_;rintro e w5 ⟨⟨v5,rfl⟩,V5,L5,c5,z5,o5⟩;have H5:Hid (Lis w w5 V5 (freeL K k ++ [(k:Int)])∧Hdr w5 (w.heap.size+1) V5):=⟨L5,c5,z5,o5⟩;clear L5 c5 z5 o5))
    exact ⟨⟨k+1,V5,by omega,by simp,by have:=freeL_succ K k;rw [hf,if_pos rfl] at this;rw [this];exact H5.out.1,H5.out.2⟩,by simp [intOf];omega⟩
  ·obtain rfl:k=K.nF:=by omega
   go_wp2
   go_ret
   exact ⟨V,rfl,HL.out.1⟩
end Go.Proofs.YtcgabodkegcpgaaDoor
