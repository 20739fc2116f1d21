/- 'right' answers true where the books are right. No statement of the program is proved here. -/
import Derived.Test.YtcgabodkegcpgaaDoorBkb
import Derived.Test.YtcgabodkegcpgaaDoorLok
import Derived.BigFrame
namespace Go.Proofs.YtcgabodkegcpgaaDoor
open Go.RowKit
set_option linter.unusedVariables false
set_option linter.unusedSimpArgs false
set_option maxHeartbeats 20000000
theorem wpList_pid {P:Program}{ops:Array Oper}{o:Oper}{l:List Oper}{a:Act}{w:World}{Q:Exit→Act→World→Prop}(hg:o.guard=none)(h:wpList P ops Q (o::l) a w):wpList P ops Q (o::l) a w:=h
def Cn (w:World)(b:Nat)(f:Nat→Nat):Prop:=∃ c t,w.heap[b]?=some (.cells c t (0,0))∧c.size=4∧∀ d,d<4→c[d]?=some (.int .i64 (f d))
section
variable {w w':World} {b:Nat} {f:Nat→Nat}
theorem Cn.cell (h:Cn w b f){d:Nat}(hd:d<4):w.cell? ⟨b,d,none⟩=some (.int .i64 (f d)):=by
 obtain ⟨c,t,h1,h2,h3⟩:=h
 simp only [World.cell?,h1]
 exact h3 d hd
theorem Cn.free (h:Cn w b f)(d:Nat):w.frozen? ⟨b,d,none⟩=false:=by
 obtain ⟨c,t,h1,h2,h3⟩:=h
 simp [World.frozen?,h1]
theorem Cn.of (h:Cn w b f)(e:w'.heap[b]?=w.heap[b]?):Cn w' b f:=by
 obtain ⟨c,t,h1,h2,h3⟩:=h
 exact ⟨c,t,e.trans h1,h2,h3⟩
theorem Cn.congr (h:Cn w b f){g:Nat→Nat}(e:∀ d,d<4→g d=f d):Cn w b g:=by
 obtain ⟨c,t,h1,h2,h3⟩:=h
 exact ⟨c,t,h1,h2,fun d hd=>by rw [e d hd];exact h3 d hd⟩
theorem Cn.set (h:Cn w b f){d:Nat}(hd:d<4)(v:Nat):Cn (w.setCell ⟨b,d,none⟩ (.int .i64 v)) b (fun q=>if q=d then v else f q):=by
 obtain ⟨c,t,h1,h2,h3⟩:=h
 refine ⟨c.setIfInBounds d (.int .i64 v),t,?_,by simpa using h2,fun q hq=>?_⟩
 ·rw [Br.heap_setCell,if_pos rfl,h1];rfl
 ·rw [Array.getElem?_setIfInBounds]
  show _=some (Value.int .i64 ((if q=d then v else f q:Nat):Int))
  by_cases e:d=q
  ·subst e;rw [if_pos rfl,if_pos (by omega),if_pos rfl]
  ·rw [if_neg e,if_neg (Ne.symm e)];exact h3 q hq
end
structure Rt0 (w W:World) (K:Ker) (gF gS gD:Nat):Prop where
 c0:W.cell? ⟨w.heap.size,0,none⟩=some (.slice (some ⟨gF,0,none⟩) K.nF K.nF)
 c1:W.cell? ⟨w.heap.size,1,none⟩=some (.slice (some ⟨gS,0,none⟩) K.nS K.nS)
 c2:W.cell? ⟨w.heap.size,2,none⟩=some (.slice (some ⟨gD,0,none⟩) K.nD K.nD)
 d0:W.cell? ⟨w.heap.size+1,0,none⟩=some (.int .i64 K.nF)
 d1:W.cell? ⟨w.heap.size+1,1,none⟩=some (.int .i64 K.nS)
 d2:W.cell? ⟨w.heap.size+1,2,none⟩=some (.int .i64 K.nD)
 bel:Below w.heap.size w W
 snap:Snap W gF gS gD K
 sz:w.heap.size+2≤W.heap.size
 low:∀ j,j=gF∨j=gS∨j=gD→j<w.heap.size
theorem Rt0.later {w W W':World}{K:Ker}{gF gS gD:Nat}(h:Rt0 w W K gF gS gD)(b:Below W.heap.size W W'):Rt0 w W' K gF gS gD:=by
 have hz:=h.sz
 have k:∀ {j o:Nat} {v:Value},j<W.heap.size→W.cell? ⟨j,o,none⟩=some v→W'.cell? ⟨j,o,none⟩=some v:=fun hj hv=>(World.cell?_of_block (w:=W) (b.block _ hj)).trans hv
 refine ⟨k (by omega) h.c0,k (by omega) h.c1,k (by omega) h.c2,k (by omega) h.d0,k (by omega) h.d1,k (by omega) h.d2,⟨b.os.trans h.bel.os,b.tape.trans h.bel.tape,b.output.trans h.bel.output,Nat.le_trans h.bel.size b.size,fun j hj=>(b.block j (Nat.lt_of_lt_of_le hj h.bel.size)).trans (h.bel.block j hj)⟩,h.snap.same fun j hj=>b.block j ?_,Nat.le_trans hz b.size,h.low⟩
 rcases hj with rfl|rfl|rfl
 ·exact row_lt h.snap.f
 ·exact row_lt h.snap.s
 ·exact row_lt h.snap.d
theorem rt0_new {w:World}{K:Ker}{gF gS gD:Nat}(S:Snap w gF gS gD K)(t t':TypeId) :
  Rt0 w ((w.alloc (.cells #[.slice (some ⟨gF,0,none⟩) K.nF K.nF,.slice (some ⟨gS,0,none⟩) K.nS K.nS,.slice (some ⟨gD,0,none⟩) K.nD K.nD] t)).alloc (.cells #[.int .i64 K.nF,.int .i64 K.nS,.int .i64 K.nD] t')) K gF gS gD:=by
 have q:((w.alloc (.cells #[.slice (some ⟨gF,0,none⟩) K.nF K.nF,.slice (some ⟨gS,0,none⟩) K.nS K.nS,.slice (some ⟨gD,0,none⟩) K.nD K.nD] t)).alloc (.cells #[.int .i64 K.nF,.int .i64 K.nS,.int .i64 K.nD] t')).heap[w.heap.size]?=some (.cells #[.slice (some ⟨gF,0,none⟩) K.nF K.nF,.slice (some ⟨gS,0,none⟩) K.nS K.nS,.slice (some ⟨gD,0,none⟩) K.nD K.nD] t):=by
  rw [Below.heap_alloc _ _ _ (by simp)]
  exact heap_alloc_new w _
 have q2:((w.alloc (.cells #[.slice (some ⟨gF,0,none⟩) K.nF K.nF,.slice (some ⟨gS,0,none⟩) K.nS K.nS,.slice (some ⟨gD,0,none⟩) K.nD K.nD] t)).alloc (.cells #[.int .i64 K.nF,.int .i64 K.nS,.int .i64 K.nD] t')).heap[w.heap.size+1]?=some (.cells #[.int .i64 K.nF,.int .i64 K.nS,.int .i64 K.nD] t'):=by
  have:=heap_alloc_new (w.alloc (.cells #[.slice (some ⟨gF,0,none⟩) K.nF K.nF,.slice (some ⟨gS,0,none⟩) K.nS K.nS,.slice (some ⟨gD,0,none⟩) K.nD K.nD] t)) (.cells #[.int .i64 K.nF,.int .i64 K.nS,.int .i64 K.nD] t')
  simpa using this
 have lw:∀ j,j=gF∨j=gS∨j=gD→j<w.heap.size:=fun j hj=>by
  rcases hj with rfl|rfl|rfl
  ·exact row_lt S.f
  ·exact row_lt S.s
  ·exact row_lt S.d
 have bel:=below2 w (.cells #[.slice (some ⟨gF,0,none⟩) K.nF K.nF,.slice (some ⟨gS,0,none⟩) K.nS K.nS,.slice (some ⟨gD,0,none⟩) K.nD K.nD] t) (.cells #[.int .i64 K.nF,.int .i64 K.nS,.int .i64 K.nD] t')
 refine ⟨cell_of_obj q 0,cell_of_obj q 1,cell_of_obj q 2,cell_of_obj q2 0,cell_of_obj q2 1,cell_of_obj q2 2,bel,S.same fun k hk=>bel.block k (lw k hk),by simp,lw⟩
structure RtW (w W:World) (K:Ker) (gF gS gD R k:Nat):Prop extends Rt0 w W K gF gS gD where
 hR:w.heap.size+2≤R
 lt:R+1<W.heap.size
 rd:Cn W R (fun d=>countTo (K.isEnd d false) k)
 wt:Cn W (R+1) (fun d=>countTo (K.isEnd d true) k)
theorem RtW.later {w W W':World}{K:Ker}{gF gS gD R k:Nat}(h:RtW w W K gF gS gD R k)(b:Below W.heap.size W W'):RtW w W' K gF gS gD R k :=
 ⟨h.toRt0.later b,h.hR,Nat.lt_of_lt_of_le h.lt b.size,h.rd.of (b.block _ (by have:=h.lt;omega)),h.wt.of (b.block _ h.lt)⟩
theorem RtW.at {w W:World}{K:Ker}{gF gS gD R k k':Nat}(h:RtW w W K gF gS gD R k)(e:k=k'):RtW w W K gF gS gD R k':=e▸h
theorem rtw_new {w W:World}{K:Ker}{gF gS gD:Nat}(h:Rt0 w W K gF gS gD)(t:TypeId):RtW w ((W.alloc (.cells #[.int .i64 0,.int .i64 0,.int .i64 0,.int .i64 0] t)).alloc (.cells #[.int .i64 0,.int .i64 0,.int .i64 0,.int .i64 0] t)) K gF gS gD W.heap.size 0:=by
 have q:((W.alloc (.cells #[.int .i64 0,.int .i64 0,.int .i64 0,.int .i64 0] t)).alloc (.cells #[.int .i64 0,.int .i64 0,.int .i64 0,.int .i64 0] t)).heap[W.heap.size]?=some (.cells #[.int .i64 0,.int .i64 0,.int .i64 0,.int .i64 0] t):=by
  rw [Below.heap_alloc _ _ _ (by simp)]
  exact heap_alloc_new W _
 have q2:((W.alloc (.cells #[.int .i64 0,.int .i64 0,.int .i64 0,.int .i64 0] t)).alloc (.cells #[.int .i64 0,.int .i64 0,.int .i64 0,.int .i64 0] t)).heap[W.heap.size+1]?=some (.cells #[.int .i64 0,.int .i64 0,.int .i64 0,.int .i64 0] t):=by
  have:=heap_alloc_new (W.alloc (.cells #[.int .i64 0,.int .i64 0,.int .i64 0,.int .i64 0] t)) (.cells #[.int .i64 0,.int .i64 0,.int .i64 0,.int .i64 0] t)
  simpa using this
 have z:∀ d,d<4→(#[.int .i64 0,.int .i64 0,.int .i64 0,.int .i64 0]:Array Value)[d]?=some (.int .i64 ((0:Nat):Int)):=fun d hd=>by
  have:d=0∨d=1∨d=2∨d=3:=by omega
  rcases this with rfl|rfl|rfl|rfl<;>rfl
 exact ⟨h.later (below2 W _ _),h.sz,by simp,⟨_,t,q,rfl,z⟩,⟨_,t,q2,rfl,z⟩⟩
theorem isEnd_at (K:Ker)(d:Nat)(b:Bool)(q m:Nat)(hm:m<4):K.isEnd d b (q*4+m)=(K.file q m == (d:Int) && K.end q m == b):=by
 unfold Ker.isEnd
 rw [show (q*4+m) / 4=q by omega,show (q*4+m) % 4=m by omega]
section
variable {w W:World} {K:Ker} {gF gS gD R q m:Nat}
theorem RtW.naught (h:RtW w W K gF gS gD R (q*4+m))(hm:m<4)(hf:K.file q m=-1):RtW w W K gF gS gD R (q*4+(m+1)):=by
 have z:∀ d b,countTo (K.isEnd d b) (q*4+(m+1))=countTo (K.isEnd d b) (q*4+m):=fun d b=>by
  rw [← Nat.add_assoc,countTo_succ,isEnd_at K d b q m hm,hf]
  have:((-1:Int) == (d:Int))=false:=by simp<;>omega
  rw [this];rfl
 exact ⟨h.toRt0,h.hR,h.lt,h.rd.congr fun d _=>z d false,h.wt.congr fun d _=>z d true⟩
theorem RtW.put (h:RtW w W K gF gS gD R (q*4+m)){r d:Nat}(hr:r=R∨r=R+1)(x:Value):Rt0 w (W.setCell ⟨r,d,none⟩ x) K gF gS gD∧(W.setCell ⟨r,d,none⟩ x).heap.size=W.heap.size∧∀ j,j≠r→(W.setCell ⟨r,d,none⟩ x).heap[j]?=W.heap[j]?:=by
 have hk:∀ j,j≠r→(W.setCell ⟨r,d,none⟩ x).heap[j]?=W.heap[j]?:=fun j hj=>by rw [Br.heap_setCell,if_neg (Ne.symm hj)]
 have hz:(W.setCell ⟨r,d,none⟩ x).heap.size=W.heap.size:=size_setCell W _ _
 have h2:=h.hR
 have s1:=row_lt h.snap.f
 have k:∀ {j o:Nat} {v:Value},j≠r→W.cell? ⟨j,o,none⟩=some v→(W.setCell ⟨r,d,none⟩ x).cell? ⟨j,o,none⟩=some v:=fun hj hv=>(World.cell?_of_block (w:=W) (hk _ hj)).trans hv
 have nr:∀ g,g<w.heap.size→g≠r:=fun g hg=>by omega
 have lw:∀ {g t n:Nat} {f:Nat→Value},w.rowIs g t n f→g<w.heap.size:=fun h=>h.lt
 refine ⟨⟨k (by omega) h.c0,k (by omega) h.c1,k (by omega) h.c2,k (by omega) h.d0,k (by omega) h.d1,k (by omega) h.d2,⟨h.bel.os,h.bel.tape,h.bel.output,by rw [hz];exact h.bel.size,fun j hj=>(hk j (nr j hj)).trans (h.bel.block j hj)⟩,?_,by rw [hz];exact h.sz,h.low⟩,hz,hk⟩
 exact h.snap.same fun j hj=>hk j (nr j (h.low j hj))
theorem RtW.hitW (h:RtW w W K gF gS gD R (q*4+m))(hm:m<4){d:Nat}(hd:d<4)(hf:K.file q m=d)(he:K.end q m=true):RtW w (W.setCell ⟨R+1,d,none⟩ (.int .i64 ((countTo (K.isEnd d true) (q*4+m)+1:Nat):Int))) K gF gS gD R (q*4+(m+1)):=by
 obtain ⟨h0,hz,hk⟩:=h.put (d:=d) (.inr rfl) (.int .i64 ((countTo (K.isEnd d true) (q*4+m)+1:Nat):Int))
 refine ⟨h0,h.hR,by rw [hz];exact h.lt,(h.rd.of (hk R (by omega))).congr fun e _=>?_,(h.wt.set hd _).congr fun e _=>?_⟩
 ·rw [← Nat.add_assoc,countTo_succ,isEnd_at K e false q m hm,he];simp
 ·rw [← Nat.add_assoc,countTo_succ,isEnd_at K e true q m hm,he,hf]
  by_cases x:e=d
  ·subst x;simp
  ·have:((d:Int) == (e:Int))=false:=by simp<;>omega
   rw [if_neg x,this];simp
theorem RtW.hitR (h:RtW w W K gF gS gD R (q*4+m))(hm:m<4){d:Nat}(hd:d<4)(hf:K.file q m=d)(he:K.end q m=false):RtW w (W.setCell ⟨R,d,none⟩ (.int .i64 ((countTo (K.isEnd d false) (q*4+m)+1:Nat):Int))) K gF gS gD R (q*4+(m+1)):=by
 obtain ⟨h0,hz,hk⟩:=h.put (d:=d) (.inl rfl) (.int .i64 ((countTo (K.isEnd d false) (q*4+m)+1:Nat):Int))
 refine ⟨h0,h.hR,by rw [hz];exact h.lt,(h.rd.set hd _).congr fun e _=>?_,(h.wt.of (hk (R+1) (by omega))).congr fun e _=>?_⟩
 ·rw [← Nat.add_assoc,countTo_succ,isEnd_at K e false q m hm,he,hf]
  by_cases x:e=d
  ·subst x;simp
  ·have:((d:Int) == (e:Int))=false:=by simp<;>omega
   rw [if_neg x,this];simp
 ·rw [← Nat.add_assoc,countTo_succ,isEnd_at K e true q m hm,he];simp
end
structure PrW (W:World) (K:Ker) (P i:Nat):Prop where
 at_:∀ c,c<20→W.cell? ⟨P,c,none⟩=some (sCell K (i*20+c))
 lt:P<W.heap.size
section
variable {W W':World} {K:Ker} {P i:Nat}
theorem PrW.later (h:PrW W K P i)(b:Below W.heap.size W W'):PrW W' K P i:=⟨fun c hc=>(World.cell?_of_block (w:=W) (b.block _ h.lt)).trans (h.at_ c hc),Nat.lt_of_lt_of_le h.lt b.size⟩
theorem PrW.s (h:PrW W K P i){c:Nat}(hc:c<20)(hb:¬ isB c):W.cell? ⟨P,c,none⟩=some (.int .i64 (K.S i c)):=by
 rw [h.at_ c hc];unfold sCell
 rw [show (i*20+c) / 20=i by omega,show (i*20+c) % 20=c by omega,if_neg (by unfold isB at hb;omega)]
theorem PrW.b (h:PrW W K P i){c:Nat}(hb:isB c):W.cell? ⟨P,c,none⟩=some (.bool (K.B i c)):=by
 have hb':=hb
 unfold isB at hb'
 rw [h.at_ c (by omega)];unfold sCell
 rw [show (i*20+c) / 20=i by omega,show (i*20+c) % 20=c by omega,if_pos (by omega)]
end
theorem prw_of {W:World}{K:Ker}{P i:Nat}(h:W.rangeAt P 0 (cut (sCell K) (i*20) 20)):PrW W K P i :=
 ⟨fun c hc=>cut_cell h hc,World.block_lt_of_cell? W ⟨P,0,none⟩ (cut_cell h (j:=0) (by omega))⟩
structure DuW (W:World) (K:Ker) (P i:Nat):Prop where
 at_:∀ c,c<5→W.cell? ⟨P,c,none⟩=some (.int .i64 (K.D i c))
theorem duw_of {W:World}{K:Ker}{P i:Nat}(h:W.rangeAt P 0 (cut (dCell K) (i*5) 5)):DuW W K P i:=⟨fun c hc=>by
 rw [cut_cell h hc];unfold dCell
 rw [show (i*5+c) / 5=i by omega,show (i*5+c) % 5=c by omega]⟩
theorem ends_naught {K:Ker}(I:Invb K){d:Nat}(b:Bool)(h:K.D d 0=-1):K.ends d b=0:=by
 unfold Ker.ends
 refine countTo_none _ fun j hj=>?_
 unfold Ker.isEnd
 have hg:=I.good.file (j / 4) (j % 4) (by omega) (by omega)
 have:(K.file (j / 4) (j % 4) == (d:Int))=false:=by
  simp only [beq_eq_false_iff_ne]
  intro e
  rw [e] at hg
  rcases hg with hg|⟨_,_,hg⟩
  ·omega
  ·rw [Int.toNat_natCast] at hg;omega
 rw [this];rfl
theorem wrap_sm (x:Int)(h1:0≤x)(h2:x≤1000):IntKind.i64.wrap x=x:=by
 simp [IntKind.wrap,IntKind.signed,IntKind.bits];omega
theorem no_end1 {v2:Int}{n:Nat}(h1:0≤v2)(h2:v2≤4)(h3:0≤n):¬ (((v2<0∨4<v2)∨(n:Int)≤-1)∨0<IntKind.i64.wrap 0):=by
 rw [wrap_sm 0 (by omega) (by omega)];omega
theorem no_end2 {v0 v2 v3 v4:Int}{n:Nat}(h1:0≤v2)(h2:v2≤4)(h3:-1≤v0)(h4:v0<n)(h5:0<v3+v4)(h6:v3+v4≤48):¬ ((((v2<0∨4<v2)∨v0 < -1)∨(n:Int)≤v0)∨(!decide (0<IntKind.i64.wrap (v3+v4)))=true):=by
 rw [wrap_sm _ (by omega) (by omega)]
 simp only [Bool.not_eq_true',decide_eq_false_iff_not]
 omega
theorem duct_facts {K:Ker}(I:Invb K){m:Nat}(hm:m<K.nD):0≤K.D m 2∧K.D m 2≤4∧0≤K.D m 3∧K.D m 3≤24∧0≤K.D m 4∧K.D m 4≤24∧((K.D m 0=-1∧K.D m 3=0∧K.D m 4=0)∨(0≤K.D m 0∧K.D m 0<K.nF∧0<K.D m 3+K.D m 4)):=by
 have a:=I.good.cnt m hm
 have b:=I.good.rd m hm
 have c:=I.good.wt m hm
 refine ⟨a.1,a.2,b.1,b.2,c.1,c.2,?_⟩
 rcases I.good.duct m hm with h|⟨h1,h2⟩
 ·exact .inl ⟨h,by rw [I.rds m hm,ends_naught I false h];rfl,by rw [I.wts m hm,ends_naught I true h];rfl⟩
 ·have:=I.ended.h m hm h1
  exact .inr ⟨h1,h2,by omega⟩
theorem drew_below (W:World)(n:Nat):Below W.heap.size W (W.drewN n):=⟨rfl,rfl,rfl,Nat.le_refl _,fun _ _=>rfl⟩
set_option maxRecDepth 100000 in
theorem right_any (w:World)(K:Ker)(I:Invb K)(hF:K.nF≤32)(hD:K.nD≤4)(gF gS gD:Nat)(S1:Snap w gF gS gD K) :
  Calls Tryd.prog 19 #[stVal K gF gS gD,.agg #[.int .i64 K.nF,.int .i64 K.nS,.int .i64 K.nD]] w fun e w'=>e=.returned (.bool true)∧Below w.heap.size w w':=by
 have hS:=I.hS
 unfold stVal
 have HI:Hid (Invb K):=I
 have H1:Hid (Snap w gF gS gD K):=S1
 clear S1 I
 go_enter Tryd.func19,Tryd.ntmps19
 go_wp2_with fail
 generalize hW0:(w.alloc _).alloc _=W0
 have HW:Hid (Rt0 w W0 K gF gS gD):=by unfold Hid;rw [← hW0];exact rt0_new H1.out _ _
 clear hW0
 go_loopw [5] (fun i w'=>∃ k:Nat,k≤K.nF∧i=.int .i64 k∧Rt0 w w' K gF gS gD) (fun i _=>K.nF - (intOf i).toNat)
 case atStart=>exact ⟨0,by omega,rfl,HW.out⟩
 case round =>
  clear HW
  obtain ⟨k,hk,rfl,hR⟩:=hrel
  have HR:Hid (Rt0 w wr K gF gS gD):=hR
  have c0:=hR.c0
  have c1:=hR.c1
  have c2:=hR.c2
  clear hR
  by_cases hlt:k<K.nF
  ·have i1:(0:Int)≤(k:Int):=by omega
   have i2:(k:Int)<(K.nF:Int):=by omega
   by_cases h0:K.F k 0=0
   ·have hu:K.usesN k=0:=by rw [uses_right HI.out.own hlt,if_pos h0]
    go_wp2_with (go_at_call 43;refine (uses_any _ K hF hS hD gF gS gD HR.out.snap k hlt (says_of HI.out k)).mono ?_;rintro e w2 ⟨rfl,hb2⟩;rw [hu];have HR2:Hid (Rt0 w w2 K gF gS gD):=HR.out.later hb2;have e0:=HR2.out.c0;have cf:w2.cell? ⟨gF,k*6,none⟩=some (.int .i64 0):=by { have:=HR2.out.snap.cf hlt (c:=0) (by omega);rw [h0] at this;exact this })
    exact ⟨⟨k+1,by omega,by go_num,HR2.out⟩,by simp [intOf];omega⟩
   ·have hu:K.usesN k=1:=by rw [uses_right HI.out.own hlt,if_neg h0]
    have q0:(K.F k 0 == 0)=false:=by simp [h0]
    go_wp2_with (go_at_call 43;refine (uses_any _ K hF hS hD gF gS gD HR.out.snap k hlt (says_of HI.out k)).mono ?_;rintro e w2 ⟨rfl,hb2⟩;rw [hu];have HR2:Hid (Rt0 w w2 K gF gS gD):=HR.out.later hb2;have e0:=HR2.out.c0;have cf:w2.cell? ⟨gF,k*6,none⟩=some (.int .i64 (K.F k 0)):=HR2.out.snap.cf hlt (c:=0) (by omega))
    exact ⟨⟨k+1,by omega,by go_num,HR2.out⟩,by simp [intOf];omega⟩
  ·go_wp2_with fail
   clear c0 c1 c2
   generalize hW2:(wr.alloc _).alloc _=W2
   have H2:Hid (RtW w W2 K gF gS gD wr.heap.size 0):=by unfold Hid;rw [← hW2];exact rtw_new HR.out _
   clear hW2
   generalize wr.heap.size=R at *
   go_loopw [11] (fun i w'=>∃ q:Nat,q≤K.nS∧i=.int .i64 q∧RtW w w' K gF gS gD R (q*4)) (fun i _=>K.nS - (intOf i).toNat)
   case atStart=>exact ⟨0,by omega,rfl,H2.out⟩
   case round =>
    clear H2
    obtain ⟨q,hq,rfl,hR2⟩:=hrel
    have HR2:Hid (RtW w wr K gF gS gD R (q*4)):=hR2
    have c1:=hR2.c1
    have c2:=hR2.c2
    clear hR2
    by_cases hltq:q<K.nS
    ·have i1:(0:Int)≤(q:Int):=by omega
     have i2:(q:Int)<(K.nS:Int):=by omega
     obtain ⟨cs,hcs⟩:∃ cs,cs=cut (sCell K) (q*20) 20:=⟨_,rfl⟩
     have Hcs:Hid (cs=cut (sCell K) (q*20) 20):=hcs
     have ei:Hid ((Tryd.prog.info? 55).map (·.size)=some cs.length):=by unfold Hid;rw [hcs,cut_len];kernel_rfl
     have ei2:Hid ((Tryd.prog.info? 55).map (·.size)=some cs.toArray.size):=by unfold Hid;rw [List.size_toArray,hcs,cut_len];kernel_rfl
     have o1:Hid (cs.toArray.all (·.oneCell')=true):=by unfold Hid;rw [hcs];exact cut_one K _ _
     have z1:Hid (cs.toArray.size=20):=by unfold Hid;rw [List.size_toArray,hcs,cut_len]
     have LA:Hid (wr.rangeAt gS (q*20) cs):=by unfold Hid;rw [hcs];exact rowIs_range HR2.out.snap.s (o:=q*20) (m:=20) (by omega)
     clear hcs
     by_cases h0:K.S q 0=0
     ·go_wp2_with (first|((with_reducible (refine wpList_pid ?_ ?_));(with_reducible rfl);refine wpList_load_mid rfl 55 _ rfl gS (q*20) rfl cs _ (by exact LA.out) Tryd.underlying55 rfl ei.out ?_)|((with_reducible (refine wpList_pid ?_ ?_));(with_reducible rfl);refine wpList_store_any rfl 55 _ _ rfl _ 0 cs.toArray rfl rfl (by rw [z1.out];exact there_new1 _ _ _ _ (by rfl)) ei2.out o1.out ?_;intro W3 f1 f2 f3 f4;have HB3:Hid (Below wr.heap.size wr W3):=f4 _ _ ((Below.refl _ _).alloc (Nat.le_refl _) _) (Nat.le_refl _);have HP:Hid (PrW W3 K wr.heap.size q):=prw_of (by rw [← Hcs.out];exact f1);have HR3:Hid (RtW w W3 K gF gS gD R (q*4)):=HR2.out.later HB3.out;have p0:=HP.out.s (c:=0) (by omega) (by unfold isB;omega);have p2:=HP.out.s (c:=2) (by omega) (by unfold isB;omega);have d0:=HR3.out.d0;rw [h0] at p0;clear f1 f2 f3 f4))
      have hPR:R+1<wr.heap.size:=HR2.out.lt
      generalize hP:wr.heap.size=P at *
      clear LA ei ei2 o1 z1 Hcs
      go_loopw [13] (fun j w'=>∃ m:Nat,m≤4∧j=.int .i64 m∧∃ n,W3.drewN n=w') (fun j _=>4 - (intOf j).toNat)
      case atStart=>exact ⟨0,by omega,rfl,0,rfl⟩
      case round =>
       as_aux_lemma =>
        obtain ⟨m,hm,rfl,n,rfl⟩:=hrel
        by_cases hm4:m<4
        ·have m1:(0:Int)≤(m:Int):=by omega
         have m2:(m:Int)<4:=by omega
         have cp:W3.cell? ⟨P,3+m*2,none⟩=some (.int .i64 (K.page q m)):=HP.out.s (c:=3+m*2) (by omega) (by unfold isB;omega)
         have hg:=HI.out.good.page q m hltq hm4
         generalize K.page q m=v at *
         have n1:¬ (v < -1):=by omega
         have n2:¬ (v≥(K.nF:Int)):=by omega
         clear hg
         go_wp2_with fail
         go_quiet (fail)
         go_wp2_with fail
         exact ⟨⟨m+1,by omega,by go_num,n+nq,rfl⟩,by simp [intOf];omega⟩
        ·obtain rfl:m=4:=by omega
         go_wp2_with fail
         clear p0 p2 d0
         go_loopw [14] (fun x w'=>∃ m:Nat,m≤4∧x=.int .i64 m∧RtW w w' K gF gS gD R (q*4+m)∧PrW w' K P q) (fun x _=>4 - (intOf x).toNat)
         case atStart=>exact ⟨0,by omega,rfl,HR3.out.later (drew_below _ _),HP.out.later (drew_below _ _)⟩
         case round =>
          as_aux_lemma =>
           clear HR3 HP HB3
           obtain ⟨m,hm,rfl,hR4,hP4⟩:=hrel
           have HR4:Hid (RtW w wr K gF gS gD R (q*4+m)):=hR4
           have HP4:Hid (PrW wr K P q):=hP4
           clear hR4 hP4
           by_cases hm4:m<4
           ·have m1:(0:Int)≤(m:Int):=by omega
            have m2:(m:Int)<4:=by omega
            have cfile:wr.cell? ⟨P,11+m*2,none⟩=some (.int .i64 (K.file q m)):=HP4.out.s (c:=11+m*2) (by omega) (by unfold isB;omega)
            have cend:wr.cell? ⟨P,11+m*2+1,none⟩=some (.bool (K.end q m)):=by
             have:=HP4.out.b (c:=12+m*2) (by unfold isB;omega)
             rw [show 12+m*2=11+m*2+1 by omega] at this
             rw [this];unfold Ker.end;rw [show 12+m*2=11+m*2+1 by omega]
            have lR:=HR4.out.lt
            have e1:wr.heap.size≠R+1:=by omega
            have e2:wr.heap.size≠R:=by omega
            have e3:R+1≠wr.heap.size:=by omega
            have e4:R≠wr.heap.size:=by omega
            have HG:=HI.out.good.file q m hltq hm4
            rcases HG with hfile|⟨hg1,hg2,hg3⟩
            ·rw [hfile] at cfile
             have Hf:Hid (K.file q m=-1):=hfile
             clear hfile
             go_wp2_with (first|((with_reducible (refine wpList_pid ?_ ?_));(with_reducible rfl);refine wpList_store_any rfl 52 _ _ rfl _ 0 _ rfl rfl (there_new1 _ _ _ _ (by rfl)) (by kernel_rfl) (by first|simp [Value.oneCell']|kernel_rfl) ?_;intro W5 f1 f2 f3 f4;have HB5:Hid (Below wr.heap.size wr W5):=f4 _ _ ((Below.refl _ _).alloc (Nat.le_refl _) _) (Nat.le_refl _);have HR5:Hid (RtW w W5 K gF gS gD R (q*4+m)):=HR4.out.later HB5.out;have HP5:Hid (PrW W5 K P q):=HP4.out.later HB5.out;have g0:W5.cell? ⟨wr.heap.size,0,none⟩=some _:=f1 0 _ rfl;have g1:W5.cell? ⟨wr.heap.size,1,none⟩=some _:=f1 1 _ rfl;have k2:=HR5.out.c2;have l2:=HR5.out.d2;clear f1 f2 f3 f4))
             exact ⟨⟨_,_,_,_,_,_,_,_,_,_,_,_,_,_,_,_,_,_,_,_,_,_,_,_,_,_,_,_,_,_,_,_,_,_,_,_,_,_,_,_,_,_,_,_,_,_,_,_,_,_,_,_,_,_,_,_,_,_,_,_,_,_,_,⟨m+1,by omega,by go_num,HR5.out.naught hm4 Hf.out,HP5.out⟩,rfl⟩,by simp [intOf];omega⟩
            ·obtain ⟨d,hfile⟩:∃ d:Nat,K.file q m=d:=⟨(K.file q m).toNat,by omega⟩
             rw [hfile] at hg1 hg2
             rw [hfile,Int.toNat_natCast] at hg3
             rw [hfile] at cfile
             have Hf:Hid (K.file q m=d):=hfile
             clear hfile
             have hd4:d<4:=by omega
             have hdn:d<K.nD:=by omega
             have n1:¬ ((d:Int) < -1):=by omega
             have n2:¬ ((d:Int)≥(K.nD:Int)):=by omega
             have n3:(0:Int)≤(d:Int):=by omega
             have n4:(d:Int)<(K.nD:Int):=by omega
             have n6:(d:Int)<4:=by omega
             have n5:¬ (K.D d 0<0):=by omega
             generalize hvd:K.D d 0=vd at n5
             cases hend:K.end q m with
             | true =>
              have hcb:=countTo_le (K.isEnd d true) (q*4+m)
              rw [hend] at cend
              have He:Hid (K.end q m=_):=hend
              clear hend
              go_wp2_with (first|((with_reducible (refine wpList_pid ?_ ?_));(with_reducible rfl);refine wpList_store_any rfl 52 _ _ rfl _ 0 _ rfl rfl (there_new1 _ _ _ _ (by rfl)) (by kernel_rfl) (by first|simp [Value.oneCell']|kernel_rfl) ?_;intro W5 f1 f2 f3 f4;have HB5:Hid (Below wr.heap.size wr W5):=f4 _ _ ((Below.refl _ _).alloc (Nat.le_refl _) _) (Nat.le_refl _);have HR5:Hid (RtW w W5 K gF gS gD R (q*4+m)):=HR4.out.later HB5.out;have HP5:Hid (PrW W5 K P q):=HP4.out.later HB5.out;have g0:W5.cell? ⟨wr.heap.size,0,none⟩=some _:=f1 0 _ rfl;have g1:W5.cell? ⟨wr.heap.size,1,none⟩=some _:=f1 1 _ rfl;have k2:=HR5.out.c2;have l2:=HR5.out.d2;clear f1 f2 f3 f4;have cd:W5.cell? ⟨gD,d*5,none⟩=some (.int .i64 vd):=by { have:=HR5.out.snap.cd hdn (c:=0) (by omega);rw [hvd] at this;exact this };have cw:=HR5.out.wt.cell hd4;have cz:=HR5.out.wt.free d))
              first|(exact ⟨⟨m+1,by omega,by go_num,by (first|exact HR5.out.hitW hm4 hd4 Hf.out He.out|(have:=HR5.out.hitW hm4 hd4 Hf.out He.out;rwa [Int.natCast_add] at this)),⟨fun c hc=>by rw [cell_set_other _ _ (.inl (by omega))];exact HP5.out.at_ c hc,by rw [size_setCell];exact HP5.out.lt⟩⟩,by simp [intOf];omega⟩)|(go_roundw;case rel=>(exact ⟨m+1,by omega,by go_num,by (first|exact HR5.out.hitW hm4 hd4 Hf.out He.out|(have:=HR5.out.hitW hm4 hd4 Hf.out He.out;rwa [Int.natCast_add] at this)),⟨fun c hc=>by rw [cell_set_other _ _ (.inl (by omega))];exact HP5.out.at_ c hc,by rw [size_setCell];exact HP5.out.lt⟩⟩);case measure=>(simp [intOf];omega))
             | false =>
              have hcb:=countTo_le (K.isEnd d false) (q*4+m)
              rw [hend] at cend
              have He:Hid (K.end q m=_):=hend
              clear hend
              go_wp2_with (first|((with_reducible (refine wpList_pid ?_ ?_));(with_reducible rfl);refine wpList_store_any rfl 52 _ _ rfl _ 0 _ rfl rfl (there_new1 _ _ _ _ (by rfl)) (by kernel_rfl) (by first|simp [Value.oneCell']|kernel_rfl) ?_;intro W5 f1 f2 f3 f4;have HB5:Hid (Below wr.heap.size wr W5):=f4 _ _ ((Below.refl _ _).alloc (Nat.le_refl _) _) (Nat.le_refl _);have HR5:Hid (RtW w W5 K gF gS gD R (q*4+m)):=HR4.out.later HB5.out;have HP5:Hid (PrW W5 K P q):=HP4.out.later HB5.out;have g0:W5.cell? ⟨wr.heap.size,0,none⟩=some _:=f1 0 _ rfl;have g1:W5.cell? ⟨wr.heap.size,1,none⟩=some _:=f1 1 _ rfl;have k2:=HR5.out.c2;have l2:=HR5.out.d2;clear f1 f2 f3 f4;have cd:W5.cell? ⟨gD,d*5,none⟩=some (.int .i64 vd):=by { have:=HR5.out.snap.cd hdn (c:=0) (by omega);rw [hvd] at this;exact this };have cw:=HR5.out.rd.cell hd4;have cz:=HR5.out.rd.free d))
              first|(exact ⟨⟨m+1,by omega,by go_num,by (first|exact HR5.out.hitR hm4 hd4 Hf.out He.out|(have:=HR5.out.hitR hm4 hd4 Hf.out He.out;rwa [Int.natCast_add] at this)),⟨fun c hc=>by rw [cell_set_other _ _ (.inl (by omega))];exact HP5.out.at_ c hc,by rw [size_setCell];exact HP5.out.lt⟩⟩,by simp [intOf];omega⟩)|(go_roundw;case rel=>(exact ⟨m+1,by omega,by go_num,by (first|exact HR5.out.hitR hm4 hd4 Hf.out He.out|(have:=HR5.out.hitR hm4 hd4 Hf.out He.out;rwa [Int.natCast_add] at this)),⟨fun c hc=>by rw [cell_set_other _ _ (.inl (by omega))];exact HP5.out.at_ c hc,by rw [size_setCell];exact HP5.out.lt⟩⟩);case measure=>(simp [intOf];omega))
           ·obtain rfl:m=4:=by omega
            go_wp2_with fail
            exact ⟨⟨q+1,by omega,by go_num,HR4.out.at (by omega)⟩,by simp [intOf];omega⟩
     ·have q0:(K.S q 0 != 0)=true:=by simp [h0]
      have ht:=HI.out.good.tab q hltq h0
      generalize hv2:K.S q 2=v2 at *
      have n1:¬ (v2<0):=by omega
      have n2:¬ (v2≥(K.nF:Int)):=by omega
      clear ht
      go_wp2_with (first|((with_reducible (refine wpList_pid ?_ ?_));(with_reducible rfl);refine wpList_load_mid rfl 55 _ rfl gS (q*20) rfl cs _ (by exact LA.out) Tryd.underlying55 rfl ei.out ?_)|((with_reducible (refine wpList_pid ?_ ?_));(with_reducible rfl);refine wpList_store_any rfl 55 _ _ rfl _ 0 cs.toArray rfl rfl (by rw [z1.out];exact there_new1 _ _ _ _ (by rfl)) ei2.out o1.out ?_;intro W3 f1 f2 f3 f4;have HB3:Hid (Below wr.heap.size wr W3):=f4 _ _ ((Below.refl _ _).alloc (Nat.le_refl _) _) (Nat.le_refl _);have HP:Hid (PrW W3 K wr.heap.size q):=prw_of (by rw [← Hcs.out];exact f1);have HR3:Hid (RtW w W3 K gF gS gD R (q*4)):=HR2.out.later HB3.out;have p0:=HP.out.s (c:=0) (by omega) (by unfold isB;omega);have p2:=HP.out.s (c:=2) (by omega) (by unfold isB;omega);have d0:=HR3.out.d0;rw [hv2] at p2;clear f1 f2 f3 f4))
      have hPR:R+1<wr.heap.size:=HR2.out.lt
      generalize hP:wr.heap.size=P at *
      clear LA ei ei2 o1 z1 Hcs
      go_loopw [13] (fun j w'=>∃ m:Nat,m≤4∧j=.int .i64 m∧∃ n,W3.drewN n=w') (fun j _=>4 - (intOf j).toNat)
      case atStart=>exact ⟨0,by omega,rfl,0,rfl⟩
      case round =>
       as_aux_lemma =>
        obtain ⟨m,hm,rfl,n,rfl⟩:=hrel
        by_cases hm4:m<4
        ·have m1:(0:Int)≤(m:Int):=by omega
         have m2:(m:Int)<4:=by omega
         have cp:W3.cell? ⟨P,3+m*2,none⟩=some (.int .i64 (K.page q m)):=HP.out.s (c:=3+m*2) (by omega) (by unfold isB;omega)
         have hg:=HI.out.good.page q m hltq hm4
         generalize K.page q m=v at *
         have n1:¬ (v < -1):=by omega
         have n2:¬ (v≥(K.nF:Int)):=by omega
         clear hg
         go_wp2_with fail
         go_quiet (fail)
         go_wp2_with fail
         exact ⟨⟨m+1,by omega,by go_num,n+nq,rfl⟩,by simp [intOf];omega⟩
        ·obtain rfl:m=4:=by omega
         go_wp2_with fail
         clear p0 p2 d0
         go_loopw [14] (fun x w'=>∃ m:Nat,m≤4∧x=.int .i64 m∧RtW w w' K gF gS gD R (q*4+m)∧PrW w' K P q) (fun x _=>4 - (intOf x).toNat)
         case atStart=>exact ⟨0,by omega,rfl,HR3.out.later (drew_below _ _),HP.out.later (drew_below _ _)⟩
         case round =>
          as_aux_lemma =>
           clear HR3 HP HB3
           obtain ⟨m,hm,rfl,hR4,hP4⟩:=hrel
           have HR4:Hid (RtW w wr K gF gS gD R (q*4+m)):=hR4
           have HP4:Hid (PrW wr K P q):=hP4
           clear hR4 hP4
           by_cases hm4:m<4
           ·have m1:(0:Int)≤(m:Int):=by omega
            have m2:(m:Int)<4:=by omega
            have cfile:wr.cell? ⟨P,11+m*2,none⟩=some (.int .i64 (K.file q m)):=HP4.out.s (c:=11+m*2) (by omega) (by unfold isB;omega)
            have cend:wr.cell? ⟨P,11+m*2+1,none⟩=some (.bool (K.end q m)):=by
             have:=HP4.out.b (c:=12+m*2) (by unfold isB;omega)
             rw [show 12+m*2=11+m*2+1 by omega] at this
             rw [this];unfold Ker.end;rw [show 12+m*2=11+m*2+1 by omega]
            have lR:=HR4.out.lt
            have e1:wr.heap.size≠R+1:=by omega
            have e2:wr.heap.size≠R:=by omega
            have e3:R+1≠wr.heap.size:=by omega
            have e4:R≠wr.heap.size:=by omega
            have HG:=HI.out.good.file q m hltq hm4
            rcases HG with hfile|⟨hg1,hg2,hg3⟩
            ·rw [hfile] at cfile
             have Hf:Hid (K.file q m=-1):=hfile
             clear hfile
             go_wp2_with (first|((with_reducible (refine wpList_pid ?_ ?_));(with_reducible rfl);refine wpList_store_any rfl 52 _ _ rfl _ 0 _ rfl rfl (there_new1 _ _ _ _ (by rfl)) (by kernel_rfl) (by first|simp [Value.oneCell']|kernel_rfl) ?_;intro W5 f1 f2 f3 f4;have HB5:Hid (Below wr.heap.size wr W5):=f4 _ _ ((Below.refl _ _).alloc (Nat.le_refl _) _) (Nat.le_refl _);have HR5:Hid (RtW w W5 K gF gS gD R (q*4+m)):=HR4.out.later HB5.out;have HP5:Hid (PrW W5 K P q):=HP4.out.later HB5.out;have g0:W5.cell? ⟨wr.heap.size,0,none⟩=some _:=f1 0 _ rfl;have g1:W5.cell? ⟨wr.heap.size,1,none⟩=some _:=f1 1 _ rfl;have k2:=HR5.out.c2;have l2:=HR5.out.d2;clear f1 f2 f3 f4))
             exact ⟨⟨_,_,_,_,_,_,_,_,_,_,_,_,_,_,_,_,_,_,_,_,_,_,_,_,_,_,_,_,_,_,_,_,_,_,_,_,_,_,_,_,_,_,_,_,_,_,_,_,_,_,_,_,_,_,_,_,_,_,_,_,_,_,_,⟨m+1,by omega,by go_num,HR5.out.naught hm4 Hf.out,HP5.out⟩,rfl⟩,by simp [intOf];omega⟩
            ·obtain ⟨d,hfile⟩:∃ d:Nat,K.file q m=d:=⟨(K.file q m).toNat,by omega⟩
             rw [hfile] at hg1 hg2
             rw [hfile,Int.toNat_natCast] at hg3
             rw [hfile] at cfile
             have Hf:Hid (K.file q m=d):=hfile
             clear hfile
             have hd4:d<4:=by omega
             have hdn:d<K.nD:=by omega
             have n1:¬ ((d:Int) < -1):=by omega
             have n2:¬ ((d:Int)≥(K.nD:Int)):=by omega
             have n3:(0:Int)≤(d:Int):=by omega
             have n4:(d:Int)<(K.nD:Int):=by omega
             have n6:(d:Int)<4:=by omega
             have n5:¬ (K.D d 0<0):=by omega
             generalize hvd:K.D d 0=vd at n5
             cases hend:K.end q m with
             | true =>
              have hcb:=countTo_le (K.isEnd d true) (q*4+m)
              rw [hend] at cend
              have He:Hid (K.end q m=_):=hend
              clear hend
              go_wp2_with (first|((with_reducible (refine wpList_pid ?_ ?_));(with_reducible rfl);refine wpList_store_any rfl 52 _ _ rfl _ 0 _ rfl rfl (there_new1 _ _ _ _ (by rfl)) (by kernel_rfl) (by first|simp [Value.oneCell']|kernel_rfl) ?_;intro W5 f1 f2 f3 f4;have HB5:Hid (Below wr.heap.size wr W5):=f4 _ _ ((Below.refl _ _).alloc (Nat.le_refl _) _) (Nat.le_refl _);have HR5:Hid (RtW w W5 K gF gS gD R (q*4+m)):=HR4.out.later HB5.out;have HP5:Hid (PrW W5 K P q):=HP4.out.later HB5.out;have g0:W5.cell? ⟨wr.heap.size,0,none⟩=some _:=f1 0 _ rfl;have g1:W5.cell? ⟨wr.heap.size,1,none⟩=some _:=f1 1 _ rfl;have k2:=HR5.out.c2;have l2:=HR5.out.d2;clear f1 f2 f3 f4;have cd:W5.cell? ⟨gD,d*5,none⟩=some (.int .i64 vd):=by { have:=HR5.out.snap.cd hdn (c:=0) (by omega);rw [hvd] at this;exact this };have cw:=HR5.out.wt.cell hd4;have cz:=HR5.out.wt.free d))
              first|(exact ⟨⟨m+1,by omega,by go_num,by (first|exact HR5.out.hitW hm4 hd4 Hf.out He.out|(have:=HR5.out.hitW hm4 hd4 Hf.out He.out;rwa [Int.natCast_add] at this)),⟨fun c hc=>by rw [cell_set_other _ _ (.inl (by omega))];exact HP5.out.at_ c hc,by rw [size_setCell];exact HP5.out.lt⟩⟩,by simp [intOf];omega⟩)|(go_roundw;case rel=>(exact ⟨m+1,by omega,by go_num,by (first|exact HR5.out.hitW hm4 hd4 Hf.out He.out|(have:=HR5.out.hitW hm4 hd4 Hf.out He.out;rwa [Int.natCast_add] at this)),⟨fun c hc=>by rw [cell_set_other _ _ (.inl (by omega))];exact HP5.out.at_ c hc,by rw [size_setCell];exact HP5.out.lt⟩⟩);case measure=>(simp [intOf];omega))
             | false =>
              have hcb:=countTo_le (K.isEnd d false) (q*4+m)
              rw [hend] at cend
              have He:Hid (K.end q m=_):=hend
              clear hend
              go_wp2_with (first|((with_reducible (refine wpList_pid ?_ ?_));(with_reducible rfl);refine wpList_store_any rfl 52 _ _ rfl _ 0 _ rfl rfl (there_new1 _ _ _ _ (by rfl)) (by kernel_rfl) (by first|simp [Value.oneCell']|kernel_rfl) ?_;intro W5 f1 f2 f3 f4;have HB5:Hid (Below wr.heap.size wr W5):=f4 _ _ ((Below.refl _ _).alloc (Nat.le_refl _) _) (Nat.le_refl _);have HR5:Hid (RtW w W5 K gF gS gD R (q*4+m)):=HR4.out.later HB5.out;have HP5:Hid (PrW W5 K P q):=HP4.out.later HB5.out;have g0:W5.cell? ⟨wr.heap.size,0,none⟩=some _:=f1 0 _ rfl;have g1:W5.cell? ⟨wr.heap.size,1,none⟩=some _:=f1 1 _ rfl;have k2:=HR5.out.c2;have l2:=HR5.out.d2;clear f1 f2 f3 f4;have cd:W5.cell? ⟨gD,d*5,none⟩=some (.int .i64 vd):=by { have:=HR5.out.snap.cd hdn (c:=0) (by omega);rw [hvd] at this;exact this };have cw:=HR5.out.rd.cell hd4;have cz:=HR5.out.rd.free d))
              first|(exact ⟨⟨m+1,by omega,by go_num,by (first|exact HR5.out.hitR hm4 hd4 Hf.out He.out|(have:=HR5.out.hitR hm4 hd4 Hf.out He.out;rwa [Int.natCast_add] at this)),⟨fun c hc=>by rw [cell_set_other _ _ (.inl (by omega))];exact HP5.out.at_ c hc,by rw [size_setCell];exact HP5.out.lt⟩⟩,by simp [intOf];omega⟩)|(go_roundw;case rel=>(exact ⟨m+1,by omega,by go_num,by (first|exact HR5.out.hitR hm4 hd4 Hf.out He.out|(have:=HR5.out.hitR hm4 hd4 Hf.out He.out;rwa [Int.natCast_add] at this)),⟨fun c hc=>by rw [cell_set_other _ _ (.inl (by omega))];exact HP5.out.at_ c hc,by rw [size_setCell];exact HP5.out.lt⟩⟩);case measure=>(simp [intOf];omega))
           ·obtain rfl:m=4:=by omega
            go_wp2_with fail
            exact ⟨⟨q+1,by omega,by go_num,HR4.out.at (by omega)⟩,by simp [intOf];omega⟩
    ·obtain rfl:q=K.nS:=by omega
     go_wp2_with fail
     clear c1 c2
     go_loopw [16] (fun i w'=>∃ m:Nat,m≤K.nD∧i=.int .i64 m∧RtW w w' K gF gS gD R (K.nS*4)) (fun i _=>K.nD - (intOf i).toNat)
     case atStart=>exact ⟨0,by omega,rfl,HR2.out⟩
     case round =>
      as_aux_lemma =>
       clear HR2
       obtain ⟨m,hm,rfl,hR6⟩:=hrel
       have HR6:Hid (RtW w wr K gF gS gD R (K.nS*4)):=hR6
       have c2:=hR6.c2
       clear hR6
       by_cases hmD:m<K.nD
       ·have i1:(0:Int)≤(m:Int):=by omega
        have i2:(m:Int)<(K.nD:Int):=by omega
        have i3:(m:Int)<4:=by omega
        obtain ⟨cs,hcs⟩:∃ cs,cs=cut (dCell K) (m*5) 5:=⟨_,rfl⟩
        have Hcs:Hid (cs=cut (dCell K) (m*5) 5):=hcs
        have ei:Hid ((Tryd.prog.info? 84).map (·.size)=some cs.length):=by unfold Hid;rw [hcs,cut_len];kernel_rfl
        have ei2:Hid ((Tryd.prog.info? 84).map (·.size)=some cs.toArray.size):=by unfold Hid;rw [List.size_toArray,hcs,cut_len];kernel_rfl
        have o1:Hid (cs.toArray.all (·.oneCell')=true):=by unfold Hid;rw [hcs];simp [cut,Array.all_eq_true,dCell,Value.oneCell']
        have z1:Hid (cs.toArray.size=5):=by unfold Hid;rw [List.size_toArray,hcs,cut_len]
        have LA:Hid (wr.rangeAt gD (m*5) cs):=by unfold Hid;rw [hcs];exact rowIs_range HR6.out.snap.d (o:=m*5) (m:=5) (by omega)
        clear hcs
        have hq:=duct_facts HI.out hmD
        obtain ⟨v0,e0⟩:∃ v,K.D m 0=v:=⟨_,rfl⟩
        obtain ⟨v2,e2⟩:∃ v,K.D m 2=v:=⟨_,rfl⟩
        obtain ⟨v3,e3⟩:∃ v,K.D m 3=v:=⟨_,rfl⟩
        obtain ⟨v4,e4⟩:∃ v,K.D m 4=v:=⟨_,rfl⟩
        rw [e0,e2,e3,e4] at hq
        have HE:Hid (K.D m 0=v0∧K.D m 2=v2∧K.D m 3=v3∧K.D m 4=v4):=⟨e0,e2,e3,e4⟩
        clear e0 e2 e3 e4
        obtain ⟨hq2,hq2',hq3,hq3',hq4,hq4',hq⟩:=hq
        have n2:¬ (v2<0):=by omega
        have n2':¬ (v2 > 4):=by omega
        rcases hq with ⟨rfl,rfl,rfl⟩|⟨h1,h2,h3⟩
        ·go_wp2_with (first|((with_reducible (refine wpList_pid ?_ ?_));(with_reducible rfl);refine wpList_load_mid rfl 84 _ rfl gD (m*5) rfl cs _ (by exact LA.out) Tryd.underlying84 rfl ei.out ?_)|((with_reducible (refine wpList_pid ?_ ?_));(with_reducible rfl);refine wpList_store_any rfl 84 _ _ rfl _ 0 cs.toArray rfl rfl (by rw [z1.out];exact there_new1 _ _ _ _ (by rfl)) ei2.out o1.out ?_;intro W7 f1 f2 f3 f4;have HB7:Hid (Below wr.heap.size wr W7):=f4 _ _ ((Below.refl _ _).alloc (Nat.le_refl _) _) (Nat.le_refl _);have HR7:Hid (RtW w W7 K gF gS gD R (K.nS*4)):=HR6.out.later HB7.out;have G7:Hid (DuW W7 K wr.heap.size m):=duw_of (by rw [← Hcs.out];exact f1);have g0:=G7.out.at_ 0 (by omega);have g2:=G7.out.at_ 2 (by omega);have g3:=G7.out.at_ 3 (by omega);have g4:=G7.out.at_ 4 (by omega);have r3:=HR7.out.rd.cell (d:=m) (by omega);have r4:=HR7.out.wt.cell (d:=m) (by omega);have y3:=HI.out.rds m hmD;have y4:=HI.out.wts m hmD;unfold Ker.ends at y3 y4;rw [← y3] at r3;rw [← y4] at r4;rw [HE.out.1] at g0;rw [HE.out.2.1] at g2;rw [HE.out.2.2.1] at g3 r3;rw [HE.out.2.2.2] at g4 r4;have d0:=HR7.out.d0;clear f1 f2 f3 f4 y3 y4))
         go_quiet (fail)
         go_wp2_with fail
         all_goals (first|exact ⟨⟨m+1,by omega,by go_num,HR7.out.later (drew_below _ _)⟩,by simp [intOf];omega⟩|(rename_i h;exact absurd h (no_end1 (by omega) (by omega) (by omega)))|(rename_i h;exact absurd h (no_end2 (by omega) (by omega) (by omega) (by omega) (by omega) (by omega))))
        ·have n0:¬ (v0 < -1):=by omega
         have n1:¬ (v0≥(K.nF:Int)):=by omega
         have n3:v3+v4 > 0:=by omega
         go_wp2_with (first|((with_reducible (refine wpList_pid ?_ ?_));(with_reducible rfl);refine wpList_load_mid rfl 84 _ rfl gD (m*5) rfl cs _ (by exact LA.out) Tryd.underlying84 rfl ei.out ?_)|((with_reducible (refine wpList_pid ?_ ?_));(with_reducible rfl);refine wpList_store_any rfl 84 _ _ rfl _ 0 cs.toArray rfl rfl (by rw [z1.out];exact there_new1 _ _ _ _ (by rfl)) ei2.out o1.out ?_;intro W7 f1 f2 f3 f4;have HB7:Hid (Below wr.heap.size wr W7):=f4 _ _ ((Below.refl _ _).alloc (Nat.le_refl _) _) (Nat.le_refl _);have HR7:Hid (RtW w W7 K gF gS gD R (K.nS*4)):=HR6.out.later HB7.out;have G7:Hid (DuW W7 K wr.heap.size m):=duw_of (by rw [← Hcs.out];exact f1);have g0:=G7.out.at_ 0 (by omega);have g2:=G7.out.at_ 2 (by omega);have g3:=G7.out.at_ 3 (by omega);have g4:=G7.out.at_ 4 (by omega);have r3:=HR7.out.rd.cell (d:=m) (by omega);have r4:=HR7.out.wt.cell (d:=m) (by omega);have y3:=HI.out.rds m hmD;have y4:=HI.out.wts m hmD;unfold Ker.ends at y3 y4;rw [← y3] at r3;rw [← y4] at r4;rw [HE.out.1] at g0;rw [HE.out.2.1] at g2;rw [HE.out.2.2.1] at g3 r3;rw [HE.out.2.2.2] at g4 r4;have d0:=HR7.out.d0;clear f1 f2 f3 f4 y3 y4))
         go_quiet (fail)
         go_wp2_with fail
         all_goals (first|exact ⟨⟨m+1,by omega,by go_num,HR7.out.later (drew_below _ _)⟩,by simp [intOf];omega⟩|(rename_i h;exact absurd h (no_end1 (by omega) (by omega) (by omega)))|(rename_i h;exact absurd h (no_end2 (by omega) (by omega) (by omega) (by omega) (by omega) (by omega))))
       ·go_wp2_with fail
        go_ret
        exact ⟨rfl,HR6.out.bel⟩
end Go.Proofs.YtcgabodkegcpgaaDoor
