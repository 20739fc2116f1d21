/- lib.New, alone: whichever order its last region draws. No statement of the program is proved here. -/
import Derived.Test.YtcgabodkegcpgaaDoorMck
import Derived.Test.YtcgabodkegcpgaaDoorMcq
import Derived.Laws.CopyRow
import Derived.Test.YtcgabodkegcpgaaDoorOpr
import Derived.Test.YtcgabodkegcpgaaDoorRpp
namespace Go.Proofs.YtcgabodkegcpgaaDoor
open Go.Conc Go.RowKit
set_option linter.unusedVariables false
set_option linter.unusedSimpArgs false
set_option maxHeartbeats 20000000
attribute [local go_sem ↓] Go.wp_at_zero Go.wp_at_succ
noncomputable def nlOps:Array Oper :=
 match Tryd.f16.body with
 | some (.seq _ (.seq _ (.seq (.region _ ops _) _)))=>ops
 | _=>#[]
theorem nl_one:Br.oneDst nlOps=true:=by kernel_rfl
def nlA (bk n c2 c4:Nat):Array Value:=#[.pointer (some ⟨bk,0,none⟩),.slice (some ⟨c2,0,none⟩) n n,.slice (some ⟨c4,0,none⟩) n n]
def nlV (bk n c2 c4 c6:Nat):Nat→Value
 | 0=>.pointer (some ⟨bk,0,none⟩)|1=>.int .i64 n|2=>.slice (some ⟨c2,0,none⟩) n n|3=>.int .i64 n|4=>.slice (some ⟨c4,0,none⟩) n n
 | 5=>.agg (nlA bk n c2 c4)|6=>.pointer (some ⟨c6,0,none⟩)|7=>.pointer (some ⟨c6,0,none⟩)|_=>undef
structure NlI (v:World) (bk n c2 c4 c6:Nat) (listed:Array Bool) (w:World):Prop where
 bel:Below v.heap.size v w
 l2:listed.getD 2 false=true→v.heap.size≤c2∧RowU w c2 n (fun _=>.pointer none)
 l4:listed.getD 4 false=true→v.heap.size≤c4∧RowU w c4 n (fun _=>.slice none 0 0)
 l24:listed.getD 2 false=true→listed.getD 4 false=true→c2≠c4
 l5:listed.getD 5 false=true→listed.getD 2 false=true∧listed.getD 4 false=true
 l6:listed.getD 6 false=true→listed.getD 5 false=true∧v.heap.size≤c6∧w.heap[c6]?=some (.cells (nlA bk n c2 c4) 104 (0,0))∧c2<c6∧c4<c6
 l7:listed.getD 7 false=true→listed.getD 6 false=true
theorem row_alloc {w:World}{b n:Nat}{f:Nat→Value}(h:RowU w b n f)(o:Obj):RowU (w.alloc o) b n f:=h.of (Below.heap_alloc w o b h.lt)
theorem NlI.pure {v w:World}{bk n c2 c4 c6:Nat}{listed:Array Bool}(h:NlI v bk n c2 c4 c6 listed w){q:Nat}(h2:q≠2)(h4:q≠4)(h5:q≠5)(h6:q≠6)(h7:q≠7):NlI v bk n c2 c4 c6 (listed.setIfInBounds q true) w :=
 ⟨h.bel,by rw [set_else h2];exact h.l2,by rw [set_else h4];exact h.l4,by rw [set_else h2,set_else h4];exact h.l24,by rw [set_else h5,set_else h2,set_else h4];exact h.l5,by rw [set_else h6,set_else h5];exact h.l6,by rw [set_else h7,set_else h6];exact h.l7⟩
set_option maxRecDepth 100000 in
theorem nl_orders {bk n:Nat}(hn:n≤32){tb:Array Value}(hsz:tb.size=15)(b0:tb[0]?=some (.pointer (some ⟨bk,0,none⟩)))(b3:tb[3]?=some (.int .i64 n)){v:World}{Q:Exit→Act→World→Prop}
  (hfin:∀ c2 c4 c6 w,NlI v bk n c2 c4 c6 (Array.replicate 8 true) w→Q .normal ⟨Br.fill nlOps (nlV bk n c2 c4 c6) tb,[]⟩ w) :
  ∀ fuel listed (aw:Act × World) rest,Br.Ord nlOps fuel listed rest→(∃ c2 c4 c6,Br.Agr nlOps (nlV bk n c2 c4 c6) tb listed aw.1∧NlI v bk n c2 c4 c6 listed aw.2)→wpOps Tryd.prog nlOps Q rest aw.1 aw.2:=by
 refine ord_anyS (J:=fun (aw:Act × World) rest=>wpOps Tryd.prog nlOps Q rest aw.1 aw.2) (fun f0 listed aw q rest hi hA2 hO hIH=>?_) (fun listed aw hr hA2=>?_)
 ·obtain ⟨a,w⟩:=aw
  obtain ⟨c2,c4,c6,hA,hI⟩:=hA2
  simp only at hA hI
  have hlt:=Br.ready_lt hi
  have hz:nlOps.size=8:=by kernel_rfl
  rw [hz] at hlt
  have fq:=ready_false hi
  have hcs:q=0∨q=1∨q=2∨q=3∨q=4∨q=5∨q=6∨q=7:=by omega
  rcases hcs with rfl|rfl|rfl|rfl|rfl|rfl|rfl|rfl
  ·obtain ⟨o,ho,hop,hg⟩:∃ o,nlOps[0]?=some o∧o.op=.move (.tmp 0)∧o.guard=none:=⟨_,rfl,rfl,rfl⟩
   have e0:a.eval (.tmp 0)=.pointer (some ⟨bk,0,none⟩):=hA.base (by kernel_rfl) b0
   exact wp_val ho hg (w':=w) (run_move hop e0) (hIH (_,w) ⟨c2,c4,c6,hA.put nl_one ho rfl,hI.pure (by omega) (by omega) (by omega) (by omega) (by omega)⟩)
  ·obtain ⟨o,ho,hop,hg⟩:∃ o,nlOps[1]?=some o∧o.op=.move (.tmp 3)∧o.guard=none:=⟨_,rfl,rfl,rfl⟩
   have e0:a.eval (.tmp 3)=.int .i64 n:=hA.base (by kernel_rfl) b3
   exact wp_val ho hg (w':=w) (run_move hop e0) (hIH (_,w) ⟨c2,c4,c6,hA.put nl_one ho rfl,hI.pure (by omega) (by omega) (by omega) (by omega) (by omega)⟩)
  ·obtain ⟨o,ho,hop,hg⟩:∃ o,nlOps[2]?=some o∧o.op=.makeSlice 102 (.tmp 9) (.tmp 9)∧o.guard=none:=⟨_,rfl,rfl,rfl⟩
   have e9:a.eval (.tmp 9)=.int .i64 n:=hA.tmp (j:=1) rfl rfl (Br.ready_after hi rfl (by kernel_rfl)) (by omega) rfl
   obtain ⟨C,hC,hCz,hmk⟩:=makeU n hn w
   have f5:listed.getD 5 false=false:=by
    cases e:listed.getD 5 false with
    | false=>rfl
    | true=>rw [(hI.l5 e).1] at fq;cases fq
   have f6:listed.getD 6 false=false:=by
    cases e:listed.getD 6 false with
    | false=>rfl
    | true=>rw [(hI.l6 e).1] at f5;cases f5
   have f7:listed.getD 7 false=false:=by
    cases e:listed.getD 7 false with
    | false=>rfl
    | true=>rw [hI.l7 e] at f6;cases f6
   have hA':Br.Agr nlOps (nlV bk n w.heap.size c4 c6) tb listed a:=hA.val fun i hli=>by
    match i,hli with
    | 0,_=>rfl
    | 1,_=>rfl
    | 2,h=>rw [fq] at h;cases h
    | 3,_=>rfl
    | 4,_=>rfl
    | 5,h=>rw [f5] at h;cases h
    | 6,h=>rw [f6] at h;cases h
    | 7,h=>rw [f7] at h;cases h
    | (_+8),_=>rfl
   have hsw:v.heap.size≤w.heap.size:=hI.bel.size
   refine wp_val ho hg (v:=.slice (some ⟨w.heap.size,0,none⟩) n n) (w':=w.alloc (.cells C 106)) (by unfold execOp;simp only [hop,e9];go_simp) (hIH (_,_) ⟨w.heap.size,c4,c6,hA'.put nl_one ho rfl,⟨hI.bel.alloc hsw _,fun _=>⟨hsw,⟨C,_,heap_alloc_new w _,hC,hCz⟩⟩,fun h=>?_,fun _ h=>?_,fun h=>?_,fun h=>?_,fun h=>?_⟩⟩)
   ·rw [set_else (by omega)] at h;exact ⟨(hI.l4 h).1,row_alloc (hI.l4 h).2 _⟩
   ·rw [set_else (by omega)] at h;have:=(hI.l4 h).2.lt;omega
   ·rw [set_else (by omega),f5] at h;cases h
   ·rw [set_else (by omega),f6] at h;cases h
   ·rw [set_else (by omega),f7] at h;cases h
  ·obtain ⟨o,ho,hop,hg⟩:∃ o,nlOps[3]?=some o∧o.op=.move (.tmp 3)∧o.guard=none:=⟨_,rfl,rfl,rfl⟩
   have e0:a.eval (.tmp 3)=.int .i64 n:=hA.base (by kernel_rfl) b3
   exact wp_val ho hg (w':=w) (run_move hop e0) (hIH (_,w) ⟨c2,c4,c6,hA.put nl_one ho rfl,hI.pure (by omega) (by omega) (by omega) (by omega) (by omega)⟩)
  ·obtain ⟨o,ho,hop,hg⟩:∃ o,nlOps[4]?=some o∧o.op=.makeSlice 64 (.tmp 11) (.tmp 11)∧o.guard=none:=⟨_,rfl,rfl,rfl⟩
   have e9:a.eval (.tmp 11)=.int .i64 n:=hA.tmp (j:=3) rfl rfl (Br.ready_after hi rfl (by kernel_rfl)) (by omega) rfl
   obtain ⟨C,hC,hCz,hmk⟩:=makeD n hn w
   have f5:listed.getD 5 false=false:=by
    cases e:listed.getD 5 false with
    | false=>rfl
    | true=>rw [(hI.l5 e).2] at fq;cases fq
   have f6:listed.getD 6 false=false:=by
    cases e:listed.getD 6 false with
    | false=>rfl
    | true=>rw [(hI.l6 e).1] at f5;cases f5
   have f7:listed.getD 7 false=false:=by
    cases e:listed.getD 7 false with
    | false=>rfl
    | true=>rw [hI.l7 e] at f6;cases f6
   have hA':Br.Agr nlOps (nlV bk n c2 w.heap.size c6) tb listed a:=hA.val fun i hli=>by
    match i,hli with
    | 0,_=>rfl
    | 1,_=>rfl
    | 2,_=>rfl
    | 3,_=>rfl
    | 4,h=>rw [fq] at h;cases h
    | 5,h=>rw [f5] at h;cases h
    | 6,h=>rw [f6] at h;cases h
    | 7,h=>rw [f7] at h;cases h
    | (_+8),_=>rfl
   have hsw:v.heap.size≤w.heap.size:=hI.bel.size
   refine wp_val ho hg (v:=.slice (some ⟨w.heap.size,0,none⟩) n n) (w':=w.alloc (.cells C 65)) (by unfold execOp;simp only [hop,e9];go_simp) (hIH (_,_) ⟨c2,w.heap.size,c6,hA'.put nl_one ho rfl,⟨hI.bel.alloc hsw _,fun h=>?_,fun _=>⟨hsw,⟨C,_,heap_alloc_new w _,hC,hCz⟩⟩,fun h _=>?_,fun h=>?_,fun h=>?_,fun h=>?_⟩⟩)
   ·rw [set_else (by omega)] at h;exact ⟨(hI.l2 h).1,row_alloc (hI.l2 h).2 _⟩
   ·rw [set_else (by omega)] at h;have:=(hI.l2 h).2.lt;omega
   ·rw [set_else (by omega),f5] at h;cases h
   ·rw [set_else (by omega),f6] at h;cases h
   ·rw [set_else (by omega),f7] at h;cases h
  ·obtain ⟨o,ho,hop,hg⟩:∃ o,nlOps[5]?=some o∧o.op=.build 104 #[(0,.tmp 8),(1,.tmp 10),(2,.tmp 12)]∧o.guard=none:=⟨_,rfl,rfl,rfl⟩
   have y2:listed.getD 2 false=true:=Br.ready_after hi rfl (by kernel_rfl)
   have y4:listed.getD 4 false=true:=Br.ready_after hi rfl (by kernel_rfl)
   have e8:a.eval (.tmp 8)=.pointer (some ⟨bk,0,none⟩):=hA.tmp (j:=0) rfl rfl (Br.ready_after hi rfl (by kernel_rfl)) (by omega) rfl
   have e10:a.eval (.tmp 10)=.slice (some ⟨c2,0,none⟩) n n:=hA.tmp (j:=2) rfl rfl y2 (by omega) rfl
   have e12:a.eval (.tmp 12)=.slice (some ⟨c4,0,none⟩) n n:=hA.tmp (j:=4) rfl rfl y4 (by omega) rfl
   exact wp_val ho hg (v:=.agg (nlA bk n c2 c4)) (w':=w) (by unfold execOp;simp only [hop,List.map_toArray,List.map_cons,List.map_nil,e8,e10,e12];kernel_rfl) (hIH (_,w) ⟨c2,c4,c6,hA.put nl_one ho rfl,⟨hI.bel,by rw [set_else (by omega)];exact hI.l2,by rw [set_else (by omega)];exact hI.l4,by rw [set_else (by omega),set_else (by omega)];exact hI.l24,fun _=>by rw [set_else (by omega),set_else (by omega)];exact ⟨y2,y4⟩,fun h=>(by rw [set_else (by omega)] at h;rw [(hI.l6 h).1] at fq;cases fq),by rw [set_else (by omega),set_else (by omega)];exact hI.l7⟩⟩)
  ·obtain ⟨o,ho,hop,hg⟩:∃ o,nlOps[6]?=some o∧o.op=.box 104 (.tmp 13)∧o.guard=none:=⟨_,rfl,rfl,rfl⟩
   have y5:listed.getD 5 false=true:=Br.ready_after hi rfl (by kernel_rfl)
   have e13:a.eval (.tmp 13)=.agg (nlA bk n c2 c4):=hA.tmp (j:=5) rfl rfl y5 (by omega) rfl
   obtain ⟨y2,y4⟩:=hI.l5 y5
   have f7:listed.getD 7 false=false:=by
    cases e:listed.getD 7 false with
    | false=>rfl
    | true=>rw [hI.l7 e] at fq;cases fq
   have hA':Br.Agr nlOps (nlV bk n c2 c4 w.heap.size) tb listed a:=hA.val fun i hli=>by
    match i,hli with
    | 0,_=>rfl
    | 1,_=>rfl
    | 2,_=>rfl
    | 3,_=>rfl
    | 4,_=>rfl
    | 5,_=>rfl
    | 6,h=>rw [fq] at h;cases h
    | 7,h=>rw [f7] at h;cases h
    | (_+8),_=>rfl
   have hsw:v.heap.size≤w.heap.size:=hI.bel.size
   have r2:=(hI.l2 y2).2
   have r4:=(hI.l4 y4).2
   exact wp_val ho hg (v:=.pointer (some ⟨w.heap.size,0,none⟩)) (w':=w.alloc (.cells (nlA bk n c2 c4) 104 (0,0))) (by unfold execOp;simp only [hop,e13];kernel_rfl) (hIH (_,_) ⟨c2,c4,w.heap.size,hA'.put nl_one ho rfl,⟨hI.bel.alloc hsw _,fun _=>⟨(hI.l2 y2).1,row_alloc r2 _⟩,fun _=>⟨(hI.l4 y4).1,row_alloc r4 _⟩,fun _ _=>hI.l24 y2 y4,fun _=>by rw [set_else (by omega),set_else (by omega)];exact ⟨y2,y4⟩,fun _=>⟨by rw [set_else (by omega)];exact y5,hsw,heap_alloc_new w _,r2.lt,r4.lt⟩,fun h=>by rw [set_else (by omega),f7] at h;cases h⟩⟩)
  ·obtain ⟨o,ho,hop,hg⟩:∃ o,nlOps[7]?=some o∧o.op=.assign (.tmp 14)∧o.guard=none:=⟨_,rfl,rfl,rfl⟩
   have y6:listed.getD 6 false=true:=Br.ready_after hi rfl (by kernel_rfl)
   have e14:a.eval (.tmp 14)=.pointer (some ⟨c6,0,none⟩):=hA.tmp (j:=6) rfl rfl y6 (by omega) rfl
   exact wp_val ho hg (v:=.pointer (some ⟨c6,0,none⟩)) (w':=w) (by unfold execOp;simp only [hop,e14];rfl) (hIH (_,w) ⟨c2,c4,c6,hA.put nl_one ho rfl,⟨hI.bel,by rw [set_else (by omega)];exact hI.l2,by rw [set_else (by omega)];exact hI.l4,by rw [set_else (by omega),set_else (by omega)];exact hI.l24,by rw [set_else (by omega),set_else (by omega),set_else (by omega)];exact hI.l5,by rw [set_else (by omega),set_else (by omega)];exact hI.l6,fun _=>by rw [set_else (by omega)];exact y6⟩⟩)
 ·obtain ⟨a,w⟩:=aw
  obtain ⟨c2,c4,c6,hA,hI⟩:=hA2
  simp only at hA hI
  have hall:=Br.all_listed (by kernel_rfl) hA.len hr
  have hz:nlOps.size=8:=by kernel_rfl
  obtain rfl:=hA.full hall
  have t:∀ j,j<8→listed.getD j false=true:=fun j hj=>hall j (by omega)
  exact hfin c2 c4 c6 w ⟨hI.bel,fun _=>hI.l2 (t 2 (by omega)),fun _=>hI.l4 (t 4 (by omega)),fun _ _=>hI.l24 (t 2 (by omega)) (t 4 (by omega)),fun _=>⟨rfl,rfl⟩,fun _=>⟨rfl,(hI.l6 (t 6 (by omega))).2⟩,fun _=>rfl⟩
structure NewL (w w':World) (bk n bl bu bn:Nat):Prop where
 bel:Below w.heap.size w w'
 gl:w.heap.size≤bl
 gu:w.heap.size≤bu
 gn:w.heap.size≤bn
 lu:bu<bl
 ln:bn<bl
 un:bu≠bn
 l:w'.heap[bl]?=some (.cells (nlA bk n bu bn) 104 (0,0))
 u:RowU w' bu n (fun _=>.pointer none)
 d:RowU w' bn n (fun _=>.slice none 0 0)
theorem rep_false (n j:Nat):(Array.replicate n false).getD j false=false:=by
 rw [Array.getD_eq_getD_getElem?,Array.getElem?_replicate];split<;>rfl
set_option maxRecDepth 100000 in
theorem lnew_any {w:World}{bk bf bs bd:Nat}{K:Ker}(R:Rep w bk bf bs bd K) :
  Calls Tryd.prog 16 #[.pointer (some ⟨bk,0,none⟩)] w fun e w'=>∃ bl,e=.returned (.pointer (some ⟨bl,0,none⟩))∧∃ bu bn,NewL w w' bk K.nS bl bu bn:=by
 go_enter Tryd.func16,Tryd.ntmps16
 have h6:Hid (K.nS≤6):=R.hS
 go_wp2_with fail
 refine (state_rep R).mono ?_
 rintro e w1 ⟨gF,gS,gD,rfl,b1,S1,l1,l2,l3⟩
 unfold stVal
 have hfd:∀ w:World,(Instr.field 45 (.agg #[Value.slice (some ⟨gF,0,none⟩) K.nF K.nF,.slice (some ⟨gS,0,none⟩) K.nS K.nS,.slice (some ⟨gD,0,none⟩) K.nD K.nD]) 1).run Tryd.prog w=.ok (.slice (some ⟨gS,0,none⟩) K.nS K.nS) w:=fun _=>by kernel_rfl
 go_wp2_with fail
 clear hfd
 refine wp_region_draw (ops:=nlOps) fun t=>?_
 have hb:Below w.heap.size w { w1 with drawn:=w1.drawn+1 }:=b1.drew
 refine nl_orders (v:={ w1 with drawn:=w1.drawn+1 }) (bk:=bk) (n:=K.nS) (by have:=h6.out;omega) rfl rfl rfl ?_ _ _ (_,_) _ (Br.ord_start (by kernel_rfl) nlOps t) ⟨0,0,0,Br.Agr.start _ _ _,⟨.refl _ _,fun h=>?_,fun h=>?_,fun h=>?_,fun h=>?_,fun h=>?_,fun h=>?_⟩⟩
 ·intro c2 c4 c6 w2 I
  rename_i Q' KK hKK
  refine hKK _ _ ?_
  have hf:Br.fill nlOps (nlV bk K.nS c2 c4 c6) #[.pointer (some ⟨bk,0,none⟩),undef,.pointer none,.int .i64 K.nS,.pointer (some ⟨bk,0,none⟩),.agg #[.slice (some ⟨gF,0,none⟩) K.nF K.nF,.slice (some ⟨gS,0,none⟩) K.nS K.nS,.slice (some ⟨gD,0,none⟩) K.nD K.nD],.slice (some ⟨gS,0,none⟩) K.nS K.nS,.int .i64 K.nS,undef,undef,undef,undef,undef,undef,undef]
    = #[.pointer (some ⟨bk,0,none⟩),undef,.pointer (some ⟨c6,0,none⟩),.int .i64 K.nS,.pointer (some ⟨bk,0,none⟩),.agg #[.slice (some ⟨gF,0,none⟩) K.nF K.nF,.slice (some ⟨gS,0,none⟩) K.nS K.nS,.slice (some ⟨gD,0,none⟩) K.nD K.nD],.slice (some ⟨gS,0,none⟩) K.nS K.nS,.int .i64 K.nS,.pointer (some ⟨bk,0,none⟩),.int .i64 K.nS,.slice (some ⟨c2,0,none⟩) K.nS K.nS,.int .i64 K.nS,.slice (some ⟨c4,0,none⟩) K.nS K.nS,.agg (nlA bk K.nS c2 c4),.pointer (some ⟨c6,0,none⟩)]:=by kernel_rfl
  rw [hf]
  have I2:=I.l2 rfl
  have I4:=I.l4 rfl
  have I24:=I.l24 rfl rfl
  have I6:=(I.l6 rfl).2
  have Ib:=I.bel
  have sz:w.heap.size≤({ w1 with drawn:=w1.drawn+1 }:World).heap.size:=b1.size
  clear I hf hKK
  go_wp2_with fail
  go_ret
  exact ⟨c6,rfl,c2,c4,below_then hb Ib sz,Nat.le_trans sz I6.1,Nat.le_trans sz I2.1,Nat.le_trans sz I4.1,I6.2.2.1,I6.2.2.2,I24,I6.2.1,I2.2,I4.2⟩
 all_goals (rw [rep_false] at h;cases h)
attribute [local go_sem ↓] Go.wp_at_zero Go.wp_at_succ
structure DoneL (v v':World) (N:Nat) (Xs:List Value):Prop where
 bel:Below v.heap.size v v'
 size:v'.heap.size=v.heap.size+1
 row:v'.rowIs v.heap.size 70 (N*5) (fun j=>Xs.getD j (.bool false))
end Go.Proofs.YtcgabodkegcpgaaDoor
namespace Go.Proofs.YtcgabodkegcpgaaDoor
open Go.RowKit
set_option linter.unusedVariables false
set_option linter.unusedSimpArgs false
set_option maxHeartbeats 20000000
attribute [local go_sem ↓] Go.wp_at_zero Go.wp_at_succ
end Go.Proofs.YtcgabodkegcpgaaDoor
namespace Go.Proofs.YtcgabodkegcpgaaDoor
open Go.Conc Go.RowKit
open Br (X OpD KO SO SP sfO Lk Fit Must DL Liv Clear)
set_option linter.unusedVariables false
set_option linter.unusedSimpArgs false
set_option maxHeartbeats 20000000
section
variable {kb:Kb} {l:List OpD} {K:Ker} {L:Nat→Option Lv} {r:Nat} {Inb:Nat→Option Seat} {nG:Nat} {w w':World} {b:Lb} {n B0:Nat} {U:Nat→Option OpD} {V:Nat→Value} {N:Nat→Nat} {Xs:Nat→List Value}
theorem must_below (hft:Fit (sfO l) w)(hko:KO l w)(main:Bool){f:FuncId}(hf:Br.Sg f=true){args:Array Value}{R R':Value→World→Prop}{d:Nat}
  (hspec:∀ v,Lk (sfO l) v (w.at d)→Calls Tryd.prog f args v (fun e v'=>∃ x,e=.returned x∧Below v.heap.size v v'∧R x v'))
  (hR:∀ x v' w',v'.heap.size=w'.heap.size→(∀ k,w.heap.size≤k→w'.heap[k]?=v'.heap[k]?)→R x v'→R' x w')(fr:Frame)(cs:List Frame) :
  Must Tryd.prog main (DL true (sfO l)) (fun g w'=>∃ x,g=G (fr.finish x) cs∧Grown w w'∧R' x w') (G (Frame.enter Tryd.prog f args .normal) (fr::cs)) (w.at d):=by
 refine (Br.must_calls Br.rules (sft:=sfO l) (w0:=w.at d) hf ⟨hft.soft,hft.clear⟩ main (Q:=fun x v'=>∃ v,Lk (sfO l) v (w.at d)∧Below v.heap.size v v'∧R x v') (fun v hv=>(hspec v hv).mono fun e v' he=>by
   obtain ⟨x,rfl,h1,h2⟩:=he
   exact ⟨v,hv,h1,h2⟩) fr cs).keep.mono (fun _ _ _ h=>h) ?_
 rintro g w' ⟨⟨x,v',rfl,hl',v,hv,hb,hr⟩,hkp⟩
 have e1:v.heap.size=w.heap.size:=hv.size
 have e2:v'.heap.size=w'.heap.size:=hl'.size
 refine ⟨x,rfl,⟨by have:=hb.size;omega,fun k hk=>same_block (w:=w.at d) hkp hv hl' (hb.block k (by omega)),hl'.fit.clear⟩,hR x v' w' e2 (fun k hk=>?_) hr⟩
 have hz:sfO l k=0:=Br.sfO_zero fun o ho=>by have:=Br.KO.lt hko ho;omega
 rw [hl'.heap,hz]
 cases e:w'.heap[k]? with
 | none=>rfl
 | some o=>rw [Option.map_some,Br.fz_sight (hkp.new k o hk e)]
theorem must_lnew (co:Co kb l K L r Inb nG w)(fr:Frame)(cs:List Frame)(d:Nat) :
  Must Tryd.prog true (DL true (sfO l)) (fun g w'=>∃ x,g=G (fr.finish x) cs∧Grown w w'∧∃ b:Lb,x=.pointer (some ⟨b.bl,0,none⟩)∧(w.heap.size≤b.bu∧w.heap.size≤b.bn)∧LibM kb l L w' b K.nS (b.bl+1) (fun _=>none) (fun _=>.slice none 0 0) (fun _=>0) (fun _=>[]))
   (G (Frame.enter Tryd.prog 16 #[.pointer (some ⟨kb.bk,0,none⟩)] .normal) (fr::cs)) (w.at d):=by
 obtain ⟨z1,z2,z3⟩:=co.env.zero
 have h6:K.nS≤6:=co.env.rep.hS
 refine (must_below co.env.fit co.env.ko true (by kernel_rfl) (R:=fun x v'=>∃ bl bu bn,x=.pointer (some ⟨bl,0,none⟩)∧w.heap.size≤bu∧w.heap.size≤bn∧bu<bl∧bn<bl∧bu≠bn∧v'.heap[bl]?=some (.cells (nlA kb.bk K.nS bu bn) 104 (0,0))∧RowU v' bu K.nS (fun _=>.pointer none)∧RowU v' bn K.nS (fun _=>.slice none 0 0))
  (R':=fun x v'=>∃ bl bu bn,x=.pointer (some ⟨bl,0,none⟩)∧w.heap.size≤bu∧w.heap.size≤bn∧bu<bl∧bn<bl∧bu≠bn∧v'.heap[bl]?=some (.cells (nlA kb.bk K.nS bu bn) 104 (0,0))∧RowU v' bu K.nS (fun _=>.pointer none)∧RowU v' bn K.nS (fun _=>.slice none 0 0)) (fun v hv=>?_) (fun x v' w' hs hk h=>?_) fr cs).mono (fun _ _ _ h=>h) ?_
 ·have sv:v.heap.size=w.heap.size:=hv.size
  refine (lnew_any (rep_to (w:=w.at d) hv z1 z2 z3 (co.env.rep.same (Nat.le_refl _) (fun _ _ _=>rfl)))).mono ?_
  rintro e v' ⟨bl,rfl,bu,bn,h⟩
  exact ⟨_,rfl,h.bel,bl,bu,bn,rfl,by rw [← sv];exact h.gu,by rw [← sv];exact h.gn,h.lu,h.ln,h.un,h.l,h.u,h.d⟩
 ·obtain ⟨bl,bu,bn,e,gu,gn,lu,ln,un,h1,h2,h3⟩:=h
  exact ⟨bl,bu,bn,e,gu,gn,lu,ln,un,by rw [hk _ (by omega)];exact h1,h2.of (hk _ gu),h3.of (hk _ gn)⟩
 ·rintro g w' ⟨x,rfl,hG,bl,bu,bn,rfl,gu,gn,lu,ln,un,h1,h2,h3⟩
  have llt:bl<w'.heap.size:=(Array.getElem?_eq_some_iff.1 h1).1
  have m1:=co.new (w':=w') (k:=bl) (by omega) llt
  have m2:=co.new (w':=w') (k:=bu) gu h2.lt
  have m3:=co.new (w':=w') (k:=bn) gn h3.lt
  refine ⟨_,rfl,hG,⟨bl,bu,bn⟩,rfl,⟨gu,gn⟩,⟨⟨by simp [World.cell?,h1,nlA],by simp [World.cell?,h1,nlA],by simp [World.cell?,h1,nlA],h2,h3,fun p hp=>⟨rfl,.inl ⟨rfl,rfl⟩⟩,fun p q _ _ _=>.inl rfl,⟨?_,?_,un,?_,?_,?_⟩,h6⟩,m1,m2,m3,fun p hp g hg=>(by cases hg),Nat.le_refl _⟩,fun p hp o ho=>(by cases ho)⟩<;>simp only<;>omega
end
section
variable {kb:Kb} {l:List OpD} {K:Ker} {L:Nat→Option Lv} {r:Nat} {Inb:Nat→Option Seat} {nG:Nat} {w w':World} {b:Lb} {n B0:Nat} {U:Nat→Option OpD} {V:Nat→Value} {N:Nat→Nat} {Xs:Nat→List Value}
theorem co_alike (co:Co kb l K L r Inb nG w){K':Ker}(hE:EnvK kb l K' w')(hS:K'.nS=K.nS)(hA:Alike (kc kb) w w'):Co kb l K' L r Inb nG w'∧Kp kb L w L w':=by
 have blk:∀ k,k<w.heap.size→k≠kb.bf→k≠kb.bs→k≠kb.bd→w'.heap[k]?=w.heap[k]?:=hA.block
 refine ⟨⟨hE,co.top,co.gid,co.onk,fun g v hv=>?_,fun g v hv=>by rw [hS];exact co.wait g v hv,co.seat,co.none,fun s c h1 h2=>Nat.lt_of_lt_of_le (co.main0 s c h1 h2) hA.size,fun g v hv c hc=>?_,co.chne,co.pvch,co.apart⟩,fun k hk=>⟨⟨Nat.lt_of_lt_of_le hk.lt hA.size,hk.nf,hk.ns,hk.nd,hk.own⟩,blk k hk.lt hk.nf hk.ns hk.nd⟩⟩
 ·obtain ⟨free,un,A⟩:=co.at_ g v hv
  have hO:=co.onk g v hv
  refine ⟨free,un,A.other (hO.env hE) (fun i hi=>?_)⟩
  obtain ⟨_,a1,a2,a3,_⟩:=A.own.ap i hi
  obtain ⟨k1,k2,k3,k4⟩:=hO
  exact blk i (A.lt hi) (by rw [← k2];exact a1) (by rw [← k3];exact a2) (by rw [← k4];exact a3)
 ·obtain ⟨⟨cap,k,h⟩,a0,a1,a2,a3,a4,a5⟩:=co.chan g v hv c hc
  exact ⟨⟨cap,k,by rw [blk c (Array.getElem?_eq_some_iff.1 h).1 a1 a2 a3];exact h⟩,a0,a1,a2,a3,a4,a5⟩
theorem LibM.same (h:LibM kb l L w b n B0 U V N Xs)(hk:Kp kb L w L w'):LibM kb l L w' b n B0 U V N Xs:=⟨h.m.turn hk,h.live⟩
theorem must_mcall (co:Co kb l K L r Inb nG w)(slot num a c e:Int)(fr:Frame)(cs:List Frame)(d:Nat) :
  Must Tryd.prog true (DL true (sfO l)) (fun g w'=>g=G (fr.finish (.tuple #[.int .i64 (kCall K slot num a c e).n,.int .i64 (kCall K slot num a c e).e])) cs∧Co kb l (kCall K slot num a c e).K L r Inb nG w'∧Kp kb L w L w')
   (G (Frame.enter Tryd.prog 11 #[.pointer (some ⟨kb.bk,0,none⟩),.int .i64 slot,.int .i64 num,.agg #[.int .i64 a,.int .i64 c,.int .i64 e]] .normal) (fr::cs)) (w.at d):=by
 have co':=co.at d
 refine (must_kcall (C:=kc kb) co'.env co.top true slot num a c e fr cs).mono (fun _ _ _ h=>h) ?_
 rintro g w' ⟨rfl,hE,hA⟩
 have R:=co'.env.rep
 have hS:=(sizes_of R hE.rep (hA.block _ R.lk R.kf R.ks R.kd)).2.1
 obtain ⟨h1,h2⟩:=co_alike co' hE hS hA
 exact ⟨rfl,h1,fun k hk=>h2 k ⟨hk.lt,hk.nf,hk.ns,hk.nd,hk.own⟩⟩
theorem must_mstate (co:Co kb l K L r Inb nG w)(fr:Frame)(cs:List Frame)(d:Nat) :
  Must Tryd.prog true (DL true (sfO l)) (fun g w'=>∃ gF gS gD,g=G (fr.finish (stVal K gF gS gD)) cs∧Grown w w'∧Snap w' gF gS gD K∧w.heap.size≤gF∧w.heap.size≤gS∧w.heap.size≤gD)
   (G (Frame.enter Tryd.prog 13 #[.pointer (some ⟨kb.bk,0,none⟩)] .normal) (fr::cs)) (w.at d):=by
 refine (must_state (C:=kc kb) (co.at d).env true fr cs).mono (fun _ _ _ h=>h) ?_
 rintro g w' ⟨gF,gS,gD,rfl,h1,h2,h3,h4,h5,h6,h7⟩
 exact ⟨gF,gS,gD,rfl,⟨h1,h2,h3.clear⟩,h4,h5,h6,h7⟩
theorem rowIs_cells {w:World}{g t n:Nat}{f:Nat→Value}(h:w.rowIs g t n f):∃ c t f,w.heap[g]?=some (.cells c t f):=by
 obtain ⟨c,e,_⟩:=h
 exact ⟨c,_,_,e⟩
theorem snap_to {sft:Nat→Nat}{v w:World}(h:Lk sft v w){gF gS gD:Nat}{K:Ker}(S:Snap w gF gS gD K)(hz:sft gF=0∧sft gS=0∧sft gD=0):Snap v gF gS gD K:=S.same fun k hk=>by
 rcases hk with rfl|rfl|rfl
 ·exact lk_same h hz.1 (.inl (rowIs_cells S.f))
 ·exact lk_same h hz.2.1 (.inl (rowIs_cells S.s))
 ·exact lk_same h hz.2.2 (.inl (rowIs_cells S.d))
end
structure Lvs (sz:Nat) (env:List (Nat × Value)) (a:Act):Prop where
 size:a.tmps.size=sz
 defers:a.defers=[]
 has:∀ p∈env,a.tmps[p.1]?=some p.2
theorem lookup_mem {t:Nat}{v:Value}:∀ {env:List (Nat × Value)},env.lookup t=some v→(t,v)∈env
 | [],h=>by cases h
 | (s,x)::env,h=>by
  by_cases e:t=s
  ·subst e
   simp only [List.lookup,beq_self_eq_true,Option.some.injEq] at h
   subst h
   exact List.mem_cons_self ..
  ·have:(t == s)=false:=by simpa using e
   simp only [List.lookup,this] at h
   exact List.mem_cons_of_mem _ (lookup_mem h)
section
variable {sz:Nat} {env:List (Nat × Value)} {a:Act}
theorem Lvs.at (h:Lvs sz env a){t:Nat}{v:Value}(ht:env.lookup t=some v):a.tmps[t]?=some v:=h.has _ (lookup_mem ht)
theorem Lvs.get (h:Lvs sz env a){t:Nat}{v:Value}(ht:env.lookup t=some v):a.eval (.tmp t)=v:=by
 show a.tmps.getD t undef=v
 rw [Array.getD_eq_getD_getElem?,h.at ht]
 rfl
theorem Lvs.put (h:Lvs sz env a){d:Nat}(hd:d<sz)(v:Value):Lvs sz ((d,v)::env.filter (fun p=>p.1 != d)) (a.put (some d) v):=by
 refine ⟨by simp [Act.put,h.size],h.defers,fun p hp=>?_⟩
 rcases List.mem_cons.1 hp with rfl|hp
 ·simp [Act.put,h.size,hd]
 ·obtain ⟨h1,h2⟩:=List.mem_filter.1 hp
  have h2:p.1≠d:=by simpa using h2
  simp only [Act.put]
  rw [Array.getElem?_setIfInBounds_ne (Ne.symm h2)]
  exact h.has p h1
theorem Lvs.sub (h:Lvs sz env a){env':List (Nat × Value)}(hs:∀ p∈env',env.lookup p.1=some p.2):Lvs sz env' a:=⟨h.size,h.defers,fun p hp=>h.at (hs p hp)⟩
theorem Lvs.wanted (h:Lvs sz env a){ops:Array Oper}{o oj:Oper}{j t:Nat}{x y:Bool}(hg:o.guard=some (j,y))(hj:ops[j]?=some oj)(hd:oj.dst=some t)(ht:env.lookup t=some (.bool x)):Region.wanted o (yielded ops a.tmps)=(x == y):=by
 unfold Region.wanted
 rw [hg]
 simp only [yielded,hj,Option.bind_some,hd,h.at ht]
 cases x<;>cases y<;>rfl
end
section
variable {l:List OpD} {main:Bool} {sft:Nat→Nat} {Stop:Goroutine→World→Prop} {b:Frame} {a:Act} {ops:Array Oper} {i:Nat} {o:Oper} {rest:List Nat} {k:List Item} {cs:List Frame} {w:World} {v:Value}
theorem lv_val (ho:ops[i]?=some o)(hw:Region.wanted o (yielded ops a.tmps)=true)(hk:b.kind≠.early)(hop:Br.okOp Tryd.prog (fun _=>false) [] false o.op=true)(hv:∀ d,(execOp a.eval o).run Tryd.prog (w.at d)=.ok (.value v) (w.at d))
  (h:Liv Tryd.prog main true sft Stop (G (b.at (a.put o.dst v) (.inRegion ops rest::k)) cs) w):Liv Tryd.prog main true sft Stop (G (b.at a (.inRegion ops (i::rest)::k)) cs) w:=Br.liv_op ho hw hk hop trivial hv h
theorem wanted_none {ops:Array Oper}{o:Oper}{a:Act}(hg:o.guard=none):Region.wanted o (yielded ops a.tmps)=true:=by unfold Region.wanted;rw [hg]
theorem lv_made {ob:Obj}(ho:ops[i]?=some o)(hg:o.guard=none)(hk:b.kind≠.early)(hv:∀ d,(execOp a.eval o).run Tryd.prog (w.at d)=.ok (.value v) ((w.at d).alloc ob))(he:∀ d,(execOp a.eval o).events Tryd.prog (w.at d) #[]=#[])(hs:Br.Obj.sight ob)
  (h:Liv Tryd.prog main true sft Stop (G (b.at (a.put o.dst v) (.inRegion ops rest::k)) cs) (w.alloc ob)):Liv Tryd.prog main true sft Stop (G (b.at a (.inRegion ops (i::rest)::k)) cs) w:=fun d=>must_made ho hg hk hv he (fun d=>h d) d hs
theorem lv_lone {x:Next}{R:World→World→Prop}(ho:ops[i]?=some o)(hg:o.guard=none)(hk:b.kind≠.early)(hop:Br.okOp Tryd.prog (fun _=>false) [] true o.op=true)(hx:x=.skip∨∃ v,x=.value v)(hft:Fit sft w)
  (hv:∀ d v,Lk sft v (w.at d)→∃ v',(execOp a.eval o).run Tryd.prog v=.ok x v'∧R v v')
  (h:∀ d w' v v',Lk sft v (w.at d)→Lk sft v' w'→Br.Kept sft (w.at d) w'→R v v'→Liv Tryd.prog main true sft Stop (G (b.at (a.put o.dst (match x with|.value v=>v|_=>undef)) (.inRegion ops rest::k)) cs) w') :
  Liv Tryd.prog main true sft Stop (G (b.at a (.inRegion ops (i::rest)::k)) cs) w:=fun d0=>by
 refine Br.must_operW ho (wanted_none hg) hk (fun d K' hK=>?_) d0
 have ht:Br.Tame Tryd.prog (true=true) (Br.Comesto (fun f=>(fun _=>false:FuncId→Bool) f=true)) (execOp a.eval o):=Br.t_execOp (P:=Tryd.prog) (S:=fun _=>false) (meths:=[]) (st:=true) id (fun f hf=>by cases hf) (fun m hm=>by cases hm) (fun v=>rfl) (fun f=>rfl) o hop
 have hl:Lk sft (Br.frz sft (w.at d) (w.at d).tape) (w.at d):=Br.lk_frz (w:=w.at d) hft.soft trivial _
 obtain ⟨v',hr,hR⟩:=hv d { Br.frz sft (w.at d) (w.at d).tape with drawn:=(w.at d).drawn } ⟨hl.heap,hl.soft,hl.sight,hl.os,hl.output⟩
 have hl':Lk sft { Br.frz sft (w.at d) (w.at d).tape with drawn:=(w.at d).drawn } (w.at d):=⟨hl.heap,hl.soft,hl.sight,hl.os,hl.output⟩
 have key:=Br.lk_run (sft:=sft) Tryd.prog (execOp a.eval o) (true=true) _ (v:={ Br.frz sft (w.at d) (w.at d).tape with drawn:=(w.at d).drawn }) (w:=w.at d) #[] ((execOp a.eval o).runT Tryd.prog (w.at d) #[]).1.world.drawn ht hl' (fun _ _ _=>rfl) (by omega)
 have e1:((execOp a.eval o).runT Tryd.prog { Br.frz sft (w.at d) (w.at d).tape with drawn:=(w.at d).drawn } #[]).1=.ok x v':=by rw [Sem.runT_fst];exact hr
 have e2:((execOp a.eval o).runT Tryd.prog (w.at d) #[]).1=(execOp a.eval o).run Tryd.prog (w.at d):=Sem.runT_fst ..
 have e3:∀ e∈listed Tryd.prog b.fn a o (w.at d),e∈((execOp a.eval o).runT Tryd.prog (w.at d) #[]).2:=fun e he=>Br.mem_seen he
 revert key e1 e2 e3
 generalize (execOp a.eval o).runT Tryd.prog { Br.frz sft (w.at d) (w.at d).tape with drawn:=(w.at d).drawn } #[]=rv
 generalize (execOp a.eval o).runT Tryd.prog (w.at d) #[]=rw'
 intro key e1 e2 e3
 cases key with
 | @ok y v2 w2 es' c hp h1 h2 h3 h4 =>
  obtain ⟨rfl,rfl⟩:=Result.ok.inj e1
  have hD:DL true sft (w.at d) w2 (listed Tryd.prog b.fn a o (w.at d)):=⟨h2,fun e he=>(by
   rcases h3 e (e3 e he) with h|h
   ·simp at h
   ·exact h),h4.all⟩
  rw [← e2]
  have hM:=(h d w2 _ _ hl' h1 h2 hR) w2.drawn
  rcases hx with rfl|⟨z,rfl⟩
  ·exact hK _ _ ⟨hD,hM⟩
  ·exact hK _ _ ⟨hD,hM⟩
 | panic _ _ _ _=>cases e1
 | lost _=>cases e1
end
end Go.Proofs.YtcgabodkegcpgaaDoor
namespace Go.Proofs.YtcgabodkegcpgaaDoor
open Go.RowKit
set_option linter.unusedVariables false
set_option maxHeartbeats 20000000
def pickI (c:Int):Int:=if c<0 then -(c+1) else c
def pickN (c:Int)(n:Nat):Nat:=(pickI c % n).toNat
theorem pickN_lt (c:Int){n:Nat}(h:0<n):pickN c n<n:=by
 have h0:0≤pickI c % (n:Int):=Int.emod_nonneg _ (by omega)
 have h1:pickI c % (n:Int)<n:=Int.emod_lt_of_pos _ (by omega)
 unfold pickN;omega
theorem pickN_cast (c:Int){n:Nat}(h:0<n):((pickN c n:Nat):Int)=pickI c % n:=by
 have h0:0≤pickI c % (n:Int):=Int.emod_nonneg _ (by omega)
 unfold pickN;omega
theorem pick_any (c:Int)(hl:-9223372036854775808≤c)(hh:c<9223372036854775808)(n:Nat)(h1:0<n)(h2:n≤31)(w:World) :
  Calls Tryd.prog 33 #[.int .i64 c,.int .i64 n] w fun e w'=>e=.returned (.int .i64 (pickN c n:Nat))∧w'=w:=by
 have E:=pickN_cast c h1
 have L:=pickN_lt c h1
 generalize pickN c n=m at *
 have HE:Hid ((m:Int)=pickI c % n):=E
 have HL:Hid (m<n):=L
 by_cases h:c<0
 ·have e1:IntKind.i64.wrap (c+1)=c+1:=IntWalk.i64_in _ (by omega)
  have e2:IntKind.i64.wrap (-(c+1))=-(c+1):=IntWalk.i64_in _ (by omega)
  have e3:(-(c+1)) % (n:Int)=m:=by rw [E,pickI,if_pos h]
  have e4:IntKind.i64.wrap (m:Int)=m:=IntWalk.i64_in _ (by omega)
  have e5:Int.tmod (-(c+1)) (n:Int)=m:=by rw [Int.tmod_eq_emod_of_nonneg (by omega)];exact e3
  clear E L
  go_enter Tryd.func33,Tryd.ntmps33
  go_wp2
  go_ret
  exact ⟨rfl,rfl⟩
 ·have e3:c % (n:Int)=m:=by rw [E,pickI,if_neg h]
  have e4:IntKind.i64.wrap (m:Int)=m:=IntWalk.i64_in _ (by omega)
  have e5:Int.tmod c (n:Int)=m:=by rw [Int.tmod_eq_emod_of_nonneg (by omega)];exact e3
  clear E L
  go_enter Tryd.func33,Tryd.ntmps33
  go_wp2
  go_ret
  exact ⟨rfl,rfl⟩
theorem settings_any (a b c:Int)(ha:-9223372036854775808≤a∧a<9223372036854775808)(hb:-9223372036854775808≤b∧b<9223372036854775808)(hc:-9223372036854775808≤c∧c<9223372036854775808)(w:World) :
  Calls Tryd.prog 12 #[.agg #[.int .i64 a,.int .i64 b,.int .i64 c]] w fun e w'=>e=.returned (.agg #[.int .i64 ((2+pickN a 31:Nat):Int),.int .i64 ((1+pickN b 6:Nat):Int),.int .i64 (pickN c 5:Nat)])∧Below w.heap.size w w':=by
 have l1:=pickN_lt a (n:=31) (by omega)
 have l2:=pickN_lt b (n:=6) (by omega)
 obtain ⟨OKP,hOK⟩:∃ OKP:Int→Int→Prop,OKP=fun x n=>(x=a∧n=31)∨(x=b∧n=6)∨(x=c∧n=5):=⟨_,rfl⟩
 obtain ⟨pk,hpk⟩:∃ pk:Int→Int→Int,pk=fun x n=>((pickN x n.toNat:Nat):Int):=⟨_,rfl⟩
 have P:∀ x n w,OKP x n→Calls Tryd.prog 33 #[.int .i64 x,.int .i64 n] w fun e w'=>e=.returned (.int .i64 (pk x n))∧w'=w:=by
  subst hOK hpk
  rintro x n w (⟨rfl,rfl⟩|⟨rfl,rfl⟩|⟨rfl,rfl⟩)
  ·exact pick_any x ha.1 ha.2 31 (by omega) (by omega) w
  ·exact pick_any x hb.1 hb.2 6 (by omega) (by omega) w
  ·exact pick_any x hc.1 hc.2 5 (by omega) (by omega) w
 have o1:OKP a 31:=by rw [hOK];simp
 have o2:OKP b 6:=by rw [hOK];simp
 have o3:OKP c 5:=by rw [hOK];simp
 have q1:pk a 31=(pickN a 31:Nat):=by rw [hpk];rfl
 have q2:pk b 6=(pickN b 6:Nat):=by rw [hpk];rfl
 have q3:pk c 5=(pickN c 5:Nat):=by rw [hpk];rfl
 clear ha hb hc hOK hpk
 have e1:IntKind.i64.wrap (2+pk a 31)=((2+pickN a 31:Nat):Int):=by rw [q1,IntWalk.i64_in _ (by omega)];omega
 have e2:IntKind.i64.wrap (1+pk b 6)=((1+pickN b 6:Nat):Int):=by rw [q2,IntWalk.i64_in _ (by omega)];omega
 rw [← q3]
 clear l1 l2 q1 q2 q3
 generalize ((2+pickN a 31:Nat):Int)=p2 at *
 generalize ((1+pickN b 6:Nat):Int)=q2 at *
 go_enter Tryd.func12,Tryd.ntmps12
 go_wp2_with fail
 obtain ⟨W,eW⟩:∃ W,W=(w.alloc (.cells #[.int .i64 a,.int .i64 b,.int .i64 c] 30)).alloc (.cells #[.int .i64 0,.int .i64 0,.int .i64 0] 30):=⟨_,rfl⟩
 have y0:W.cell? ⟨w.heap.size,0,none⟩=some (.int .i64 a):=by rw [eW,World.cell?_alloc2_first];rfl
 have y1:W.cell? ⟨w.heap.size,1,none⟩=some (.int .i64 b):=by rw [eW,World.cell?_alloc2_first];rfl
 have y2:W.cell? ⟨w.heap.size,2,none⟩=some (.int .i64 c):=by rw [eW,World.cell?_alloc2_first];rfl
 have HW:Hid (Below w.heap.size w W∧W.rowIs (w.heap.size+1) 30 3 (fun j=>(#[.int .i64 0,.int .i64 0,.int .i64 0]:Array Value).getD j (.bool false))):=by
  refine ⟨?_,?_⟩
  ·rw [eW];exact ((Below.refl _ _).alloc (Nat.le_refl _) _).alloc (by simp) _
  ·rw [eW];exact rowIs_new2 _ _ _ _
 have z0:W.cell? ⟨w.heap.size+1,0,none⟩=some (.int .i64 0):=HW.out.2.cell (by omega)
 have z1:W.cell? ⟨w.heap.size+1,1,none⟩=some (.int .i64 0):=HW.out.2.cell (by omega)
 have z2:W.cell? ⟨w.heap.size+1,2,none⟩=some (.int .i64 0):=HW.out.2.cell (by omega)
 have f0:W.frozen? ⟨w.heap.size+1,0,none⟩=false:=HW.out.2.frozen _
 have f1:W.frozen? ⟨w.heap.size+1,1,none⟩=false:=HW.out.2.frozen _
 have f2:W.frozen? ⟨w.heap.size+1,2,none⟩=false:=HW.out.2.frozen _
 rw [← eW]
 clear eW
 have n1:w.heap.size+1≠w.heap.size:=by omega
 have n2:w.heap.size≠w.heap.size+1:=by omega
 generalize e:w.heap.size+1=g1 at *
 generalize e0:w.heap.size=g0 at *
 go_region_held3 (fun w'=>w'.cell? ⟨g0,0,none⟩=some (.int .i64 a)∧w'.cell? ⟨g0,1,none⟩=some (.int .i64 b)∧w'.cell? ⟨g0,2,none⟩=some (.int .i64 c)) ((repeat' apply And.intro)<;>(first|(go_keep;done)|(refine keep_same ?_;go_keep)))
  (first|(go_at_call 33;refine (P _ _ _ (by first|exact o1|exact o2|exact o3)).mono ?_;rintro e w1 ⟨rfl,rfl⟩))
 rename_i Q1 K1 hK hH
 refine hK _ _ ?_
 subst Q1
 refine wp_ret ?_
 obtain ⟨cs,hcs⟩:∃ cs:List Value,cs=[.int .i64 p2,.int .i64 q2,.int .i64 (pk c 5)]:=⟨_,rfl⟩
 have hr:(W.setCells g1 0 cs).drew.rangeAt g1 0 cs:=World.rangeAt_setCells_same W g1 0 cs (by rw [hcs];exact rowIs_there HW.out.2 (by simp))
 have hb:Below g0 w (W.setCells g1 0 cs):=below_setCells (by omega) _ _ HW.out.1
 refine bodyPost_ret (v:=.agg cs.toArray) (results_cell_range Tryd.results12 _ _ g1 cs _ rfl ?_ Tryd.underlying30 rfl (by rw [hcs];kernel_rfl)) rfl ?_
 ·rw [hcs] at hr ⊢;exact hr
 ·rw [hcs] at hb ⊢;exact ⟨rfl,by rw [e0];exact ⟨hb.os,hb.tape,hb.output,hb.size,hb.block⟩⟩
end Go.Proofs.YtcgabodkegcpgaaDoor
