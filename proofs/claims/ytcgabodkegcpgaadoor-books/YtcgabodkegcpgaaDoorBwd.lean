/- Books: its loop of acts. No statement of the program is proved here. -/
import Derived.Test.YtcgabodkegcpgaaDoorWrk
import Derived.Test.YtcgabodkegcpgaaDoorBwb
import Derived.Test.YtcgabodkegcpgaaDoorNea
namespace Go.Proofs.YtcgabodkegcpgaaDoor
open Go.Conc Go.RowKit
open Br (X OpD KO SO SP sfO Lk Fit Must DL Liv Clear)
set_option linter.unusedVariables false
set_option linter.unusedSimpArgs false
set_option maxHeartbeats 20000000
theorem Co.sz {kb:Kb}{l:List OpD}{K:Ker}{L:Nat→Option Lv}{r:Nat}{Inb:Nat→Option Seat}{nG:Nat}{w w':World}(co:Co kb l K L r Inb nG w){l':List OpD}{K':Ker}{L':Nat→Option Lv}{r':Nat}{Inb':Nat→Option Seat}{nG':Nat}(co':Co kb l' K' L' r' Inb' nG' w')(hk:w'.heap[kb.bk]?=w.heap[kb.bk]?):K'.nF=K.nF∧K'.nD=K.nD:=⟨(sizes_of co.env.rep co'.env.rep hk).1,(sizes_of co.env.rep co'.env.rep hk).2.2⟩
set_option maxRecDepth 100000 in
theorem bk_11b {l:List OpD}{Stop:Goroutine→World→Prop}{w:World}{scr vc vk vl:Value}{i:Nat}(hi:i<9223372036854775807){a:Act}(hA:Lvs 77 [(1,scr),(2,vc),(5,.bool true),(6,vk),(8,vl),(9,.int .i64 (i:Nat))] a)(k:List Item)(cs:List Frame)
  (hn:∀ a',Lvs 77 [(1,scr),(2,vc),(5,.bool true),(6,vk),(8,vl),(9,.int .i64 ((i+1:Nat):Int))] a'→∀ d,Stop (G ((base 5).at a' (.code bkLoop::.inLoop bkLoop::k)) cs) (w.at d)) :
  Liv Tryd.prog true true (sfO l) Stop (G ((base 5).at a (.inBlock 1::.code (rb 11)::.inLoop bkLoop::k)) cs) w:=by
 refine Br.liv_inBlock ?_
 refine lb_region (n:=11) (m:=0) (il:=[0,1,2]) (by kernel_rfl) ?_
 refine lw_val (v:=.int .i64 (i:Nat)) hA rfl (wanted_none rfl) (by decide) (by kernel_rfl) rfl (by decide) (fun d=>run_move rfl (hA.get rfl)) (fun a (hA:Lvs 77 [(40,.int .i64 (i:Nat)),(1,scr),(2,vc),(5,.bool true),(6,vk),(8,vl),(9,.int .i64 (i:Nat))] a)=>?_)
 obtain ⟨o,ho,hop,hd,hg⟩:∃ o,(bkOps 11)[1]?=some o∧o.op=.binOp .add 3 (.tmp 40) (.const (.int .i64 1)) 3∧o.dst=some 41∧o.guard=none:=⟨_,rfl,rfl,rfl,rfl⟩
 have e40:=hA.get (t:=40) rfl
 refine lw_val (v:=.int .i64 ((i+1:Nat):Int)) hA ho (wanted_none hg) (by decide) (by rw [hop];rfl) hd (by decide) (fun d=>by have z0:IntKind.i64.wrap ((i:Int)+1)=((i+1:Nat):Int):=(by rw [IntKind.wrap_i64];omega);unfold execOp;simp only [hop,e40];go_simp) (fun a (hA:Lvs 77 [(41,.int .i64 ((i+1:Nat):Int)),(40,.int .i64 (i:Nat)),(1,scr),(2,vc),(5,.bool true),(6,vk),(8,vl),(9,.int .i64 (i:Nat))] a)=>?_)
 clear ho hop hd hg e40
 refine lw_val (v:=.int .i64 ((i+1:Nat):Int)) hA rfl (wanted_none rfl) (by decide) (by kernel_rfl) rfl (by decide) (fun d=>run_assign rfl (hA.get rfl)) (fun a (hA:Lvs 77 [(9,.int .i64 ((i+1:Nat):Int)),(41,.int .i64 ((i+1:Nat):Int)),(40,.int .i64 (i:Nat)),(1,scr),(2,vc),(5,.bool true),(6,vk),(8,vl)] a)=>?_)
 refine Br.liv_region_end ?_
 replace hA:Lvs 77 [(1,scr),(2,vc),(5,.bool true),(6,vk),(8,vl),(9,.int .i64 ((i+1:Nat):Int))] a:=hA.sub (fun p hp=>by
  simp only [List.mem_cons,List.not_mem_nil,or_false] at hp
  rcases hp with rfl|rfl|rfl|rfl|rfl|rfl<;>rfl)
 refine Br.liv_inLoop ?_
 exact fun d=>.stop (hn a hA d)
set_option maxRecDepth 100000 in
theorem bk_stop {l:List OpD}{Stop:Goroutine→World→Prop}{w:World}{len cap cB:Nat}{sa:Option Addr}{kb:Kb}{b:Lb}{a:Act}(hA:Lvs 77 [(1,.slice sa len cap),(2,.pointer (some ⟨cB,0,none⟩)),(5,.bool true),(6,.pointer (some ⟨kb.bk,0,none⟩)),(8,.pointer (some ⟨b.bl,0,none⟩)),(9,.int .i64 len)] a)(k:List Item)(cs:List Frame)
  (hn:∀ a',Lvs 77 [(1,.slice sa len cap),(2,.pointer (some ⟨cB,0,none⟩)),(5,.bool true),(6,.pointer (some ⟨kb.bk,0,none⟩)),(8,.pointer (some ⟨b.bl,0,none⟩)),(9,.int .i64 len)] a'→∀ d,Stop (G ((base 5).at a' k) cs) (w.at d)) :
  Liv Tryd.prog true true (sfO l) Stop (G ((base 5).at a (.code bkLoop::.inLoop bkLoop::.inBlock 0::k)) cs) w:=by
 unfold bkLoop
 refine Br.liv_seq ?_
 refine Br.liv_seq ?_
 refine lb_region (n:=10) (m:=0) (il:=[0,1,2,3,4,5,6]) (by kernel_rfl) ?_
 refine lw_val (v:=.int .i64 len) hA rfl (wanted_none rfl) (by decide) (by kernel_rfl) rfl (by decide) (fun d=>run_move rfl (hA.get rfl)) (fun a (hA:Lvs 77 [(33,.int .i64 len),(1,.slice sa len cap),(2,.pointer (some ⟨cB,0,none⟩)),(5,.bool true),(6,.pointer (some ⟨kb.bk,0,none⟩)),(8,.pointer (some ⟨b.bl,0,none⟩)),(9,.int .i64 len)] a)=>?_)
 refine lw_val (v:=.slice sa len cap) hA rfl (wanted_none rfl) (by decide) (by kernel_rfl) rfl (by decide) (fun d=>run_move rfl (hA.get rfl)) (fun a (hA:Lvs 77 [(34,.slice sa len cap),(33,.int .i64 len),(1,.slice sa len cap),(2,.pointer (some ⟨cB,0,none⟩)),(5,.bool true),(6,.pointer (some ⟨kb.bk,0,none⟩)),(8,.pointer (some ⟨b.bl,0,none⟩)),(9,.int .i64 len)] a)=>?_)
 have e34:=hA.get (t:=34) rfl
 refine lw_val (v:=.int .i64 len) hA rfl (wanted_none rfl) (by decide) (by kernel_rfl) rfl (by decide) (fun d=>run_len rfl Tryd.underlying35 e34) (fun a (hA:Lvs 77 [(35,.int .i64 len),(34,.slice sa len cap),(33,.int .i64 len),(1,.slice sa len cap),(2,.pointer (some ⟨cB,0,none⟩)),(5,.bool true),(6,.pointer (some ⟨kb.bk,0,none⟩)),(8,.pointer (some ⟨b.bl,0,none⟩)),(9,.int .i64 len)] a)=>?_)
 clear e34
 obtain ⟨o,ho,hop,hd,hg⟩:∃ o,(bkOps 10)[3]?=some o∧o.op=.binOp .lss 3 (.tmp 33) (.tmp 35) 3∧o.dst=some 36∧o.guard=none:=⟨_,rfl,rfl,rfl,rfl⟩
 have e33:=hA.get (t:=33) rfl
 have e35:=hA.get (t:=35) rfl
 refine lw_val (v:=.bool false) hA ho (wanted_none hg) (by decide) (by rw [hop];rfl) hd (by decide) (fun d=>by unfold execOp;simp only [hop,e33,e35];go_simp) (fun a (hA:Lvs 77 [(36,.bool false),(35,.int .i64 len),(34,.slice sa len cap),(33,.int .i64 len),(1,.slice sa len cap),(2,.pointer (some ⟨cB,0,none⟩)),(5,.bool true),(6,.pointer (some ⟨kb.bk,0,none⟩)),(8,.pointer (some ⟨b.bl,0,none⟩)),(9,.int .i64 len)] a)=>?_)
 clear ho hop hd hg e33 e35
 refine lw_val (v:=.bool false) hA rfl (wanted_none rfl) (by decide) (by kernel_rfl) rfl (by decide) (fun d=>run_move rfl (hA.get rfl)) (fun a (hA:Lvs 77 [(37,.bool false),(36,.bool false),(35,.int .i64 len),(34,.slice sa len cap),(33,.int .i64 len),(1,.slice sa len cap),(2,.pointer (some ⟨cB,0,none⟩)),(5,.bool true),(6,.pointer (some ⟨kb.bk,0,none⟩)),(8,.pointer (some ⟨b.bl,0,none⟩)),(9,.int .i64 len)] a)=>?_)
 refine lw_skip hA rfl ((hA.wanted (x:=false) rfl rfl rfl rfl).trans rfl) rfl (by decide) (fun a (hA:Lvs 77 [(38,undef),(37,.bool false),(36,.bool false),(35,.int .i64 len),(34,.slice sa len cap),(33,.int .i64 len),(1,.slice sa len cap),(2,.pointer (some ⟨cB,0,none⟩)),(5,.bool true),(6,.pointer (some ⟨kb.bk,0,none⟩)),(8,.pointer (some ⟨b.bl,0,none⟩)),(9,.int .i64 len)] a)=>?_)
 obtain ⟨o,ho,hop,hd,hg⟩:∃ o,(bkOps 10)[6]?=some o∧o.op=.pick (.tmp 37) (.tmp 38) (.const (.bool false))∧o.dst=some 39∧o.guard=none:=⟨_,rfl,rfl,rfl,rfl⟩
 have e37:=hA.get (t:=37) rfl
 have e38:=hA.get (t:=38) rfl
 refine lw_val (v:=.bool false) hA ho (wanted_none hg) (by decide) (by rw [hop];rfl) hd (by decide) (fun d=>by unfold execOp;simp only [hop,e37,e38];go_simp) (fun a (hA:Lvs 77 [(39,.bool false),(38,undef),(37,.bool false),(36,.bool false),(35,.int .i64 len),(34,.slice sa len cap),(33,.int .i64 len),(1,.slice sa len cap),(2,.pointer (some ⟨cB,0,none⟩)),(5,.bool true),(6,.pointer (some ⟨kb.bk,0,none⟩)),(8,.pointer (some ⟨b.bl,0,none⟩)),(9,.int .i64 len)] a)=>?_)
 clear ho hop hd hg e37 e38
 refine Br.liv_region_end ?_
 replace hA:Lvs 77 [(1,.slice sa len cap),(2,.pointer (some ⟨cB,0,none⟩)),(5,.bool true),(6,.pointer (some ⟨kb.bk,0,none⟩)),(8,.pointer (some ⟨b.bl,0,none⟩)),(9,.int .i64 len),(39,.bool false)] a:=hA.sub (fun p hp=>by
  simp only [List.mem_cons,List.not_mem_nil,or_false] at hp
  rcases hp with rfl|rfl|rfl|rfl|rfl|rfl|rfl<;>rfl)
 refine Br.liv_cond (t:=false) (hA.get rfl) ?_
 refine Br.liv_exit (k':=k) (by rfl) ?_
 exact fun d=>.stop (hn a (hA.sub (fun p hp=>by
  simp only [List.mem_cons,List.not_mem_nil,or_false] at hp
  rcases hp with rfl|rfl|rfl|rfl|rfl|rfl<;>rfl)) d)
set_option maxRecDepth 100000 in
theorem bk_loop {Final:Machine→Trace→Prop}{w0:World}{kb:Kb}{b:Lb}{n len cap cB:Nat}{sa:Option Addr}{nF nD:Nat}(hlen:len≤4398046511104)(lcB:cB<w0.heap.size)(hS:Script w0 sa len)(e:Nat)(k:List Item)(cs:List Frame)
  (h19:∀ (i:Nat) (l:List OpD) (K:Ker) (L:Nat→Option Lv) (r:Nat) (Inb:Nat→Option Seat) (nG:Nat) (w:World) (a:Act) (Stop:Goroutine→World→Prop) (k:List Item),Co kb l K L r Inb nG w→K.nF=nF→K.nS=n→K.nD=nD→w.heap[cB]?=w0.heap[cB]?→Lvs 77 [(1,.slice sa len cap),(2,.pointer (some ⟨cB,0,none⟩)),(5,.bool true),(6,.pointer (some ⟨kb.bk,0,none⟩)),(8,.pointer (some ⟨b.bl,0,none⟩)),(9,.int .i64 i)] a→(∀ a' w',Grown w w'→Lvs 77 [(1,.slice sa len cap),(2,.pointer (some ⟨cB,0,none⟩)),(5,.bool true),(6,.pointer (some ⟨kb.bk,0,none⟩)),(8,.pointer (some ⟨b.bl,0,none⟩)),(9,.int .i64 i)] a'→Liv Tryd.prog true true (sfO l) Stop (G ((base 5).at a' k) cs) w')→Liv Tryd.prog true true (sfO l) Stop (G ((base 5).at a (.code (.region 19 (bkOps 19) true)::k)) cs) w)
  (hdone:∀ l K L Inb nG w U V N Xs a,CI w0 kb b n len l K L e Inb nG w U V N Xs→Lvs 77 [(1,.slice sa len cap),(2,.pointer (some ⟨cB,0,none⟩)),(5,.bool true),(6,.pointer (some ⟨kb.bk,0,none⟩)),(8,.pointer (some ⟨b.bl,0,none⟩)),(9,.int .i64 len)] a→X Tryd.prog Final l Inb nG 0 (G ((base 5).at a k) cs) w) :
  ∀ m i,m+i=len→∀ l K L Inb nG w U V N Xs a,CI w0 kb b n i l K L (m+e) Inb nG w U V N Xs→K.nF=nF→K.nD=nD→Lvs 77 [(1,.slice sa len cap),(2,.pointer (some ⟨cB,0,none⟩)),(5,.bool true),(6,.pointer (some ⟨kb.bk,0,none⟩)),(8,.pointer (some ⟨b.bl,0,none⟩)),(9,.int .i64 i)] a→X Tryd.prog Final l Inb nG 0 (G ((base 5).at a (.code bkLoop::.inLoop bkLoop::.inBlock 0::k)) cs) w:=by
 intro m
 induction m with
 | zero =>
  intro i hi l K L Inb nG w U V N Xs a ci hF hD hA
  obtain rfl:i=len:=by omega
  rw [Nat.zero_add] at ci
  exact x_liv (bk_stop hA k cs fun a' hA' d=>hdone _ _ _ _ _ _ _ _ _ _ a' (ci.grown (grown_at w d)) hA')
 | succ m ih =>
  intro i hi l K L Inb nG w U V N Xs a ci hF hD hA
  have hlt:i<len:=by omega
  rw [show m+1+e=(m+e)+1 by omega] at ci
  have tail:∀ l K L Inb nG w U V N Xs a,CI w0 kb b n (i+1) l K L (m+e) Inb nG w U V N Xs→K.nF=nF→K.nD=nD→Lvs 77 [(1,.slice sa len cap),(2,.pointer (some ⟨cB,0,none⟩)),(5,.bool true),(6,.pointer (some ⟨kb.bk,0,none⟩)),(8,.pointer (some ⟨b.bl,0,none⟩)),(9,.int .i64 i)] a→X Tryd.prog Final l Inb nG 0 (G ((base 5).at a (.inBlock 2::.code (.region 19 (bkOps 19) true)::.inBlock 1::.code (rb 11)::.inLoop bkLoop::.inBlock 0::k)) cs) w:=fun l K L Inb nG w U V N Xs a ci hF hD hA =>
   x_liv (Br.liv_inBlock (h19 i l K L _ Inb nG w a _ _ ci.co hF ci.hn hD (ci.old cB lcB).2 hA fun a' w' hG hA'=>bk_11b (by omega) hA' _ cs fun a2 hA2 d=>ih (i+1) (by omega) l K L Inb nG (w'.at d) U V N Xs a2 ((ci.grown hG).grown (grown_at w' d)) hF hD hA2))
  have ret:∀ (ops:Array Oper) (j D:Nat) (o:Oper),ops[j]?=some o→o.dst=some D→(∀ p∈([1,2,5,6,8,9]:List Nat),p≠D)→∀ l K L Inb nG w U V N Xs a x,CI w0 kb b n (i+1) l K L (m+e) Inb nG w U V N Xs→K.nF=nF→K.nD=nD→Lvs 77 [(1,.slice sa len cap),(2,.pointer (some ⟨cB,0,none⟩)),(5,.bool true),(6,.pointer (some ⟨kb.bk,0,none⟩)),(8,.pointer (some ⟨b.bl,0,none⟩)),(9,.int .i64 i)] a →
    X Tryd.prog Final l Inb nG 0 (G (((base 5).at a (.inRegion ops [j] :: .inBlock 2::.code (.region 19 (bkOps 19) true)::.inBlock 1::.code (rb 11)::.inLoop bkLoop::.inBlock 0::k)).finish x) cs) w:=fun ops j D o ho hd hne l K L Inb nG w U V N Xs a x ci hF hD hA=>by
   rw [fin_at ho,hd]
   refine x_liv (Br.liv_region_end ?_)
   exact fun d=>.stop (tail l K L Inb nG (w.at d) U V N Xs _ (ci.grown (grown_at w d)) hF hD (hA.put_ne fun p hp=>by
    simp only [List.mem_cons,List.not_mem_nil,or_false] at hp
    rcases hp with rfl|rfl|rfl|rfl|rfl|rfl<;>exact hne _ (by simp)))
  obtain ⟨g,q0,ka,s,cl,a0,a1,a2,o0,o1,o2,bb,rfl,hg,hr⟩:=hS i hlt
  have LA:w.rangeAt g (q0+i*10) (actCells ka s cl a0 a1 a2 o0 o1 o2 bb):=fun j v hv=>(World.cell?_of_block (w:=w0) (ci.old g hg).2).trans (hr j v hv)
  refine x_liv (bk_head ci.co.env.fit ci.co.env.ko hlt LA hA _ cs (fun h2 a' w' hG hX hA'=>?_) (fun h2 h3 a' w' hG hX hA'=>?_) (fun h2 h3 a' w' hG hX hA'=>?_))
  ·refine bk_16 hX hA' _ cs (fun a2 hA2 d=>?_)
   have ci':=ci.grown (hG.trans (grown_at w' d))
   have ok:=ret (bkOps 16) 5 63 _ rfl rfl (by decide)
   refine main_Begin ci'.co ci'.hn ci'.lm ci'.g0 s o0 o1 o2 _ cs (fun _ w2 h=>ok _ _ _ _ _ w2 _ _ _ _ _ _ (((ci'.grown h).less (by omega)).more (by omega)) hF hD hA2) (fun _ _ _ w2 h=>ok _ _ _ _ _ w2 _ _ _ _ _ _ (((ci'.grown h).less (by omega)).more (by omega)) hF hD hA2) (fun _ _ p o _ _ _ w2 h=>ok _ _ _ _ _ w2 _ _ _ _ _ _ (((ci'.grown h).less (by omega)).more (by omega)) hF hD hA2) (fun _ _ p hs hp hU w2 C H Inb' c1 c2 c3 c4 c5 c6 c7 c8 c9=>?_)
   exact ok _ _ _ _ _ w2 _ _ _ _ _ _ (((ci'.begun hp hU c6 c7 c8 c9).less (by omega)).more (by omega)) hF hD hA2
  ·refine bk_18 hX hA' _ cs (fun a2 hA2 d=>?_)
   have ci':=ci.grown (hG.trans (grown_at w' d))
   have ok:=ret (bkOps 18) 3 69 _ rfl rfl (by decide)
   refine main_pick ci'.co ci'.hn ci'.lm (fun p hp=>by have:=ci'.nb p hp;omega) ci'.u1 s _ cs (fun _ w2 h=>ok _ _ _ _ _ w2 _ _ _ _ _ _ (((ci'.grown h).less (by omega)).more (by omega)) hF hD hA2) (fun p _ _ _ w2 h=>ok _ _ _ _ _ w2 _ _ _ _ _ _ (((ci'.grown h).less (by omega)).more (by omega)) hF hD hA2)
    (fun p v hs hp hU hsl hv w2 v' Inb' hC _ _ co2 kp lm2=>?_) (fun p v hs hp hU hsl hv w2 Inb' val err g2 cap2 _ co2 hk lm2=>?_)
   ·exact ok _ _ _ _ _ w2 _ _ _ _ _ _ ((ci'.goes hv hC co2 (ci'.co.nS co2 (kp _ ci'.co.bkMn).2) kp lm2).more (by omega)) ((ci'.co.sz co2 (kp _ ci'.co.bkMn).2).1.trans hF) ((ci'.co.sz co2 (kp _ ci'.co.bkMn).2).2.trans hD) hA2
   ·refine (fun (nx:¬ LibEx b V p kb.bk)=>?_) (fun h=>?_)
    ·exact ok _ _ _ _ _ w2 _ _ _ _ _ _ (ci'.over hp hU hv co2 (ci'.co.nS co2 (hk _ ci'.co.bkMn nx).2) hk lm2) ((ci'.co.sz co2 (hk _ ci'.co.bkMn nx).2).1.trans hF) ((ci'.co.sz co2 (hk _ ci'.co.bkMn nx).2).2.trans hD) hA2
    rcases h with h|h|h
    ·exact ci'.lm.m.mbu.bk h.symm
    ·exact ci'.lm.m.mbn.bk h.symm
    ·exact (ci'.lm.m.mls p hp _ h).bk rfl
  ·refine bk_14 hX hA' _ cs (fun a2 hA2 d=>?_)
   have ci':=ci.grown (hG.trans (grown_at w' d))
   have ok:=ret (bkOps 14) 7 55 _ rfl rfl (by decide)
   refine x_liv (fun d1=>(must_mcall ci'.co s cl _ _ _ _ cs d1).mono (fun _ _ _ h=>h) ?_)
   rintro g2 w2 ⟨rfl,co2,kp⟩
   exact ok _ _ _ _ _ w2 _ _ _ _ _ _ (((ci'.call co2 (ci'.co.nS co2 (kp _ ci'.co.bkMn).2) kp).less (by omega)).more (by omega)) ((ci'.co.sz co2 (kp _ ci'.co.bkMn).2).1.trans hF) ((ci'.co.sz co2 (kp _ ci'.co.bkMn).2).2.trans hD) hA2
structure EX (ks:List (Nat × Obj)) (kb:Kb) (b:Lb) (l:List OpD) (L:Nat→Option Lv) (w:World):Prop where
 mn:∀ p∈ks,Mn kb L w p.1
 rc:∀ p∈ks,∀ o∈l,o.bo≠p.1
 nu:∀ p∈ks,p.1≠b.bu
 has:∀ p∈ks,w.heap[p.1]?=some p.2
section
variable {ks:List (Nat × Obj)} {kb:Kb} {b:Lb} {l:List OpD} {K:Ker} {L L':Nat→Option Lv} {r:Nat} {Inb:Nat→Option Seat} {nG:Nat} {w w':World}
theorem EX.nil:EX [] kb b l L w:=⟨fun p h=>(by cases h),fun p h=>(by cases h),fun p h=>(by cases h),fun p h=>(by cases h)⟩
theorem EX.grown (h:EX ks kb b l L w)(g:Grown w w'):EX ks kb b l L w' :=
 ⟨fun p hp=>(h.mn p hp).grow g.size,h.rc,h.nu,fun p hp=>(g.old _ (h.mn p hp).lt).trans (h.has p hp)⟩
theorem EX.sf (h:EX ks kb b l L w){p:Nat × Obj}(hp:p∈ks):sfO l p.1=0:=Br.sfO_zero (h.rc p hp)
theorem EX.add (h:EX ks kb b l L w')(co:Co kb l K L r Inb nG w){k:Nat}{o:Obj}(h1:w.heap.size≤k)(h2:w'.heap[k]?=some o)(hu:b.bu<w.heap.size):EX ((k,o)::ks) kb b l L w':=by
 have m:=co.new (w':=w') h1 (Array.getElem?_eq_some_iff.1 h2).1
 refine ⟨fun p hp=>?_,fun p hp=>?_,fun p hp=>?_,fun p hp=>?_⟩<;>rcases List.mem_cons.1 hp with rfl|hp
 ·exact m.mn
 ·exact h.mn p hp
 ·exact m.rc
 ·exact h.rc p hp
 ·show k≠b.bu;omega
 ·exact h.nu p hp
 ·exact h2
 ·exact h.has p hp
theorem EX.sub {ks':List (Nat × Obj)}(h:EX ks kb b l L w)(hs:∀ p∈ks',p∈ks):EX ks' kb b l L w:=⟨fun p hp=>h.mn p (hs p hp),fun p hp=>h.rc p (hs p hp),fun p hp=>h.nu p (hs p hp),fun p hp=>h.has p (hs p hp)⟩
theorem EX.keep (h:EX ks kb b l L w){l':List OpD}(hl:∀ p∈ks,∀ o∈l',o∈l∨o.bo≠p.1)(hk:∀ k,Mn kb L w k→k≠b.bu→Mn kb L' w' k∧w'.heap[k]?=w.heap[k]?):EX ks kb b l' L' w' :=
 ⟨fun p hp=>(hk _ (h.mn p hp) (h.nu p hp)).1,fun p hp o ho=>(hl p hp o ho).elim (h.rc p hp o) id,h.nu,fun p hp=>(hk _ (h.mn p hp) (h.nu p hp)).2.trans (h.has p hp)⟩
theorem EX.begun (h:EX ks kb b l L w){C:Ctx}{S:Ker→Strat}{H:Heap}{cs:List Frame}(hk:∀ k,Mn kb L w k→k≠b.bu→Mn kb (ConcN.upd L nG (some ⟨C,S,[C.o.bo],H,cs⟩)) w' k∧w'.heap[k]?=w.heap[k]?):EX ks kb b (C.o::l) (ConcN.upd L nG (some ⟨C,S,[C.o.bo],H,cs⟩)) w':=by
 refine h.keep (fun p hp o ho=>?_) hk
 rcases List.mem_cons.1 ho with rfl|ho
 ·right
  intro e
  have:=((hk _ (h.mn p hp) (h.nu p hp)).1.own nG _ (ConcN.upd_same ..)).1
  exact this (by rw [e];exact List.mem_singleton.2 rfl)
 ·exact .inl ho
theorem EX.cancelled (h:EX ks kb b l L w)(hk:∀ k,Mn kb L w k→k≠b.bu→Mn kb L' w' k∧w'.heap[k]?=w.heap[k]?):EX ks kb b l L' w':=h.keep (fun _ _ o ho=>.inl ho) hk
end
section
variable {l:List OpD} {main:Bool} {sft:Nat→Nat} {Stop:Goroutine→World→Prop} {b:Frame} {a:Act} {ops:Array Oper} {i:Nat} {o:Oper} {rest:List Nat} {k:List Item} {cs:List Frame} {w:World} {v:Value}
end
structure DN (ws w:World) (N:Nat→Nat) (Xs:Nat→List Value) (p:Nat) (V:Value) (dn:List Value):Prop where
 own:w.ownsRow ws.heap.size 65 1 V p dn
 row:∀ q,q<p→∃ d,dn[q]?=some (.slice (some ⟨d,0,none⟩) (N q) (N q))∧ws.heap.size≤d∧V.ownBlock≠some d∧w.rowIs d 70 (N q*5) (fun j=>(Xs q).getD j (.bool false))
structure ES (S:Nat→Prop) (wr:World) (kb:Kb) (b:Lb) (l:List OpD) (L:Nat→Option Lv) (w:World):Prop where
 mn:∀ k,S k→Mn kb L w k
 rc:∀ k,S k→∀ o∈l,o.bo≠k
 nu:∀ k,S k→k≠b.bu
 has:∀ k,S k→w.heap[k]?=wr.heap[k]?
section
variable {S:Nat→Prop} {wr:World} {kb:Kb} {b:Lb} {l:List OpD} {L L':Nat→Option Lv} {nG:Nat} {w w':World}
theorem ES.grown (h:ES S wr kb b l L w)(g:Grown w w'):ES S wr kb b l L w' :=
 ⟨fun k hk=>(h.mn k hk).grow g.size,h.rc,h.nu,fun k hk=>(g.old _ (h.mn k hk).lt).trans (h.has k hk)⟩
theorem ES.sf (h:ES S wr kb b l L w){k:Nat}(hk:S k):sfO l k=0:=Br.sfO_zero (h.rc k hk)
theorem ES.keep (h:ES S wr kb b l L w){l':List OpD}(hl:∀ k,S k→∀ o∈l',o∈l∨o.bo≠k)(hk:∀ k,Mn kb L w k→k≠b.bu→Mn kb L' w' k∧w'.heap[k]?=w.heap[k]?):ES S wr kb b l' L' w' :=
 ⟨fun k hs=>(hk _ (h.mn k hs) (h.nu k hs)).1,fun k hs o ho=>(hl k hs o ho).elim (h.rc k hs o) id,h.nu,fun k hs=>(hk _ (h.mn k hs) (h.nu k hs)).2.trans (h.has k hs)⟩
theorem ES.begun (h:ES S wr kb b l L w){C:Ctx}{St:Ker→Strat}{H:Heap}{cs:List Frame}(hk:∀ k,Mn kb L w k→k≠b.bu→Mn kb (ConcN.upd L nG (some ⟨C,St,[C.o.bo],H,cs⟩)) w' k∧w'.heap[k]?=w.heap[k]?):ES S wr kb b (C.o::l) (ConcN.upd L nG (some ⟨C,St,[C.o.bo],H,cs⟩)) w':=by
 refine h.keep (fun k hs o ho=>?_) hk
 rcases List.mem_cons.1 ho with rfl|ho
 ·right
  intro e
  have:=((hk _ (h.mn k hs) (h.nu k hs)).1.own nG _ (ConcN.upd_same ..)).1
  exact this (by rw [e];exact List.mem_singleton.2 rfl)
 ·exact .inl ho
theorem ES.cancelled (h:ES S wr kb b l L w)(hk:∀ k,Mn kb L w k→k≠b.bu→Mn kb L' w' k∧w'.heap[k]?=w.heap[k]?):ES S wr kb b l L' w':=h.keep (fun _ _ o ho=>.inl ho) hk
end
theorem DN.of {ws w w':World}{N:Nat→Nat}{Xs:Nat→List Value}{p:Nat}{V:Value}{dn:List Value}(h:DN ws w N Xs p V dn)(hk:∀ k,ws.heap.size≤k→k<w.heap.size→w'.heap[k]?=w.heap[k]?):DN ws w' N Xs p V dn :=
 ⟨owns_same h.own (fun g hg=>hk g (owns_lt h.own hg).1 (owns_lt h.own hg).2),fun q hq=>by
  obtain ⟨d,d1,d2,d3,d4⟩:=h.row q hq
  exact ⟨d,d1,d2,d3,d4.of_block (hk d d2 (row_lt d4))⟩⟩
theorem stepG_home {P:Program}{fn:Func}{b:Frame}{a:Act}{todo:List Item}{v:Value}{w:World}(hn:b.kind=.normal)(hd:a.defers=[])(hf:P.funcs[b.fn]?=some fn)(hi:P.inits.idxOf? b.fn=none)(hr:ResultsC P fn a.tmps v) :
  stepG P true (G { b.at a todo with mode:=.returning } []) w=.ended (.done v) w #[]:=by
 simp [G,stepG,unwind,doReturn,Frame.at,hn,hd,hf,hi,(hr w).1,(hr w).2,seen,GStep.after]
def Bk19 (kb:Kb)(b:Lb)(n nF nD cB len cap:Nat)(sa:Option Addr)(w0:World)(cs:List Frame):Prop :=
 ∀ (i:Nat) (l:List OpD) (K:Ker) (L:Nat→Option Lv) (r:Nat) (Inb:Nat→Option Seat) (nG:Nat) (w:World) (a:Act) (Stop:Goroutine→World→Prop) (k:List Item),Co kb l K L r Inb nG w→K.nF=nF→K.nS=n→K.nD=nD→w.heap[cB]?=w0.heap[cB]?→Lvs 77 [(1,.slice sa len cap),(2,.pointer (some ⟨cB,0,none⟩)),(5,.bool true),(6,.pointer (some ⟨kb.bk,0,none⟩)),(8,.pointer (some ⟨b.bl,0,none⟩)),(9,.int .i64 i)] a→(∀ a' w',Grown w w'→Lvs 77 [(1,.slice sa len cap),(2,.pointer (some ⟨cB,0,none⟩)),(5,.bool true),(6,.pointer (some ⟨kb.bk,0,none⟩)),(8,.pointer (some ⟨b.bl,0,none⟩)),(9,.int .i64 i)] a'→Liv Tryd.prog true true (sfO l) Stop (G ((base 5).at a' k) cs) w')→Liv Tryd.prog true true (sfO l) Stop (G ((base 5).at a (.code (.region 19 (bkOps 19) true)::k)) cs) w
set_option maxRecDepth 100000 in
theorem bk_end {Final:Machine→Trace→Prop}{w0:World}{kb:Kb}{b:Lb}{n i r:Nat}{l:List OpD}{K:Ker}{L:Nat→Option Lv}{Inb:Nat→Option Seat}{nG:Nat}{w:World}{U:Nat→Option OpD}{V:Nat→Value}{N:Nat→Nat}{Xs:Nat→List Value}(ci:CI w0 kb b n i l K L r Inb nG w U V N Xs)(k:List Item)(cs:List Frame)
  (hdone:∀ K l L r Inb nG w a,Co kb l K L r Inb nG w→(∀ g,L g=none)→(∀ k,k<w0.heap.size→w.heap[k]?=w0.heap[k]?)→Lvs 77 [(4,.bool true)] a→X Tryd.prog Final l Inb nG 0 (G ((base 5).at a (.code .ret::k)) cs) w)
  {a:Act}(hA:Lvs 77 [(5,.bool true),(8,.pointer (some ⟨b.bl,0,none⟩))] a) :
  X Tryd.prog Final l Inb nG 0 (G ((base 5).at a (.code bkEnd::k)) cs) w:=by
 refine x_liv ?_
 unfold bkEnd
 refine Br.liv_seq ?_
 refine lb_region (n:=20) (m:=0) (il:=[0,1]) (by kernel_rfl) ?_
 refine lw_val (v:=.pointer (some ⟨b.bl,0,none⟩)) hA rfl (wanted_none rfl) (by decide) (by kernel_rfl) rfl (by decide) (fun d=>run_move rfl (hA.get rfl)) (fun a (hA:Lvs 77 [(74,.pointer (some ⟨b.bl,0,none⟩)),(5,.bool true),(8,.pointer (some ⟨b.bl,0,none⟩))] a)=>?_)
 have e74:=hA.get (t:=74) rfl
 refine lv_enter (vs:=#[.pointer (some ⟨b.bl,0,none⟩)]) rfl rfl (by decide) rfl Tryd.func20 rfl rfl (by simp only [List.map_toArray,List.map_cons,List.map_nil,e74]) (fun d=>?_)
 have ci2:=ci.grown (grown_at w d)
 generalize w.at d=w2 at ci2 ⊢
 refine main_Cancel ci2.co ci2.lm _ cs (fun L' Inb' w3 co3 lm3 hk hL=>?_)
 obtain ⟨ci3,hL0⟩:=ci2.cancelled co3 lm3 hk hL
 rw [fin_at (o:=_) rfl]
 refine x_liv ?_
 refine Br.liv_region_end ?_
 refine Br.liv_seq ?_
 have hA':=(hA.put (d:=75) (by decide) (.tuple #[])).sub (env':=[(5,.bool true)]) (fun p hp=>by
  simp only [List.mem_cons,List.not_mem_nil,or_false] at hp
  rcases hp with rfl<;>rfl)
 refine lb_region (n:=21) (m:=0) (il:=[0,1]) (by kernel_rfl) ?_
 refine lw_val (v:=.bool true) hA' rfl (wanted_none rfl) (by decide) (by kernel_rfl) rfl (by decide) (fun d=>run_move rfl (hA'.get rfl)) (fun a (hA:Lvs 77 [(76,.bool true),(5,.bool true)] a)=>?_)
 refine lw_val (v:=.bool true) hA rfl (wanted_none rfl) (by decide) (by kernel_rfl) rfl (by decide) (fun d=>run_assign rfl (hA.get rfl)) (fun a (hA:Lvs 77 [(4,.bool true),(76,.bool true),(5,.bool true)] a)=>?_)
 refine Br.liv_region_end ?_
 exact fun d=>.stop (hdone _ _ _ _ _ _ _ a (co3.at d) hL0 (fun k hk=>(ci3.old k hk).2) (hA.sub (fun p hp=>by
  simp only [List.mem_cons,List.not_mem_nil,or_false] at hp
  rcases hp with rfl<;>rfl)))
theorem bk_enter (v0 v1:Value):∃ a,Frame.enter Tryd.prog 5 #[v0,v1] .normal=(base 5).at a [.code bkBody]∧Lvs 77 [(0,v0),(1,v1)] a:=by
 refine ⟨_,enter_at (c:=bkBody) _ Tryd.func5 bk_body,?_⟩
 have e:Tryd.f5.ntmps=77:=by kernel_rfl
 refine ⟨by simp [e],rfl,fun p hp=>?_⟩
 simp only [List.mem_cons,List.not_mem_nil,or_false] at hp
 rcases hp with rfl|rfl<;>simp [e]
set_option maxRecDepth 100000 in
theorem books_run (h19:∀ (kb:Kb) (b:Lb) (n nF nD cB len cap:Nat) (sa:Option Addr) (w0:World) (cs:List Frame),w0.heap[cB]?=some (.cells #[.int .i64 nF,.int .i64 n,.int .i64 nD] 30 (0,0))→Bk19 kb b n nF nD cB len cap sa w0 cs)
  (W:World)(T:Tab W)(x y z:Int)(hx:-9223372036854775808≤x∧x<9223372036854775808)(hy:-9223372036854775808≤y∧y<9223372036854775808)(hz:-9223372036854775808≤z∧z<9223372036854775808)(sa:Option Addr)(len cap:Nat)(hlen:len<4398046511104)(hS:Script W sa len) :
  ∃ N last o w' t',runNT Tryd.prog (N+1) (solo (G (Frame.enter Tryd.prog 5 #[.agg #[.int .i64 x,.int .i64 y,.int .i64 z],.slice sa len cap] .normal) []) W) #[]=(.ended o w',t')∧runN Tryd.prog N (solo (G (Frame.enter Tryd.prog 5 #[.agg #[.int .i64 x,.int .i64 y,.int .i64 z],.slice sa len cap] .normal) []) W)=.next last∧step Tryd.prog last=.ended o w' ∧
   Go.Conc.Good Tryd.prog (fun v w'=>(v=.bool true∧W.heap.size≤w'.heap.size∧∀ k,k<W.heap.size→w'.heap[k]?=W.heap[k]?)∧Br.Calm W w') last o w' t':=by
 obtain ⟨a,e,hA⟩:=bk_enter (.agg #[.int .i64 x,.int .i64 y,.int .i64 z]) (.slice sa len cap)
 rw [e]
 refine run_of_x (Post:=fun v w'=>v=.bool true∧W.heap.size≤w'.heap.size∧∀ k,k<W.heap.size→w'.heap[k]?=W.heap[k]?) (x_liv ?_)
 unfold bkBody
 refine bk_a T hA _ [] (fun a w1 hG1 hX1 hA=>?_)
 refine Br.liv_seq ?_
 have s1:=hG1.size
 refine bk_b hX1 hx hy hz hA _ [] (fun a w2 s2 hO2 hX2 hA=>?_)
 have T2:Tab w2:=T.same ((hO2 0 (Nat.lt_of_lt_of_le T.lt s1) (Nat.ne_of_lt T.lt)).trans (hG1.old 0 T.lt))
 have nx:=pickN_lt x (n:=31) (by decide)
 have ny:=pickN_lt y (n:=6) (by decide)
 have nz:=pickN_lt z (n:=5) (by decide)
 refine bk_c T2 (by omega) (by omega) (by omega) (by omega) (by omega) hX2 hA _ [] (fun a w3 kb b hG3 g1 g2 g3 g4 hco hlm hbu hA=>?_)
 have l1:W.heap.size<w1.heap.size:=(Array.getElem?_eq_some_iff.1 hX1).1
 have o2:∀ k,k<W.heap.size→w2.heap[k]?=W.heap[k]?:=fun k hk=>(hO2 k (by omega) (by omega)).trans (hG1.old k hk)
 have hS2:Script w2 sa len:=fun i hi=>by
  obtain ⟨g,o,k,s,c,a0,a1,a2,o0,o1,o2',b',rfl,lg,hr⟩:=hS i hi
  exact ⟨g,o,k,s,c,a0,a1,a2,o0,o1,o2',b',rfl,by omega,fun j v hv=>(World.cell?_of_block (w:=W) (o2 g lg)).trans (hr j v hv)⟩
 have ci:CI w2 kb b (1+pickN y 6) 0 [] (kNew (2+pickN x 31) (1+pickN y 6) (pickN z 5)) (fun _=>none) (len+0) (fun _=>none) 1 w3 (fun _=>none) (fun _=>.slice none 0 0) (fun _=>0) (fun _=>[]):=by
  refine ⟨hco _,rfl,hlm,by omega,fun p q o hp hq e=>(by cases e),fun g v h=>(by cases h),fun _ _=>Nat.le_refl _,fun p hp x hx=>(by cases hx),fun k hk=>⟨⟨Nat.lt_of_lt_of_le hk hG3.size,by omega,by omega,by omega,fun g v h=>(by cases h)⟩,hG3.old k hk⟩,?_,hbu.1,hbu.2⟩
  have:=hlm.m.is.ne
  omega
 refine Br.liv_block ?_
 refine Br.liv_loop ?_
 refine fun d=>.stop ?_
 refine bk_loop (e:=0) (nF:=2+pickN x 31) (nD:=pickN z 5) (Nat.le_of_lt hlen) (by omega:W.heap.size<w2.heap.size) hS2 _ [] (h19 kb b _ _ _ _ len cap sa w2 [] hX2) (fun l K L Inb nG w U V N Xs a ci hA=>?_) len 0 (by omega) _ _ _ _ _ _ _ _ _ _ a (ci.grown (grown_at w3 d)) rfl rfl hA
 refine bk_end (w0:=w2) ci _ [] (fun K l L r Inb nG w a co hL hO hA=>?_) (hA.sub (fun p hp=>by
  simp only [List.mem_cons,List.not_mem_nil,or_false] at hp
  rcases hp with rfl|rfl<;>rfl))
 refine x_liv (Br.liv_ret ?_)
 refine fun d=>.stop ?_
 have h4:a.tmps.getD 4 undef=.bool true:=by
  have:=hA.at (t:=4) rfl
  simp [this]
 have hres:ResultsC Tryd.prog Tryd.f5 a.tmps (.bool true):=by
  rw [← h4];exact resultsC_tmp (by kernel_rfl) _
 refine x_fin (v:=.bool true) rfl (fun d'=>stepG_home rfl hA.defers Tryd.func5 (by kernel_rfl) hres) (fun d'=>⟨rfl,?_,fun k hk=>(hO k (by omega)).trans (o2 k hk)⟩) (fun i hi=>co.none i hi (hL i))
 ·show W.heap.size≤w.heap.size
  have h:=hO W.heap.size (by omega)
  rw [hX2] at h
  have:=(Array.getElem?_eq_some_iff.1 h).1
  omega
end Go.Proofs.YtcgabodkegcpgaaDoor
namespace Go.Proofs.YtcgabodkegcpgaaDoor
set_option maxHeartbeats 20000000
theorem countTo_none {p:Nat→Bool}:∀ n,(∀ j,j<n→p j=false)→countTo p n=0
 | 0,_=>rfl
 | n+1,h=>by unfold countTo;rw [countTo_none n (fun j hj=>h j (by omega)),h n (by omega)];rfl
theorem countTo_one {p:Nat→Bool}(k:Nat)(hp:p k=true):∀ n,k<n→(∀ j,j<n→j≠k→p j=false)→countTo p n=1
 | 0,hk,_=>by omega
 | n+1,hk,h=>by
  unfold countTo
  by_cases e:k=n
  ·subst e
   rw [countTo_none k (fun j hj=>h j (by omega) (by omega)),hp];rfl
  ·rw [countTo_one k hp n (by omega) (fun j hj hne=>h j (by omega) hne),h n (by omega) (Ne.symm e)];rfl
def Ker.usedAt (K:Ker)(f:Nat)(j:Nat):Bool:=if j % 5=0 then decide (K.S (j / 5) 0≠0∧K.S (j / 5) 2=f) else decide (K.page (j / 5) (j % 5 - 1)=f)
def Ker.ringAt (K:Ker)(f:Nat)(d:Nat):Bool:=decide (K.D d 0=f)
def Ker.usesN (K:Ker)(f:Nat):Nat:=countTo (K.usedAt f) (K.nS*5)+countTo (K.ringAt f) K.nD
theorem usedAt_tab (K:Ker)(f i:Nat):K.usedAt f (i*5)=decide (K.S i 0≠0∧K.S i 2=f):=by
 have e1:i*5 % 5=0:=by omega
 have e2:i*5 / 5=i:=by omega
 unfold Ker.usedAt;rw [e2,if_pos e1]
theorem usedAt_page (K:Ker)(f i j:Nat)(hj:j<4):K.usedAt f (i*5+1+j)=decide (K.page i j=f):=by
 have e1:¬ (i*5+1+j) % 5=0:=by omega
 have e2:(i*5+1+j) / 5=i:=by omega
 have e3:(i*5+1+j) % 5 - 1=j:=by omega
 unfold Ker.usedAt;rw [if_neg e1,e2,e3]
theorem usedAt_place {K:Ker}{f j:Nat}(hj:j<K.nS*5)(h:K.usedAt f j=true):∃ x,K.has x∧K.loc x=f∧((∃ i,x=.tab i∧j=i*5)∨∃ i p,x=.page i p∧p<4∧j=i*5+1+p):=by
 by_cases e:j % 5=0
 ·obtain ⟨i,rfl⟩:∃ i,j=i*5:=⟨j / 5,by omega⟩
  rw [usedAt_tab] at h
  obtain ⟨h1,h2⟩:=of_decide_eq_true h
  exact ⟨.tab i,(by show i<K.nS;omega),by show (if K.S i 0=0 then -1 else K.S i 2)=_;rw [if_neg h1];exact h2,.inl ⟨i,rfl,rfl⟩⟩
 ·obtain ⟨i,p,hp,rfl⟩:∃ i p,p<4∧j=i*5+1+p:=⟨j / 5,j % 5 - 1,by omega,by omega⟩
  rw [usedAt_page K f i p hp] at h
  exact ⟨.page i p,⟨by omega,hp⟩,of_decide_eq_true h,.inr ⟨i,p,rfl,hp,rfl⟩⟩
theorem ringAt_place {K:Ker}{f d:Nat}(h:K.ringAt f d=true):K.loc (.ring d)=f:=of_decide_eq_true h
theorem uses_right {K:Ker}(O:Own K){f:Nat}(hf:f<K.nF):K.usesN f=if K.F f 0=0 then 0 else 1:=by
 unfold Ker.usesN
 by_cases h0:K.F f 0=0
 ·rw [if_pos h0,countTo_none _ (fun j hj=>?_),countTo_none _ (fun d hd=>?_)]
  ·cases h:K.ringAt f d with
   | false=>rfl
   | true=>exact absurd ((O.what (.ring d) hd f (ringAt_place h)).1.symm.trans h0) (Place.kind_ne _)
  ·cases h:K.usedAt f j with
   | false=>rfl
   | true =>
    obtain ⟨x,h1,h2,_⟩:=usedAt_place hj h
    exact absurd ((O.what x h1 f h2).1.symm.trans h0) (Place.kind_ne x)
 ·rw [if_neg h0]
  obtain ⟨x,hx,hl⟩:=O.all f hf h0
  cases x with
  | tab i =>
   have hi:i<K.nS:=hx
   have hk:K.S i 0≠0:=fun e=>by
    have:(if K.S i 0=0 then (-1:Int) else K.S i 2)=f:=hl
    rw [if_pos e] at this;omega
   have hl':K.S i 2=f:=by
    have:(if K.S i 0=0 then (-1:Int) else K.S i 2)=f:=hl
    rwa [if_neg hk] at this
   rw [countTo_one (i*5) (by rw [usedAt_tab];exact decide_eq_true ⟨hk,hl'⟩) _ (by omega) (fun j hj hne=>?_),countTo_none _ (fun d hd=>?_)]
   ·cases h:K.ringAt f d with
    | false=>rfl
    | true=>exact absurd (O.one (.ring d) (.tab i) hd hx f (ringAt_place h) hl) (by simp)
   ·cases h:K.usedAt f j with
    | false=>rfl
    | true =>
     obtain ⟨y,h1,h2,h3⟩:=usedAt_place hj h
     obtain rfl:=O.one y (.tab i) h1 hx f h2 hl
     rcases h3 with ⟨i',e,rfl⟩|⟨i',p,e,_⟩
     ·obtain rfl:=Place.tab.inj e;exact absurd rfl hne
     ·cases e
  | page i p =>
   obtain ⟨hi,hp⟩:i<K.nS∧p<4:=hx
   rw [countTo_one (i*5+1+p) (by rw [usedAt_page K f i p hp];exact decide_eq_true hl) _ (by omega) (fun j hj hne=>?_),countTo_none _ (fun d hd=>?_)]
   ·cases h:K.ringAt f d with
    | false=>rfl
    | true=>exact absurd (O.one (.ring d) (.page i p) hd ⟨hi,hp⟩ f (ringAt_place h) hl) (by simp)
   ·cases h:K.usedAt f j with
    | false=>rfl
    | true =>
     obtain ⟨y,h1,h2,h3⟩:=usedAt_place hj h
     obtain rfl:=O.one y (.page i p) h1 ⟨hi,hp⟩ f h2 hl
     rcases h3 with ⟨i',e,_⟩|⟨i',p',e,_,rfl⟩
     ·cases e
     ·obtain ⟨rfl,rfl⟩:=Place.page.inj e;exact absurd rfl hne
  | ring d =>
   have hd:d<K.nD:=hx
   rw [countTo_none _ (fun j hj=>?_),countTo_one d (decide_eq_true hl) _ hd (fun d' hd' hne=>?_)]
   ·cases h:K.ringAt f d' with
    | false=>rfl
    | true=>exact absurd (Place.ring.inj (O.one (.ring d') (.ring d) hd' hd f (ringAt_place h) hl)) hne
   ·cases h:K.usedAt f j with
    | false=>rfl
    | true =>
     obtain ⟨y,h1,h2,h3⟩:=usedAt_place hj h
     obtain rfl:=O.one y (.ring d) h1 hd f h2 hl
     rcases h3 with ⟨i',e,_⟩|⟨i',p',e,_⟩<;>cases e
end Go.Proofs.YtcgabodkegcpgaaDoor
