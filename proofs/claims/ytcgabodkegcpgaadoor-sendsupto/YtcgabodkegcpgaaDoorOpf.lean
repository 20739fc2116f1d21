/- The operation's own memory, and its call in company. -/
import Derived.Test.YtcgabodkegcpgaaDoorOpr
set_option linter.unusedVariables false
set_option linter.unusedSimpArgs false
set_option maxHeartbeats 20000000
set_option maxRecDepth 100000
namespace Go.Proofs.YtcgabodkegcpgaaDoor
open Go.Conc
open Br (OpD KO SO SP sfO Lk Fit Must DL Liv Clear)
def oRow (C:Ctx)(err val:Int)(free:Value)(un go:Bool):Array Value :=
 #[.chan (some C.o.tu),.chan (some C.o.to),.chan (some C.o.en),.pointer (some ⟨C.bk,0,none⟩),.int .i64 C.slot,.int .i64 C.kd,.int .i64 C.A,.int .i64 C.B,.int .i64 err,.int .i64 val,free,.bool un,.bool go]
abbrev Heap:=Nat→Obj
def Heap.set (H:Heap)(b:Nat)(x:Obj):Heap:=fun i=>if i=b then x else H i
theorem Heap.set_same (H:Heap)(b:Nat)(x:Obj):H.set b x b=x:=by simp [Heap.set]
theorem Heap.set_other (H:Heap){b i:Nat}(x:Obj)(h:i≠b):H.set b x i=H i:=by simp [Heap.set,h]
def Has (pv:List Nat)(H:Heap)(w:World):Prop:=∀ i∈pv,w.heap[i]?=some (H i)
structure Pv (C:Ctx) (pv:List Nat):Prop where
 rc:C.o.bo∈pv
 ap:∀ i∈pv,i≠C.bk∧i≠C.bf∧i≠C.bs∧i≠C.bd∧i≠0
structure Mine (C:Ctx) (pv:List Nat) (w w':World):Prop where
 size:w.heap.size≤w'.heap.size
 block:∀ k,k<w.heap.size→k ∉ pv→k≠C.bf→k≠C.bs→k≠C.bd→w'.heap[k]?=w.heap[k]?
theorem Mine.refl (C:Ctx)(pv:List Nat)(w:World):Mine C pv w w:=⟨Nat.le_refl _,fun _ _ _ _ _ _=>rfl⟩
theorem Mine.trans {C:Ctx}{pv pv':List Nat}{a b c:World}(h:Mine C pv a b)(k:Mine C pv' b c)(hp:∀ i∈pv',i∈pv∨a.heap.size≤i):Mine C pv a c :=
 ⟨Nat.le_trans h.size k.size,fun i hi h0 h1 h2 h3=>(k.block i (Nat.lt_of_lt_of_le hi h.size) (fun hh=>(hp i hh).elim h0 (fun z=>by omega)) h1 h2 h3).trans (h.block i hi h0 h1 h2 h3)⟩
structure At (C:Ctx) (l:List OpD) (K:Ker) (pv:List Nat) (H:Heap) (free:Value) (un go:Bool) (w:World):Prop where
 env:Env C l K w
 mem:C.o∈l
 own:Pv C pv
 has:Has pv H w
 row:∃ t,H C.o.bo=.cells (oRow C 0 0 free un go) t (0,0)
 top:0≠C.bf∧0≠C.bs∧0≠C.bd
 far:∀ i∈pv,i≠C.o.bo→∀ o∈l,o.bo≠i
section
variable {C:Ctx} {l:List OpD} {K:Ker} {pv:List Nat} {H:Heap} {free:Value} {un go:Bool} {w:World}
theorem At.blk (A:At C l K pv H free un go w):∃ t,w.heap[C.o.bo]?=some (.cells (oRow C 0 0 free un go) t (0,0)):=by
 obtain ⟨t,h⟩:=A.row
 exact ⟨t,by rw [A.has _ A.own.rc,h]⟩
theorem At.cell (A:At C l K pv H free un go w){j:Nat}{x:Value}(h:(oRow C 0 0 free un go)[j]?=some x):w.cell? ⟨C.o.bo,j,none⟩=some x:=by
 obtain ⟨t,hb⟩:=A.blk
 simp only [World.cell?,hb]
 simpa using h
theorem At.clear (A:At C l K pv H free un go w):Clear w:=A.env.fit.clear
theorem row_set (r:Array Value)(t:TypeId)(j:Nat)(x:Value)(w:World)(bo:Nat)(h:w.heap[bo]?=some (.cells r t (0,0))):(w.setCell ⟨bo,j,none⟩ x).heap[bo]?=some (.cells (r.setIfInBounds j x) t (0,0)):=by
 rw [Br.heap_setCell,if_pos rfl,h];rfl
theorem At.turn (A:At C l K pv H free un go w){K':Ker}{w':World}(hR:Rep w' C.bk C.bf C.bs C.bd K')(hI:Invb K')(hF:Fit (sfO l) w')(M:Mine C [C.o.bo] w w'){t:TypeId}{un' go':Bool}{free':Value}(hb:w'.heap[C.o.bo]?=some (.cells (oRow C 0 0 free' un' go') t (0,0))) :
  At C l K' pv (H.set C.o.bo (.cells (oRow C 0 0 free' un' go') t (0,0))) free' un' go' w':=by
 have hk:∀ k,k<w.heap.size→k≠C.o.bo→k≠C.bf→k≠C.bs→k≠C.bd→w'.heap[k]?=w.heap[k]?:=fun k hk h0=>M.block k hk (by simpa using h0)
 have hlt:∀ i∈pv,i<w.heap.size:=fun i hi=>(Array.getElem?_eq_some_iff.1 (A.has i hi)).1
 refine ⟨⟨hR,A.env.tab.same (hk 0 A.env.tab.lt (Ne.symm (A.env.ap _ A.mem).2.2.2.2) A.top.1 A.top.2.1 A.top.2.2),hI,hF,fun o ho=>?_,A.env.ap⟩,A.mem,A.own,fun i hi=>?_,⟨t,Heap.set_same _ _ _⟩,A.top,A.far⟩
 ·by_cases e:o.bo=C.o.bo
  ·obtain ⟨c,t',h0,h1,h2,h3⟩:=A.env.ko o ho
   obtain ⟨t2,hb0⟩:=A.blk
   rw [e,hb0] at h0
   obtain ⟨rfl,rfl,_⟩:=Obj.cells.inj (Option.some.inj h0)
   exact ⟨oRow C 0 0 free' un' go',t,by rw [e];exact hb,h1,h2,h3⟩
  ·obtain ⟨c,t',h0,h1⟩:=A.env.ko o ho
   obtain ⟨_,a1,a2,a3,_⟩:=A.env.ap o ho
   exact ⟨c,t',by rw [hk _ (Br.KO.lt A.env.ko ho) e a1 a2 a3];exact h0,h1⟩
 ·by_cases e:i=C.o.bo
  ·subst e;rw [Heap.set_same];exact hb
  ·rw [Heap.set_other _ _ e]
   obtain ⟨_,a1,a2,a3,_⟩:=A.own.ap i hi
   rw [hk i (hlt i hi) e a1 a2 a3]
   exact A.has i hi
theorem call_tail_must (A:At C l K pv H free un false w)(num a b c:Int){bx:Nat}(hx:bx∈pv)(hbx:bx≠C.o.bo){tx:TypeId}{fx:Nat × Nat}(hH:H bx=.cells #[.int .i64 a,.int .i64 b,.int .i64 c] tx fx)(fr:Frame)(cs:List Frame){Stop:Goroutine→World→Prop}
  (hn:∀ (t:TypeId) (w':World),At C l (kCall K C.slot num a b c).K pv (H.set C.o.bo (.cells (oRow C 0 0 free false ((kCall K C.slot num a b c).e == 3)) t (0,0))) free false ((kCall K C.slot num a b c).e == 3) w'→Mine C [C.o.bo] w w' →
   ∀ d,Must Tryd.prog false (DL true (sfO l)) Stop (G (fr.finish (.tuple #[.int .i64 (kCall K C.slot num a b c).n,.int .i64 (kCall K C.slot num a b c).e])) cs) (w'.at d))(d0:Nat) :
  Must Tryd.prog false (DL true (sfO l)) Stop (G ((base 84).at ⟨callTmps C.o.bo bx num a b c (.bool true) (.bool false) (.bool false),[]⟩ [.code callTail]) (fr::cs)) (w.at d0):=by
 obtain ⟨z1,z2,z3⟩:=A.env.zero
 obtain ⟨t,hb⟩:=A.blk
 have hbx':w.heap[bx]?=some (.cells #[.int .i64 a,.int .i64 b,.int .i64 c] tx fx):=by rw [A.has bx hx,hH]
 have hz:∀ v,Lk (sfO l) v (w.at d0)→∀ j,3≤j→v.frozen? ⟨C.o.bo,j,none⟩=false:=fun v hv j hj=>by
  have:=hv.heap C.o.bo
  rw [show (w.at d0).heap=w.heap from rfl,hb,Br.sfO_mem A.mem] at this
  simp only [World.frozen?,this,Option.map_some,Br.fz]
  simp
  omega
 have key:=fun v (hv:Lk (sfO l) v (w.at d0))=>call_tail (bo:=C.o.bo) (bx:=bx) (x11:=.bool un) (x12:=.bool false) (rep_to hv z1 z2 z3 (A.env.rep.same (w':=w.at d0) (Nat.le_refl _) (fun _ _ _=>rfl))) (tab_to hv (A.env.tab.same (w':=w.at d0) rfl)) A.env.inv.good C.slot num a b c
  (by rw [hv.cell];exact A.cell rfl) (by rw [hv.cell];exact A.cell rfl) (by rw [hv.cell];exact A.cell rfl) (by rw [hv.cell];exact A.cell rfl) (hz v hv 11 (by omega)) (hz v hv 12 (by omega))
  (by rw [hv.cell];show (w.at d0).cell? _=_;simp [World.cell?,World.at,hbx']) (by rw [hv.cell];show (w.at d0).cell? _=_;simp [World.cell?,World.at,hbx']) (by rw [hv.cell];show (w.at d0).cell? _=_;simp [World.cell?,World.at,hbx'])
  hbx (A.env.ap _ A.mem) ⟨(A.own.ap bx hx).2.1,(A.own.ap bx hx).2.2.1,(A.own.ap bx hx).2.2.2.1⟩
 refine (Br.must_wp Br.rules (sft:=sfO l) (b:=base 84) (w0:=w.at d0) (by kernel_rfl) rfl rfl ⟨_,Tryd.func84⟩ ⟨A.env.fit.soft,A.env.fit.clear⟩ false (Q:=fun e a' v'=>(e=.ret∧a'.defers=[]∧a'.tmps.getD 6 undef=.int .i64 (kCall K C.slot num a b c).n∧a'.tmps.getD 7 undef=.int .i64 (kCall K C.slot num a b c).e∧Rep v' C.bk C.bf C.bs C.bd (kCall K C.slot num a b c).K)∧∃ v,Lk (sfO l) v (w.at d0)∧v.heap.size≤v'.heap.size ∧
   (∀ k,k<v.heap.size→k≠C.bf→k≠C.bs→k≠C.bd→v'.heap[k]?=((v.setCell ⟨C.o.bo,11,none⟩ (.bool false)).setCell ⟨C.o.bo,12,none⟩ (.bool ((kCall K C.slot num a b c).e == 3))).heap[k]?)) (fun e a w h=>.inr h.1.1)
  (fun v hv=>Code.wp_mono (fun e a' v' h=>⟨⟨h.1,h.2.1,h.2.2.1,h.2.2.2.1,h.2.2.2.2.1⟩,v,hv,h.2.2.2.2.2.1,h.2.2.2.2.2.2⟩) (key v hv)) [] (fr::cs)).keep.then ?_
 rintro g w' ⟨⟨e,a',v',⟨⟨rfl,hd,h6,h7,hR⟩,v,hv,hsz,hblk⟩,hl',hg⟩,hkp⟩
 have hs1:w.heap.size≤w'.heap.size:=by rw [← hl'.size];exact Nat.le_trans (Nat.le_of_eq hv.size.symm) hsz
 have hvs:v.heap.size=w.heap.size:=hv.size
 have M:Mine C [C.o.bo] w w':=by
  refine ⟨hs1,fun k hk h0 h1 h2 h3=>?_⟩
  have hk0:C.o.bo≠k:=fun e=>h0 (by simp [e])
  refine same_block (w:=w.at d0) hkp hv hl' ?_
  rw [hblk k (by omega) h1 h2 h3,Br.heap_setCell,if_neg hk0,Br.heap_setCell,if_neg hk0]
 have hbo:C.o.bo<w.heap.size:=(Array.getElem?_eq_some_iff.1 hb).1
 obtain ⟨_,a1,a2,a3,_⟩:=A.env.ap _ A.mem
 have hb':w'.heap[C.o.bo]?=some (.cells (oRow C 0 0 free false ((kCall K C.slot num a b c).e == 3)) t (0,0)):=by
  have e1:=hblk C.o.bo (by omega) a1 a2 a3
  have e2:v.heap[C.o.bo]?=some (.cells (oRow C 0 0 free un false) t (0,3)):=by
   rw [hv.heap,show (w.at d0).heap=w.heap from rfl,hb,Br.sfO_mem A.mem];rfl
  rw [Br.heap_setCell,if_pos rfl,Br.heap_setCell,if_pos rfl,e2] at e1
  have e3:=hl'.heap C.o.bo
  rw [e1,Br.sfO_mem A.mem] at e3
  obtain ⟨c',t',h'⟩:=hl'.soft C.o.bo (by rw [Br.sfO_mem A.mem];omega)
  rw [h'] at e3 ⊢
  simp only [Option.map_some,Br.fz,Option.some.injEq,Obj.cells.injEq] at e3
  obtain ⟨e4,e5,_⟩:=e3
  rw [← e4,← e5]
  rfl
 have A':=A.turn (rep_back hl' z1 z2 z3 hR) (invb_call A.env.inv C.slot num a b c) hl'.fit M hb'
 rcases hg with ⟨h,_⟩|⟨_,todo,rfl⟩
 ·cases h
 ·have hres:Go.Conc.ResultsC Tryd.prog Tryd.f84 a'.tmps (.tuple #[.int .i64 (kCall K C.slot num a b c).n,.int .i64 (kCall K C.slot num a b c).e]):=by
   have:=resultsC_tmp2 (P:=Tryd.prog) (fn:=Tryd.f84) (t:=6) (u:=7) rfl a'.tmps
   rw [h6,h7] at this
   exact this
  exact Br.liv_must (Br.liv_leave (b:=base 84) (todo:=todo) rfl hd Tryd.func84 hres (hn t w' A' M))
end
end Go.Proofs.YtcgabodkegcpgaaDoor
namespace Go.Proofs.YtcgabodkegcpgaaDoor
open Go.Conc Go.RowKit
open Br (OpD KO SO SP sfO Lk Fit Must DL Liv Clear)
section
variable {C:Ctx} {l:List OpD} {K:Ker} {pv:List Nat} {H:Heap} {free:Value} {un go:Bool} {w:World}
theorem At.alloc (A:At C l K pv H free un go w){x:Obj}(hx:Br.Obj.sight x):At C l K (w.heap.size::pv) (H.set w.heap.size x) free un go (w.alloc x):=by
 have hlt:∀ i∈pv,i<w.heap.size:=fun i hi=>(Array.getElem?_eq_some_iff.1 (A.has i hi)).1
 have hal:∀ k,k<w.heap.size→(w.alloc x).heap[k]?=w.heap[k]?:=fun k hk=>Below.heap_alloc w x k hk
 have hR:=A.env.rep
 have hL:=Br.lk_new A.env.fit.clear.lk hx
 refine ⟨⟨hR.alloc x,A.env.tab.alloc x,A.env.inv,⟨fun i hi=>?_,hL.1.sight⟩,fun o ho=>?_,A.env.ap⟩,A.mem,⟨List.mem_cons_of_mem _ A.own.rc,fun i hi=>?_⟩,fun i hi=>?_,?_,A.top,fun i hi h0 o ho=>?_⟩
 ·obtain ⟨c,t,h⟩:=A.env.fit.soft i hi
  exact ⟨c,t,by rw [hal i (Array.getElem?_eq_some_iff.1 h).1];exact h⟩
 ·obtain ⟨c,t,h0,h1⟩:=A.env.ko o ho
  exact ⟨c,t,by rw [hal _ (Br.KO.lt A.env.ko ho)];exact h0,h1⟩
 ·rcases List.mem_cons.1 hi with rfl|hi
  ·have:=hR.lk;have:=hR.lf;have:=hR.ls;have:=hR.ld;have:=A.env.tab.lt
   refine ⟨?_,?_,?_,?_,?_⟩<;>omega
  ·exact A.own.ap i hi
 ·rcases List.mem_cons.1 hi with rfl|hi
  ·rw [Heap.set_same]
   show (w.heap.push x)[w.heap.size]?=_
   simp
  ·have:=hlt i hi
   rw [Heap.set_other _ _ (by omega),hal i this]
   exact A.has i hi
 ·obtain ⟨t,h⟩:=A.row
  have:=hlt _ A.own.rc
  exact ⟨t,by rw [Heap.set_other _ _ (by omega)];exact h⟩
 ·rcases List.mem_cons.1 hi with rfl|hi
  ·exact Nat.ne_of_lt (Br.KO.lt A.env.ko ho)
  ·exact A.far i hi h0 o ho
theorem mine_alloc (pv:List Nat)(x:Obj):Mine C pv w (w.alloc x):=⟨by simp,fun k hk _ _ _ _=>Below.heap_alloc w x k hk⟩
noncomputable def callFr (bo bx:Nat)(num a b c:Int):Frame :=
 match Tryd.f84.body with
 | some (.seq _ (.seq (.seq (.region _ ops _) k) t))=>(base 84).at ⟨callTmps bo bx num a b c undef undef undef,[]⟩ [.inRegion ops [6,7,8],.code k,.code t]
 | _=>default
noncomputable def callBody:Code:=(Tryd.f84.body).getD .skip
abbrev callArgs (o:OpD)(num a b c:Int):Array Value:=#[pO o,.int .i64 num,.agg #[.int .i64 a,.int .i64 b,.int .i64 c]]
abbrev boxed (a b c:Int):Obj:=.cells #[.int .i64 a,.int .i64 b,.int .i64 c] 33 (0,0)
theorem call_enter (o:OpD)(num a b c:Int):Frame.enter Tryd.prog 84 (callArgs o num a b c) .normal=(base 84).at ⟨#[pO o,.int .i64 num,.agg #[.int .i64 a,.int .i64 b,.int .i64 c],undef,undef,undef,undef,undef,undef,undef,undef,undef,undef,undef,undef,undef,undef,undef,undef,
  undef,undef,undef,undef,undef,undef,undef,undef,undef,undef,undef,undef,undef,undef,undef,undef,undef,undef,undef,undef,undef,undef,undef,undef,undef,undef,undef],[]⟩ [.code callBody]:=by
 rw [enter_at (c:=callBody) _ Tryd.func84 rfl]
 refine congrArg (fun t=>(base 84).at ⟨t,[]⟩ [.code callBody]) ?_
 kernel_rfl
theorem call_next (A:At C l K pv H free un false w)(num a b c:Int)(fr:Frame)(cs:List Frame){Stop:Goroutine→World→Prop}
  (hn:∀ d,Must Tryd.prog false (DL true (sfO l)) Stop (G (Frame.enter Tryd.prog 95 #[pO C.o] .normal) (callFr C.o.bo w.heap.size num a b c::fr::cs)) ((w.alloc (boxed a b c)).at d))(d0:Nat) :
  Must Tryd.prog false (DL true (sfO l)) Stop (G (Frame.enter Tryd.prog 84 (callArgs C.o num a b c) .normal) (fr::cs)) (w.at d0):=by
 have hc:=A.clear
 rw [call_enter]
 unfold callFr callTmps at hn
 simp only [callBody,Tryd.f84,Option.getD_some,pO] at *
 refine Br.liv_seq (fun d=>?_) _
 refine Br.liv_region (fun d=>?_) _
 simp only [Br.rz,Br.ix,Nat.reduceAdd]
 refine Br.must_operW rfl rfl (by decide) (fun d K hK=>?_) _
 go_simp
 refine hK _ _ ⟨Br.dl_alloc (fun e he=>?_),?_⟩
 ·have hm:=mem_listed he
  simp [go_sem] at hm
 clear hK K
 rw [show (w.at d).alloc (boxed a b c)=(w.alloc (boxed a b c)).at d from rfl]
 have A:At C l _ _ _ free un false (w.alloc (boxed a b c)):=A.alloc trivial
 generalize w.alloc (boxed a b c)=W at *
 have hcW:=A.clear
 refine Br.mo rfl rfl hcW (fun d K hK=>?_) _
 go_simp
 refine hK _ _ ⟨rfl,?_⟩
 clear hK K
 refine Br.mo rfl rfl hcW (fun d K hK=>?_) _
 go_simp
 refine hK _ _ ⟨rfl,?_⟩
 clear hK K
 refine Br.liv_region_end (fun d=>?_) _
 refine Br.liv_seq (fun d=>?_) _
 refine Br.liv_seq (fun d=>?_) _
 refine Br.liv_region (fun d=>?_) _
 simp only [Br.rz,Br.ix,Nat.reduceAdd]
 refine Br.mo rfl rfl hcW (fun d K hK=>?_) _
 go_simp
 refine hK _ _ ⟨rfl,?_⟩
 clear hK K
 refine Br.mo rfl rfl hcW (fun d K hK=>?_) _
 go_simp
 refine hK _ _ ⟨rfl,?_⟩
 clear hK K
 refine Br.mo rfl rfl hcW (fun d K hK=>?_) _
 go_simp
 refine hK _ _ ⟨rfl,?_⟩
 clear hK K
 refine Br.mo rfl rfl hcW (fun d K hK=>?_) _
 have e12:(W.at d).cell? ⟨C.o.bo,12,none⟩=some (.bool false):=A.cell rfl
 go_simp
 refine hK _ _ ⟨rfl,?_⟩
 clear hK K
 refine Br.mo rfl rfl hcW (fun d K hK=>?_) _
 go_simp
 refine hK _ _ ⟨rfl,?_⟩
 clear hK K
 refine Br.mo rfl rfl hcW (fun d K hK=>?_) _
 go_simp
 refine hK _ _ ⟨rfl,?_⟩
 clear hK K
 refine Br.mc rfl (fun u=>stepG_call rfl rfl (by decide) rfl Tryd.func95 rfl rfl (vs:=#[pO C.o]) (by simp [Act.eval]) u) (fun d=>?_) _
 exact hn d
theorem call_yes {bx:Nat}(num a b c:Int)(hcW:Clear w)(fr:Frame)(cs:List Frame){Stop:Goroutine→World→Prop}
  (hn:∀ d,Must Tryd.prog false (DL true (sfO l)) Stop (G ((base 84).at ⟨callTmps C.o.bo bx num a b c (.bool true) (.bool false) (.bool false),[]⟩ [.code callTail]) (fr::cs)) (w.at d))(d0:Nat) :
  Must Tryd.prog false (DL true (sfO l)) Stop (G ((callFr C.o.bo bx num a b c).finish (.bool true)) (fr::cs)) (w.at d0):=by
 unfold callFr callTmps callTail at *
 simp only [Tryd.f84] at *
 rw [Frame.finish_at]
 go_simp
 refine Br.mo rfl rfl hcW (fun d K hK=>?_) _
 go_simp
 refine hK _ _ ⟨rfl,?_⟩
 clear hK K
 refine Br.mo rfl rfl hcW (fun d K hK=>?_) _
 go_simp
 refine hK _ _ ⟨rfl,?_⟩
 clear hK K
 refine Br.liv_region_end (fun d=>?_) _
 refine Br.mc rfl (fun u=>stepG_cond (t:=false) rfl) (fun d=>?_) _
 simp only [if_true,if_false,Bool.false_eq_true,↓reduceIte]
 refine Br.liv_skip (fun d=>?_) _
 exact hn _
theorem call_no {W:World}{bx:Nat}(A:At C l K pv H free un go W)(num a b c:Int)(fr:Frame)(cs:List Frame){Stop:Goroutine→World→Prop}
  (hn:∀ d,Must Tryd.prog false (DL true (sfO l)) Stop (G (fr.finish (.tuple #[.int .i64 0,.int .i64 3])) cs) ((W.setCell ⟨C.o.bo,12,none⟩ (.bool true)).at d))(d0:Nat) :
  Must Tryd.prog false (DL true (sfO l)) Stop (G ((callFr C.o.bo bx num a b c).finish (.bool false)) (fr::cs)) (W.at d0):=by
 have hcW:=A.clear
 unfold callFr callTmps
 simp only [Tryd.f84]
 rw [Frame.finish_at]
 go_simp
 refine Br.mo rfl rfl hcW (fun d K hK=>?_) _
 go_simp
 refine hK _ _ ⟨rfl,?_⟩
 clear hK K
 refine Br.mo rfl rfl hcW (fun d K hK=>?_) _
 go_simp
 refine hK _ _ ⟨rfl,?_⟩
 clear hK K
 refine Br.liv_region_end (fun d=>?_) _
 refine Br.mc rfl (fun u=>stepG_cond (t:=true) rfl) (fun d=>?_) _
 simp only [if_true,if_false,Bool.false_eq_true,↓reduceIte]
 refine Br.liv_seq (fun d=>?_) _
 refine Br.liv_region (fun d=>?_) _
 simp only [Br.rz,Br.ix,Nat.reduceAdd]
 refine Br.mo rfl rfl hcW (fun d K hK=>?_) _
 go_simp
 refine hK _ _ ⟨rfl,?_⟩
 clear hK K
 refine Br.mo rfl rfl hcW (fun d K hK=>?_) _
 go_simp
 refine hK _ _ ⟨rfl,?_⟩
 clear hK K
 refine Br.mo rfl rfl hcW (fun d K hK=>?_) _
 go_simp
 refine hK _ _ ⟨rfl,?_⟩
 clear hK K
 refine Br.must_operW rfl rfl (by decide) (fun d K hK=>?_) _
 have e12:(W.at d).cell? ⟨C.o.bo,12,none⟩=some (.bool go):=A.cell rfl
 have ez:(W.at d).frozen? ⟨C.o.bo,12,none⟩=false:=(ko_cells A.env.ko A.mem).2.2.2 12
 go_simp
 refine hK _ _ ⟨Br.dl_store (by rw [Br.sfO_mem A.mem];show 3≤12;omega) (World.block_lt_of_cell? _ _ e12) (fun e he=>?_),?_⟩
 ·have hm:=mem_listed he
  simp only [go_sem] at hm
  simp [go_sem] at hm
  rw [events_store _ _ _ _ _ _ rfl,e12] at hm
  rw [ez] at hm
  simp only [Bool.false_eq_true,if_false,List.push_toArray,List.nil_append,List.mem_toArray,List.mem_cons,List.not_mem_nil,or_false] at hm
  exact hm
 clear hK K e12 ez
 rw [show (W.at d).setCell ⟨C.o.bo,12,none⟩ (.bool true)=(W.setCell ⟨C.o.bo,12,none⟩ (.bool true)).at d from rfl]
 have hcW:Clear (W.setCell ⟨C.o.bo,12,none⟩ (.bool true)):=(Br.lk_setCell hcW.lk (Nat.zero_le _) _).1.sight
 refine Br.liv_region_end (fun d=>?_) _
 refine Br.liv_seq (fun d=>?_) _
 refine Br.liv_region (fun d=>?_) _
 simp only [Br.rz,Br.ix,Nat.reduceAdd]
 refine Br.mo rfl rfl hcW (fun d K hK=>?_) _
 go_simp
 refine hK _ _ ⟨rfl,?_⟩
 clear hK K
 refine Br.mo rfl rfl hcW (fun d K hK=>?_) _
 go_simp
 refine hK _ _ ⟨rfl,?_⟩
 clear hK K
 refine Br.liv_region_end (fun d=>?_) _
 refine Br.liv_ret (fun d=>?_) _
 exact Br.liv_leave (v:=.tuple #[.int .i64 0,.int .i64 3]) rfl rfl Tryd.func84 (resultsC_tmp2 (t:=6) (u:=7) rfl _) (w:=W.setCell ⟨C.o.bo,12,none⟩ (.bool true)) hn _
theorem call_gone (A:At C l K pv H free un true w)(num a b c:Int)(fr:Frame)(cs:List Frame){Stop:Goroutine→World→Prop}
  (hn:∀ d,Must Tryd.prog false (DL true (sfO l)) Stop (G (fr.finish (.tuple #[.int .i64 0,.int .i64 3])) cs) (((w.alloc (boxed a b c)).setCell ⟨C.o.bo,12,none⟩ (.bool true)).at d))(d0:Nat) :
  Must Tryd.prog false (DL true (sfO l)) Stop (G (Frame.enter Tryd.prog 84 (callArgs C.o num a b c) .normal) (fr::cs)) (w.at d0):=by
 have hc:=A.clear
 rw [call_enter]
 simp only [callBody,Tryd.f84,Option.getD_some,pO] at *
 refine Br.liv_seq (fun d=>?_) _
 refine Br.liv_region (fun d=>?_) _
 simp only [Br.rz,Br.ix,Nat.reduceAdd]
 refine Br.must_operW rfl rfl (by decide) (fun d K hK=>?_) _
 go_simp
 refine hK _ _ ⟨Br.dl_alloc (fun e he=>?_),?_⟩
 ·have hm:=mem_listed he
  simp [go_sem] at hm
 clear hK K
 rw [show (w.at d).alloc (boxed a b c)=(w.alloc (boxed a b c)).at d from rfl]
 have A:At C l _ _ _ free un true (w.alloc (boxed a b c)):=A.alloc trivial
 generalize w.alloc (boxed a b c)=W at *
 have hcW:=A.clear
 refine Br.mo rfl rfl hcW (fun d K hK=>?_) _
 go_simp
 refine hK _ _ ⟨rfl,?_⟩
 clear hK K
 refine Br.mo rfl rfl hcW (fun d K hK=>?_) _
 go_simp
 refine hK _ _ ⟨rfl,?_⟩
 clear hK K
 refine Br.liv_region_end (fun d=>?_) _
 refine Br.liv_seq (fun d=>?_) _
 refine Br.liv_seq (fun d=>?_) _
 refine Br.liv_region (fun d=>?_) _
 simp only [Br.rz,Br.ix,Nat.reduceAdd]
 refine Br.mo rfl rfl hcW (fun d K hK=>?_) _
 go_simp
 refine hK _ _ ⟨rfl,?_⟩
 clear hK K
 refine Br.mo rfl rfl hcW (fun d K hK=>?_) _
 go_simp
 refine hK _ _ ⟨rfl,?_⟩
 clear hK K
 refine Br.mo rfl rfl hcW (fun d K hK=>?_) _
 go_simp
 refine hK _ _ ⟨rfl,?_⟩
 clear hK K
 refine Br.mo rfl rfl hcW (fun d K hK=>?_) _
 have e12:(W.at d).cell? ⟨C.o.bo,12,none⟩=some (.bool true):=A.cell rfl
 go_simp
 refine hK _ _ ⟨rfl,?_⟩
 clear hK K
 refine Br.mo rfl rfl hcW (fun d K hK=>?_) _
 go_simp
 refine hK _ _ ⟨rfl,?_⟩
 clear hK K
 refine Br.mc rfl (fun u=>stepG_unwanted rfl rfl) (fun d=>?_) _
 go_simp
 refine Br.mc rfl (fun u=>stepG_unwanted rfl rfl) (fun d=>?_) _
 go_simp
 refine Br.mc rfl (fun u=>stepG_unwanted rfl rfl) (fun d=>?_) _
 go_simp
 refine Br.mo rfl rfl hcW (fun d K hK=>?_) _
 go_simp
 refine hK _ _ ⟨rfl,?_⟩
 clear hK K
 refine Br.liv_region_end (fun d=>?_) _
 refine Br.mc rfl (fun u=>stepG_cond (t:=true) rfl) (fun d=>?_) _
 simp only [if_true,if_false,Bool.false_eq_true,↓reduceIte]
 refine Br.liv_seq (fun d=>?_) _
 refine Br.liv_region (fun d=>?_) _
 simp only [Br.rz,Br.ix,Nat.reduceAdd]
 refine Br.mo rfl rfl hcW (fun d K hK=>?_) _
 go_simp
 refine hK _ _ ⟨rfl,?_⟩
 clear hK K
 refine Br.mo rfl rfl hcW (fun d K hK=>?_) _
 go_simp
 refine hK _ _ ⟨rfl,?_⟩
 clear hK K
 refine Br.mo rfl rfl hcW (fun d K hK=>?_) _
 go_simp
 refine hK _ _ ⟨rfl,?_⟩
 clear hK K
 refine Br.must_operW rfl rfl (by decide) (fun d K hK=>?_) _
 have e12:(W.at d).cell? ⟨C.o.bo,12,none⟩=some (.bool true):=A.cell rfl
 have ez:(W.at d).frozen? ⟨C.o.bo,12,none⟩=false:=(ko_cells A.env.ko A.mem).2.2.2 12
 go_simp
 refine hK _ _ ⟨Br.dl_store (by rw [Br.sfO_mem A.mem];show 3≤12;omega) (World.block_lt_of_cell? _ _ e12) (fun e he=>?_),?_⟩
 ·have hm:=mem_listed he
  simp only [go_sem] at hm
  simp [go_sem] at hm
  rw [events_store _ _ _ _ _ _ rfl,e12] at hm
  rw [ez] at hm
  simp only [Bool.false_eq_true,if_false,List.push_toArray,List.nil_append,List.mem_toArray,List.mem_cons,List.not_mem_nil,or_false] at hm
  exact hm
 clear hK K e12 ez
 rw [show (W.at d).setCell ⟨C.o.bo,12,none⟩ (.bool true)=(W.setCell ⟨C.o.bo,12,none⟩ (.bool true)).at d from rfl]
 have hcW:Clear (W.setCell ⟨C.o.bo,12,none⟩ (.bool true)):=(Br.lk_setCell hcW.lk (Nat.zero_le _) _).1.sight
 refine Br.liv_region_end (fun d=>?_) _
 refine Br.liv_seq (fun d=>?_) _
 refine Br.liv_region (fun d=>?_) _
 simp only [Br.rz,Br.ix,Nat.reduceAdd]
 refine Br.mo rfl rfl hcW (fun d K hK=>?_) _
 go_simp
 refine hK _ _ ⟨rfl,?_⟩
 clear hK K
 refine Br.mo rfl rfl hcW (fun d K hK=>?_) _
 go_simp
 refine hK _ _ ⟨rfl,?_⟩
 clear hK K
 refine Br.liv_region_end (fun d=>?_) _
 refine Br.liv_ret (fun d=>?_) _
 exact Br.liv_leave (v:=.tuple #[.int .i64 0,.int .i64 3]) rfl rfl Tryd.func84 (resultsC_tmp2 (t:=6) (u:=7) rfl _) (w:=W.setCell ⟨C.o.bo,12,none⟩ (.bool true)) hn _
end
inductive Node where
 | call (num a b c:Int)
 | done (val err:Int)
abbrev Strat:=List (Int × Int)→Node
def Strat.after (s:Strat)(x e:Int):Strat:=fun h=>s ((x,e)::h)
def run1 (slot:Int)(s:Strat)(K:Ker):Ker × Strat :=
 match s [] with
 | .call num a b c=>((kCall K slot num a b c).K,s.after (kCall K slot num a b c).n (kCall K slot num a b c).e)
 | .done _ _=>(K,s)
theorem run1_call {slot:Int}{s:Strat}{K:Ker}{num a b c:Int}(h:s []=.call num a b c):run1 slot s K=((kCall K slot num a b c).K,s.after (kCall K slot num a b c).n (kCall K slot num a b c).e):=by
 unfold run1;rw [h]
def AtEnd (C:Ctx)(g:Goroutine):Prop :=
 g.status=.running∧mayWake Tryd.prog g=true∧∃ a':Goroutine,a'.status=.running∧(∀ cap k (u:World),u.heap[C.o.to]?=some (.chan cap #[] false k k false)→stepG Tryd.prog false g u=.go a' (u.setChan C.o.to cap #[] true k k false) (closeEvents C.o.to))∧∃ nh,QuitsD Tryd.prog nh 0 a'
def OStop (C:Ctx)(PK:Strat→List Nat→Heap→List Frame→Prop)(l:List OpD)(w0:World)(pv0:List Nat)(T:Ker × Strat)(g:Goroutine)(w:World):Prop :=
 Env C l T.1 w∧Mine C pv0 w0 w ∧
 match T.2 [] with
 | .call _ _ _ _=>∃ cs pv H free,g=sendG C.o cs∧At C l T.1 pv H free false false w∧(∀ i∈pv,i∈pv0∨w0.heap.size≤i)∧PK T.2 pv H (nextFr C.o::cs)
 | .done val err=>AtEnd C g∧∃ t free un go,w.heap[C.o.bo]?=some (.cells (oRow C err val free un go) t (0,0))
def EStop (C:Ctx)(l:List OpD)(K:Ker)(w0:World)(pv0:List Nat)(g:Goroutine)(w:World):Prop:=Env C l K w∧Mine C pv0 w0 w∧AtEnd C g
def Park (C:Ctx):Nat→Strat→List Nat→Heap→List Frame→Prop
 | 0,_,_,_,_=>True
 | n+1,s,pv,H,cs =>
  (∀ l K free un w d,At C l K pv H free un false w→Must Tryd.prog false (DL true (sfO l)) (OStop C (Park C n) l w pv (run1 C.slot s K)) (Go.Conc.served (waitRec C.o cs) turnRes) (w.at d)) ∧
  (∀ l K free un w d,At C l K pv H free un false w→Must Tryd.prog false (DL true (sfO l)) (EStop C l K w pv) (Go.Conc.served (waitRec C.o cs) endRes) (w.at d))
section
variable {C:Ctx} {l:List OpD} {K:Ker} {pv:List Nat} {H:Heap} {free:Value} {un go:Bool} {w:World}
theorem Env.at (E:Env C l K w)(d:Nat):Env C l K (w.at d):=⟨E.rep.same (Nat.le_refl _) (fun _ _ _=>rfl),E.tab.same rfl,E.inv,⟨E.fit.soft,E.fit.clear⟩,E.ko,E.ap⟩
theorem At.at (A:At C l K pv H free un go w)(d:Nat):At C l K pv H free un go (w.at d):=⟨A.env.at d,A.mem,A.own,A.has,A.row,A.top,A.far⟩
theorem Mine.at {pv0:List Nat}{w0:World}(M:Mine C pv0 w0 w)(d:Nat):Mine C pv0 w0 (w.at d):=⟨M.size,M.block⟩
theorem oRow_inj {e1 v1 e2 v2:Int}{f1 f2:Value}{u1 u2 g1 g2:Bool}(h:oRow C e1 v1 f1 u1 g1=oRow C e2 v2 f2 u2 g2):f1=f2∧u1=u2∧g1=g2:=by
 have h10:=congrArg (fun r:Array Value=>r[10]?) h
 have h11:=congrArg (fun r:Array Value=>r[11]?) h
 have h12:=congrArg (fun r:Array Value=>r[12]?) h
 simp [oRow] at h10 h11 h12
 exact ⟨h10,h11,h12⟩
theorem At.same_row {l':List OpD}{K':Ker}{free':Value}{un' go':Bool}{w':World}(A:At C l K pv H free un go w)(A':At C l' K' pv H free' un' go' w'):free'=free∧un'=un∧go'=go:=by
 obtain ⟨t,h⟩:=A.row
 obtain ⟨t',h'⟩:=A'.row
 rw [h] at h'
 obtain ⟨e,_,_⟩:=Obj.cells.inj h'
 obtain ⟨a,b,c⟩:=oRow_inj e
 exact ⟨a.symm,b.symm,c.symm⟩
theorem At.fewer (A:At C l K pv H free un go w){pv':List Nat}{H':Heap}(hs:∀ i∈pv',i∈pv)(hb:C.o.bo∈pv')(hH:∀ i∈pv',H' i=H i):At C l K pv' H' free un go w :=
 ⟨A.env,A.mem,⟨hb,fun i hi=>A.own.ap i (hs i hi)⟩,fun i hi=>by rw [hH i hi];exact A.has i (hs i hi),by obtain ⟨t,h⟩:=A.row;exact ⟨t,by rw [hH _ hb];exact h⟩,A.top,fun i hi=>A.far i (hs i hi)⟩
theorem At.set (A:At C l K pv H free un go w){j:Nat}{x:Value}{un' go':Bool}{free':Value}(hj:3≤j)(hr:(oRow C 0 0 free un go).setIfInBounds j x=oRow C 0 0 free' un' go') :
  ∃ t,At C l K pv (H.set C.o.bo (.cells (oRow C 0 0 free' un' go') t (0,0))) free' un' go' (w.setCell ⟨C.o.bo,j,none⟩ x)∧Mine C [C.o.bo] w (w.setCell ⟨C.o.bo,j,none⟩ x):=by
 obtain ⟨t,hb⟩:=A.blk
 have hb':=row_set _ t j x w C.o.bo hb
 rw [hr] at hb'
 have hk:∀ k,k≠C.o.bo→(w.setCell ⟨C.o.bo,j,none⟩ x).heap[k]?=w.heap[k]?:=fun k hk=>by rw [Br.heap_setCell,if_neg (fun e=>hk e.symm)]
 have M:Mine C [C.o.bo] w (w.setCell ⟨C.o.bo,j,none⟩ x):=⟨by simp [World.setCell],fun k _ h0 _ _ _=>hk k (by simpa using h0)⟩
 obtain ⟨a0,a1,a2,a3,_⟩:=A.env.ap _ A.mem
 refine ⟨t,A.turn (A.env.rep.same (by simp [World.setCell]) (fun k _ h=>hk k (by rcases h with rfl|rfl|rfl|rfl<;>first|exact Ne.symm a0|exact Ne.symm a1|exact Ne.symm a2|exact Ne.symm a3))) A.env.inv ⟨fun i hi=>?_,(Br.lk_setCell A.clear.lk (Nat.zero_le _) _).1.sight⟩ M hb',M⟩
 by_cases e:i=C.o.bo
 ·subst e;exact ⟨_,_,hb'⟩
 ·obtain ⟨c,t',h⟩:=A.env.fit.soft i hi
  exact ⟨c,t',by rw [hk i e];exact h⟩
theorem Mine.from {pv0 pv':List Nat}{w0 w':World}(M:Mine C pv0 w0 w)(M':Mine C pv' w w')(hp:∀ i∈pv',i∈pv0∨w0.heap.size≤i):Mine C pv0 w0 w':=M.trans M' hp
theorem call_over (A:At C l K pv H free un true w)(num a b c:Int)(fr:Frame)(cs:List Frame){Stop:Goroutine→World→Prop}
  (hn:∀ t w',At C l K pv (H.set C.o.bo (.cells (oRow C 0 0 free un true) t (0,0))) free un true w'→Mine C [C.o.bo] w w'→∀ d,Must Tryd.prog false (DL true (sfO l)) Stop (G (fr.finish (.tuple #[.int .i64 0,.int .i64 3])) cs) (w'.at d))(d0:Nat) :
  Must Tryd.prog false (DL true (sfO l)) Stop (G (Frame.enter Tryd.prog 84 (callArgs C.o num a b c) .normal) (fr::cs)) (w.at d0):=by
 refine call_gone A num a b c fr cs (fun d=>?_) d0
 have hlt:∀ i∈pv,i<w.heap.size:=fun i hi=>(Array.getElem?_eq_some_iff.1 (A.has i hi)).1
 have A1:At C l K (w.heap.size::pv) (H.set w.heap.size (boxed a b c)) free un true (w.alloc (boxed a b c)):=A.alloc trivial
 obtain ⟨t,A2,M2⟩:=A1.set (j:=12) (x:=.bool true) (free':=free) (un':=un) (go':=true) (by omega) rfl
 refine hn t _ (A2.fewer (fun i hi=>List.mem_cons_of_mem _ hi) A.own.rc fun i hi=>?_) ((mine_alloc [C.o.bo] _).trans M2 (fun i hi=>.inl hi)) d
 by_cases e:i=C.o.bo
 ·subst e;rw [Heap.set_same,Heap.set_same]
 ·have:=hlt i hi
  rw [Heap.set_other _ _ e,Heap.set_other _ _ e,Heap.set_other _ _ (by omega)]
theorem call_live (s:Strat)(num a b c:Int)(hs:s []=.call num a b c)(fr:Frame)(cs:List Frame)(pv:List Nat)(H:Heap)(free:Value)(n:Nat){un:Bool}
  (hB:∀ m,m≤n→(un=false→m<n)→∀ l w0 pv0 K t w,At C l (kCall K C.slot num a b c).K pv (H.set C.o.bo (.cells (oRow C 0 0 free false ((kCall K C.slot num a b c).e == 3)) t (0,0))) free false ((kCall K C.slot num a b c).e == 3) w→Mine C pv0 w0 w→(∀ i∈pv,i∈pv0∨w0.heap.size≤i) →
   ∀ d,Must Tryd.prog false (DL true (sfO l)) (OStop C (Park C m) l w0 pv0 ((kCall K C.slot num a b c).K,s.after (kCall K C.slot num a b c).n (kCall K C.slot num a b c).e)) (G (fr.finish (.tuple #[.int .i64 (kCall K C.slot num a b c).n,.int .i64 (kCall K C.slot num a b c).e])) cs) (w.at d))
  (hE:∀ l w0 pv0 K t w,At C l K pv (H.set C.o.bo (.cells (oRow C 0 0 free false true) t (0,0))) free false true w→Mine C pv0 w0 w→(∀ i∈pv,i∈pv0∨w0.heap.size≤i) →
   ∀ d,Must Tryd.prog false (DL true (sfO l)) (EStop C l K w0 pv0) (G (fr.finish (.tuple #[.int .i64 0,.int .i64 3])) cs) (w.at d))
  {l:List OpD}{w0:World}{pv0:List Nat}{K:Ker}{w:World}{T:Ker × Strat}(A:At C l K pv H free un false w)(M:Mine C pv0 w0 w)(hp:∀ i∈pv,i∈pv0∨w0.heap.size≤i)
  (hT:(un=true∧T=run1 C.slot s K)∨(un=false∧T=(K,s)))(d0:Nat) :
  Must Tryd.prog false (DL true (sfO l)) (OStop C (Park C n) l w0 pv0 T) (G (Frame.enter Tryd.prog 84 (callArgs C.o num a b c) .normal) (fr::cs)) (w.at d0):=by
 have hlt:∀ i∈pv,i<w.heap.size:=fun i hi=>(Array.getElem?_eq_some_iff.1 (A.has i hi)).1
 have hbx:w.heap.size≠C.o.bo:=fun e=>by have:=hlt _ A.own.rc;omega
 have tail:∀ m,m≤n→(un=false→m<n)→∀ l w0 pv0 K u1 w1,At C l K (w.heap.size::pv) (H.set w.heap.size (boxed a b c)) free u1 false w1∨(∃ t,At C l K (w.heap.size::pv) ((H.set w.heap.size (boxed a b c)).set C.o.bo (.cells (oRow C 0 0 free u1 false) t (0,0))) free u1 false w1)→Mine C pv0 w0 w1→(∀ i∈pv,i∈pv0∨w0.heap.size≤i) →
   ∀ d,Must Tryd.prog false (DL true (sfO l)) (OStop C (Park C m) l w0 pv0 ((kCall K C.slot num a b c).K,s.after (kCall K C.slot num a b c).n (kCall K C.slot num a b c).e)) (G ((callFr C.o.bo w.heap.size num a b c).finish (.bool true)) (fr::cs)) (w1.at d):=by
  intro m hm hm' l w0 pv0 K u1 w1 hA M1 hp1 d
  have go:∀ H1,At C l K (w.heap.size::pv) H1 free u1 false w1→H1 w.heap.size=boxed a b c→(∀ i∈pv,i≠C.o.bo→H1 i=H i) →
    Must Tryd.prog false (DL true (sfO l)) (OStop C (Park C m) l w0 pv0 ((kCall K C.slot num a b c).K,s.after (kCall K C.slot num a b c).n (kCall K C.slot num a b c).e)) (G ((callFr C.o.bo w.heap.size num a b c).finish (.bool true)) (fr::cs)) (w1.at d):=by
   intro H1 A1 hb hH
   refine call_yes (C:=C) num a b c A1.clear fr cs (fun d=>?_) d
   refine call_tail_must A1 num a b c (List.mem_cons_self ..) hbx hb fr cs (fun t w' A2 M2=>?_) d
   refine hB m hm hm' l w0 pv0 K t w' (A2.fewer (fun i hi=>List.mem_cons_of_mem _ hi) A.own.rc fun i hi=>?_) (M1.trans M2 (fun i hi=>by obtain rfl:=List.mem_singleton.1 hi;exact hp1 _ A.own.rc)) hp1
   by_cases e:i=C.o.bo
   ·subst e;rw [Heap.set_same,Heap.set_same]
   ·rw [Heap.set_other _ _ e,Heap.set_other _ _ e];exact (hH i hi e).symm
  rcases hA with A1|⟨t,A1⟩
  ·exact go _ A1 (Heap.set_same _ _ _) (fun i hi _=>by have:=hlt i hi;rw [Heap.set_other _ _ (by omega)])
  ·exact go _ A1 (by rw [Heap.set_other _ _ hbx,Heap.set_same]) (fun i hi e=>by have:=hlt i hi;rw [Heap.set_other _ _ e,Heap.set_other _ _ (by omega)])
 have A1:At C l K (w.heap.size::pv) (H.set w.heap.size (boxed a b c)) free un false (w.alloc (boxed a b c)):=A.alloc trivial
 have M1:Mine C pv0 w0 (w.alloc (boxed a b c)):=M.trans (mine_alloc [] _) (fun i hi=>by cases hi)
 refine call_next A num a b c fr cs (fun d=>?_) d0
 rcases hT with ⟨rfl,rfl⟩|⟨rfl,rfl⟩
 ·rw [run1_call hs]
  exact next_true (o:=C.o) A1.clear (A1.cell rfl) (tail n (Nat.le_refl _) (fun h=>by cases h) l w0 pv0 K true _ (.inl A1) M1 hp) d
 ·refine next_send (o:=C.o) A1.mem A1.clear A1.env.ko (A1.cell rfl) (fun d=>.stop ?_) d
  refine ⟨A1.env.at d,M1.at d,?_⟩
  show match s [] with|.call _ _ _ _=>_|.done _ _=>_
  rw [hs]
  refine ⟨_,w.heap.size::pv,H.set w.heap.size (boxed a b c),free,rfl,?_,fun i hi=>?_,?_⟩
  ·exact A1.at d
  ·rcases List.mem_cons.1 hi with rfl|hi
   ·exact .inr M.size
   ·exact hp i hi
  ·cases n with
   | zero=>exact trivial
   | succ m =>
    refine ⟨fun l' K' free' un' w' d A'=>?_,fun l' K' free' un' w' d A'=>?_⟩
    ·obtain ⟨rfl,rfl,_⟩:=A1.same_row A'
     rw [run1_call hs]
     obtain ⟨t,A2,M2⟩:=A'.set (j:=11) (x:=.bool true) (free':=free') (un':=true) (go':=false) (by omega) rfl
     refine wait_turn (o:=C.o) A'.mem A'.clear A'.env.ko (A'.cell (j:=11) rfl) _ _ (fun d=>?_) d
     refine next_back (o:=C.o) A2.clear true (fun d=>?_) d
     exact tail m (Nat.le_succ _) (fun _=>Nat.lt_succ_self _) l' w' _ K' true _ (.inr ⟨t,A2⟩) (M2.trans (Mine.refl _ [] _) (fun i hi=>by cases hi) |> fun h=>⟨h.size,fun k hk h0 h1 h2 h3=>h.block k hk (fun e=>h0 (by obtain rfl:=List.mem_singleton.1 e;exact List.mem_cons_of_mem _ A.own.rc)) h1 h2 h3⟩) (fun i hi=>.inl (List.mem_cons_of_mem _ hi)) d
    ·obtain ⟨rfl,rfl,_⟩:=A1.same_row A'
     refine wait_end (o:=C.o) A'.mem A'.clear _ _ (fun d=>?_) d
     refine next_back (o:=C.o) A'.clear false (fun d=>?_) d
     refine call_no A' num a b c fr cs (fun d=>?_) d
     obtain ⟨t,A2,M2⟩:=A'.set (j:=12) (x:=.bool true) (free':=free') (un':=false) (go':=true) (by omega) rfl
     refine hE l' w' _ K' t _ (A2.fewer (fun i hi=>List.mem_cons_of_mem _ hi) A.own.rc fun i hi=>?_) (⟨M2.size,fun k hk h0 h1 h2 h3=>M2.block k hk (fun e=>h0 (by obtain rfl:=List.mem_singleton.1 e;exact List.mem_cons_of_mem _ A.own.rc)) h1 h2 h3⟩) (fun i hi=>.inl (List.mem_cons_of_mem _ hi)) d
     by_cases e:i=C.o.bo
     ·subst e;rw [Heap.set_same,Heap.set_same]
     ·have:=hlt i hi
      rw [Heap.set_other _ _ e,Heap.set_other _ _ e,Heap.set_other _ _ (by omega)]
end
end Go.Proofs.YtcgabodkegcpgaaDoor
