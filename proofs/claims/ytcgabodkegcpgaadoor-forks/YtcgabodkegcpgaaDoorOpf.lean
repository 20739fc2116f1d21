/- The operation's own memory, and its call in company. -/
import Derived.Test.YtcgabodkegcpgaaDoorSao
set_option linter.unusedVariables false
set_option linter.unusedSimpArgs false
set_option maxHeartbeats 20000000
set_option maxRecDepth 100000
namespace Go.Proofs.YtcgabodkegcpgaaDoor
open Go.Conc
open Br (OpD KO SO SP sfO Lk Fit Must DL Liv Clear)
def I5 (C:Ctx)(err val:Int)(free:Value)(un go:Bool):Array Value :=
 #[.chan (some C.o.tu),.chan (some C.o.to),.chan (some C.o.en),.pointer (some ⟨C.bk,0,none⟩),.int .i64 C.slot,.int .i64 C.kd,.int .i64 C.A,.int .i64 C.B,.int .i64 err,.int .i64 val,free,.bool un,.bool go]
abbrev w9:=Nat->Obj
def w9.set (H:w9)(b:Nat)(x:Obj):w9:=λi=>if i=b then x else H i
theorem w9.set_same (H:w9)(b:Nat)(x:Obj):H.set b x b=x:=by simp [w9.set]
theorem w9.set_other (H:w9){b i:Nat}(x:Obj)(h:i≠b):H.set b x i=H i:=by simp [w9.set,h]
def Has (pv:List Nat)(H:w9)(w:World):Prop:=∀ i∈pv,w.heap[i]?=some (H i)
structure Pv (C:Ctx) (pv:List Nat):Prop where
 rc:C.o.bo∈pv
 ap:∀ i∈pv,i≠C.bk/\i≠C.bf/\i≠C.bs/\i≠C.bd/\i≠0
structure Mine (C:Ctx) (pv:List Nat) (w w':World):Prop where
 size:w.heap.size<=w'.heap.size
 block:∀ k,k<w.heap.size->k ∉ pv->k≠C.bf->k≠C.bs->k≠C.bd->w'.heap[k]?=w.heap[k]?
theorem Mine.refl (C:Ctx)(pv:List Nat)(w:World):Mine C pv w w:=⟨Nat.le_refl _,λ_ _ _ _ _ _=>rfl⟩
theorem Mine.trans {C:Ctx}{pv pv':List Nat}{a b c:World}(h:Mine C pv a b)(k:Mine C pv' b c)(hp:∀ i∈pv',i∈pv\/a.heap.size<=i):Mine C pv a c :=
 ⟨Nat.le_trans h.size k.size,λi hi h0 h1 h2 h3=>(k.block i (Nat.lt_of_lt_of_le hi h.size) (λhh=>(hp i hh).elim h0 (λz=>by omega)) h1 h2 h3).trans (h.block i hi h0 h1 h2 h3)⟩
structure At (C:Ctx) (l:List OpD) (K:Ker) (pv:List Nat) (H:w9) (free:Value) (un go:Bool) (w:World):Prop where
 env:Env C l K w
 mem:C.o∈l
 own:Pv C pv
 has:Has pv H w
 row:∃ t,H C.o.bo=.cells (I5 C 0 0 free un go) t (0,0)
 top:0≠C.bf/\0≠C.bs/\0≠C.bd
 far:∀ i∈pv,i≠C.o.bo->∀ o∈l,o.bo≠i
section
variable {C:Ctx} {l:List OpD} {K:Ker} {pv:List Nat} {H:w9} {free:Value} {un go:Bool} {w:World}
theorem At.blk (A:At C l K pv H free un go w):∃ t,w.heap[C.o.bo]?=some (.cells (I5 C 0 0 free un go) t (0,0)):=by
 obtain ⟨t,h⟩:=A.row;exact ⟨t,by rw [A.has _ A.own.rc,h]⟩
theorem At.cell (A:At C l K pv H free un go w){j:Nat}{x:Value}(h:(I5 C 0 0 free un go)[j]?=some x):w.cell? ⟨C.o.bo,j,none⟩=some x:=by
 obtain ⟨t,hb⟩:=A.blk;simp only [World.cell?,hb];simpa using h
theorem At.clear (A:At C l K pv H free un go w):Clear w:=A.env.fit.clear
theorem a4g (r:Array Value)(t:TypeId)(j:Nat)(x:Value)(w:World)(bo:Nat)(h:w.heap[bo]?=some (.cells r t (0,0))):(w.setCell ⟨bo,j,none⟩ x).heap[bo]?=some (.cells (r.setIfInBounds j x) t (0,0)):=by
 rw [Br.heap_setCell,if_pos rfl,h];rfl
theorem At.turn (A:At C l K pv H free un go w){K':Ker}{w':World}(hR:Rep w' C.bk C.bf C.bs C.bd K')(hI:Invb K')(hF:Fit (sfO l) w')(M:Mine C [C.o.bo] w w'){t:TypeId}{un' go':Bool}{free':Value}(hb:w'.heap[C.o.bo]?=some (.cells (I5 C 0 0 free' un' go') t (0,0))) :
  At C l K' pv (H.set C.o.bo (.cells (I5 C 0 0 free' un' go') t (0,0))) free' un' go' w':=by
 have hk:∀ k,k<w.heap.size->k≠C.o.bo->k≠C.bf->k≠C.bs->k≠C.bd->w'.heap[k]?=w.heap[k]?:=λk hk h0=>M.block k hk (by simpa using h0);have hlt:∀ i∈pv,i<w.heap.size:=λi hi=>(Array.getElem?_eq_some_iff.1 (A.has i hi)).1;refine ⟨⟨hR,A.env.tab.same (hk 0 A.env.tab.lt (Ne.symm (A.env.ap _ A.mem).2.2.2.2) A.top.1 A.top.2.1 A.top.2.2),hI,hF,λo ho=>?_,A.env.ap⟩,A.mem,A.own,λi hi=>?_,⟨t,w9.set_same _ _ _⟩,A.top,A.far⟩
 ·by_cases e:o.bo=C.o.bo
  ·obtain ⟨c,t',h0,h1,h2,h3⟩:=A.env.ko o ho;obtain ⟨t2,hb0⟩:=A.blk;rw [e,hb0] at h0;obtain ⟨rfl,rfl,_⟩:=Obj.cells.inj (Option.some.inj h0);exact ⟨I5 C 0 0 free' un' go',t,by rw [e];exact hb,h1,h2,h3⟩
  ·obtain ⟨c,t',h0,h1⟩:=A.env.ko o ho;obtain ⟨_,a1,a2,a3,_⟩:=A.env.ap o ho;exact ⟨c,t',by rw [hk _ (Br.KO.lt A.env.ko ho) e a1 a2 a3];exact h0,h1⟩
 ·by_cases e:i=C.o.bo
  ·subst e;rw [w9.set_same];exact hb
  ·rw [w9.set_other _ _ e];obtain ⟨_,a1,a2,a3,_⟩:=A.own.ap i hi;rw [hk i (hlt i hi) e a1 a2 a3];exact A.has i hi
theorem a6x (A:At C l K pv H free un false w)(num a b c:Int){bx:Nat}(hx:bx∈pv)(hbx:bx≠C.o.bo){tx:TypeId}{fx:Nat × Nat}(hH:H bx=.cells #[.int .i64 a,.int .i64 b,.int .i64 c] tx fx)(fr:Frame)(cs:List Frame){Stop:Goroutine->World->Prop}
  (hn:∀ (t:TypeId) (w':World),At C l (o8 K C.slot num a b c).K pv (H.set C.o.bo (.cells (I5 C 0 0 free false ((o8 K C.slot num a b c).e == 3)) t (0,0))) free false ((o8 K C.slot num a b c).e == 3) w'->Mine C [C.o.bo] w w' ->
   ∀ d,Must Tryd.prog false (DL true (sfO l)) Stop (G (fr.finish (.tuple #[.int .i64 (o8 K C.slot num a b c).n,.int .i64 (o8 K C.slot num a b c).e])) cs) (w'.at d))(d0:Nat) :
  Must Tryd.prog false (DL true (sfO l)) Stop (G ((base 84).at ⟨a0i C.o.bo bx num a b c (.bool true) (.bool false) (.bool false),[]⟩ [.code a4y]) (fr::cs)) (w.at d0):=by
 obtain ⟨z1,z2,z3⟩:=A.env.zero;obtain ⟨t,hb⟩:=A.blk;have hbx':w.heap[bx]?=some (.cells #[.int .i64 a,.int .i64 b,.int .i64 c] tx fx):=by rw [A.has bx hx,hH]
 have hz:∀ v,Lk (sfO l) v (w.at d0)->∀ j,3<=j->v.frozen? ⟨C.o.bo,j,none⟩=false:=λv hv j hj=>by
  have:=hv.heap C.o.bo;rw [show (w.at d0).heap=w.heap from rfl,hb,Br.I9 A.mem] at this;simp only [World.frozen?,this,Option.map_some,Br.fz];simp;omega
 have key:=λv (hv:Lk (sfO l) v (w.at d0))=>b5l (bo:=C.o.bo) (bx:=bx) (x11:=.bool un) (x12:=.bool false) (a9b hv z1 z2 z3 (A.env.rep.same (w':=w.at d0) (Nat.le_refl _) (λ_ _ _=>rfl))) (b2j hv (A.env.tab.same (w':=w.at d0) rfl)) A.env.inv.good C.slot num a b c
  (by rw [hv.cell];exact A.cell rfl) (by rw [hv.cell];exact A.cell rfl) (by rw [hv.cell];exact A.cell rfl) (by rw [hv.cell];exact A.cell rfl) (hz v hv 11 (by omega)) (hz v hv 12 (by omega))
  (by rw [hv.cell];show (w.at d0).cell? _=_;simp [World.cell?,World.at,hbx']) (by rw [hv.cell];show (w.at d0).cell? _=_;simp [World.cell?,World.at,hbx']) (by rw [hv.cell];show (w.at d0).cell? _=_;simp [World.cell?,World.at,hbx'])
  hbx (A.env.ap _ A.mem) ⟨(A.own.ap bx hx).2.1,(A.own.ap bx hx).2.2.1,(A.own.ap bx hx).2.2.2.1⟩
 refine (Br.a8N Br.a3j (sft:=sfO l) (b:=base 84) (w0:=w.at d0) (by kernel_rfl) rfl rfl ⟨_,Tryd.func84⟩ ⟨A.env.fit.soft,A.env.fit.clear⟩ false (Q:=λe a' v'=>(e=.ret/\a'.defers=[]/\a'.tmps.getD 6 undef=.int .i64 (o8 K C.slot num a b c).n/\a'.tmps.getD 7 undef=.int .i64 (o8 K C.slot num a b c).e/\Rep v' C.bk C.bf C.bs C.bd (o8 K C.slot num a b c).K)/\∃ v,Lk (sfO l) v (w.at d0)/\v.heap.size<=v'.heap.size /\
   (∀ k,k<v.heap.size->k≠C.bf->k≠C.bs->k≠C.bd->v'.heap[k]?=((v.setCell ⟨C.o.bo,11,none⟩ (.bool false)).setCell ⟨C.o.bo,12,none⟩ (.bool ((o8 K C.slot num a b c).e == 3))).heap[k]?)) (λe a w h=>.inr h.1.1)
  (λv hv=>Code.wp_mono (λe a' v' h=>⟨⟨h.1,h.2.1,h.2.2.1,h.2.2.2.1,h.2.2.2.2.1⟩,v,hv,h.2.2.2.2.2.1,h.2.2.2.2.2.2⟩) (key v hv)) [] (fr::cs)).keep.then ?_
 rintro g w' ⟨⟨e,a',v',⟨⟨rfl,hd,h6,h7,hR⟩,v,hv,hsz,hblk⟩,hl',hg⟩,hkp⟩;have hs1:w.heap.size<=w'.heap.size:=by rw [← hl'.size];exact Nat.le_trans (Nat.le_of_eq hv.size.symm) hsz
 have hvs:v.heap.size=w.heap.size:=hv.size;have M:Mine C [C.o.bo] w w':=by
  refine ⟨hs1,λk hk h0 h1 h2 h3=>?_⟩;have hk0:C.o.bo≠k:=λe=>h0 (by simp [e]);refine H7 (w:=w.at d0) hkp hv hl' ?_;rw [hblk k (by omega) h1 h2 h3,Br.heap_setCell,if_neg hk0,Br.heap_setCell,if_neg hk0]
 have hbo:C.o.bo<w.heap.size:=(Array.getElem?_eq_some_iff.1 hb).1;obtain ⟨_,a1,a2,a3,_⟩:=A.env.ap _ A.mem;have hb':w'.heap[C.o.bo]?=some (.cells (I5 C 0 0 free false ((o8 K C.slot num a b c).e == 3)) t (0,0)):=by
  have e1:=hblk C.o.bo (by omega) a1 a2 a3;have e2:v.heap[C.o.bo]?=some (.cells (I5 C 0 0 free un false) t (0,3)):=by
   rw [hv.heap,show (w.at d0).heap=w.heap from rfl,hb,Br.I9 A.mem];rfl
  rw [Br.heap_setCell,if_pos rfl,Br.heap_setCell,if_pos rfl,e2] at e1;have e3:=hl'.heap C.o.bo;rw [e1,Br.I9 A.mem] at e3;obtain ⟨c',t',h'⟩:=hl'.soft C.o.bo (by rw [Br.I9 A.mem];omega);rw [h'] at e3 ⊢;simp only [Option.map_some,Br.fz,Option.some.injEq,Obj.cells.injEq] at e3;obtain ⟨e4,e5,_⟩:=e3;rw [← e4,← e5];rfl
 have A':=A.turn (a6Z hl' z1 z2 z3 hR) (a0A A.env.inv C.slot num a b c) hl'.fit M hb';rcases hg with ⟨h,_⟩|⟨_,todo,rfl⟩
 ·cases h
 ·have hres:Go.Conc.ResultsC Tryd.prog Tryd.f84 a'.tmps (.tuple #[.int .i64 (o8 K C.slot num a b c).n,.int .i64 (o8 K C.slot num a b c).e]):=by
   have:=resultsC_tmp2 (P:=Tryd.prog) (fn:=Tryd.f84) (t:=6) (u:=7) rfl a'.tmps;rw [h6,h7] at this;exact this
  exact Br.b0c (Br.m8 (b:=base 84) (todo:=todo) rfl hd Tryd.func84 hres (hn t w' A' M))
end
end Go.Proofs.YtcgabodkegcpgaaDoor
namespace Go.Proofs.YtcgabodkegcpgaaDoor
open Go.Conc Go.RowKit
open Br (OpD KO SO SP sfO Lk Fit Must DL Liv Clear)
section
variable {C:Ctx} {l:List OpD} {K:Ker} {pv:List Nat} {H:w9} {free:Value} {un go:Bool} {w:World}
theorem At.alloc (A:At C l K pv H free un go w){x:Obj}(hx:Br.Obj.sight x):At C l K (w.heap.size::pv) (H.set w.heap.size x) free un go (w.alloc x):=by
 have hlt:∀ i∈pv,i<w.heap.size:=λi hi=>(Array.getElem?_eq_some_iff.1 (A.has i hi)).1;have hal:∀ k,k<w.heap.size->(w.alloc x).heap[k]?=w.heap[k]?:=λk hk=>Below.heap_alloc w x k hk;have hR:=A.env.rep;have hL:=Br.a0K A.env.fit.clear.lk hx;refine ⟨⟨hR.alloc x,A.env.tab.alloc x,A.env.inv,⟨λi hi=>?_,hL.1.sight⟩,λo ho=>?_,A.env.ap⟩,A.mem,⟨List.mem_cons_of_mem _ A.own.rc,λi hi=>?_⟩,λi hi=>?_,?_,A.top,λi hi h0 o ho=>?_⟩
 ·obtain ⟨c,t,h⟩:=A.env.fit.soft i hi;exact ⟨c,t,by rw [hal i (Array.getElem?_eq_some_iff.1 h).1];exact h⟩
 ·obtain ⟨c,t,h0,h1⟩:=A.env.ko o ho;exact ⟨c,t,by rw [hal _ (Br.KO.lt A.env.ko ho)];exact h0,h1⟩
 ·rcases List.mem_cons.1 hi with rfl|hi
  ·have:=hR.lk;have:=hR.lf;have:=hR.ls;have:=hR.ld;have:=A.env.tab.lt;refine ⟨?_,?_,?_,?_,?_⟩<;>omega
  ·exact A.own.ap i hi
 ·rcases List.mem_cons.1 hi with rfl|hi
  ·rw [w9.set_same];show (w.heap.push x)[w.heap.size]?=_;simp
  ·have:=hlt i hi;rw [w9.set_other _ _ (by omega),hal i this];exact A.has i hi
 ·obtain ⟨t,h⟩:=A.row;have:=hlt _ A.own.rc;exact ⟨t,by rw [w9.set_other _ _ (by omega)];exact h⟩
 ·rcases List.mem_cons.1 hi with rfl|hi
  ·exact Nat.ne_of_lt (Br.KO.lt A.env.ko ho)
  ·exact A.far i hi h0 o ho
theorem a3u (pv:List Nat)(x:Obj):Mine C pv w (w.alloc x):=⟨by simp,λk hk _ _ _ _=>Below.heap_alloc w x k hk⟩
noncomputable def a2o (bo bx:Nat)(num a b c:Int):Frame :=
 match Tryd.f84.body with
 | some (.seq _ (.seq (.seq (.region _ ops _) k) t))=>(base 84).at ⟨a0i bo bx num a b c undef undef undef,[]⟩ [.inRegion ops [6,7,8],.code k,.code t]
 | _=>default
noncomputable def a2p:Code:=(Tryd.f84.body).getD .skip
abbrev B7 (o:OpD)(num a b c:Int):Array Value:=#[pO o,.int .i64 num,.agg #[.int .i64 a,.int .i64 b,.int .i64 c]]
abbrev A9 (a b c:Int):Obj:=.cells #[.int .i64 a,.int .i64 b,.int .i64 c] 33 (0,0)
theorem a6y (o:OpD)(num a b c:Int):Frame.enter Tryd.prog 84 (B7 o num a b c) .normal=(base 84).at ⟨#[pO o,.int .i64 num,.agg #[.int .i64 a,.int .i64 b,.int .i64 c],undef,undef,undef,undef,undef,undef,undef,undef,undef,undef,undef,undef,undef,undef,undef,undef,
  undef,undef,undef,undef,undef,undef,undef,undef,undef,undef,undef,undef,undef,undef,undef,undef,undef,undef,undef,undef,undef,undef,undef,undef,undef,undef,undef],[]⟩ [.code a2p]:=by
 rw [enter_at (c:=a2p) _ Tryd.func84 rfl];refine congrArg (λt=>(base 84).at ⟨t,[]⟩ [.code a2p]) ?_
 kernel_rfl
theorem b4h (A:At C l K pv H free un false w)(num a b c:Int)(fr:Frame)(cs:List Frame){Stop:Goroutine->World->Prop}
  (hn:∀ d,Must Tryd.prog false (DL true (sfO l)) Stop (G (Frame.enter Tryd.prog 95 #[pO C.o] .normal) (a2o C.o.bo w.heap.size num a b c::fr::cs)) ((w.alloc (A9 a b c)).at d))(d0:Nat) :
  Must Tryd.prog false (DL true (sfO l)) Stop (G (Frame.enter Tryd.prog 84 (B7 C.o num a b c) .normal) (fr::cs)) (w.at d0):=by
 have hc:=A.clear;rw [a6y];unfold a2o a0i at hn;simp only [a2p,Tryd.f84,Option.getD_some,pO] at *;refine Br.b8 (λd=>?_) _;refine Br.b9 (λd=>?_) _;simp only [Br.rz,Br.ix,Nat.reduceAdd];refine Br.t8 rfl rfl (by decide) (λd K hK=>?_) _;go_simp;refine hK _ _ ⟨Br.L7 (λe he=>?_),?_⟩
 ·have hm:=mem_listed he;simp [go_sem] at hm
 clear hK K;rw [show (w.at d).alloc (A9 a b c)=(w.alloc (A9 a b c)).at d from rfl];have A:At C l _ _ _ free un false (w.alloc (A9 a b c)):=A.alloc trivial;generalize w.alloc (A9 a b c)=W at *;have hcW:=A.clear;(iterate 2(refine Br.mo rfl rfl λd K hK=>?_;go_simp;refine hK _ _ ⟨rfl,?_⟩;clear hK K));refine Br.a9 (λd=>?_) _;refine Br.b8 (λd=>?_) _;refine Br.b8 (λd=>?_) _;refine Br.b9 (λd=>?_) _;simp only [Br.rz,Br.ix,Nat.reduceAdd];(iterate 3(refine Br.mo rfl rfl λd K hK=>?_;go_simp;refine hK _ _ ⟨rfl,?_⟩;clear hK K));refine Br.mo rfl rfl λd K hK=>?_;have e12:(W.at d).cell? ⟨C.o.bo,12,none⟩=some (.bool false):=A.cell rfl;go_simp;refine hK _ _ ⟨rfl,?_⟩;clear hK K;(iterate 2(refine Br.mo rfl rfl λd K hK=>?_;go_simp;refine hK _ _ ⟨rfl,?_⟩;clear hK K));refine Br.mc rfl (λu=>k6 rfl rfl (by decide) rfl Tryd.func95 rfl rfl (vs:=#[pO C.o]) (by simp [Act.eval]) u) (λd=>?_) _;exact hn d
theorem b6P {bx:Nat}(num a b c:Int)(hcW:Clear w)(fr:Frame)(cs:List Frame){Stop:Goroutine->World->Prop}
  (hn:∀ d,Must Tryd.prog false (DL true (sfO l)) Stop (G ((base 84).at ⟨a0i C.o.bo bx num a b c (.bool true) (.bool false) (.bool false),[]⟩ [.code a4y]) (fr::cs)) (w.at d))(d0:Nat) :
  Must Tryd.prog false (DL true (sfO l)) Stop (G ((a2o C.o.bo bx num a b c).finish (.bool true)) (fr::cs)) (w.at d0):=by
 unfold a2o a0i a4y at *;simp only [Tryd.f84] at *;rw [Frame.finish_at];go_simp;(iterate 2(refine Br.mo rfl rfl λd K hK=>?_;go_simp;refine hK _ _ ⟨rfl,?_⟩;clear hK K));refine Br.a9 (λd=>?_) _;refine Br.mc rfl (λu=>stepG_cond (t:=false) rfl) (λd=>?_) _;simp only [if_true,if_false,Bool.false_eq_true,↓reduceIte];refine Br.l9 (λd=>?_) _;exact hn _
theorem b9l {W:World}{bx:Nat}(A:At C l K pv H free un go W)(num a b c:Int)(fr:Frame)(cs:List Frame){Stop:Goroutine->World->Prop}
  (hn:∀ d,Must Tryd.prog false (DL true (sfO l)) Stop (G (fr.finish (.tuple #[.int .i64 0,.int .i64 3])) cs) ((W.setCell ⟨C.o.bo,12,none⟩ (.bool true)).at d))(d0:Nat) :
  Must Tryd.prog false (DL true (sfO l)) Stop (G ((a2o C.o.bo bx num a b c).finish (.bool false)) (fr::cs)) (W.at d0):=by
 have hcW:=A.clear;unfold a2o a0i;simp only [Tryd.f84];rw [Frame.finish_at];go_simp;(iterate 2(refine Br.mo rfl rfl λd K hK=>?_;go_simp;refine hK _ _ ⟨rfl,?_⟩;clear hK K));refine Br.a9 (λd=>?_) _;refine Br.mc rfl (λu=>stepG_cond (t:=true) rfl) (λd=>?_) _;simp only [if_true,if_false,Bool.false_eq_true,↓reduceIte];refine Br.b8 (λd=>?_) _;refine Br.b9 (λd=>?_) _;simp only [Br.rz,Br.ix,Nat.reduceAdd];(iterate 3(refine Br.mo rfl rfl λd K hK=>?_;go_simp;refine hK _ _ ⟨rfl,?_⟩;clear hK K));refine Br.t8 rfl rfl (by decide) (λd K hK=>?_) _;have e12:(W.at d).cell? ⟨C.o.bo,12,none⟩=some (.bool go):=A.cell rfl;have ez:(W.at d).frozen? ⟨C.o.bo,12,none⟩=false:=(V8 A.env.ko A.mem).2.2.2 12;go_simp;refine hK _ _ ⟨Br.Q7 (by rw [Br.I9 A.mem];show 3<=12;omega) (World.block_lt_of_cell? _ _ e12) (λe he=>?_),?_⟩
 ·have hm:=mem_listed he;simp only [go_sem] at hm;simp [go_sem] at hm;rw [events_store _ _ _ _ _ _ rfl,e12] at hm;rw [ez] at hm;simp only [Bool.false_eq_true,if_false,List.push_toArray,List.nil_append,List.mem_toArray,List.mem_cons,List.not_mem_nil,or_false] at hm;exact hm
 clear hK K e12 ez;rw [show (W.at d).setCell ⟨C.o.bo,12,none⟩ (.bool true)=(W.setCell ⟨C.o.bo,12,none⟩ (.bool true)).at d from rfl];have hcW:Clear (W.setCell ⟨C.o.bo,12,none⟩ (.bool true)):=(Br.F5 hcW.lk (Nat.zero_le _) _).1.sight;refine Br.a9 (λd=>?_) _;refine Br.b8 (λd=>?_) _;refine Br.b9 (λd=>?_) _;simp only [Br.rz,Br.ix,Nat.reduceAdd];(iterate 2(refine Br.mo rfl rfl λd K hK=>?_;go_simp;refine hK _ _ ⟨rfl,?_⟩;clear hK K));refine Br.a9 (λd=>?_) _;refine Br.q8 (λd=>?_) _;exact Br.m8 (v:=.tuple #[.int .i64 0,.int .i64 3]) rfl rfl Tryd.func84 (resultsC_tmp2 (t:=6) (u:=7) rfl _) (w:=W.setCell ⟨C.o.bo,12,none⟩ (.bool true)) hn _
theorem b4i (A:At C l K pv H free un true w)(num a b c:Int)(fr:Frame)(cs:List Frame){Stop:Goroutine->World->Prop}
  (hn:∀ d,Must Tryd.prog false (DL true (sfO l)) Stop (G (fr.finish (.tuple #[.int .i64 0,.int .i64 3])) cs) (((w.alloc (A9 a b c)).setCell ⟨C.o.bo,12,none⟩ (.bool true)).at d))(d0:Nat) :
  Must Tryd.prog false (DL true (sfO l)) Stop (G (Frame.enter Tryd.prog 84 (B7 C.o num a b c) .normal) (fr::cs)) (w.at d0):=by
 have hc:=A.clear;rw [a6y];simp only [a2p,Tryd.f84,Option.getD_some,pO] at *;refine Br.b8 (λd=>?_) _;refine Br.b9 (λd=>?_) _;simp only [Br.rz,Br.ix,Nat.reduceAdd];refine Br.t8 rfl rfl (by decide) (λd K hK=>?_) _;go_simp;refine hK _ _ ⟨Br.L7 (λe he=>?_),?_⟩
 ·have hm:=mem_listed he;simp [go_sem] at hm
 clear hK K;rw [show (w.at d).alloc (A9 a b c)=(w.alloc (A9 a b c)).at d from rfl];have A:At C l _ _ _ free un true (w.alloc (A9 a b c)):=A.alloc trivial;generalize w.alloc (A9 a b c)=W at *;have hcW:=A.clear;(iterate 2(refine Br.mo rfl rfl λd K hK=>?_;go_simp;refine hK _ _ ⟨rfl,?_⟩;clear hK K));refine Br.a9 (λd=>?_) _;refine Br.b8 (λd=>?_) _;refine Br.b8 (λd=>?_) _;refine Br.b9 (λd=>?_) _;simp only [Br.rz,Br.ix,Nat.reduceAdd];(iterate 3(refine Br.mo rfl rfl λd K hK=>?_;go_simp;refine hK _ _ ⟨rfl,?_⟩;clear hK K));refine Br.mo rfl rfl λd K hK=>?_;have e12:(W.at d).cell? ⟨C.o.bo,12,none⟩=some (.bool true):=A.cell rfl;go_simp;refine hK _ _ ⟨rfl,?_⟩;clear hK K;refine Br.mo rfl rfl λd K hK=>?_;go_simp;refine hK _ _ ⟨rfl,?_⟩;clear hK K;refine Br.mc rfl (λu=>stepG_unwanted rfl rfl) (λd=>?_) _;go_simp;refine Br.mc rfl (λu=>stepG_unwanted rfl rfl) (λd=>?_) _;go_simp;refine Br.mc rfl (λu=>stepG_unwanted rfl rfl) (λd=>?_) _;go_simp;refine Br.mo rfl rfl λd K hK=>?_;go_simp;refine hK _ _ ⟨rfl,?_⟩;clear hK K;refine Br.a9 (λd=>?_) _;refine Br.mc rfl (λu=>stepG_cond (t:=true) rfl) (λd=>?_) _;simp only [if_true,if_false,Bool.false_eq_true,↓reduceIte];refine Br.b8 (λd=>?_) _;refine Br.b9 (λd=>?_) _;simp only [Br.rz,Br.ix,Nat.reduceAdd];(iterate 3(refine Br.mo rfl rfl λd K hK=>?_;go_simp;refine hK _ _ ⟨rfl,?_⟩;clear hK K));refine Br.t8 rfl rfl (by decide) (λd K hK=>?_) _;have e12:(W.at d).cell? ⟨C.o.bo,12,none⟩=some (.bool true):=A.cell rfl;have ez:(W.at d).frozen? ⟨C.o.bo,12,none⟩=false:=(V8 A.env.ko A.mem).2.2.2 12;go_simp;refine hK _ _ ⟨Br.Q7 (by rw [Br.I9 A.mem];show 3<=12;omega) (World.block_lt_of_cell? _ _ e12) (λe he=>?_),?_⟩
 ·have hm:=mem_listed he;simp only [go_sem] at hm;simp [go_sem] at hm;rw [events_store _ _ _ _ _ _ rfl,e12] at hm;rw [ez] at hm;simp only [Bool.false_eq_true,if_false,List.push_toArray,List.nil_append,List.mem_toArray,List.mem_cons,List.not_mem_nil,or_false] at hm;exact hm
 clear hK K e12 ez;rw [show (W.at d).setCell ⟨C.o.bo,12,none⟩ (.bool true)=(W.setCell ⟨C.o.bo,12,none⟩ (.bool true)).at d from rfl];have hcW:Clear (W.setCell ⟨C.o.bo,12,none⟩ (.bool true)):=(Br.F5 hcW.lk (Nat.zero_le _) _).1.sight;refine Br.a9 (λd=>?_) _;refine Br.b8 (λd=>?_) _;refine Br.b9 (λd=>?_) _;simp only [Br.rz,Br.ix,Nat.reduceAdd];(iterate 2(refine Br.mo rfl rfl λd K hK=>?_;go_simp;refine hK _ _ ⟨rfl,?_⟩;clear hK K));refine Br.a9 (λd=>?_) _;refine Br.q8 (λd=>?_) _;exact Br.m8 (v:=.tuple #[.int .i64 0,.int .i64 3]) rfl rfl Tryd.func84 (resultsC_tmp2 (t:=6) (u:=7) rfl _) (w:=W.setCell ⟨C.o.bo,12,none⟩ (.bool true)) hn _
end
inductive Node where
 | call (num a b c:Int)
 | done (val err:Int)
abbrev q7:=List (Int × Int)->Node
def q7.after (s:q7)(x e:Int):q7:=λh=>s ((x,e)::h)
def a0O (slot:Int)(s:q7)(K:Ker):Ker × q7 :=
 match s [] with
 | .call num a b c=>((o8 K slot num a b c).K,s.after (o8 K slot num a b c).n (o8 K slot num a b c).e)
 | .done _ _=>(K,s)
theorem a4Y {slot:Int}{s:q7}{K:Ker}{num a b c:Int}(h:s []=.call num a b c):a0O slot s K=((o8 K slot num a b c).K,s.after (o8 K slot num a b c).n (o8 K slot num a b c).e):=by
 unfold a0O;rw [h]
def b6Q (C:Ctx)(g:Goroutine):Prop :=
 g.status=.running/\mayWake Tryd.prog g=true/\∃ a':Goroutine,a'.status=.running/\(∀ cap k (u:World),u.heap[C.o.to]?=some (.chan cap #[] false k k false)->stepG Tryd.prog false g u=.go a' (u.setChan C.o.to cap #[] true k k false) (closeEvents C.o.to))/\∃ nh,QuitsD Tryd.prog nh 0 a'
def a1U (C:Ctx)(PK:q7->List Nat->w9->List Frame->Prop)(l:List OpD)(w0:World)(pv0:List Nat)(T:Ker × q7)(g:Goroutine)(w:World):Prop :=
 Env C l T.1 w/\Mine C pv0 w0 w /\
 match T.2 [] with
 | .call _ _ _ _=>∃ cs pv H free,g=a4q C.o cs/\At C l T.1 pv H free false false w/\(∀ i∈pv,i∈pv0\/w0.heap.size<=i)/\PK T.2 pv H (a0o C.o::cs)
 | .done val err=>b6Q C g/\∃ t free un go,w.heap[C.o.bo]?=some (.cells (I5 C err val free un go) t (0,0))
def a8b (C:Ctx)(l:List OpD)(K:Ker)(w0:World)(pv0:List Nat)(g:Goroutine)(w:World):Prop:=Env C l K w/\Mine C pv0 w0 w/\b6Q C g
def a4Z (C:Ctx):Nat->q7->List Nat->w9->List Frame->Prop
 | 0,_,_,_,_=>True
 | n+1,s,pv,H,cs =>
  (∀ l K free un w d,At C l K pv H free un false w->Must Tryd.prog false (DL true (sfO l)) (a1U C (a4Z C n) l w pv (a0O C.slot s K)) (Go.Conc.served (J1 C.o cs) a4r) (w.at d)) /\
  (∀ l K free un w d,At C l K pv H free un false w->Must Tryd.prog false (DL true (sfO l)) (a8b C l K w pv) (Go.Conc.served (J1 C.o cs) a8Q) (w.at d))
section
variable {C:Ctx} {l:List OpD} {K:Ker} {pv:List Nat} {H:w9} {free:Value} {un go:Bool} {w:World}
theorem Env.at (E:Env C l K w)(d:Nat):Env C l K (w.at d):=⟨E.rep.same (Nat.le_refl _) (λ_ _ _=>rfl),E.tab.same rfl,E.inv,⟨E.fit.soft,E.fit.clear⟩,E.ko,E.ap⟩
theorem At.at (A:At C l K pv H free un go w)(d:Nat):At C l K pv H free un go (w.at d):=⟨A.env.at d,A.mem,A.own,A.has,A.row,A.top,A.far⟩
theorem Mine.at {pv0:List Nat}{w0:World}(M:Mine C pv0 w0 w)(d:Nat):Mine C pv0 w0 (w.at d):=⟨M.size,M.block⟩
theorem b6R {e1 v1 e2 v2:Int}{f1 f2:Value}{u1 u2 g1 g2:Bool}(h:I5 C e1 v1 f1 u1 g1=I5 C e2 v2 f2 u2 g2):f1=f2/\u1=u2/\g1=g2:=by
 have h10:=congrArg (λr:Array Value=>r[10]?) h;have h11:=congrArg (λr:Array Value=>r[11]?) h;have h12:=congrArg (λr:Array Value=>r[12]?) h;simp [I5] at h10 h11 h12;exact ⟨h10,h11,h12⟩
theorem At.same_row {l':List OpD}{K':Ker}{free':Value}{un' go':Bool}{w':World}(A:At C l K pv H free un go w)(A':At C l' K' pv H free' un' go' w'):free'=free/\un'=un/\go'=go:=by
 obtain ⟨t,h⟩:=A.row;obtain ⟨t',h'⟩:=A'.row;rw [h] at h';obtain ⟨e,_,_⟩:=Obj.cells.inj h';obtain ⟨a,b,c⟩:=b6R e;exact ⟨a.symm,b.symm,c.symm⟩
theorem At.fewer (A:At C l K pv H free un go w){pv':List Nat}{H':w9}(hs:∀ i∈pv',i∈pv)(hb:C.o.bo∈pv')(hH:∀ i∈pv',H' i=H i):At C l K pv' H' free un go w :=
 ⟨A.env,A.mem,⟨hb,λi hi=>A.own.ap i (hs i hi)⟩,λi hi=>by rw [hH i hi];exact A.has i (hs i hi),by obtain ⟨t,h⟩:=A.row;exact ⟨t,by rw [hH _ hb];exact h⟩,A.top,λi hi=>A.far i (hs i hi)⟩
theorem At.set (A:At C l K pv H free un go w){j:Nat}{x:Value}{un' go':Bool}{free':Value}(hj:3<=j)(hr:(I5 C 0 0 free un go).setIfInBounds j x=I5 C 0 0 free' un' go') :
  ∃ t,At C l K pv (H.set C.o.bo (.cells (I5 C 0 0 free' un' go') t (0,0))) free' un' go' (w.setCell ⟨C.o.bo,j,none⟩ x)/\Mine C [C.o.bo] w (w.setCell ⟨C.o.bo,j,none⟩ x):=by
 obtain ⟨t,hb⟩:=A.blk;have hb':=a4g _ t j x w C.o.bo hb;rw [hr] at hb';have hk:∀ k,k≠C.o.bo->(w.setCell ⟨C.o.bo,j,none⟩ x).heap[k]?=w.heap[k]?:=λk hk=>by rw [Br.heap_setCell,if_neg (λe=>hk e.symm)]
 have M:Mine C [C.o.bo] w (w.setCell ⟨C.o.bo,j,none⟩ x):=⟨by simp [World.setCell],λk _ h0 _ _ _=>hk k (by simpa using h0)⟩;obtain ⟨a0,a1,a2,a3,_⟩:=A.env.ap _ A.mem;refine ⟨t,A.turn (A.env.rep.same (by simp [World.setCell]) (λk _ h=>hk k (by rcases h with rfl|rfl|rfl|rfl<;>first|exact Ne.symm a0|exact Ne.symm a1|exact Ne.symm a2|exact Ne.symm a3))) A.env.inv ⟨λi hi=>?_,(Br.F5 A.clear.lk (Nat.zero_le _) _).1.sight⟩ M hb',M⟩
 by_cases e:i=C.o.bo
 ·subst e;exact ⟨_,_,hb'⟩
 ·obtain ⟨c,t',h⟩:=A.env.fit.soft i hi;exact ⟨c,t',by rw [hk i e];exact h⟩
theorem Mine.from {pv0 pv':List Nat}{w0 w':World}(M:Mine C pv0 w0 w)(M':Mine C pv' w w')(hp:∀ i∈pv',i∈pv0\/w0.heap.size<=i):Mine C pv0 w0 w':=M.trans M' hp
theorem a8c (A:At C l K pv H free un true w)(num a b c:Int)(fr:Frame)(cs:List Frame){Stop:Goroutine->World->Prop}
  (hn:∀ t w',At C l K pv (H.set C.o.bo (.cells (I5 C 0 0 free un true) t (0,0))) free un true w'->Mine C [C.o.bo] w w'->∀ d,Must Tryd.prog false (DL true (sfO l)) Stop (G (fr.finish (.tuple #[.int .i64 0,.int .i64 3])) cs) (w'.at d))(d0:Nat) :
  Must Tryd.prog false (DL true (sfO l)) Stop (G (Frame.enter Tryd.prog 84 (B7 C.o num a b c) .normal) (fr::cs)) (w.at d0):=by
 refine b4i A num a b c fr cs (λd=>?_) d0;have hlt:∀ i∈pv,i<w.heap.size:=λi hi=>(Array.getElem?_eq_some_iff.1 (A.has i hi)).1;have A1:At C l K (w.heap.size::pv) (H.set w.heap.size (A9 a b c)) free un true (w.alloc (A9 a b c)):=A.alloc trivial;obtain ⟨t,A2,M2⟩:=A1.set (j:=12) (x:=.bool true) (free':=free) (un':=un) (go':=true) (by omega) rfl;refine hn t _ (A2.fewer (λi hi=>List.mem_cons_of_mem _ hi) A.own.rc λi hi=>?_) ((a3u [C.o.bo] _).trans M2 (λi hi=>.inl hi)) d
 by_cases e:i=C.o.bo
 ·subst e;rw [w9.set_same,w9.set_same]
 ·have:=hlt i hi;rw [w9.set_other _ _ e,w9.set_other _ _ e,w9.set_other _ _ (by omega)]
theorem b4j (s:q7)(num a b c:Int)(hs:s []=.call num a b c)(fr:Frame)(cs:List Frame)(pv:List Nat)(H:w9)(free:Value)(n:Nat){un:Bool}
  (hB:∀ m,m<=n->(un=false->m<n)->∀ l w0 pv0 K t w,At C l (o8 K C.slot num a b c).K pv (H.set C.o.bo (.cells (I5 C 0 0 free false ((o8 K C.slot num a b c).e == 3)) t (0,0))) free false ((o8 K C.slot num a b c).e == 3) w->Mine C pv0 w0 w->(∀ i∈pv,i∈pv0\/w0.heap.size<=i) ->
   ∀ d,Must Tryd.prog false (DL true (sfO l)) (a1U C (a4Z C m) l w0 pv0 ((o8 K C.slot num a b c).K,s.after (o8 K C.slot num a b c).n (o8 K C.slot num a b c).e)) (G (fr.finish (.tuple #[.int .i64 (o8 K C.slot num a b c).n,.int .i64 (o8 K C.slot num a b c).e])) cs) (w.at d))
  (hE:∀ l w0 pv0 K t w,At C l K pv (H.set C.o.bo (.cells (I5 C 0 0 free false true) t (0,0))) free false true w->Mine C pv0 w0 w->(∀ i∈pv,i∈pv0\/w0.heap.size<=i) ->
   ∀ d,Must Tryd.prog false (DL true (sfO l)) (a8b C l K w0 pv0) (G (fr.finish (.tuple #[.int .i64 0,.int .i64 3])) cs) (w.at d))
  {l:List OpD}{w0:World}{pv0:List Nat}{K:Ker}{w:World}{T:Ker × q7}(A:At C l K pv H free un false w)(M:Mine C pv0 w0 w)(hp:∀ i∈pv,i∈pv0\/w0.heap.size<=i)
  (hT:(un=true/\T=a0O C.slot s K)\/(un=false/\T=(K,s)))(d0:Nat) :
  Must Tryd.prog false (DL true (sfO l)) (a1U C (a4Z C n) l w0 pv0 T) (G (Frame.enter Tryd.prog 84 (B7 C.o num a b c) .normal) (fr::cs)) (w.at d0):=by
 have hlt:∀ i∈pv,i<w.heap.size:=λi hi=>(Array.getElem?_eq_some_iff.1 (A.has i hi)).1;have hbx:w.heap.size≠C.o.bo:=λe=>by have:=hlt _ A.own.rc;omega
 have tail:∀ m,m<=n->(un=false->m<n)->∀ l w0 pv0 K u1 w1,At C l K (w.heap.size::pv) (H.set w.heap.size (A9 a b c)) free u1 false w1\/(∃ t,At C l K (w.heap.size::pv) ((H.set w.heap.size (A9 a b c)).set C.o.bo (.cells (I5 C 0 0 free u1 false) t (0,0))) free u1 false w1)->Mine C pv0 w0 w1->(∀ i∈pv,i∈pv0\/w0.heap.size<=i) ->
   ∀ d,Must Tryd.prog false (DL true (sfO l)) (a1U C (a4Z C m) l w0 pv0 ((o8 K C.slot num a b c).K,s.after (o8 K C.slot num a b c).n (o8 K C.slot num a b c).e)) (G ((a2o C.o.bo w.heap.size num a b c).finish (.bool true)) (fr::cs)) (w1.at d):=by
  intro m hm hm' l w0 pv0 K u1 w1 hA M1 hp1 d;have go:∀ H1,At C l K (w.heap.size::pv) H1 free u1 false w1->H1 w.heap.size=A9 a b c->(∀ i∈pv,i≠C.o.bo->H1 i=H i) ->
    Must Tryd.prog false (DL true (sfO l)) (a1U C (a4Z C m) l w0 pv0 ((o8 K C.slot num a b c).K,s.after (o8 K C.slot num a b c).n (o8 K C.slot num a b c).e)) (G ((a2o C.o.bo w.heap.size num a b c).finish (.bool true)) (fr::cs)) (w1.at d):=by
   intro H1 A1 hb hH;refine b6P (C:=C) num a b c A1.clear fr cs (λd=>?_) d;refine a6x A1 num a b c (List.mem_cons_self ..) hbx hb fr cs (λt w' A2 M2=>?_) d;refine hB m hm hm' l w0 pv0 K t w' (A2.fewer (λi hi=>List.mem_cons_of_mem _ hi) A.own.rc λi hi=>?_) (M1.trans M2 (λi hi=>by obtain rfl:=List.mem_singleton.1 hi;exact hp1 _ A.own.rc)) hp1
   by_cases e:i=C.o.bo
   ·subst e;rw [w9.set_same,w9.set_same]
   ·rw [w9.set_other _ _ e,w9.set_other _ _ e];exact (hH i hi e).symm
  rcases hA with A1|⟨t,A1⟩
  ·exact go _ A1 (w9.set_same _ _ _) (λi hi _=>by have:=hlt i hi;rw [w9.set_other _ _ (by omega)])
  ·exact go _ A1 (by rw [w9.set_other _ _ hbx,w9.set_same]) (λi hi e=>by have:=hlt i hi;rw [w9.set_other _ _ e,w9.set_other _ _ (by omega)])
 have A1:At C l K (w.heap.size::pv) (H.set w.heap.size (A9 a b c)) free un false (w.alloc (A9 a b c)):=A.alloc trivial;have M1:Mine C pv0 w0 (w.alloc (A9 a b c)):=M.trans (a3u [] _) (λi hi=>by cases hi);refine b4h A num a b c fr cs (λd=>?_) d0;rcases hT with ⟨rfl,rfl⟩|⟨rfl,rfl⟩
 ·rw [a4Y hs];exact b4u (o:=C.o) A1.clear (A1.cell rfl) (tail n (Nat.le_refl _) (λh=>by cases h) l w0 pv0 K true _ (.inl A1) M1 hp) d
 ·refine b4v (o:=C.o) A1.mem A1.clear A1.env.ko (A1.cell rfl) (λd=>.stop ?_) d;refine ⟨A1.env.at d,M1.at d,?_⟩;show match s [] with|.call _ _ _ _=>_|.done _ _=>_
  rw [hs];refine ⟨_,w.heap.size::pv,H.set w.heap.size (A9 a b c),free,rfl,?_,λi hi=>?_,?_⟩
  ·exact A1.at d
  ·rcases List.mem_cons.1 hi with rfl|hi
   ·exact .inr M.size
   ·exact hp i hi
  ·cases n with
   | zero=>exact trivial
   | succ m =>
    refine ⟨λl' K' free' un' w' d A'=>?_,λl' K' free' un' w' d A'=>?_⟩
    ·obtain ⟨rfl,rfl,_⟩:=A1.same_row A';rw [a4Y hs];obtain ⟨t,A2,M2⟩:=A'.set (j:=11) (x:=.bool true) (free':=free') (un':=true) (go':=false) (by omega) rfl;refine a8i (o:=C.o) A'.mem A'.clear A'.env.ko (A'.cell (j:=11) rfl) _ _ (λd=>?_) d;refine a8j (o:=C.o) A2.clear true (λd=>?_) d;exact tail m (Nat.le_succ _) (λ_=>Nat.lt_succ_self _) l' w' _ K' true _ (.inr ⟨t,A2⟩) (M2.trans (Mine.refl _ [] _) (λi hi=>by cases hi) |> λh=>⟨h.size,λk hk h0 h1 h2 h3=>h.block k hk (λe=>h0 (by obtain rfl:=List.mem_singleton.1 e;exact List.mem_cons_of_mem _ A.own.rc)) h1 h2 h3⟩) (λi hi=>.inl (List.mem_cons_of_mem _ hi)) d
    ·obtain ⟨rfl,rfl,_⟩:=A1.same_row A';refine b0u (o:=C.o) A'.mem A'.clear _ _ (λd=>?_) d;refine a8j (o:=C.o) A'.clear false (λd=>?_) d;refine b9l A' num a b c fr cs (λd=>?_) d;obtain ⟨t,A2,M2⟩:=A'.set (j:=12) (x:=.bool true) (free':=free') (un':=false) (go':=true) (by omega) rfl;refine hE l' w' _ K' t _ (A2.fewer (λi hi=>List.mem_cons_of_mem _ hi) A.own.rc λi hi=>?_) (⟨M2.size,λk hk h0 h1 h2 h3=>M2.block k hk (λe=>h0 (by obtain rfl:=List.mem_singleton.1 e;exact List.mem_cons_of_mem _ A.own.rc)) h1 h2 h3⟩) (λi hi=>.inl (List.mem_cons_of_mem _ hi)) d
     by_cases e:i=C.o.bo
     ·subst e;rw [w9.set_same,w9.set_same]
     ·have:=hlt i hi;rw [w9.set_other _ _ e,w9.set_other _ _ e,w9.set_other _ _ (by omega)]
end
def Sta (C:Ctx)(l:List OpD)(K:Ker)(pv:List Nat)(H:w9)(free:Value)(un go:Bool)(w:World):Prop:=∃ H',At C l K (C.o.bo::pv) H' free un go w/\∀ i∈pv,i≠C.o.bo/\H' i=H i
def Sub (pv pv0:List Nat)(w0:World):Prop:=∀ i∈pv,i∈pv0\/w0.heap.size<=i
def Ph (C:Ctx)(un:Bool)(T:Ker × q7)(s:q7)(K:Ker):Prop:=(un=true/\T=a0O C.slot s K)\/(un=false/\T=(K,s))
def b9m (m:Nat)(un:Bool):Nat:=2*m+(if un then 1 else 0)
def c2f (C:Ctx)(n:Nat)(s:q7)(pv:List Nat)(H:w9)(free:Value)(go:Bool)(g:Goroutine):Prop :=
 ∀ m l w0 pv0 T K un w,b9m m un<=n->Sta C l K pv H free un go w->Mine C pv0 w0 w->Sub (C.o.bo::pv) pv0 w0->Ph C un T s K->∀ d,Must Tryd.prog false (DL true (sfO l)) (a1U C (a4Z C m) l w0 pv0 T) g (w.at d)
def c1R (C:Ctx)(pv:List Nat)(H:w9)(free:Value)(g:Goroutine):Prop :=
 ∀ l w0 pv0 K un w,Sta C l K pv H free un true w->Mine C pv0 w0 w->Sub (C.o.bo::pv) pv0 w0->∀ d,Must Tryd.prog false (DL true (sfO l)) (a8b C l K w0 pv0) g (w.at d)
def o9 (C:Ctx)(n:Nat)(s:q7)(pv:List Nat)(H:w9)(free:Value)(go:Bool)(g:Goroutine):Prop:=c2f C n s pv H free go g/\(go=true->c1R C pv H free g)
abbrev M (α:Type):=Bool->List (Int × Int)->Node ⊕ (α × Bool × List (Int × Int))
def M.pure {α:Type}(a:α):M α:=λgo h=>.inr (a,go,h)
def M.bind {α β:Type}(m:M α)(f:α->M β):M β:=λgo h=>match m go h with
 | .inl x=>.inl x
 | .inr (a,go',h')=>f a go' h'
def M.then {α:Type}(m:M α)(go:Bool)(k:α->Bool->q7):q7:=λh=>match m go h with
 | .inl x=>x
 | .inr (a,go',h')=>k a go' h'
theorem M.bind_then {α β:Type}(m:M α)(f:α->M β)(go:Bool)(k:β->Bool->q7):(m.bind f).then go k=m.then go (λa go'=>(f a).then go' k):=by
 funext h;unfold M.then M.bind
 cases m go h with
 | inl x=>rfl
 | inr r=>rfl
theorem M.pure_then {α:Type}(a:α)(go:Bool)(k:α->Bool->q7):(M.pure a).then go k=k a go:=rfl
def V3 (num a b c:Int):M (Int × Int):=λgo h=>if go then .inr ((0,3),true,h) else match h with
 | []=>.inl (.call num a b c)
 | (x,e)::h'=>.inr ((x,e),e == 3,h')
section
variable {C:Ctx} {n:Nat} {s:q7} {pv:List Nat} {H:w9} {free:Value} {go:Bool} {g:Goroutine}
theorem Sta.of {l:List OpD}{K:Ker}{un:Bool}{w:World}{H':w9}(A:At C l K (C.o.bo::pv) H' free un go w)(h:∀ i∈pv,i≠C.o.bo/\H' i=H i):Sta C l K pv H free un go w:=⟨H',A,h⟩
theorem a2q {H H':w9}{x:Obj}(h:∀ i∈pv,i≠C.o.bo/\H' i=H i):∀ i∈pv,i≠C.o.bo/\(H'.set C.o.bo x) i=H i:=λi hi=>⟨(h i hi).1,by rw [w9.set_other _ _ (h i hi).1];exact (h i hi).2⟩
theorem o9.less {n':Nat}(h:o9 C n s pv H free go g)(hn:n'<=n):o9 C n' s pv H free go g :=
 ⟨λm l w0 pv0 T K un w hm=>h.1 m l w0 pv0 T K un w (Nat.le_trans hm hn),h.2⟩
theorem a6z (num a b c:Int)(fr:Frame)(cs:List Frame)(k:(Int × Int)->Bool->q7)
  (h1:go=true->o9 C n (k (0,3) true) pv H free true (G (fr.finish (.tuple #[.int .i64 0,.int .i64 3])) cs))
  (h2:go=false->∀ n',n'<n->∀ x e go',go'=(e == 3)->o9 C n' (k (x,e) go') pv H free go' (G (fr.finish (.tuple #[.int .i64 x,.int .i64 e])) cs))
  (h3:go=false->c1R C pv H free (G (fr.finish (.tuple #[.int .i64 0,.int .i64 3])) cs)) :
  o9 C n ((V3 num a b c).then go k) pv H free go (G (Frame.enter Tryd.prog 84 (B7 C.o num a b c) .normal) (fr::cs)):=by
 cases go with
 | true =>
  have h3:=h1 rfl;refine ⟨λm l w0 pv0 T K un w hm ⟨H',A,hH⟩ M S P d=>?_,λ_ l w0 pv0 K un w ⟨H',A,hH⟩ M S d=>?_⟩
  ·refine a8c A num a b c fr cs (λt w' A' M'=>?_) d;exact h3.1 m l w0 pv0 T K un w' hm (.of A' (a2q hH)) (M.trans M' (λi hi=>by obtain rfl:=List.mem_singleton.1 hi;exact S _ (List.mem_cons_self ..))) S P
  ·refine a8c A num a b c fr cs (λt w' A' M'=>?_) d;exact h3.2 rfl l w0 pv0 K un w' (.of A' (a2q hH)) (M.trans M' (λi hi=>by obtain rfl:=List.mem_singleton.1 hi;exact S _ (List.mem_cons_self ..))) S
 | false =>
  refine ⟨λm l w0 pv0 T K un w hm ⟨H',A,hH⟩ M S P d=>?_,λh=>by cases h⟩;refine b4j ((V3 num a b c).then false k) num a b c rfl fr cs (C.o.bo::pv) H' free m (un:=un) (λm' hm' hlt l w0 pv0 K t w A M S d=>?_) (λl w0 pv0 K t w A M S d=>?_) A M S P d
  ·have hr:b9m m' false<n:=by
    unfold b9m at hm ⊢
    cases un with
    | false=>have:=hlt rfl;simp at hm ⊢;omega
    | true=>simp at hm ⊢;omega
   exact (h2 rfl _ hr (o8 K C.slot num a b c).n (o8 K C.slot num a b c).e _ rfl).1 m' l w0 pv0 _ _ false w (Nat.le_refl _) (.of A (a2q hH)) M S (.inr ⟨rfl,rfl⟩) d
  ·exact h3 rfl l w0 pv0 K false w (.of A (a2q hH)) M S d
theorem N8 (num a b c:Int)(fr:Frame)(cs:List Frame)(k:(Int × Int)->Bool->q7)
  (hn:∀ x e go',go'=(e == 3)->o9 C n (k (x,e) go') pv H free go' (G (fr.finish (.tuple #[.int .i64 x,.int .i64 e])) cs)) :
  o9 C n ((V3 num a b c).then go k) pv H free go (G (Frame.enter Tryd.prog 84 (B7 C.o num a b c) .normal) (fr::cs)) :=
 a6z num a b c fr cs k (λ_=>hn 0 3 true rfl) (λ_ n' hn' x e go' hg=>(hn x e go' hg).less (Nat.le_of_lt hn')) (λ_=>(hn 0 3 true rfl).2 rfl)
theorem X7 {R:List Nat->w9->Value->Goroutine->Prop}
  (hstep:∀ l K un w (Stop:Goroutine->World->Prop),Sta C l K pv H free un go w->(∀ pv' H' free' g' w',R pv' H' free' g'->Sta C l K pv' H' free' un go w'->Mine C (C.o.bo::pv) w w'->Sub (C.o.bo::pv') (C.o.bo::pv) w->∀ d,Must Tryd.prog false (DL true (sfO l)) Stop g' (w'.at d))->∀ d,Must Tryd.prog false (DL true (sfO l)) Stop g (w.at d))
  (hn:∀ pv' H' free' g',R pv' H' free' g'->o9 C n s pv' H' free' go g'):o9 C n s pv H free go g:=by
 have sub:∀ {pv' pv0:List Nat} {w0 w:World},Sub (C.o.bo::pv) pv0 w0->Sub (C.o.bo::pv') (C.o.bo::pv) w->w0.heap.size<=w.heap.size->Sub (C.o.bo::pv') pv0 w0:=λh1 h2 hz i hi=>by
  rcases h2 i hi with h|h
  ·exact h1 i h
  ·exact .inr (Nat.le_trans hz h)
 refine ⟨λm l w0 pv0 T K un w hm St M S P d=>?_,λhgo l w0 pv0 K un w St M S d=>?_⟩
 ·exact hstep l K un w _ St (λpv' H' free' g' w' hR St' M' S'=>(hn pv' H' free' g' hR).1 m l w0 pv0 T K un w' hm St' (M.trans M' S) (sub S S' M.size) P) d
 ·subst hgo;exact hstep l K un w _ St (λpv' H' free' g' w' hR St' M' S'=>(hn pv' H' free' g' hR).2 rfl l w0 pv0 K un w' St' (M.trans M' S) (sub S S' M.size)) d
theorem d7 {g':Goroutine}
  (hstep:∀ l K un w (Stop:Goroutine->World->Prop),Sta C l K pv H free un go w->(∀ d,Must Tryd.prog false (DL true (sfO l)) Stop g' (w.at d))->∀ d,Must Tryd.prog false (DL true (sfO l)) Stop g (w.at d))
  (hn:o9 C n s pv H free go g'):o9 C n s pv H free go g :=
 X7 (R:=λpv' H' free' g''=>pv'=pv/\H'=H/\free'=free/\g''=g') (λl K un w Stop St h d=>hstep l K un w Stop St (h pv H free g' w ⟨rfl,rfl,rfl,rfl⟩ St (.refl _ _ _) (λi hi=>.inl hi)) d)
  (λpv' H' free' g'' ⟨h1,h2,h3,h4⟩=>by subst h1 h2 h3 h4;exact hn)
theorem b1B {g':Goroutine}(hr:g.status=.running)(h:∀ u,stepG Tryd.prog false g u=.go g' u #[])(hn:o9 C n s pv H free go g'):o9 C n s pv H free go g :=
 d7 (λl K un w Stop St hd d=>Br.mc hr h hd d) hn
end
end Go.Proofs.YtcgabodkegcpgaaDoor
