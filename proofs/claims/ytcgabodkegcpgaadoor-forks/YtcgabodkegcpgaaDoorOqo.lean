/- run in company. -/
import Derived.Test.YtcgabodkegcpgaaDoorOqm
set_option linter.unusedVariables false
set_option linter.unusedSimpArgs false
set_option maxHeartbeats 20000000
set_option maxRecDepth 100000
namespace Go.Proofs.YtcgabodkegcpgaaDoor
open Go.Conc Go.RowKit
open Br (OpD KO SO SP sfO Lk Fit Must DL Liv Clear)
theorem a8X {P:Program}{main:Bool}{b:Frame}{a:Act}{k:List Item}{cs:List Frame}{w:World}{ops:Array Oper}{i:Nat}{rest:List Nat}{o:Oper}{bi:Builtin}{ars:Array Operand}{ats:Array TypeId}(ho:ops[i]?=some o)(hw:Region.wanted o (yielded ops a.tmps)=true)(hk:b.kind≠.early)
  (hop:o.op=.defer { callee:=.builtin bi,args:=ars,argTypes:=ats }){D:Deferred}(hD:({ target:=.builtin bi ats o.type (ars.map fun|.const _=>true|_=>false),args:=ars.map a.eval }:Deferred)=D) :
  stepG P main (G (b.at a (.inRegion ops (i::rest)::k)) cs) w=.go (G (b.at (Act.put ⟨a.tmps,D::a.defers⟩ o.dst undef) (.inRegion ops rest::k)) cs) w #[]:=by
 have hr:(execOp a.eval o).run P w=.ok (.defer D) w:=by
  unfold execOp;simp [hop,resolve,← hD];intro x hx;cases x<;>rfl
 have he:(execOp a.eval o).events P w #[]=#[]:=by
  unfold execOp;simp [hop,resolve]
 have hf:(b.at ⟨a.tmps,D::a.defers⟩ (.inRegion ops (i::rest)::k)).finish undef=b.at (Act.put ⟨a.tmps,D::a.defers⟩ o.dst undef) (.inRegion ops rest::k):=by rw [Frame.finish_at,ho];rfl
 have hk':(b.kind == CallKind.early)=false:=by simpa using hk
 rw [stepG_oper ho hw,← hf];simp [stepG.apply,hr,he,G,Frame.at,hk',GStep.after,seen_none]
theorem b7j (o:OpD)(l:List OpD)(ho:o∈l)(B:Nat)(hB:∀ o∈l,o.bo<B):Sits Tryd.prog false (KO l) (SP l Br.no) B (N1 o [H6 o,bot]) 34 (born Tryd.prog (dcall 63 #[pO o])):=by
 have hw:=a8h o l ho B hB [H6 o,bot];refine .inl ⟨33,default,rfl,?_⟩;refine Goes.step rfl (λw₁ h₁=>?_);rw [b4H];simp only [goes_go];refine ⟨ds_none _,?_⟩;clear h₁;unfold H6 a8V at *;simp only [Tryd.f63,Option.getD_some,pO] at *;refine Goes.step rfl (λw₁ h₁=>?_);rw [stepG_seq];simp only [goes_go];refine ⟨ds_none _,?_⟩;clear h₁;refine Goes.step rfl (λw₁ h₁=>?_);rw [stepG_region];simp only [goes_go,List.size_toArray,List.length_cons,List.length_nil,Nat.reduceAdd,Nat.zero_add,List.range,List.range.loop];refine ⟨ds_none _,?_⟩;clear h₁;refine Goes.step rfl (λw₁ h₁=>?_);refine goes_oper_k rfl rfl (by decide) (λK hK=>?_);go_simp;refine hK _ _ ⟨⟨rfl,λe he=>by (have hm:=mem_listed he;simp [go_sem] at hm)⟩,?_⟩;clear hK K h₁;refine Goes.step rfl (λw₁ h₁=>?_);refine goes_oper_k rfl rfl (by decide) (λK hK=>?_);go_simp;refine hK _ _ ⟨⟨rfl,λe he=>by (have hm:=mem_listed he;simp [go_sem] at hm)⟩,?_⟩;clear hK K h₁;refine Goes.step rfl (λw₁ h₁=>?_);refine goes_oper_k rfl rfl (by decide) (λK hK=>?_);go_simp;refine hK _ _ ⟨⟨rfl,λe he=>by (have hm:=mem_listed he;simp [go_sem] at hm)⟩,?_⟩;clear hK K h₁;refine Goes.step rfl (λw₁ h₁=>?_);refine goes_oper_k rfl rfl (by decide) (λK hK=>?_);have hf:=V8 h₁ ho;have hf0:=hf.1;have hf1:=hf.2.1;have hf2:=hf.2.2.1;have hfz:=hf.2.2.2;go_simp;refine hK _ _ ⟨⟨rfl,λe he=>by (have hm:=mem_listed he;simp [go_sem, *] at hm;subst hm;exact evC_read _ (.inl ⟨o,ho,1,by omega,rfl⟩) (hB o ho))⟩,?_⟩;clear hK K hf hf0 hf1 hf2 hfz h₁;refine Goes.step rfl (λw₁ h₁=>?_);rw [a8X rfl rfl (by decide) rfl (D:=a1l o) (by unfold a1l;simp only [Tryd.f63];simp [Act.eval])];simp only [goes_go];refine ⟨ds_none _,?_⟩;clear h₁;simp only [Act.put];refine Goes.step rfl (λw₁ h₁=>?_);rw [stepG_region_end];simp only [goes_go];refine ⟨ds_none _,?_⟩;clear h₁;refine Goes.step rfl (λw₁ h₁=>?_);rw [stepG_seq];simp only [goes_go];refine ⟨ds_none _,?_⟩;clear h₁;refine Goes.step rfl (λw₁ h₁=>?_);rw [stepG_region];simp only [goes_go,List.size_toArray,List.length_cons,List.length_nil,Nat.reduceAdd,Nat.zero_add,List.range,List.range.loop];refine ⟨ds_none _,?_⟩;clear h₁;refine Goes.step rfl (λw₁ h₁=>?_);refine goes_oper_k rfl rfl (by decide) (λK hK=>?_);go_simp;refine hK _ _ ⟨⟨rfl,λe he=>by (have hm:=mem_listed he;simp [go_sem] at hm)⟩,?_⟩;clear hK K h₁;refine Goes.step rfl (λw₁ h₁=>?_);rw [k6 rfl rfl (by decide) rfl Tryd.func75 rfl rfl (vs:=#[pO o]) (by simp [Act.eval])];simp only [goes_go];exact ⟨ds_none _,hw w₁⟩
theorem a6P {C:Ctx}{l:List OpD}{K:Ker}{w:World}(E:Env C l K w)(main:Bool)(fr:Frame)(cs:List Frame) :
  Must Tryd.prog main (DL true (sfO l)) (λg w'=>∃ gF gS gD,g=G (fr.finish (A4 K gF gS gD)) cs/\w.heap.size<=w'.heap.size/\(∀ k,k<w.heap.size->w'.heap[k]?=w.heap[k]?)/\Fit (sfO l) w'/\Snap w' gF gS gD K/\w.heap.size<=gF/\w.heap.size<=gS/\w.heap.size<=gD)
   (G (Frame.enter Tryd.prog 13 #[.pointer (some ⟨C.bk,0,none⟩)] .normal) (fr::cs)) w:=by
 obtain ⟨z1,z2,z3⟩:=E.zero
 refine (Br.S8 Br.a3j (by kernel_rfl) E.fit main (Q:=λx v'=>∃ gF gS gD v,x=A4 K gF gS gD/\Lk (sfO l) v w/\Below v.heap.size v v'/\Snap v' gF gS gD K/\v.heap.size<=gF/\v.heap.size<=gS/\v.heap.size<=gD)
  (λv hv=>(a8q (a9b hv z1 z2 z3 E.rep)).mono λe v' he=>by
   obtain ⟨gF,gS,gD,rfl,h1,h2,h3⟩:=he
   exact ⟨gF,gS,gD,v,rfl,hv,h1,h2,h3⟩) fr cs).keep.mono (λ_ _ _ h=>h) ?_
 rintro g w' ⟨⟨x,v',rfl,hl',gF,gS,gD,v,rfl,hl,hb,hS,hF,hs,hD⟩,hkp⟩;have hz:∀ b,w.heap.size<=b->w'.heap[b]?=v'.heap[b]?:=λb hb=>by
  have:sfO l b=0:=Br.G6 λo ho=>by have:=Br.KO.lt E.ko ho;omega
  rw [hl'.heap,this]
  cases e:w'.heap[b]? with
  | none=>rfl
  | some x=>rw [Option.map_some,Br.a1s (hkp.new b x hb e)]
 rw [hl.size] at hF hs hD;refine ⟨gF,gS,gD,rfl,by rw [← hl.size,← hl'.size];exact hb.size,λk hk=>H7 hkp hl hl' (hb.block k (by rw [hl.size];exact hk)),hl'.fit,hS.same λk hk=>hz k ?_,hF,hs,hD⟩;rcases hk with rfl|rfl|rfl<;>assumption
section
variable {C:Ctx} {n:Nat} {l:List OpD} {K:Ker} {pv:List Nat} {H:w9} {free:Value} {un go:Bool} {w:World}
theorem Env.set (E:Env C l K w)(ho:C.o∈l){r:Array Value}{t:TypeId}(hb:w.heap[C.o.bo]?=some (.cells r t (0,0))){j:Nat}(hj:3<=j)(x:Value):Env C l K (w.setCell ⟨C.o.bo,j,none⟩ x):=by
 have hk:∀ k,k≠C.o.bo->(w.setCell ⟨C.o.bo,j,none⟩ x).heap[k]?=w.heap[k]?:=λk hk=>by rw [Br.heap_setCell,if_neg (λe=>hk e.symm)]
 have hb':=a4g r t j x w C.o.bo hb;obtain ⟨a0,a1,a2,a3,a4⟩:=E.ap _ ho;refine ⟨E.rep.same (by simp [World.setCell]) (λk _ h=>hk k (by rcases h with rfl|rfl|rfl|rfl<;>first|exact Ne.symm a0|exact Ne.symm a1|exact Ne.symm a2|exact Ne.symm a3)),E.tab.same (hk 0 (Ne.symm a4)),E.inv,⟨λi hi=>?_,(Br.F5 E.fit.clear.lk (Nat.zero_le _) _).1.sight⟩,λo' ho'=>?_,E.ap⟩
 ·by_cases e:i=C.o.bo
  ·subst e;exact ⟨_,_,hb'⟩
  ·obtain ⟨c,t',h⟩:=E.fit.soft i hi;exact ⟨c,t',by rw [hk i e];exact h⟩
 ·obtain ⟨c,t',h0,h1,h2,h3⟩:=E.ko o' ho'
  by_cases e:o'.bo=C.o.bo
  ·rw [e] at h0 ⊢;rw [hb] at h0;obtain ⟨rfl,rfl,_⟩:=Obj.cells.inj (Option.some.inj h0);refine ⟨_,_,hb',?_,?_,?_⟩
   ·rw [Array.getElem?_setIfInBounds_ne (by omega)];exact h1
   ·rw [Array.getElem?_setIfInBounds_ne (by omega)];exact h2
   ·rw [Array.getElem?_setIfInBounds_ne (by omega)];exact h3
  ·exact ⟨c,t',by rw [hk _ e];exact h0,h1,h2,h3⟩
theorem Mine.set (w:World)(j:Nat)(x:Value):Mine C [C.o.bo] w (w.setCell ⟨C.o.bo,j,none⟩ x) :=
 ⟨by simp [World.setCell],λk _ h0 _ _ _=>by rw [Br.heap_setCell,if_neg (λe=>h0 (List.mem_singleton.2 (Eq.symm e)))]⟩
theorem b0x (x e:Int)(st:Value)(St:Sta C l K pv H free un go w){Stop:Goroutine->World->Prop}
  (hS:∀ tm w',Env C l K w'->Mine C [C.o.bo] w w'->(∃ t,w'.heap[C.o.bo]?=some (.cells (I5 C e x free un go) t (0,0)))->Stop (G { (baseD 63).at ⟨tm,[a1l C.o]⟩ [] with mode:=.returning } [bot]) w')(d0:Nat) :
  Must Tryd.prog false (DL true (sfO l)) Stop (G ((a5d C.o C.bk st).finish (.tuple #[.int .i64 x,.int .i64 e])) [bot]) (w.at d0):=by
 obtain ⟨H',A,hH⟩:=St;obtain ⟨t,hb⟩:=A.blk;have hmem:=A.mem;have E1:=A.env.set hmem hb (j:=9) (by omega) (.int .i64 x);have hb1:(w.setCell ⟨C.o.bo,9,none⟩ (.int .i64 x)).heap[C.o.bo]?=some (.cells (I5 C 0 x free un go) t (0,0)):=a4g _ t 9 _ w C.o.bo hb;have E2:=E1.set hmem hb1 (j:=8) (by omega) (.int .i64 e);have hb2:((w.setCell ⟨C.o.bo,9,none⟩ (.int .i64 x)).setCell ⟨C.o.bo,8,none⟩ (.int .i64 e)).heap[C.o.bo]?=some (.cells (I5 C e x free un go) t (0,0)):=a4g _ t 8 _ _ C.o.bo hb1;have c9:w.cell? ⟨C.o.bo,9,none⟩=some (.int .i64 0):=A.cell rfl;have z9:w.frozen? ⟨C.o.bo,9,none⟩=false:=by simp [World.frozen?,hb]
 have c8:(w.setCell ⟨C.o.bo,9,none⟩ (.int .i64 x)).cell? ⟨C.o.bo,8,none⟩=some (.int .i64 0):=by simp only [World.cell?,hb1];rfl
 have z8:(w.setCell ⟨C.o.bo,9,none⟩ (.int .i64 x)).frozen? ⟨C.o.bo,8,none⟩=false:=by simp [World.frozen?,hb1]
 have y8:w.cell? ⟨C.o.bo,8,none⟩=some (.int .i64 0):=A.cell rfl;have x8:w.frozen? ⟨C.o.bo,8,none⟩=false:=by simp [World.frozen?,hb]
 have hc:=A.clear;have fin:=λtm d=>hS tm _ (E2.at d) (((Mine.set w 9 _).trans (Mine.set _ 8 _) (λi hi=>.inl hi)).at d) ⟨t,hb2⟩;clear E1 E2 hb1 hb2;unfold a5d at *;simp only [Tryd.f63,pO] at *;rw [Frame.finish_at];go_simp;(iterate 6(refine Br.mo rfl rfl λd K' hK=>?_;go_simp;refine hK _ _ ⟨rfl,?_⟩;clear hK K'));refine Br.t8 rfl rfl (by decide) (λd K' hK=>?_) _;have ej:(w.at d).cell? ⟨C.o.bo,9,none⟩=some (.int .i64 0):=c9;have ez:(w.at d).frozen? ⟨C.o.bo,9,none⟩=false:=z9;go_simp;refine hK _ _ ⟨Br.Q7 (by rw [Br.I9 hmem];show 3<=9;omega) (World.block_lt_of_cell? _ _ ej) (λe he=>?_),?_⟩
 ·have hm:=mem_listed he;simp only [go_sem] at hm;simp [go_sem] at hm
  try rw [events_store _ _ _ _ _ _ rfl] at hm
  first|rw [ej] at hm|rw [c9] at hm|rw [y8] at hm
  first|rw [ez] at hm|rw [z9] at hm|rw [x8] at hm
  simp only [Bool.false_eq_true,if_false,List.push_toArray,List.nil_append,List.mem_toArray,List.mem_cons,List.not_mem_nil,or_false] at hm;exact hm
 clear hK K' ej ez;rw [show (w.at d).setCell ⟨C.o.bo,9,none⟩ (.int .i64 x)=(w.setCell ⟨C.o.bo,9,none⟩ (.int .i64 x)).at d from rfl];have hc:Clear (w.setCell ⟨C.o.bo,9,none⟩ (.int .i64 x)):=(Br.F5 hc.lk (Nat.zero_le _) _).1.sight;(iterate 3(refine Br.mo rfl rfl λd K' hK=>?_;go_simp;refine hK _ _ ⟨rfl,?_⟩;clear hK K'));refine Br.t8 rfl rfl (by decide) (λd K' hK=>?_) _;have ej:((w.setCell ⟨C.o.bo,9,none⟩ (.int .i64 x)).at d).cell? ⟨C.o.bo,8,none⟩=some (.int .i64 0):=c8;have ez:((w.setCell ⟨C.o.bo,9,none⟩ (.int .i64 x)).at d).frozen? ⟨C.o.bo,8,none⟩=false:=z8;go_simp;refine hK _ _ ⟨Br.Q7 (by rw [Br.I9 hmem];show 3<=8;omega) (World.block_lt_of_cell? _ _ ej) (λe he=>?_),?_⟩
 ·have hm:=mem_listed he;simp only [go_sem] at hm;simp [go_sem] at hm
  try rw [events_store _ _ _ _ _ _ rfl] at hm
  first|rw [ej] at hm|rw [c8] at hm|rw [y8] at hm
  first|rw [ez] at hm|rw [z8] at hm|rw [x8] at hm
  simp only [Bool.false_eq_true,if_false,List.push_toArray,List.nil_append,List.mem_toArray,List.mem_cons,List.not_mem_nil,or_false] at hm;exact hm
 clear hK K' ej ez;rw [show ((w.setCell ⟨C.o.bo,9,none⟩ (.int .i64 x)).at d).setCell ⟨C.o.bo,8,none⟩ (.int .i64 e)=((w.setCell ⟨C.o.bo,9,none⟩ (.int .i64 x)).setCell ⟨C.o.bo,8,none⟩ (.int .i64 e)).at d from rfl];have hc:Clear ((w.setCell ⟨C.o.bo,9,none⟩ (.int .i64 x)).setCell ⟨C.o.bo,8,none⟩ (.int .i64 e)):=(Br.F5 hc.lk (Nat.zero_le _) _).1.sight;refine Br.a9 (λd=>?_) _;refine Br.mc rfl (λu=>stepG_end) (λd=>?_) _;exact .stop (fin _ _)
end
section
variable {C:Ctx} {n:Nat} {l:List OpD} {K:Ker} {pv:List Nat} {H:w9} {free:Value} {un go:Bool} {w:World}
theorem b7k (x e:Int)(st:Value):o9 C n (λ_=>.done x e) [] H free go (G ((a5d C.o C.bk st).finish (.tuple #[.int .i64 x,.int .i64 e])) [bot]):=by
 refine ⟨λm l w0 pv0 T K un w hm St M S P d=>?_,λhgo l w0 pv0 K un w St M S d=>?_⟩
 ·obtain rfl:T=(K,λ_=>.done x e):=by rcases P with ⟨_,h⟩|⟨_,h⟩<;>rw [h]<;>rfl
  refine b0x x e st St (λtm w' E M' hr=>?_) d;obtain ⟨t,hr⟩:=hr;exact ⟨E,M.trans M' (λi hi=>by obtain rfl:=List.mem_singleton.1 hi;exact S _ (List.mem_cons_self ..)),b2a C tm,t,_,_,_,hr⟩
 ·subst hgo;refine b0x x e st St (λtm w' E M' hr=>?_) d;exact ⟨E,M.trans M' (λi hi=>by obtain rfl:=List.mem_singleton.1 hi;exact S _ (List.mem_cons_self ..)),b2a C tm⟩
def A8 (C:Ctx)(p:Nat)(K:Ker):q7:=(N3 K p C.kd C.A C.B).then false (λz _=>λ_=>.done z.1 z.2)
theorem b7l {pv:List Nat}{H:w9}{g t m:Nat}{f:Nat->Value}{w:World}(hr:w.rowIs g t m f)(hg:g∈pv)(hH:w.heap[g]?=some (H g)):Row pv H g t m f:=by
 obtain ⟨c,h1,h2,h3⟩:=hr;rw [hH] at h1;exact ⟨hg,c,Option.some.inj h1,h2,h3⟩
theorem b4J {p:Nat}(hC:C.slot=p)(hp:p<K.nS)(A:At C l K [C.o.bo] H free un false w)(d0:Nat) :
  Must Tryd.prog false (DL true (sfO l)) (a1U C (a4Z C n) l w [C.o.bo] (a0O C.slot (A8 C p K) K)) (Go.Conc.served (J1 C.o [H6 C.o,bot]) a4r) (w.at d0):=by
 obtain ⟨t,A2,M2⟩:=A.set (j:=11) (x:=.bool true) (free':=free) (un':=true) (go':=false) (by omega) rfl;refine a8i (o:=C.o) A.mem A.clear A.env.ko (A.cell (j:=11) rfl) _ _ (λd=>?_) d0;generalize w.setCell ⟨C.o.bo,11,none⟩ (.bool true)=w1 at *;have hc:=A2.clear;have c3:w1.cell? ⟨C.o.bo,3,none⟩=some (.pointer (some ⟨C.bk,0,none⟩)):=A2.cell rfl;have key:∀ d,Must Tryd.prog false (DL true (sfO l)) (a1U C (a4Z C n) l w [C.o.bo] (a0O C.slot (A8 C p K) K)) (G (Frame.enter Tryd.prog 13 #[.pointer (some ⟨C.bk,0,none⟩)] .normal) [a8W C.o C.bk,bot]) (w1.at d):=λd=>by
  refine (a6P (A2.env.at d) false (a8W C.o C.bk) [bot]).then ?_;rintro g w2 ⟨gF,gS,gD,rfl,hsz,hk,hfit,hS,hF,hs,hD⟩;have hw2:∀ b,w1.heap.size<=b->b<w2.heap.size->w2.heap[b]?=some ((w2.heap[b]?).getD default):=λb _ h=>by rw [Array.getElem?_eq_getElem h];rfl
  have lt:∀ {g t m f},w2.rowIs g t m f->g<w2.heap.size:=λh=>by obtain ⟨c,h1,_⟩:=h;exact (Array.getElem?_eq_some_iff.1 h1).1
  have A3:=(A2.at d).gain (bs:=[gF,gS]) (Hn:=λb=>(w2.heap[b]?).getD default) hfit hsz hk (λb hb=>by
   rcases List.mem_cons.1 hb with rfl|hb
   ·exact ⟨hF,hw2 _ hF (lt hS.f)⟩
   ·obtain rfl:=List.mem_singleton.1 hb
    exact ⟨hs,hw2 _ hs (lt hS.s)⟩)
  have hne:∀ b,w1.heap.size<=b->b≠C.o.bo:=λb hb e=>by
   have:=(Array.getElem?_eq_some_iff.1 (A2.has _ A2.own.rc)).1;omega
  obtain ⟨H3,A3⟩:∃ H3,At C l K ([C.o.bo] ++ [gF,gS]) H3 free true false w2:=⟨_,A3⟩
  have St:Sta C l K [gF,gS] H3 free true false w2:=⟨H3,A3,λi hi=>⟨hne i (by
   rcases List.mem_cons.1 hi with rfl|hi
   ·exact hF
   ·obtain rfl:=List.mem_singleton.1 hi;exact hs),rfl⟩⟩
  have good:=a8U (C:=C) (n:=b9m n true) (go:=false) (free:=free) (pv:=[gF,gS]) (H:=H3) K gF gS gD p A2.env.rep.hF (Nat.le_trans A2.env.rep.hS (by omega)) hp hC (b7l hS.f (by simp) (A3.has gF (by simp))) (b7l hS.s (by simp) (A3.has gS (by simp))) (a5d C.o C.bk (A4 K gF gS gD)) [bot] (λz _=>λ_=>.done z.1 z.2) (λx e H' free' go'=>b7k x e _);have M3:Mine C [C.o.bo] w w2:=M2.trans (⟨hsz,λk hk' _ _ _ _=>hk k hk'⟩:Mine C [C.o.bo] w1 w2) (λi hi=>.inl hi)
  have live:=good.1 n l w [C.o.bo] (a0O C.slot (A8 C p K) K) K true w2 (Nat.le_refl _) St M3 (λi hi=>by
   rcases List.mem_cons.1 hi with rfl|hi
   ·exact .inl (by simp)
   ·refine .inr (Nat.le_trans M2.size ?_);rcases List.mem_cons.1 hi with rfl|hi
    ·exact hF
    ·obtain rfl:=List.mem_singleton.1 hi;exact hs) (.inl ⟨rfl,rfl⟩)
  have hc2:Clear w2:=hfit.clear;clear good St A3;have live':∀ d,Must Tryd.prog false (DL true (sfO l)) (a1U C (a4Z C n) l w [C.o.bo] (a0O C.slot (A8 C p K) K)) (G (Frame.enter Tryd.prog 76 #[pO C.o,A4 K gF gS gD] .normal) [a5d C.o C.bk (A4 K gF gS gD),bot]) (w2.at d):=live;clear live;unfold a8W;unfold a5d at live';simp only [Tryd.f63,pO] at *;rw [Frame.finish_at];generalize a1U C (a4Z C n) l w [C.o.bo] (a0O C.slot (A8 C p K) K)=SS at *;clear hC hp;rw [show w2=w2.at w2.drawn from rfl];generalize w2.drawn=dd;simp only [Act.put];go_simp;refine Br.mc rfl (λu=>k6 rfl rfl (by decide) rfl Tryd.func76 rfl rfl (vs:=#[pO C.o,A4 K gF gS gD]) (by simp [Act.eval]) u) (λd=>?_) _;exact live' _
 generalize a1U C (a4Z C n) l w [C.o.bo] (a0O C.slot (A8 C p K) K)=SS at *;clear hC hp;unfold H6;unfold a8W at key;simp only [Tryd.f63,pO] at *;rw [Frame.finish_at];go_simp;refine Br.a9 (λd=>?_) _;refine Br.mc rfl (λu=>stepG_cond (t:=true) rfl) (λd=>?_) _;simp only [if_true,if_false,Bool.false_eq_true,↓reduceIte];refine Br.b9 (λd=>?_) _;simp only [Br.rz,Br.ix,Nat.reduceAdd];(iterate 6(refine Br.mo rfl rfl λd K' hK=>?_;go_simp;refine hK _ _ ⟨rfl,?_⟩;clear hK K'));refine Br.mo rfl rfl λd K' hK=>?_;have e3:(w1.at d).cell? ⟨C.o.bo,3,none⟩=some (.pointer (some ⟨C.bk,0,none⟩)):=c3;go_simp;refine hK _ _ ⟨rfl,?_⟩;clear hK K';refine Br.mc rfl (λu=>k6 rfl rfl (by decide) rfl Tryd.func13 rfl rfl (vs:=#[.pointer (some ⟨C.bk,0,none⟩)]) (by simp [Act.eval]) u) (λd=>?_) _;exact key _
theorem b7m (A:At C l K [C.o.bo] H free un false w)(d0:Nat) :
  Must Tryd.prog false (DL true (sfO l)) (a8b C l K w [C.o.bo]) (Go.Conc.served (J1 C.o [H6 C.o,bot]) a8Q) (w.at d0):=by
 refine b0u (o:=C.o) A.mem A.clear _ _ (λd=>?_) d0;have fin:=λtm d=>(⟨A.env.at d,(Mine.refl C [C.o.bo] w).at d,b2a C tm⟩:a8b C l K w [C.o.bo] (G { (baseD 63).at ⟨tm,[a1l C.o]⟩ [] with mode:=.returning } [bot]) (w.at d))
 have hc:=A.clear;unfold H6;simp only [Tryd.f63,pO] at *;rw [Frame.finish_at];go_simp;refine Br.a9 (λd=>?_) _;refine Br.mc rfl (λu=>stepG_cond (t:=false) rfl) (λd=>?_) _;simp only [if_true,if_false,Bool.false_eq_true,↓reduceIte];refine Br.l9 (λd=>?_) _;refine Br.mc rfl (λu=>stepG_end) (λd=>?_) _;exact .stop (fin _ _)
end
end Go.Proofs.YtcgabodkegcpgaaDoor
namespace Go.Proofs.YtcgabodkegcpgaaDoor
open Go.Conc Go.RowKit
open Br (OpD KO SO SP sfO Lk Fit Must DL Liv Clear X)
structure Kb where
 bk:Nat
 bf:Nat
 bs:Nat
 bd:Nat
structure Lv where
 C:Ctx
 S:Ker->q7
 pv:List Nat
 H:w9
 cs:List Frame
abbrev Lv.g (v:Lv):Nat:=v.C.o.gid
def Lv.ch (v:Lv)(c:Nat):Prop:=c=v.C.o.tu\/c=v.C.o.to\/c=v.C.o.en
def b7n (n ns:Nat)(v:Lv):Prop :=
 (∀ l K free un w d,K.nS=ns->At v.C l K v.pv v.H free un false w->Must Tryd.prog false (DL true (sfO l)) (a1U v.C (a4Z v.C n) l w v.pv (a0O v.C.slot (v.S K) K)) (Go.Conc.served (J1 v.C.o v.cs) a4r) (w.at d)) /\
 (∀ l K free un w d,At v.C l K v.pv v.H free un false w->Must Tryd.prog false (DL true (sfO l)) (a8b v.C l K w v.pv) (Go.Conc.served (J1 v.C.o v.cs) a8Q) (w.at d))
theorem b2b (n:Nat){ns p:Nat}(C:Ctx)(hC:C.slot=p)(hp:p<ns)(H:w9):b7n n ns ⟨C,A8 C p,[C.o.bo],H,[H6 C.o,bot]⟩ :=
 ⟨λl K free un w d hn A=>b4J hC (hn▸hp) A d,λl K free un w d A=>b7m A d⟩
theorem b4K {n ns:Nat}{C:Ctx}{s:q7}{pv:List Nat}{H:w9}{cs:List Frame}(h:a4Z C (n+1) s pv H cs):b7n n ns ⟨C,λ_=>s,pv,H,cs⟩ :=
 ⟨λl K free un w d _ A=>h.1 l K free un w d A,λl K free un w d A=>h.2 l K free un w d A⟩
def kc (kb:Kb):Ctx:=⟨⟨0,0,0,0,0⟩,0,0,0,0,kb.bk,kb.bf,kb.bs,kb.bd⟩
abbrev b2c (kb:Kb)(l:List OpD)(K:Ker)(w:World):Prop:=Env (kc kb) l K w
structure OnK (kb:Kb) (C:Ctx):Prop where
 k:C.bk=kb.bk
 f:C.bf=kb.bf
 s:C.bs=kb.bs
 d:C.bd=kb.bd
theorem OnK.env {kb:Kb}{C:Ctx}(h:OnK kb C){l:List OpD}{K:Ker}{w:World}(E:b2c kb l K w):Env C l K w:=by
 obtain ⟨h1,h2,h3,h4⟩:=h;exact ⟨by rw [h1,h2,h3,h4];exact E.rep,E.tab,E.inv,E.fit,E.ko,by rw [h1,h2,h3,h4];exact E.ap⟩
theorem OnK.back {kb:Kb}{C:Ctx}(h:OnK kb C){l:List OpD}{K:Ker}{w:World}(E:Env C l K w):b2c kb l K w:=by
 obtain ⟨h1,h2,h3,h4⟩:=h;exact ⟨by show Rep w kb.bk kb.bf kb.bs kb.bd K;rw [← h1,← h2,← h3,← h4];exact E.rep,E.tab,E.inv,E.fit,E.ko,by show ∀ o∈l,o.bo≠kb.bk/\o.bo≠kb.bf/\o.bo≠kb.bs/\o.bo≠kb.bd/\o.bo≠0;rw [← h1,← h2,← h3,← h4];exact E.ap⟩
structure Co (kb:Kb) (l:List OpD) (K:Ker) (L:Nat->Option Lv) (r:Nat) (Inb:Nat->Option Seat) (nG:Nat) (w:World):Prop where
 env:b2c kb l K w
 top:0≠kb.bf/\0≠kb.bs/\0≠kb.bd
 gid:∀ g v,L g=some v->v.g=g/\0<g/\g<nG
 onk:∀ g v,L g=some v->OnK kb v.C
 at_:∀ g v,L g=some v->∃ free un,At v.C l K v.pv v.H free un false w
 wait:∀ g v,L g=some v->∃ m,r<=m/\b7n m K.nS v
 seat:∀ g v,L g=some v->Inb g=some (N1 v.C.o v.cs)
 none:∀ g,g≠0->L g=.none->Inb g=.none
 main0:∀ s c,Inb 0=some s->s.has c->c<w.heap.size
 chan:∀ g v,L g=some v->∀ c,v.ch c->(∃ cap k,w.heap[c]?=some (.chan cap #[] false k k false))/\c≠kb.bk/\c≠kb.bf/\c≠kb.bs/\c≠kb.bd/\c≠0/\∀ o∈l,o.bo≠c
 chne:∀ g v,L g=some v->v.C.o.tu≠v.C.o.to/\v.C.o.tu≠v.C.o.en/\v.C.o.to≠v.C.o.en
 pvch:∀ g v g' v',L g=some v->L g'=some v'->∀ c,v'.ch c->c ∉ v.pv
 apart:∀ g v g' v',L g=some v->L g'=some v'->g≠g'->(∀ i∈v.pv,i ∉ v'.pv)/\∀ c,v.ch c->¬ v'.ch c
structure Mn (kb:Kb) (L:Nat->Option Lv) (w:World) (k:Nat):Prop where
 lt:k<w.heap.size
 nf:k≠kb.bf
 ns:k≠kb.bs
 nd:k≠kb.bd
 own:∀ g v,L g=some v->k ∉ v.pv/\¬ v.ch k
theorem a8m {w:World}{c:Nat}{cap:Nat}{buf:Array Value}{cl:Bool}{a b:Nat}{tm:Bool}(h:c<w.heap.size):(w.setChan c cap buf cl a b tm).heap[c]?=some (.chan cap buf cl a b tm):=by
 simp [World.setChan,h]
theorem P9 {w:World}{c k:Nat}{cap:Nat}{buf:Array Value}{cl:Bool}{a b:Nat}{tm:Bool}(h:k≠c):(w.setChan c cap buf cl a b tm).heap[k]?=w.heap[k]?:=heap_setChan_ne _ _ _ _ _ _ _ (Ne.symm h)
theorem b2d {w:World}(h:Clear w)(c cap:Nat)(buf:Array Value)(cl:Bool)(a b:Nat)(tm:Bool):Clear (w.setChan c cap buf cl a b tm):=trivial
theorem Env.chan {C:Ctx}{l:List OpD}{K:Ker}{w:World}(E:Env C l K w){c:Nat}(h:c≠C.bk/\c≠C.bf/\c≠C.bs/\c≠C.bd/\c≠0/\∀ o∈l,o.bo≠c)(cap:Nat)(buf:Array Value)(cl:Bool)(a b:Nat)(tm:Bool):Env C l K (w.setChan c cap buf cl a b tm):=by
 obtain ⟨h1,h2,h3,h4,h5,h6⟩:=h;refine ⟨E.rep.same (by simp [World.setChan]) (λk _ hk=>P9 (by rcases hk with rfl|rfl|rfl|rfl<;>first|exact Ne.symm h1|exact Ne.symm h2|exact Ne.symm h3|exact Ne.symm h4)),E.tab.same (P9 (Ne.symm h5)),E.inv,⟨λi hi=>?_,b2d E.fit.clear _ _ _ _ _ _ _⟩,Br.KO.chan h6 _ _ _ _ _ _ E.ko,E.ap⟩;obtain ⟨o,ho,rfl⟩:=Br.b1s hi;obtain ⟨x,t,hh⟩:=E.fit.soft _ hi;exact ⟨x,t,by rw [P9 (h6 o ho)];exact hh⟩
theorem At.other {C:Ctx}{l:List OpD}{K K':Ker}{pv:List Nat}{H:w9}{free:Value}{un go:Bool}{w w':World}(A:At C l K pv H free un go w)(E:Env C l K' w')(hk:∀ i∈pv,w'.heap[i]?=w.heap[i]?):At C l K' pv H free un go w' :=
 ⟨E,A.mem,A.own,λi hi=>by rw [hk i hi];exact A.has i hi,A.row,A.top,A.far⟩
theorem At.lt {C:Ctx}{l:List OpD}{K:Ker}{pv:List Nat}{H:w9}{free:Value}{un go:Bool}{w:World}(A:At C l K pv H free un go w){i:Nat}(hi:i∈pv):i<w.heap.size:=(Array.getElem?_eq_some_iff.1 (A.has i hi)).1
theorem a4u {w w':World}{bk bf bs bd:Nat}{K K':Ker}(R:Rep w bk bf bs bd K)(R':Rep w' bk bf bs bd K')(hk:w'.heap[bk]?=w.heap[bk]?):K'.nF=K.nF/\K'.nS=K.nS/\K'.nD=K.nD:=by
 have e:=λj=>World.cell?_of_block (w:=w) (w':=w') (a:=⟨bk,j,none⟩) hk;have e0:=(R'.k0.symm.trans (e 0)).trans R.k0;have e1:=(R'.k1.symm.trans (e 1)).trans R.k1;have e2:=(R'.k2.symm.trans (e 2)).trans R.k2;injection e0 with e0
 injection e1 with e1
 injection e2 with e2
 injection e0 with _ e0
 injection e1 with _ e1
 injection e2 with _ e2
 exact ⟨e0,e1,e2⟩
def E8 (c:Nat)(ok:Bool)(rec:Goroutine):Seat:=Seat.one c (.agg #[]) ok (λg=>g=rec)
section
variable {kb:Kb} {l:List OpD} {K:Ker} {L:Nat->Option Lv} {r:Nat} {Inb:Nat->Option Seat} {nG:Nat} {w:World} {v:Lv} {Final:Machine->Trace->Prop}
theorem Co.inb (co:Co kb l K L r Inb nG w){i:Nat}{s:Seat}(hi:i≠0)(h:Inb i=some s):∃ u,L i=some u/\s=N1 u.C.o u.cs:=by
 cases e:L i with
 | none=>rw [co.none i hi e] at h;cases h
 | some u=>rw [co.seat i u e] at h;exact ⟨u,rfl,(Option.some.inj h).symm⟩
theorem Co.chan_ne (co:Co kb l K L r Inb nG w){g:Nat}(hv:L g=some v){c:Nat}(hc:v.ch c):c≠v.C.bk/\c≠v.C.bf/\c≠v.C.bs/\c≠v.C.bd/\c≠0/\∀ o∈l,o.bo≠c:=by
 obtain ⟨_,h1,h2,h3,h4,h5,h6⟩:=co.chan g v hv c hc;obtain ⟨k1,k2,k3,k4⟩:=co.onk g v hv;rw [k1,k2,k3,k4];exact ⟨h1,h2,h3,h4,h5,h6⟩
theorem c0O (co:Co kb l K L r Inb nG w){j:Nat}(hv:L j=some v)(ok:Bool)(rec a:Goroutine)(hx:X Tryd.prog Final l (ConcN.upd Inb 0 (some (E8 v.C.o.to ok rec))) nG 0 a w):X Tryd.prog Final l Inb nG 0 a w:=by
 refine Br.b0b (E8 v.C.o.to ok rec) (Seat.one_wf _ _ _ _) (λi s' c hi hs hc hc'=>?_) (λc hc=>?_) (λc hc=>?_) hx
 ·obtain rfl:c=v.C.o.to:=Seat.one_has.1 hc';obtain ⟨u,hu,rfl⟩:=co.inb hi hs;have hc2:=O0 hc
  by_cases e:i=j
  ·subst e;rw [hv] at hu;obtain rfl:=Option.some.inj hu;obtain ⟨n1,n2,n3⟩:=co.chne _ _ hv;rcases hc2 with h|h
   ·exact n1 h.symm
   ·exact n3 h
  ·exact (co.apart i u j v hu hv e).2 _ (by rcases hc2 with h|h;exact .inl h;exact .inr (.inr h)) (.inr (.inl rfl))
 ·obtain rfl:c=v.C.o.to:=Seat.one_has.1 hc;exact (co.chan _ _ hv _ (.inr (.inl rfl))).1
 ·obtain rfl:c=v.C.o.to:=Seat.one_has.1 hc;exact (co.chan_ne hv (.inr (.inl rfl))).2.2.2.2.2
def Kp (kb:Kb)(L:Nat->Option Lv)(w:World)(L':Nat->Option Lv)(w':World):Prop:=∀ k,Mn kb L w k->Mn kb L' w' k/\w'.heap[k]?=w.heap[k]?
theorem b7o {r':Nat}(hr:r<=r')(co:Co kb l K L r' Inb nG w){j:Nat}(hv:L j=some v){K':Ker}{w2 w3:World}{Inb':Nat->Option Seat}{o:Option Lv}
  (hE:b2c kb l K' w3)(hS:K'.nS=K.nS)(hsz:w.heap.size<=w3.heap.size)(hk:∀ k,k<w.heap.size->k ∉ v.pv->k≠kb.bf->k≠kb.bs->k≠kb.bd->¬ v.ch k->w3.heap[k]?=w.heap[k]?)
  (hj:∀ v',o=some v'->v'.C=v.C/\(∃ free un,At v'.C l K' v'.pv v'.H free un false w3)/\(∃ m,r<=m/\b7n m K'.nS v')/\Inb' j=some (N1 v'.C.o v'.cs)/\(∀ i∈v'.pv,i∈v.pv\/w.heap.size<=i)/\∀ c,v.ch c->∃ cap k,w3.heap[c]?=some (.chan cap #[] false k k false))
  (h00:∀ s c,Inb' 0=some s->s.has c->c<w3.heap.size)(hn:o=none->Inb' j=none)(hI:∀ i,i≠0->i≠j->Inb' i=Inb i):Co kb l K' (ConcN.upd L j o) r Inb' nG w3/\Kp kb L w (ConcN.upd L j o) w3:=by
 have hlt:∀ g u,L g=some u->∀ i∈u.pv,i<w.heap.size:=λg u hu i hi=>by obtain ⟨f,n,A⟩:=co.at_ g u hu;exact A.lt hi
 have hclt:∀ g u,L g=some u->∀ c,u.ch c->c<w.heap.size:=λg u hu c hc=>by
  obtain ⟨⟨cap,k,h⟩,_⟩:=co.chan g u hu c hc;exact (Array.getElem?_eq_some_iff.1 h).1
 have hapn:∀ g u,L g=some u->∀ i∈u.pv,i≠kb.bk/\i≠kb.bf/\i≠kb.bs/\i≠kb.bd/\i≠0:=λg u hu i hi=>by
  obtain ⟨f,n,A⟩:=co.at_ g u hu;obtain ⟨k1,k2,k3,k4⟩:=co.onk g u hu;have:=A.own.ap i hi;rw [k1,k2,k3,k4] at this;exact this
 have cases:∀ g u,ConcN.upd L j o g=some u->(g=j/\o=some u)\/(g≠j/\L g=some u):=λg u h=>by
  by_cases e:g=j
  ·subst e;rw [ConcN.upd_same] at h;exact .inl ⟨rfl,h⟩
  ·rw [ConcN.upd_ne _ _ e] at h;exact .inr ⟨e,h⟩
 have chv:∀ v',o=some v'->∀ c,v'.ch c↔v.ch c:=λv' h c=>by unfold Lv.ch;rw [(hj v' h).1]
 refine ⟨⟨hE,co.top,λg u h=>?_,λg u h=>?_,λg u h=>?_,λg u h=>?_,λg u h=>?_,λg h0 h=>?_,h00,λg u h c hc=>?_,λg u h=>?_,λg u g' u' h h' c hc=>?_,λg u g' u' h h' hne=>?_⟩,λk hM=>⟨⟨Nat.lt_of_lt_of_le hM.lt hsz,hM.nf,hM.ns,hM.nd,λg u h=>?_⟩,hk k hM.lt (hM.own j v hv).1 hM.nf hM.ns hM.nd (hM.own j v hv).2⟩⟩
 ·rcases cases g u h with ⟨rfl,h5⟩|⟨_,h5⟩
  ·have:=co.gid _ _ hv;unfold Lv.g at this ⊢;rw [(hj u h5).1];exact this
  ·exact co.gid g u h5
 ·rcases cases g u h with ⟨rfl,h5⟩|⟨_,h5⟩
  ·rw [(hj u h5).1];exact co.onk _ _ hv
  ·exact co.onk g u h5
 ·rcases cases g u h with ⟨rfl,h5⟩|⟨e,h5⟩
  ·exact (hj u h5).2.1
  ·obtain ⟨f,n,A⟩:=co.at_ g u h5;exact ⟨f,n,A.other ((co.onk g u h5).env hE) λi hi=>hk i (A.lt hi) (λhi'=>(co.apart g u j v h5 hv e).1 i hi hi') (hapn g u h5 i hi).2.1 (hapn g u h5 i hi).2.2.1 (hapn g u h5 i hi).2.2.2.1 (λhc=>co.pvch g u j v h5 hv i hc hi)⟩
 ·rcases cases g u h with ⟨rfl,h5⟩|⟨_,h5⟩
  ·exact (hj u h5).2.2.1
  ·obtain ⟨m,h1,h2⟩:=co.wait g u h5;exact ⟨m,by omega,hS▸h2⟩
 ·rcases cases g u h with ⟨rfl,h5⟩|⟨e,h5⟩
  ·exact (hj u h5).2.2.2.1
  ·have:=co.gid g u h5;rw [hI g (by omega) e];exact co.seat g u h5
 ·by_cases e:g=j
  ·subst e;rw [ConcN.upd_same] at h;exact hn h
  ·rw [ConcN.upd_ne _ _ e] at h;rw [hI g h0 e];exact co.none g h0 h
 ·rcases cases g u h with ⟨rfl,h5⟩|⟨e,h5⟩
  ·have hc':=(chv u h5 c).1 hc;exact ⟨(hj u h5).2.2.2.2.2 c hc',(co.chan _ _ hv c hc').2⟩
  ·obtain ⟨⟨cap,k,h1⟩,h2⟩:=co.chan g u h5 c hc;exact ⟨⟨cap,k,by rw [hk c (hclt g u h5 c hc) (co.pvch j v g u hv h5 c hc) h2.2.1 h2.2.2.1 h2.2.2.2.1 (λh3=>(co.apart g u j v h5 hv e).2 c hc h3)];exact h1⟩,h2⟩
 ·rcases cases g u h with ⟨rfl,h5⟩|⟨_,h5⟩
  ·rw [(hj u h5).1];exact co.chne _ _ hv
  ·exact co.chne g u h5
 ·have hold:∀ u0,L g=some u0->∀ c,u'.ch c->c ∉ u0.pv:=λu0 h0 c hc=>by
   rcases cases g' u' h' with ⟨rfl,h1⟩|⟨_,h1⟩
   ·exact co.pvch g u0 _ v h0 hv c ((chv u' h1 c).1 hc)
   ·exact co.pvch g u0 g' u' h0 h1 c hc
  rcases cases g u h with ⟨rfl,h5⟩|⟨_,h5⟩
  ·intro hi;rcases (hj u h5).2.2.2.2.1 c hi with h1|h1
   ·exact hold v hv c hc h1
   ·rcases cases g' u' h' with ⟨rfl,h2⟩|⟨_,h2⟩
    ·have:=hclt _ v hv c ((chv u' h2 c).1 hc);omega
    ·have:=hclt g' u' h2 c hc;omega
  ·exact hold u h5 c hc
 ·rcases cases g u h with ⟨rfl,h1⟩|⟨e,h1⟩
  ·rcases cases g' u' h' with ⟨rfl,h2⟩|⟨e',h2⟩
   ·exact absurd rfl hne
   ·refine ⟨λi hi hi'=>?_,λc hc hc'=>(co.apart _ v g' u' hv h2 (Ne.symm e')).2 c ((chv u h1 c).1 hc) hc'⟩;rcases (hj u h1).2.2.2.2.1 i hi with h3|h3
    ·exact (co.apart _ v g' u' hv h2 (Ne.symm e')).1 i h3 hi'
    ·have:=hlt g' u' h2 i hi';omega
  ·rcases cases g' u' h' with ⟨rfl,h2⟩|⟨e',h2⟩
   ·refine ⟨λi hi hi'=>?_,λc hc hc'=>(co.apart g u _ v h1 hv e).2 c hc ((chv u' h2 c).1 hc')⟩;rcases (hj u' h2).2.2.2.2.1 i hi' with h3|h3
    ·exact (co.apart g u _ v h1 hv e).1 i hi h3
    ·have:=hlt g u h1 i hi;omega
   ·exact co.apart g u g' u' h1 h2 hne
 ·rcases cases g u h with ⟨rfl,h1⟩|⟨e,h1⟩
  ·refine ⟨λhi=>?_,λhc=>(hM.own _ v hv).2 ((chv u h1 k).1 hc)⟩;rcases (hj u h1).2.2.2.2.1 k hi with h3|h3
   ·exact (hM.own _ v hv).1 h3
   ·have:=hM.lt;omega
  ·exact hM.own g u h1
end
section
variable {kb:Kb} {l:List OpD} {K:Ker} {L:Nat->Option Lv} {r:Nat} {Inb:Nat->Option Seat} {nG:Nat} {w:World} {v:Lv} {Final:Machine->Trace->Prop}
def a4v (c:Nat)(ok more:Bool):Value:=commResult #[rcase c (.agg #[])] (.recv ok) ((0:Nat):Int) (.agg #[]) more
abbrev Lv.turn (v:Lv)(K:Ker):Ker × q7:=a0O v.C.slot (v.S K) K
theorem b9t (co:Co kb l K L (r+1) Inb nG w){j:Nat}(hv:L j=some v){a a₂ rec:Goroutine}{z':Value}{nh:Nat}(hrun:a.status=.running)
  (hsend:∀ d,stepG Tryd.prog true a (w.at d)=.comm a₂ #[scase v.C.o.tu (.agg #[]) z'] true .send (w.at d) #[])
  (hsit:∀ B,(∀ o∈l,o.bo<B)->Sits Tryd.prog true (KO l) (SP l Br.no) B (E8 v.C.o.to true rec) nh (Go.Conc.served a₂ undef))
  (hmore:∀ w' v' Inb',v'.C=v.C->v'.S=(λ_=>(v.turn K).2)->(∃ n a b c,(v.turn K).2 []=.call n a b c)->Co kb l (v.turn K).1 (ConcN.upd L j (some v')) r Inb' nG w'->Kp kb L w (ConcN.upd L j (some v')) w'->X Tryd.prog Final l Inb' nG 0 (Go.Conc.served rec (a4v v.C.o.to true true)) w')
  (hover:∀ w' Inb' val err,(v.turn K).2 []=.done val err->Co kb l (v.turn K).1 (ConcN.upd L j none) r Inb' nG w'->Kp kb L w (ConcN.upd L j none) w'->(∃ t free un go,w'.heap[v.C.o.bo]?=some (.cells (I5 v.C err val free un go) t (0,0)))->X Tryd.prog Final l Inb' nG 0 (Go.Conc.served rec (a4v v.C.o.to true false)) w') :
  X Tryd.prog Final l Inb nG 0 a w:=by
 obtain ⟨hg,hj0,hjn⟩:=co.gid j v hv;obtain ⟨n1,n2,n3⟩:=co.chne j v hv;have hjb:(j == 0)=false:=by simp;omega
 have htu:v.ch v.C.o.tu:=.inl rfl;have hto:v.ch v.C.o.to:=.inr (.inl rfl);have hen:v.ch v.C.o.en:=.inr (.inr rfl);have tune:=co.chan_ne hv htu;have tone:=co.chan_ne hv hto;have enne:=co.chan_ne hv hen;obtain ⟨free,un,A⟩:=co.at_ j v hv;obtain ⟨m,hm,W⟩:=co.wait j v hv;have hO:=co.onk j v hv;have tupv:=co.pvch j v j v hv hv _ htu;have topv:=co.pvch j v j v hv hv _ hto;have enpv:=co.pvch j v j v hv hv _ hen;refine c0O co hv true rec a ?_;have hI0:ConcN.upd Inb 0 (some (E8 v.C.o.to true rec)) 0=some (E8 v.C.o.to true rec):=ConcN.upd_same _ _ _;have hIj:ConcN.upd Inb 0 (some (E8 v.C.o.to true rec)) j=some (N1 v.C.o v.cs):=by rw [ConcN.upd_ne _ _ (by omega)];exact co.seat j v hv
 have hIi:∀ i,i≠0->ConcN.upd Inb 0 (some (E8 v.C.o.to true rec)) i=Inb i:=λi hi=>ConcN.upd_ne _ _ hi;refine Br.b6F (h:=0) (j:=j) (kk:=0) (z:=.agg #[]) (by omega) hjn hIj rfl hrun hsend hI0 hsit (λg₂ d cap k hhome hc=>?_);obtain rfl:g₂=J1 v.C.o v.cs:=hhome;rw [b6Y];have ltu:v.C.o.tu<w.heap.size:=(Array.getElem?_eq_some_iff.1 hc).1;have hw1:∀ i,i≠v.C.o.tu->((w.at d).setChan v.C.o.tu cap #[] false (k+1) (k+1) false).heap[i]?=w.heap[i]?:=λi hi=>P9 hi;have hz1:((w.at d).setChan v.C.o.tu cap #[] false (k+1) (k+1) false).heap.size=w.heap.size:=by simp [World.setChan,World.at]
 have hc1:((w.at d).setChan v.C.o.tu cap #[] false (k+1) (k+1) false).heap[v.C.o.tu]?=some (.chan cap #[] false (k+1) (k+1) false):=a8m (w:=w.at d) ltu;have A1:At v.C l K v.pv v.H free un false ((w.at d).setChan v.C.o.tu cap #[] false (k+1) (k+1) false):=A.other ((A.env.at d).chan tune cap #[] false (k+1) (k+1) false) (λi hi=>hw1 i (λe=>tupv (e▸hi)));generalize (w.at d).setChan v.C.o.tu cap #[] false (k+1) (k+1) false=w1 at *;have hmust:=W.1 l K free un w1 w1.drawn rfl A1;refine Br.a0m (st:=true) ?_;rw [hjb];refine hmust.then ?_;rintro g w2 ⟨E2,M2,hst⟩;refine .stop ?_;have hk2:∀ i,i<w.heap.size->i ∉ v.pv->i≠kb.bf->i≠kb.bs->i≠kb.bd->i≠v.C.o.tu->w2.heap[i]?=w.heap[i]?:=λi h0 h1 h2 h3 h4 h5=>by
  rw [M2.block i (by omega) h1 (by rw [hO.f];exact h2) (by rw [hO.s];exact h3) (by rw [hO.d];exact h4)];exact hw1 i h5
 have hz2:w.heap.size<=w2.heap.size:=by have:=M2.size;omega
 obtain ⟨⟨cen,ken,hen'⟩,_⟩:=co.chan j v hv _ hen;obtain ⟨⟨cto,kto,hto'⟩,_⟩:=co.chan j v hv _ hto;have lto:v.C.o.to<w.heap.size:=(Array.getElem?_eq_some_iff.1 hto').1;have len:v.C.o.en<w.heap.size:=(Array.getElem?_eq_some_iff.1 hen').1;have tu2:w2.heap[v.C.o.tu]?=some (.chan cap #[] false (k+1) (k+1) false):=by rw [M2.block _ (by omega) tupv tune.2.1 tune.2.2.1 tune.2.2.2.1];exact hc1
 have en2:w2.heap[v.C.o.en]?=some (.chan cen #[] false ken ken false):=by rw [M2.block _ (by omega) enpv enne.2.1 enne.2.2.1 enne.2.2.2.1,hw1 _ (Ne.symm n2)];exact hen'
 have to2:w2.heap[v.C.o.to]?=some (.chan cto #[] false kto kto false):=by rw [M2.block _ (by omega) topv tone.2.1 tone.2.2.1 tone.2.2.2.1,hw1 _ (Ne.symm n1)];exact hto'
 have bk0:w2.heap[kb.bk]?=w.heap[kb.bk]?:=hk2 _ co.env.rep.lk (λh=>by have:=(A.own.ap _ h).1;rw [hO.k] at this;exact this rfl) co.env.rep.kf co.env.rep.ks co.env.rep.kd (λe=>by have:=tune.1;rw [hO.k] at this;exact this e.symm);have bkto:kb.bk≠v.C.o.to:=λe=>by have:=tone.1;rw [hO.k] at this;exact this e.symm
 have after:∀ (cl:Bool) (cap2 k2 d2:Nat) (o:Option Lv) (Inb':Nat->Option Seat),(∀ i,i≠0->i≠j->Inb' i=Inb i)->(o=none->Inb' j=none)->(∀ s c,Inb' 0=some s->s.has c->c<w.heap.size) ->
   (∀ v',o=some v'->v'.C=v.C/\(∃ free un,At v'.C l (v.turn K).1 v'.pv v'.H free un false w2)/\(∃ m,r<=m/\b7n m K.nS v')/\Inb' j=some (N1 v'.C.o v'.cs)/\(∀ i∈v'.pv,i∈v.pv\/w1.heap.size<=i)/\cl=false) ->
   Co kb l (v.turn K).1 (ConcN.upd L j o) r Inb' nG ((w2.at d2).setChan v.C.o.to cap2 #[] cl k2 k2 false)/\Kp kb L w (ConcN.upd L j o) ((w2.at d2).setChan v.C.o.to cap2 #[] cl k2 k2 false):=by
  intro cl cap2 k2 d2 o Inb' hI hn h00 hj;have hsz3:w.heap.size<=((w2.at d2).setChan v.C.o.to cap2 #[] cl k2 k2 false).heap.size:=by simp [World.setChan,World.at];exact hz2
  have hne3:∀ i,i≠v.C.o.to->((w2.at d2).setChan v.C.o.to cap2 #[] cl k2 k2 false).heap[i]?=w2.heap[i]?:=λi hi=>P9 hi;have hE3:b2c kb l (v.turn K).1 ((w2.at d2).setChan v.C.o.to cap2 #[] cl k2 k2 false):=hO.back ((E2.at d2).chan tone cap2 #[] cl k2 k2 false);have hnS:(v.turn K).1.nS=K.nS:=(a4u co.env.rep hE3.rep (by show _=w.heap[kb.bk]?;rw [show (kc kb).bk=kb.bk from rfl,hne3 _ bkto];exact bk0)).2.1;refine b7o (Nat.le_succ r) co hv (w2:=w2) hE3 hnS (by simp [World.setChan,World.at];exact hz2) (λi h0 h1 h2 h3 h4 h5=>?_) (λv' e=>?_) (λs c h1 h2=>Nat.lt_of_lt_of_le (h00 s c h1 h2) hsz3) hn hI
  ·rw [hne3 i (λe=>h5 (e▸hto))];exact hk2 i h0 h1 h2 h3 h4 (λe=>h5 (e▸htu))
  ·obtain ⟨e1,⟨f2,u2,A2⟩,hw,hs,hp,rfl⟩:=hj v' e;have hto3:∀ i∈v'.pv,i≠v.C.o.to:=λi hi e=>by
    rcases hp i hi with h|h
    ·exact topv (e▸h)
    ·omega
   refine ⟨e1,⟨f2,u2,A2.other (by rw [e1];exact (E2.at d2).chan tone cap2 #[] false k2 k2 false) (λi hi=>hne3 i (hto3 i hi))⟩,by rw [hnS];exact hw,hs,λi hi=>by rcases hp i hi with h|h;exact .inl h;exact .inr (by omega),λc hc=>?_⟩;rcases hc with rfl|rfl|rfl
   ·exact ⟨_,_,by rw [hne3 _ n1];exact tu2⟩
   ·exact ⟨_,_,a8m (w:=w2.at d2) (Nat.lt_of_lt_of_le lto hz2)⟩
   ·exact ⟨_,_,by rw [hne3 _ (Ne.symm n3)];exact en2⟩
 cases hT:(v.turn K).2 [] with
 | call num a b c =>
  simp only [Lv.turn] at hT;rw [hT] at hst;obtain ⟨cs',pv',H',free',rfl,A2,hsub,hpark⟩:=hst;have hfr:∀ i s' c,i≠j->ConcN.upd Inb 0 (some (E8 v.C.o.to true rec)) i=some s'->s'.has c->¬ (N1 v.C.o (a0o v.C.o::cs')).has c:=λi s' c hi hs hc hc'=>by
   have hc2:=O0 hc'
   by_cases e:i=0
   ·subst e;rw [hI0] at hs;obtain rfl:=Option.some.inj hs;obtain rfl:c=v.C.o.to:=Seat.one_has.1 hc;rcases hc2 with h|h
    ·exact n1 h.symm
    ·exact n3 h
   ·rw [hIi i e] at hs;obtain ⟨u,hu,rfl⟩:=co.inb e hs;have hc3:=O0 hc;exact (co.apart i u j v hu hv hi).2 c (by rcases hc3 with h|h;exact .inl h;exact .inr (.inr h)) (by rcases hc2 with h|h;exact .inl h;exact .inr (.inr h))
  refine Br.b0b (h:=j) (N1 v.C.o (a0o v.C.o::cs')) (b0t _ _ n2) hfr (λc hc=>?_) (λc hc=>?_) ?_
  ·rcases O0 hc with rfl|rfl
   ·exact ⟨_,_,tu2⟩
   ·exact ⟨_,_,en2⟩
  ·rcases O0 hc with rfl|rfl
   ·exact tune.2.2.2.2.2
   ·exact enne.2.2.2.2.2
  refine Br.b6F (h:=j) (j:=0) (kk:=0) (c:=v.C.o.to) (z:=.agg #[]) (s:=E8 v.C.o.to true rec) (sh:=N1 v.C.o (a0o v.C.o::cs')) (v:=.agg #[]) (z':=.tuple #[]) (a₂:=a4q v.C.o cs') (nh:=26) (by omega) (by omega) (by rw [ConcN.upd_ne _ _ (by omega)];exact hI0) rfl rfl
   (λd=>by rw [hjb];exact b4s _ _ _) (ConcN.upd_same _ _ _) (λB hB=>by rw [hjb];exact b4t v.C.o l A.mem B hB cs') (λg₂ d2 cap2 k2 hhome hc2=>?_)
  obtain rfl:g₂=rec:=hhome;obtain ⟨m',rfl⟩:∃ m',m=m'+1:=⟨m - 1,by omega⟩;obtain ⟨c3,k3⟩:=after false cap2 (k2+1) d2 (some ⟨v.C,λ_=>(v.turn K).2,pv',H',a0o v.C.o::cs'⟩) (ConcN.upd (ConcN.upd Inb 0 (some (E8 v.C.o.to true g₂))) j (some (N1 v.C.o (a0o v.C.o::cs'))))
   (λi h0 h1=>by rw [ConcN.upd_ne _ _ h1,ConcN.upd_ne _ _ h0]) (λe=>by cases e) (λs c h1 h2=>by
    rw [ConcN.upd_ne _ _ (by omega),ConcN.upd_same] at h1;obtain rfl:=Option.some.inj h1;obtain rfl:c=v.C.o.to:=Seat.one_has.1 h2
    exact lto)
   (λv' e=>by obtain rfl:=Option.some.inj e;exact ⟨rfl,⟨free',false,A2⟩,⟨m',by omega,b4K hpark⟩,ConcN.upd_same _ _ _,hsub,rfl⟩)
  exact hmore _ ⟨v.C,λ_=>(v.turn K).2,pv',H',a0o v.C.o::cs'⟩ _ rfl rfl ⟨_,_,_,_,hT⟩ c3 k3
 | done val err =>
  simp only [Lv.turn] at hT;rw [hT] at hst;obtain ⟨⟨hrun2,hwake,a',ha',hclose,nq,hq⟩,t,f2,u2,g2,hrow⟩:=hst;refine Br.c0G (h:=j) (j:=0) (kk:=0) (c:=v.C.o.to) (z:=.agg #[]) (s:=E8 v.C.o.to true rec) (nh:=nq) (by omega) (by omega) (by omega) hI0 rfl hrun2 hwake ha' to2 (λd=>by rw [hjb];exact hclose _ _ _ to2) hq (λg₂ d2 hhome=>?_);obtain rfl:g₂=rec:=hhome;obtain ⟨c3,k3⟩:=after true cto kto d2 none (ConcN.upd (ConcN.upd (ConcN.upd Inb 0 (some (E8 v.C.o.to true g₂))) 0 none) j none)
   (λi h0 h1=>by rw [ConcN.upd_ne _ _ h1,ConcN.upd_ne _ _ h0,ConcN.upd_ne _ _ h0]) (λ_=>ConcN.upd_same _ _ _) (λs c h1 h2=>by rw [ConcN.upd_ne _ _ (by omega),ConcN.upd_same] at h1;cases h1) (λv' e=>by cases e)
  exact hover _ _ val err hT c3 k3 ⟨t,f2,u2,g2,by rw [P9 (tone.2.2.2.2.2 _ A.mem)];exact hrow⟩
end
end Go.Proofs.YtcgabodkegcpgaaDoor
