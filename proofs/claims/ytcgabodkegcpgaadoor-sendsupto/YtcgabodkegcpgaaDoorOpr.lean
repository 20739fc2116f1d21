/- The kernel in company: what its Call and its State come to while other goroutines sit beside. -/
import Derived.Test.YtcgabodkegcpgaaDoorNea
import Derived.Test.YtcgabodkegcpgaaDoorRin
import Derived.Test.YtcgabodkegcpgaaDoorRpp
import Derived.Test.YtcgabodkegcpgaaDoorInv3
import Derived.Conc.TokenWords
import Derived.Deep.RegionHeld3
set_option linter.unusedVariables false
set_option linter.unusedSimpArgs false
set_option maxHeartbeats 20000000
set_option maxRecDepth 100000
namespace Go.Proofs.YtcgabodkegcpgaaDoor
open Go.Conc (G)
open Br (OpD KO SO SP sfO Lk Fit Must DL Liv Clear)
structure Ctx where
 o:OpD
 slot:Int
 kd:Int
 A:Int
 B:Int
 bk:Nat
 bf:Nat
 bs:Nat
 bd:Nat
structure Env (C:Ctx) (l:List OpD) (K:Ker) (w:World):Prop where
 rep:Rep w C.bk C.bf C.bs C.bd K
 tab:Tab w
 inv:Invb K
 fit:Fit (sfO l) w
 ko:KO l w
 ap:∀ o∈l,o.bo≠C.bk∧o.bo≠C.bf∧o.bo≠C.bs∧o.bo≠C.bd∧o.bo≠0
theorem frozen_lk {sft:Nat→Nat}{v w:World}(h:Lk sft v w){a:Addr}(hz:sft a.block=0):v.frozen? a=w.frozen? a:=by
 simp only [World.frozen?,h.heap,hz]
 cases w.heap[a.block]? with
 | none=>rfl
 | some o=>cases o<;>rfl
theorem rep_to {sft:Nat→Nat}{v w:World}{bk bf bs bd:Nat}{K:Ker}(h:Lk sft v w)(hf:sft bf=0)(hs:sft bs=0)(hd:sft bd=0)(R:Rep w bk bf bs bd K):Rep v bk bf bs bd K :=
 ⟨by rw [h.cell];exact R.k0,by rw [h.cell];exact R.k1,by rw [h.cell];exact R.k2,fun i c h1 h2=>by rw [h.cell];exact R.f i c h1 h2,fun i c h1 h2 h3=>by rw [h.cell];exact R.s i c h1 h2 h3,fun i c h1 h2=>by rw [h.cell];exact R.b i c h1 h2,
  fun i c h1 h2=>by rw [h.cell];exact R.d i c h1 h2,fun o=>by rw [frozen_lk h hf];exact R.zf o,fun o=>by rw [frozen_lk h hs];exact R.zs o,fun o=>by rw [frozen_lk h hd];exact R.zd o,
  by rw [h.size];exact R.lk,by rw [h.size];exact R.lf,by rw [h.size];exact R.ls,by rw [h.size];exact R.ld,R.kf,R.ks,R.kd,R.fs,R.fd,R.sd,R.hF,R.hS,R.hD⟩
theorem rep_back {sft:Nat→Nat}{v w:World}{bk bf bs bd:Nat}{K:Ker}(h:Lk sft v w)(hf:sft bf=0)(hs:sft bs=0)(hd:sft bd=0)(R:Rep v bk bf bs bd K):Rep w bk bf bs bd K :=
 ⟨by rw [← h.cell];exact R.k0,by rw [← h.cell];exact R.k1,by rw [← h.cell];exact R.k2,fun i c h1 h2=>by rw [← h.cell];exact R.f i c h1 h2,fun i c h1 h2 h3=>by rw [← h.cell];exact R.s i c h1 h2 h3,fun i c h1 h2=>by rw [← h.cell];exact R.b i c h1 h2,
  fun i c h1 h2=>by rw [← h.cell];exact R.d i c h1 h2,fun o=>by rw [← frozen_lk h hf];exact R.zf o,fun o=>by rw [← frozen_lk h hs];exact R.zs o,fun o=>by rw [← frozen_lk h hd];exact R.zd o,
  by rw [← h.size];exact R.lk,by rw [← h.size];exact R.lf,by rw [← h.size];exact R.ls,by rw [← h.size];exact R.ld,R.kf,R.ks,R.kd,R.fs,R.fd,R.sd,R.hF,R.hS,R.hD⟩
theorem tab_to {sft:Nat→Nat}{v w:World}(h:Lk sft v w)(T:Tab w):Tab v:=⟨fun i hi=>by rw [h.cell];exact T.t i hi,fun i j hi hj=>by rw [h.cell];exact T.a i j hi hj⟩
theorem same_block {sft:Nat→Nat}{v v' w w':World}(hK:Br.Kept sft w w')(h:Lk sft v w)(h':Lk sft v' w'){k:Nat}(e:v'.heap[k]?=v.heap[k]?):w'.heap[k]?=w.heap[k]?:=by
 rw [h.heap,h'.heap] at e
 cases hw:w.heap[k]? with
 | none =>
  rw [hw] at e
  cases hw':w'.heap[k]? with
  | none=>rfl
  | some o=>rw [hw'] at e;cases e
 | some o =>
  obtain ⟨o',ho',hs⟩:=hK.same k o hw
  rw [hw,ho'] at e
  rw [ho']
  cases o with
  | cells c t f =>
   obtain ⟨c',rfl,_,_⟩:=hs
   simp only [Option.map_some,Br.fz,Option.some.injEq,Obj.cells.injEq] at e
   obtain ⟨rfl,_⟩:=e
   rfl
  | _=>(have hs:o'=_:=hs;rw [hs])
structure Alike (C:Ctx) (w w':World):Prop where
 size:w.heap.size≤w'.heap.size
 block:∀ k,k<w.heap.size→k≠C.bf→k≠C.bs→k≠C.bd→w'.heap[k]?=w.heap[k]?
theorem Alike.refl (C:Ctx)(w:World):Alike C w w:=⟨Nat.le_refl _,fun _ _ _ _ _=>rfl⟩
theorem Alike.trans {C:Ctx}{a b c:World}(h:Alike C a b)(k:Alike C b c):Alike C a c:=⟨Nat.le_trans h.size k.size,fun i hi h1 h2 h3=>(k.block i (Nat.lt_of_lt_of_le hi h.size) h1 h2 h3).trans (h.block i hi h1 h2 h3)⟩
theorem Env.zero {C:Ctx}{l:List OpD}{K:Ker}{w:World}(E:Env C l K w):sfO l C.bf=0∧sfO l C.bs=0∧sfO l C.bd=0 :=
 ⟨Br.sfO_zero fun o ho=>(E.ap o ho).2.1,Br.sfO_zero fun o ho=>(E.ap o ho).2.2.1,Br.sfO_zero fun o ho=>(E.ap o ho).2.2.2.1⟩
theorem ko_alike {C:Ctx}{l:List OpD}{w w':World}(h:KO l w)(ap:∀ o∈l,o.bo≠C.bk∧o.bo≠C.bf∧o.bo≠C.bs∧o.bo≠C.bd∧o.bo≠0)(A:Alike C w w'):KO l w':=by
 intro o ho
 obtain ⟨c,t,h0,h1⟩:=h o ho
 obtain ⟨_,a1,a2,a3,_⟩:=ap o ho
 exact ⟨c,t,by rw [A.block _ (Br.KO.lt h ho) a1 a2 a3];exact h0,h1⟩
theorem must_kcall {C:Ctx}{l:List OpD}{K:Ker}{w:World}(E:Env C l K w)(h0:0≠C.bf∧0≠C.bs∧0≠C.bd)(main:Bool)(slot num a b c:Int)(fr:Frame)(cs:List Frame) :
  Must Tryd.prog main (DL true (sfO l)) (fun g w'=>g=G (fr.finish (.tuple #[.int .i64 (kCall K slot num a b c).n,.int .i64 (kCall K slot num a b c).e])) cs∧Env C l (kCall K slot num a b c).K w'∧Alike C w w')
   (G (Frame.enter Tryd.prog 11 #[.pointer (some ⟨C.bk,0,none⟩),.int .i64 slot,.int .i64 num,.agg #[.int .i64 a,.int .i64 b,.int .i64 c]] .normal) (fr::cs)) w:=by
 obtain ⟨z1,z2,z3⟩:=E.zero
 have key:=fun v (hv:Lk (sfO l) v w)=>call_all (rep_to hv z1 z2 z3 E.rep) (tab_to hv E.tab) E.inv.good slot num a b c
 refine (Br.must_calls Br.rules (by kernel_rfl) E.fit main (Q:=fun x v'=>x=.tuple #[.int .i64 (kCall K slot num a b c).n,.int .i64 (kCall K slot num a b c).e]∧Rep v' C.bk C.bf C.bs C.bd (kCall K slot num a b c).K∧∃ v,Lk (sfO l) v w∧Keeps C.bf C.bs C.bd v v')
  (fun v hv=>(key v hv).mono fun e v' he=>by
   obtain ⟨rfl,h1,h2⟩:=he
   exact ⟨rfl,h1,v,hv,h2⟩) fr cs).keep.mono (fun _ _ _ h=>h) ?_
 rintro g w' ⟨⟨x,v',rfl,hl',rfl,hR,v,hl,hk⟩,hkp⟩
 have A:Alike C w w':=⟨by rw [← hl.size,← hl'.size];exact hk.size,fun k hk' h1 h2 h3=>same_block hkp hl hl' (hk.block k (by rw [hl.size];exact hk') h1 h2 h3)⟩
 exact ⟨rfl,⟨rep_back hl' z1 z2 z3 hR,E.tab.same (A.block 0 E.tab.lt h0.1 h0.2.1 h0.2.2),invb_call E.inv _ _ _ _ _,hl'.fit,ko_alike E.ko E.ap A,E.ap⟩,A⟩
end Go.Proofs.YtcgabodkegcpgaaDoor
namespace Go.Proofs.YtcgabodkegcpgaaDoor
open Go.Conc
open Br (OpD KO SO SP sfO Lk Fit Must DL Liv Clear)
abbrev pO (o:OpD):Value:=.pointer (some ⟨o.bo,0,none⟩)
noncomputable def waitTodo:List Item :=
 match Tryd.f75.body with
 | some (.seq _ (.seq _ (.seq (.region _ ops _) c)))=>[.inRegion ops [0,1,2,3],.code c]
 | _=>[]
noncomputable def waitRec (o:OpD)(cs:List Frame):Goroutine :=
 G ((base 75).at ⟨#[pO o,undef,.bool false,pO o,pO o,pO o,.chan (some o.tu),pO o,pO o,.pointer (some ⟨o.bo,2,none⟩),.chan (some o.en),undef,undef,undef,undef,undef,undef,undef],[]⟩ waitTodo) cs
noncomputable def seatO (o:OpD)(cs:List Frame):Seat:={ cases:=#[rcase o.tu (.agg #[]),rcase o.en (.agg #[])],shape:=.select,home:=fun g=>g=waitRec o cs }
theorem ko_cells {l:List OpD}{w:World}(h:KO l w){o:OpD}(ho:o∈l):w.cell? ⟨o.bo,0,none⟩=some (.chan (some o.tu))∧w.cell? ⟨o.bo,1,none⟩=some (.chan (some o.to))∧w.cell? ⟨o.bo,2,none⟩=some (.chan (some o.en))∧(∀ i,w.frozen? ⟨o.bo,i,none⟩=false):=by
 obtain ⟨c,t,h0,h1,h2,h3⟩:=h o ho
 refine ⟨by simp [World.cell?,h0,h1],by simp [World.cell?,h0,h2],by simp [World.cell?,h0,h3],fun i=>by simp [World.frozen?,h0]⟩
theorem wait_at (o:OpD)(l:List OpD)(B:Nat)(cs:List Frame):AtIn Tryd.prog false (KO l) (SP l Br.no) B (seatO o cs) (waitRec o cs) (waitRec o cs):=by
 unfold waitRec waitTodo
 simp only [Tryd.f75]
 exact atIn_of (s:=seatO o cs) rfl rfl (by decide) (fun w=>by simp [go_sem,execOp,rcase,Act.eval,seatO]) (fun w=>by simp [go_sem,execOp,Act.eval]) (by
  simp only [seatO,waitRec,waitTodo,Tryd.f75])
noncomputable def waitBody:Code:=(Tryd.f75.body).getD .skip
theorem wait_enter (o:OpD):Frame.enter Tryd.prog 75 #[pO o] .normal=(base 75).at ⟨#[pO o,undef,undef,undef,undef,undef,undef,undef,undef,undef,undef,undef,undef,undef,undef,undef,undef,undef],[]⟩ [.code waitBody]:=by
 rw [enter_at (c:=waitBody) _ Tryd.func75 rfl]
 rfl
theorem wait_goes (o:OpD)(l:List OpD)(ho:o∈l)(B:Nat)(hB:∀ o∈l,o.bo<B)(cs:List Frame)(w:World) :
  Goes Tryd.prog false (RK (KO l)) (DS (SP l Br.no) B) (fun g _=>∃ g₂,AtIn Tryd.prog false (KO l) (SP l Br.no) B (seatO o cs) g g₂) 20 (G (Frame.enter Tryd.prog 75 #[pO o] .normal) cs) w:=by
 rw [wait_enter]
 simp only [waitBody,Tryd.f75,Option.getD_some,pO]
 refine Goes.step rfl (fun w₁ h₁=>?_);rw [stepG_seq];simp only [goes_go];refine ⟨ds_none _,?_⟩;clear h₁
 refine Goes.step rfl (fun w₁ h₁=>?_);rw [stepG_region];simp only [goes_go,List.size_toArray,List.length_cons,List.length_nil,Nat.reduceAdd,Nat.zero_add,List.range,List.range.loop];refine ⟨ds_none _,?_⟩;clear h₁
 refine Goes.step rfl (fun w₁ h₁=>?_)
 refine goes_oper_k rfl rfl (by decide) (fun K hK=>?_)
 go_simp
 refine hK _ _ ⟨⟨rfl,fun e he=>by (have hm:=mem_listed he;simp [go_sem] at hm)⟩,?_⟩
 clear hK K h₁
 refine Goes.step rfl (fun w₁ h₁=>?_);rw [stepG_region_end];simp only [goes_go];refine ⟨ds_none _,?_⟩;clear h₁
 refine Goes.step rfl (fun w₁ h₁=>?_);rw [stepG_seq];simp only [goes_go];refine ⟨ds_none _,?_⟩;clear h₁
 refine Goes.step rfl (fun w₁ h₁=>?_);rw [stepG_seq];simp only [goes_go];refine ⟨ds_none _,?_⟩;clear h₁
 refine Goes.step rfl (fun w₁ h₁=>?_);rw [stepG_region];simp only [goes_go,List.size_toArray,List.length_cons,List.length_nil,Nat.reduceAdd,Nat.zero_add,List.range,List.range.loop];refine ⟨ds_none _,?_⟩;clear h₁
 refine Goes.step rfl (fun w₁ h₁=>?_)
 refine goes_oper_k rfl rfl (by decide) (fun K hK=>?_)
 go_simp
 refine hK _ _ ⟨⟨rfl,fun e he=>by (have hm:=mem_listed he;simp [go_sem] at hm)⟩,?_⟩
 clear hK K h₁
 refine Goes.step rfl (fun w₁ h₁=>?_)
 refine goes_oper_k rfl rfl (by decide) (fun K hK=>?_)
 go_simp
 refine hK _ _ ⟨⟨rfl,fun e he=>by (have hm:=mem_listed he;simp [go_sem] at hm)⟩,?_⟩
 clear hK K h₁
 refine Goes.step rfl (fun w₁ h₁=>?_)
 refine goes_oper_k rfl rfl (by decide) (fun K hK=>?_)
 go_simp
 refine hK _ _ ⟨⟨rfl,fun e he=>by (have hm:=mem_listed he;simp [go_sem] at hm)⟩,?_⟩
 clear hK K h₁
 refine Goes.step rfl (fun w₁ h₁=>?_)
 refine goes_oper_k rfl rfl (by decide) (fun K hK=>?_)
 have hf:=ko_cells h₁ ho
 have hf0:=hf.1;have hf1:=hf.2.1;have hf2:=hf.2.2.1;have hfz:=hf.2.2.2
 go_simp
 refine hK _ _ ⟨⟨rfl,fun e he=>by (have hm:=mem_listed he;simp [go_sem, *] at hm;subst hm;exact evC_read _ (.inl ⟨o,ho,0,by omega,rfl⟩) (hB o ho))⟩,?_⟩
 clear hK K hf hf0 hf1 hf2 hfz h₁
 refine Goes.step rfl (fun w₁ h₁=>?_);rw [stepG_region_end];simp only [goes_go];refine ⟨ds_none _,?_⟩;clear h₁
 refine Goes.step rfl (fun w₁ h₁=>?_);rw [stepG_region];simp only [goes_go,List.size_toArray,List.length_cons,List.length_nil,Nat.reduceAdd,Nat.zero_add,List.range,List.range.loop];refine ⟨ds_none _,?_⟩;clear h₁
 refine Goes.step rfl (fun w₁ h₁=>?_)
 refine goes_oper_k rfl rfl (by decide) (fun K hK=>?_)
 go_simp
 refine hK _ _ ⟨⟨rfl,fun e he=>by (have hm:=mem_listed he;simp [go_sem] at hm)⟩,?_⟩
 clear hK K h₁
 refine Goes.step rfl (fun w₁ h₁=>?_)
 refine goes_oper_k rfl rfl (by decide) (fun K hK=>?_)
 go_simp
 refine hK _ _ ⟨⟨rfl,fun e he=>by (have hm:=mem_listed he;simp [go_sem] at hm)⟩,?_⟩
 clear hK K h₁
 refine Goes.step rfl (fun w₁ h₁=>?_)
 refine goes_oper_k rfl rfl (by decide) (fun K hK=>?_)
 go_simp
 refine hK _ _ ⟨⟨rfl,fun e he=>by (have hm:=mem_listed he;simp [go_sem] at hm)⟩,?_⟩
 clear hK K h₁
 refine Goes.step rfl (fun w₁ h₁=>?_)
 refine goes_oper_k rfl rfl (by decide) (fun K hK=>?_)
 have hf:=ko_cells h₁ ho
 have hf0:=hf.1;have hf1:=hf.2.1;have hf2:=hf.2.2.1;have hfz:=hf.2.2.2
 go_simp
 refine hK _ _ ⟨⟨rfl,fun e he=>by (have hm:=mem_listed he;simp [go_sem, *] at hm;subst hm;exact evC_read _ (.inl ⟨o,ho,2,by omega,rfl⟩) (hB o ho))⟩,?_⟩
 clear hK K hf hf0 hf1 hf2 hfz h₁
 refine Goes.step rfl (fun w₁ h₁=>?_);rw [stepG_region_end];simp only [goes_go];refine ⟨ds_none _,?_⟩;clear h₁
 refine Goes.step rfl (fun w₁ h₁=>?_);rw [stepG_seq];simp only [goes_go];refine ⟨ds_none _,?_⟩;clear h₁
 refine Goes.step rfl (fun w₁ h₁=>?_);rw [stepG_region];simp only [goes_go,List.size_toArray,List.length_cons,List.length_nil,Nat.reduceAdd,Nat.zero_add,List.range,List.range.loop];refine ⟨ds_none _,?_⟩;clear h₁
 exact Goes.stop fun w₁ h₁=>⟨waitRec o cs,wait_at o l B cs⟩
theorem stepG_call {P:Program}{main:Bool}{b:Frame}{a:Act}{k:List Item}{cs:List Frame}{ops:Array Oper}{i:Nat}{rest:List Nat}{o:Oper}{f:FuncId}{fn:Func}{c:Code}{args:Array Operand}{ats:Array TypeId}(ho:ops[i]?=some o)(hw:Region.wanted o (yielded ops a.tmps)=true)(hk:b.kind≠.early)(hop:o.op=.call { callee:=.value (.func f),args,argTypes:=ats })
  (hf:P.funcs[f]?=some fn)(hname:(fn.name == "runtime.NumGoroutine")=false)(hb:fn.body=some c){vs:Array Value}(hv:args.map a.eval=vs)(u:World) :
  stepG P main (G (b.at a (.inRegion ops (i::rest)::k)) cs) u=.go (G (Frame.enter P f vs .normal) (b.at a (.inRegion ops (i::rest)::k)::cs)) u #[]:=by
 subst hv
 have hb':fn.body.isNone=false:=by rw [hb];rfl
 rw [stepG_enter ho hw hk (run_call_body hop hf hname hb')]
 have:listed P b.fn a o u=#[]:=by unfold listed;rw [events_call_body hop hf hname hb'];exact seen_none P _
 rw [this]
noncomputable def nextBody:Code:=(Tryd.f95.body).getD .skip
noncomputable def nextFr (o:OpD):Frame :=
 match Tryd.f95.body with
 | some (.seq _ (.seq _ (.seq _ (.seq (.region _ ops _) c))))=>(base 95).at ⟨#[pO o,undef,.bool false,pO o,pO o,.pointer (some ⟨o.bo,11,none⟩),.bool false,pO o,pO o,.pointer (some ⟨o.bo,1,none⟩),.chan (some o.to),.agg #[],pO o,undef],[]⟩ [.inRegion ops [1,2],.code c]
 | _=>default
noncomputable def sendG (o:OpD)(cs:List Frame):Goroutine :=
 match Tryd.f95.body with
 | some (.seq _ (.seq _ (.seq (.region _ ops _) c)))=>G ((base 95).at ⟨#[pO o,undef,.bool false,pO o,pO o,.pointer (some ⟨o.bo,11,none⟩),.bool false,pO o,pO o,.pointer (some ⟨o.bo,1,none⟩),.chan (some o.to),.agg #[],undef,undef],[]⟩ [.inRegion ops [5],.code c]) cs
 | _=>default
theorem told_send (o:OpD)(cs:List Frame)(w:World):stepG Tryd.prog false (sendG o cs) w=.comm (sendG o cs) #[scase o.to (.agg #[]) (.tuple #[])] true .send w #[]:=by
 unfold sendG
 simp only [Tryd.f95]
 rw [stepG_comm (cases:=#[scase o.to (.agg #[]) (.tuple #[])]) (blocking:=true) (shape:=.send) (w':=w) rfl rfl (by decide) (by simp [go_sem,execOp,Act.eval,scase]),listed_none (by simp [go_sem,execOp,Act.eval])]
theorem told_sits (o:OpD)(l:List OpD)(ho:o∈l)(B:Nat)(hB:∀ o∈l,o.bo<B)(cs:List Frame):Sits Tryd.prog false (KO l) (SP l Br.no) B (seatO o (nextFr o::cs)) 26 (Go.Conc.served (sendG o cs) undef):=by
 have hw:=wait_goes o l ho B hB (nextFr o::cs)
 refine .inl ⟨25,default,rfl,?_⟩
 unfold sendG nextFr at *
 simp only [Tryd.f95,served_fr] at *
 rw [Frame.finish_at]
 refine Goes.step rfl (fun w₁ h₁=>?_);rw [stepG_region_end];simp only [goes_go];refine ⟨ds_none _,?_⟩;clear h₁
 refine Goes.step rfl (fun w₁ h₁=>?_);rw [stepG_seq];simp only [goes_go];refine ⟨ds_none _,?_⟩;clear h₁
 refine Goes.step rfl (fun w₁ h₁=>?_);rw [stepG_region];simp only [goes_go,List.size_toArray,List.length_cons,List.length_nil,Nat.reduceAdd,Nat.zero_add,List.range,List.range.loop];refine ⟨ds_none _,?_⟩;clear h₁
 refine Goes.step rfl (fun w₁ h₁=>?_)
 refine goes_oper_k rfl rfl (by decide) (fun K hK=>?_)
 go_simp
 refine hK _ _ ⟨⟨rfl,fun e he=>by (have hm:=mem_listed he;simp [go_sem] at hm)⟩,?_⟩
 clear hK K h₁
 refine Goes.step rfl (fun w₁ h₁=>?_)
 rw [stepG_call rfl rfl (by decide) rfl Tryd.func75 rfl rfl (vs:=#[pO o]) (by simp [Act.eval])]
 simp only [goes_go]
 exact ⟨ds_none _,hw w₁⟩
abbrev turnRes:Value:=.tuple #[.int .i64 0,.bool true,.agg #[],.agg #[]]
abbrev endRes:Value:=.tuple #[.int .i64 1,.bool false,.agg #[],.agg #[]]
theorem res_turn (o:OpD)(cs:List Frame):commResult (seatO o cs).cases (seatO o cs).shape ((0:Nat):Int) (.agg #[]) true=turnRes:=by
 simp [seatO,commResult,rcase,List.zipIdx_cons,goInt]
theorem res_end (o:OpD)(cs:List Frame):commResult (seatO o cs).cases (seatO o cs).shape ((1:Nat):Int) (.agg #[]) false=endRes:=by
 simp [seatO,commResult,rcase,List.zipIdx_cons,goInt]
theorem seatO_wf (o:OpD)(cs:List Frame)(h:o.tu≠o.en):(seatO o cs).Wf:=by
 refine ⟨fun cc h=>?_,fun k m c z z' h1 h2=>?_⟩
 ·simp only [seatO,List.mem_toArray,List.mem_cons,List.not_mem_nil,or_false] at h
  rcases h with rfl|rfl
  ·exact ⟨_,_,rfl⟩
  ·exact ⟨_,_,rfl⟩
 ·rcases k with _|_|k<;>rcases m with _|_|m<;>simp [seatO,rcase] at h1 h2 ⊢<;>omega
theorem seatO_has {o:OpD}{cs:List Frame}{c:Nat}(h:(seatO o cs).has c):c=o.tu∨c=o.en:=by
 obtain ⟨k,z,hk⟩:=h
 rcases k with _|_|k<;>simp [seatO,rcase] at hk<;>omega
theorem wait_turn {o:OpD}{l:List OpD}(ho:o∈l){w:World}(hc:Clear w)(hk:KO l w){x:Value}(h11:w.cell? ⟨o.bo,11,none⟩=some x)(fr:Frame)(cs:List Frame){Stop:Goroutine→World→Prop}
  (hn:∀ d,Must Tryd.prog false (DL true (sfO l)) Stop (G (fr.finish (.bool true)) cs) ((w.setCell ⟨o.bo,11,none⟩ (.bool true)).at d))(d0:Nat) :
  Must Tryd.prog false (DL true (sfO l)) Stop (Go.Conc.served (waitRec o (fr::cs)) turnRes) (w.at d0):=by
 have hf:=ko_cells hk ho
 have hfz:=hf.2.2.2 11
 unfold waitRec waitTodo
 simp only [Tryd.f75,served_fr,pO]
 rw [Frame.finish_at]
 go_simp
 refine Br.mo rfl rfl hc (fun d K hK=>?_) _
 go_simp
 refine hK _ _ ⟨rfl,?_⟩
 clear hK K
 refine Br.mo rfl rfl hc (fun d K hK=>?_) _
 go_simp
 refine hK _ _ ⟨rfl,?_⟩
 clear hK K
 refine Br.mo rfl rfl hc (fun d K hK=>?_) _
 go_simp
 refine hK _ _ ⟨rfl,?_⟩
 clear hK K
 refine Br.liv_region_end (fun d=>?_) _
 refine Br.mc rfl (fun u=>stepG_block) (fun d=>?_) _
 refine Br.mc rfl (fun u=>stepG_cond (t:=true) rfl) (fun d=>?_) _
 simp only [if_true,if_false,Bool.false_eq_true,↓reduceIte]
 refine Br.liv_seq (fun d=>?_) _
 refine Br.liv_region (fun d=>?_) _
 simp only [Br.rz,Br.ix,Nat.reduceAdd]
 refine Br.mo rfl rfl hc (fun d K hK=>?_) _
 go_simp
 refine hK _ _ ⟨rfl,?_⟩
 clear hK K
 refine Br.mo rfl rfl hc (fun d K hK=>?_) _
 go_simp
 refine hK _ _ ⟨rfl,?_⟩
 clear hK K
 refine Br.mo rfl rfl hc (fun d K hK=>?_) _
 go_simp
 refine hK _ _ ⟨rfl,?_⟩
 clear hK K
 refine Br.must_operW rfl rfl (by decide) (fun d K hK=>?_) _
 have e11:(w.at d).cell? ⟨o.bo,11,none⟩=some x:=h11
 have ez:(w.at d).frozen? ⟨o.bo,11,none⟩=false:=hfz
 go_simp
 refine hK _ _ ⟨Br.dl_store (by rw [Br.sfO_mem ho];show 3≤11;omega) (World.block_lt_of_cell? _ _ e11) (fun e he=>?_),?_⟩
 ·have hm:=mem_listed he
  simp only [go_sem] at hm
  simp [go_sem] at hm
  rw [events_store _ _ _ _ _ _ rfl,e11] at hm
  rw [ez] at hm
  simp only [Bool.false_eq_true,if_false,List.push_toArray,List.nil_append,List.mem_toArray,List.mem_cons,List.not_mem_nil,or_false] at hm
  exact hm
 clear hK K e11 ez
 rw [show (w.at d).setCell ⟨o.bo,11,none⟩ (.bool true)=(w.setCell ⟨o.bo,11,none⟩ (.bool true)).at d from rfl]
 have hc:Clear (w.setCell ⟨o.bo,11,none⟩ (.bool true)):=(Br.lk_setCell hc.lk (Nat.zero_le _) _).1.sight
 refine Br.liv_region_end (fun d=>?_) _
 refine Br.liv_seq (fun d=>?_) _
 refine Br.liv_region (fun d=>?_) _
 simp only [Br.rz,Br.ix,Nat.reduceAdd]
 refine Br.mo rfl rfl hc (fun d K hK=>?_) _
 go_simp
 refine hK _ _ ⟨rfl,?_⟩
 clear hK K
 refine Br.liv_region_end (fun d=>?_) _
 refine Br.liv_ret (fun d=>?_) _
 exact Br.liv_leave (v:=.bool true) rfl rfl Tryd.func75 (resultsC_tmp (t:=2) rfl _) (w:=w.setCell ⟨o.bo,11,none⟩ (.bool true)) hn _
theorem wait_end {o:OpD}{l:List OpD}(ho:o∈l){w:World}(hc:Clear w)(fr:Frame)(cs:List Frame){Stop:Goroutine→World→Prop}
  (hn:∀ d,Must Tryd.prog false (DL true (sfO l)) Stop (G (fr.finish (.bool false)) cs) (w.at d))(d0:Nat) :
  Must Tryd.prog false (DL true (sfO l)) Stop (Go.Conc.served (waitRec o (fr::cs)) endRes) (w.at d0):=by
 unfold waitRec waitTodo
 simp only [Tryd.f75,served_fr,pO]
 rw [Frame.finish_at]
 go_simp
 refine Br.mo rfl rfl hc (fun d K hK=>?_) _
 go_simp
 refine hK _ _ ⟨rfl,?_⟩
 clear hK K
 refine Br.mo rfl rfl hc (fun d K hK=>?_) _
 go_simp
 refine hK _ _ ⟨rfl,?_⟩
 clear hK K
 refine Br.mo rfl rfl hc (fun d K hK=>?_) _
 go_simp
 refine hK _ _ ⟨rfl,?_⟩
 clear hK K
 refine Br.liv_region_end (fun d=>?_) _
 refine Br.mc rfl (fun u=>stepG_block) (fun d=>?_) _
 refine Br.mc rfl (fun u=>stepG_cond (t:=false) rfl) (fun d=>?_) _
 simp only [if_true,if_false,Bool.false_eq_true,↓reduceIte]
 refine Br.mc rfl (fun u=>stepG_cond (t:=true) rfl) (fun d=>?_) _
 simp only [if_true,if_false,Bool.false_eq_true,↓reduceIte]
 refine Br.liv_seq (fun d=>?_) _
 refine Br.liv_region (fun d=>?_) _
 simp only [Br.rz,Br.ix,Nat.reduceAdd]
 refine Br.mo rfl rfl hc (fun d K hK=>?_) _
 go_simp
 refine hK _ _ ⟨rfl,?_⟩
 clear hK K
 refine Br.liv_region_end (fun d=>?_) _
 refine Br.liv_ret (fun d=>?_) _
 exact Br.liv_leave (v:=.bool false) rfl rfl Tryd.func75 (resultsC_tmp (t:=2) rfl _) hn _
theorem next_enter (o:OpD):Frame.enter Tryd.prog 95 #[pO o] .normal=(base 95).at ⟨#[pO o,undef,undef,undef,undef,undef,undef,undef,undef,undef,undef,undef,undef,undef],[]⟩ [.code nextBody]:=by
 rw [enter_at (c:=nextBody) _ Tryd.func95 rfl]
 rfl
section
variable {o:OpD} {l:List OpD} {w:World} {fr:Frame} {cs:List Frame} {Stop:Goroutine→World→Prop}
theorem next_true (hc:Clear w)(h11:w.cell? ⟨o.bo,11,none⟩=some (.bool true))
  (hn:∀ d,Must Tryd.prog false (DL true (sfO l)) Stop (G (fr.finish (.bool true)) cs) (w.at d))(d0:Nat) :
  Must Tryd.prog false (DL true (sfO l)) Stop (G (Frame.enter Tryd.prog 95 #[pO o] .normal) (fr::cs)) (w.at d0):=by
 rw [next_enter]
 simp only [nextBody,Tryd.f95,Option.getD_some,pO]
 refine Br.liv_seq (fun d=>?_) _
 refine Br.liv_region (fun d=>?_) _
 simp only [Br.rz,Br.ix,Nat.reduceAdd]
 refine Br.mo rfl rfl hc (fun d K hK=>?_) _
 go_simp
 refine hK _ _ ⟨rfl,?_⟩
 clear hK K
 refine Br.liv_region_end (fun d=>?_) _
 refine Br.liv_seq (fun d=>?_) _
 refine Br.liv_seq (fun d=>?_) _
 refine Br.liv_region (fun d=>?_) _
 simp only [Br.rz,Br.ix,Nat.reduceAdd]
 refine Br.mo rfl rfl hc (fun d K hK=>?_) _
 go_simp
 refine hK _ _ ⟨rfl,?_⟩
 clear hK K
 refine Br.mo rfl rfl hc (fun d K hK=>?_) _
 go_simp
 refine hK _ _ ⟨rfl,?_⟩
 clear hK K
 refine Br.mo rfl rfl hc (fun d K hK=>?_) _
 go_simp
 refine hK _ _ ⟨rfl,?_⟩
 clear hK K
 refine Br.mo rfl rfl hc (fun d K hK=>?_) _
 have e11:(w.at d).cell? ⟨o.bo,11,none⟩=some (.bool true):=h11
 go_simp
 refine hK _ _ ⟨rfl,?_⟩
 clear hK K
 refine Br.liv_region_end (fun d=>?_) _
 refine Br.mc rfl (fun u=>stepG_cond (t:=true) rfl) (fun d=>?_) _
 simp only [if_true,if_false,Bool.false_eq_true,↓reduceIte]
 refine Br.liv_seq (fun d=>?_) _
 refine Br.liv_region (fun d=>?_) _
 simp only [Br.rz,Br.ix,Nat.reduceAdd]
 refine Br.mo rfl rfl hc (fun d K hK=>?_) _
 go_simp
 refine hK _ _ ⟨rfl,?_⟩
 clear hK K
 refine Br.liv_region_end (fun d=>?_) _
 refine Br.liv_ret (fun d=>?_) _
 exact Br.liv_leave (v:=.bool true) rfl rfl Tryd.func95 (resultsC_tmp (t:=2) rfl _) hn _
theorem next_send (ho:o∈l)(hc:Clear w)(hk:KO l w)(h11:w.cell? ⟨o.bo,11,none⟩=some (.bool false))
  (hn:∀ d,Must Tryd.prog false (DL true (sfO l)) Stop (sendG o (fr::cs)) (w.at d))(d0:Nat) :
  Must Tryd.prog false (DL true (sfO l)) Stop (G (Frame.enter Tryd.prog 95 #[pO o] .normal) (fr::cs)) (w.at d0):=by
 have hf:=(ko_cells hk ho).2.1
 rw [next_enter]
 unfold sendG at hn
 simp only [nextBody,Tryd.f95,Option.getD_some,pO] at *
 refine Br.liv_seq (fun d=>?_) _
 refine Br.liv_region (fun d=>?_) _
 simp only [Br.rz,Br.ix,Nat.reduceAdd]
 refine Br.mo rfl rfl hc (fun d K hK=>?_) _
 go_simp
 refine hK _ _ ⟨rfl,?_⟩
 clear hK K
 refine Br.liv_region_end (fun d=>?_) _
 refine Br.liv_seq (fun d=>?_) _
 refine Br.liv_seq (fun d=>?_) _
 refine Br.liv_region (fun d=>?_) _
 simp only [Br.rz,Br.ix,Nat.reduceAdd]
 refine Br.mo rfl rfl hc (fun d K hK=>?_) _
 go_simp
 refine hK _ _ ⟨rfl,?_⟩
 clear hK K
 refine Br.mo rfl rfl hc (fun d K hK=>?_) _
 go_simp
 refine hK _ _ ⟨rfl,?_⟩
 clear hK K
 refine Br.mo rfl rfl hc (fun d K hK=>?_) _
 go_simp
 refine hK _ _ ⟨rfl,?_⟩
 clear hK K
 refine Br.mo rfl rfl hc (fun d K hK=>?_) _
 have e11:(w.at d).cell? ⟨o.bo,11,none⟩=some (.bool false):=h11
 go_simp
 refine hK _ _ ⟨rfl,?_⟩
 clear hK K
 refine Br.liv_region_end (fun d=>?_) _
 refine Br.mc rfl (fun u=>stepG_cond (t:=false) rfl) (fun d=>?_) _
 simp only [if_true,if_false,Bool.false_eq_true,↓reduceIte]
 refine Br.liv_skip (fun d=>?_) _
 refine Br.liv_seq (fun d=>?_) _
 refine Br.liv_region (fun d=>?_) _
 simp only [Br.rz,Br.ix,Nat.reduceAdd]
 refine Br.mo rfl rfl hc (fun d K hK=>?_) _
 go_simp
 refine hK _ _ ⟨rfl,?_⟩
 clear hK K
 refine Br.mo rfl rfl hc (fun d K hK=>?_) _
 go_simp
 refine hK _ _ ⟨rfl,?_⟩
 clear hK K
 refine Br.mo rfl rfl hc (fun d K hK=>?_) _
 go_simp
 refine hK _ _ ⟨rfl,?_⟩
 clear hK K
 refine Br.mo rfl rfl hc (fun d K hK=>?_) _
 have e1:(w.at d).cell? ⟨o.bo,1,none⟩=some (.chan (some o.to)):=hf
 go_simp
 refine hK _ _ ⟨rfl,?_⟩
 clear hK K
 refine Br.mo rfl rfl hc (fun d K hK=>?_) _
 go_simp
 refine hK _ _ ⟨rfl,?_⟩
 clear hK K
 exact hn _
theorem next_back (hc:Clear w)(t:Bool)
  (hn:∀ d,Must Tryd.prog false (DL true (sfO l)) Stop (G (fr.finish (.bool t)) cs) (w.at d))(d0:Nat) :
  Must Tryd.prog false (DL true (sfO l)) Stop (G ((nextFr o).finish (.bool t)) (fr::cs)) (w.at d0):=by
 unfold nextFr
 simp only [Tryd.f95,pO]
 rw [Frame.finish_at]
 go_simp
 refine Br.mo rfl rfl hc (fun d K hK=>?_) _
 go_simp
 refine hK _ _ ⟨rfl,?_⟩
 clear hK K
 refine Br.liv_region_end (fun d=>?_) _
 refine Br.liv_ret (fun d=>?_) _
 exact Br.liv_leave (v:=.bool t) rfl rfl Tryd.func95 (resultsC_tmp (t:=2) rfl _) hn _
end
end Go.Proofs.YtcgabodkegcpgaaDoor
namespace Go.Proofs.YtcgabodkegcpgaaDoor
open Go.RowKit
def Pt (P:Program)(t:TypeId)(xs:Array Value)(o:Nat)(a:Value):Prop:=∀ w,(part t xs o).run P w=.ok a w
section
variable {P:Program} {d:Nat} {t:TypeId}
theorem Pt.same {xs:Array Value}{o:Nat}{a b:Value}(h:Pt P t xs o a)(h':Pt P t xs o b):a=b:=by
 have:=(h default).symm.trans (h' default)
 injection this
end
def IntAt (xs:Array Value)(o:Nat):Prop:=∃ v,xs[o]?=some (.int .i64 v)
def BoolAt (xs:Array Value)(o:Nat):Prop:=∃ v,xs[o]?=some (.bool v)
theorem IntAt.cut {xs:Array Value}{a b o:Nat}(h:IntAt xs (a+o))(hb:a+o<b):IntAt (xs.extract a b) o:=by
 obtain ⟨v,hv⟩:=h
 have:=(Array.getElem?_eq_some_iff.1 hv).1
 exact ⟨v,by rw [Array.getElem?_extract,if_pos (by omega)];exact hv⟩
theorem BoolAt.cut {xs:Array Value}{a b o:Nat}(h:BoolAt xs (a+o))(hb:a+o<b):BoolAt (xs.extract a b) o:=by
 obtain ⟨v,hv⟩:=h
 have:=(Array.getElem?_eq_some_iff.1 hv).1
 exact ⟨v,by rw [Array.getElem?_extract,if_pos (by omega)];exact hv⟩
def Pairs (n:Nat)(xs:Array Value)(o:Nat):Prop:=∀ i,i<n→IntAt xs (o+i*2)∧BoolAt xs (o+i*2+1)
theorem Pairs.cut {n:Nat}{xs:Array Value}{o b:Nat}(h:Pairs n xs o)(hb:o+n*2≤b):Pairs n (xs.extract o b) 0:=fun i hi =>
 ⟨(show IntAt xs (o+(0+i*2)) by rw [Nat.zero_add];exact (h i hi).1).cut (by omega),(show BoolAt xs (o+(0+i*2+1)) by rw [Nat.zero_add,← Nat.add_assoc];exact (h i hi).2).cut (by omega)⟩
theorem Pairs.one {n:Nat}{xs:Array Value}{o i:Nat}(h:Pairs n xs o)(hi:i<n):Pairs 1 xs (o+i*2):=fun j hj=>by
 obtain rfl:j=0:=by omega
 simpa using h i hi
structure SlotAt (xs:Array Value):Prop where
 kind:IntAt xs 0
 parent:IntAt xs 1
 table:IntAt xs 2
 pages:Pairs 4 xs 3
 files:Pairs 4 xs 11
 code:IntAt xs 19
attribute [local go_sem ↓] Go.wp_at_zero Go.wp_at_succ
def cut (f:Nat→Value)(o m:Nat):List Value:=(List.range m).map fun j=>f (o+j)
theorem cut_len (f:Nat→Value)(o m:Nat):(cut f o m).length=m:=by simp [cut]
attribute [local go_sem ↓] Go.wp_at_zero Go.wp_at_succ
theorem below_then {B n:Nat}{a b c:World}(h:Below B a b)(k:Below n b c)(hn:B≤n):Below B a c :=
 h.trans ⟨k.os,k.tape,k.output,k.size,fun i hi=>k.block i (Nat.lt_of_lt_of_le hi hn)⟩
theorem below_cell {n:Nat}{W w1:World}(b:Below n W w1){g o:Nat}{v:Value}(hg:g<n)(h:W.cell? ⟨g,o,none⟩=some v):w1.cell? ⟨g,o,none⟩=some v :=
 (World.cell?_of_block (w:=W) (a:=⟨g,o,none⟩) (b.block g hg)).trans h
theorem row_lt {w:World}{g t n:Nat}{f:Nat→Value}(h:w.rowIs g t n f):g<w.heap.size:=h.lt
structure Kept (K K':Ker) (p:Nat):Prop where
 kind:K'.S p 0=K.S p 0
 table:K'.S p 2=K.S p 2
 mid:∀ j,3≤j→j<19→sCell K' (p*20+j)=sCell K (p*20+j)
 words:∀ j,j<4→K.S p (3+j*2)<0∨∃ n:Nat,K.S p (3+j*2)=n∧n<K.nF∧∀ i,i<6→K'.F n i=K.F n i
attribute [local go_sem ↓] Go.wp_at_zero Go.wp_at_succ
theorem wpList_store_any {P:Program}{ops:Array Oper}{rest:List Oper}{op:Oper}{a:Act}{w:World}{Q:Exit→Act→World→Prop}(hgd:op.guard=none)(ty:TypeId)(x y:Operand)(ho:op.op=.store ty x y)
  (b o:Nat)(cells:Array Value)(hx:a.eval x=.pointer (some ⟨b,o,none⟩))(hy:a.eval y=.agg cells)
  (ht:w.there b o cells.size)(hi:(P.info? ty).map (·.size)=some cells.size)(h1:cells.all (·.oneCell')=true)
  (h:∀ W,W.rangeAt b o cells.toList→(∀ k,k≠b→W.heap[k]?=w.heap[k]?)→W.heap.size=w.heap.size→(∀ B a,Below B a w→B≤b→Below B a W)→wpList P ops Q rest (a.put op.dst undef) W):wpList P ops Q (op::rest) a w :=
 wpList_store_mid hgd ty x y ho b o cells hx hy ht hi h1 (h _ (World.rangeAt_setCells_same w b o _ (by rw [Array.length_toList];exact ht)) (fun k hk=>heap_setCells hk _ _ _) (size_setCells _ _ _) (fun B a hb hB=>below_setCells hB _ _ hb))
theorem sCell_num (K:Ker)(p j:Nat)(hj:j<20)(h:¬ (4≤j∧j≤18∧j % 2=0)):sCell K (p*20+j)=.int .i64 (K.S p j):=by
 unfold sCell
 rw [if_neg (by omega),show (p*20+j) / 20=p by omega,show (p*20+j) % 20=j by omega]
theorem cut_cell {w:World}{b:Nat}{f:Nat→Value}{o m:Nat}(h:w.rangeAt b 0 (cut f o m)){j:Nat}(hj:j<m):w.cell? ⟨b,j,none⟩=some (f (o+j)):=by
 have e:=h j (f (o+j)) (by simp [cut,hj])
 rw [Nat.zero_add] at e;exact e
theorem cut_one (K:Ker)(o m:Nat):(cut (sCell K) o m).toArray.all (·.oneCell')=true :=
 all_oneCell_toArray (fun v hv=>by
  unfold cut at hv
  obtain ⟨j,_,rfl⟩:=List.mem_map.1 hv
  exact one_s K _)
structure Behind (W:World) (A B X Y:Nat) (gF kF m:Nat) (K:Ker) (p:Nat):Prop where
 a:W.cell? ⟨A,0,none⟩=some (.slice (some ⟨gF,0,none⟩) m m)
 b:W.cell? ⟨B,0,none⟩=some (.slice (some ⟨kF,0,none⟩) m m)
 x0:W.cell? ⟨X,0,none⟩=some (.int .i64 (K.S p 0))
 y0:W.cell? ⟨Y,0,none⟩=some (.int .i64 (K.S p 0))
 x2:W.cell? ⟨X,2,none⟩=some (.int .i64 (K.S p 2))
 y2:W.cell? ⟨Y,2,none⟩=some (.int .i64 (K.S p 2))
 xp:W.rangeAt X 3 (cut (sCell K) (p*20+3) 8)
 yp:W.rangeAt Y 3 (cut (sCell K) (p*20+3) 8)
 xf:W.rangeAt X 11 (cut (sCell K) (p*20+11) 8)
 yf:W.rangeAt Y 11 (cut (sCell K) (p*20+11) 8)
 pg:∀ j,j<4→W.cell? ⟨X,3+j*2,none⟩=some (.int .i64 (K.S p (3+j*2)))
theorem there_new3 (w:World)(A B:Obj)(c:Array Value)(t:TypeId)(m:Nat)(h:c.size=m):(((w.alloc A).alloc B).alloc (.cells c t)).there (w.heap.size+2) 0 m:=by
 have:=rowIs_there (rowIs_new ((w.alloc A).alloc B) c t) (o:=0) (m:=m) (by omega)
 simpa using this
theorem there_new1 (w:World)(c:Array Value)(t:TypeId)(m:Nat)(h:c.size=m):(w.alloc (.cells c t)).there w.heap.size 0 m :=
 rowIs_there (rowIs_new w c t) (o:=0) (m:=m) (by omega)
theorem range_block {W W':World}{b o:Nat}{cs:List Value}(h:W.rangeAt b o cs)(e:W'.heap[b]?=W.heap[b]?):W'.rangeAt b o cs:=fun j v hv =>
 (World.cell?_of_block (w:=W) (a:=⟨b,o+j,none⟩) e).trans (h j v hv)
end Go.Proofs.YtcgabodkegcpgaaDoor
namespace Go.Proofs.YtcgabodkegcpgaaDoor
open Go.RowKit
open Br (OpD KO SO SP sfO Lk Fit Must DL Liv Clear)
noncomputable def callTail:Code :=
 match Tryd.f84.body with
 | some (.seq _ (.seq _ c))=>c
 | _=>.skip
def callTmps (bo bx:Nat)(num a b c:Int)(t16 t17 t18:Value):Array Value :=
 #[.pointer (some ⟨bo,0,none⟩),.int .i64 num,.agg #[.int .i64 a,.int .i64 b,.int .i64 c],undef,undef,.pointer (some ⟨bx,0,none⟩),.int .i64 0,.int .i64 0,undef,undef,.pointer (some ⟨bo,0,none⟩),.pointer (some ⟨bo,0,none⟩),.pointer (some ⟨bo,12,none⟩),.bool false,.bool false,.pointer (some ⟨bo,0,none⟩),t16,t17,t18,
  undef,undef,undef,undef,undef,undef,undef,undef,undef,undef,undef,undef,undef,undef,undef,undef,undef,undef,undef,undef,undef,undef,undef,undef,undef,undef,undef]
theorem call_tail {v:World}{bo bx bk bf bs bd:Nat}{K:Ker}(R:Rep v bk bf bs bd K)(T:Tab v)(Gd:Good K)(slot num a b c:Int){x11 x12:Value}
  (h3:v.cell? ⟨bo,3,none⟩=some (.pointer (some ⟨bk,0,none⟩)))(h4:v.cell? ⟨bo,4,none⟩=some (.int .i64 slot))(h11:v.cell? ⟨bo,11,none⟩=some x11)(h12:v.cell? ⟨bo,12,none⟩=some x12)(z11:v.frozen? ⟨bo,11,none⟩=false)(z12:v.frozen? ⟨bo,12,none⟩=false)
  (b0:v.cell? ⟨bx,0,none⟩=some (.int .i64 a))(b1:v.cell? ⟨bx,1,none⟩=some (.int .i64 b))(b2:v.cell? ⟨bx,2,none⟩=some (.int .i64 c))(hne:bx≠bo)(ho:bo≠bk∧bo≠bf∧bo≠bs∧bo≠bd∧bo≠0)(hx:bx≠bf∧bx≠bs∧bx≠bd) :
  callTail.wp Tryd.prog (fun e a' v'=>e=.ret∧a'.defers=[]∧a'.tmps.getD 6 undef=.int .i64 (kCall K slot num a b c).n∧a'.tmps.getD 7 undef=.int .i64 (kCall K slot num a b c).e∧Rep v' bk bf bs bd (kCall K slot num a b c).K∧v.heap.size≤v'.heap.size ∧
   (∀ k,k<v.heap.size→k≠bf→k≠bs→k≠bd→v'.heap[k]?=((v.setCell ⟨bo,11,none⟩ (.bool false)).setCell ⟨bo,12,none⟩ (.bool ((kCall K slot num a b c).e == 3))).heap[k]?)) ⟨callTmps bo bx num a b c (.bool true) (.bool false) (.bool false),[]⟩ v:=by
 have hsz:∀ x:Value,(v.setCell ⟨bo,11,none⟩ x).heap.size=v.heap.size:=fun x=>by simp [World.setCell]
 have hblk:∀ (u:World) (j:Nat) (x:Value) (k:Nat),k≠bo→(u.setCell ⟨bo,j,none⟩ x).heap[k]?=u.heap[k]?:=fun u j x k hk=>by rw [Br.heap_setCell,if_neg (fun e=>hk e.symm)]
 generalize hO:kCall K slot num a b c=O
 have HO:Hid (kCall K slot num a b c=O):=hO
 have HW:Hid (Rep (v.setCell ⟨bo,11,none⟩ (.bool false)) bk bf bs bd K∧Tab (v.setCell ⟨bo,11,none⟩ (.bool false))∧Good K):=⟨R.same (Nat.le_of_eq (hsz _).symm) (fun k _ hk=>hblk _ _ _ _ (by rcases hk with rfl|rfl|rfl|rfl<;>first|exact Ne.symm ho.1|exact Ne.symm ho.2.1|exact Ne.symm ho.2.2.1|exact Ne.symm ho.2.2.2.1)),T.same (hblk _ _ _ _ (Ne.symm ho.2.2.2.2)),Gd⟩
 have c3:(v.setCell ⟨bo,11,none⟩ (.bool false)).cell? ⟨bo,3,none⟩=some (.pointer (some ⟨bk,0,none⟩)):=(World.cell?_setCell_other v ⟨bo,11,none⟩ ⟨bo,3,none⟩ (.bool false) (by simp)).trans h3
 have c4:(v.setCell ⟨bo,11,none⟩ (.bool false)).cell? ⟨bo,4,none⟩=some (.int .i64 slot):=(World.cell?_setCell_other v ⟨bo,11,none⟩ ⟨bo,4,none⟩ (.bool false) (by simp)).trans h4
 have c12:(v.setCell ⟨bo,11,none⟩ (.bool false)).cell? ⟨bo,12,none⟩=some x12:=(World.cell?_setCell_other v ⟨bo,11,none⟩ ⟨bo,12,none⟩ (.bool false) (by simp)).trans h12
 have d0:(v.setCell ⟨bo,11,none⟩ (.bool false)).cell? ⟨bx,0,none⟩=some (.int .i64 a):=(World.cell?_setCell_other v ⟨bo,11,none⟩ ⟨bx,0,none⟩ (.bool false) (by simp [Ne.symm hne])).trans b0
 have d1:(v.setCell ⟨bo,11,none⟩ (.bool false)).cell? ⟨bx,1,none⟩=some (.int .i64 b):=(World.cell?_setCell_other v ⟨bo,11,none⟩ ⟨bx,1,none⟩ (.bool false) (by simp [Ne.symm hne])).trans b1
 have d2:(v.setCell ⟨bo,11,none⟩ (.bool false)).cell? ⟨bx,2,none⟩=some (.int .i64 c):=(World.cell?_setCell_other v ⟨bo,11,none⟩ ⟨bx,2,none⟩ (.bool false) (by simp [Ne.symm hne])).trans b2
 have e12:(v.setCell ⟨bo,11,none⟩ (.bool false)).frozen? ⟨bo,12,none⟩=false:=by rw [frozen_setCell];exact z12
 have hS:Hid (bo<v.heap.size∧(∀ (u:World) (j:Nat) (x:Value) (k:Nat),k≠bo→(u.setCell ⟨bo,j,none⟩ x).heap[k]?=u.heap[k]?)∧(∀ x:Value,(v.setCell ⟨bo,11,none⟩ x).heap.size=v.heap.size)):=⟨World.block_lt_of_cell? _ _ h3,hblk,hsz⟩
 clear hO R T Gd hblk hsz
 unfold callTail callTmps
 simp only [Tryd.f84]
 go_wp2_with fail
 generalize hW:v.setCell ⟨bo,11,none⟩ (.bool false)=W at *
 clear h3 h4 h11 h12 z11 z12 b0 b1 b2
 go_region_held3 (fun w'=>w'.cell? ⟨bo,3,none⟩=some (.pointer (some ⟨bk,0,none⟩))∧w'.cell? ⟨bo,4,none⟩=some (.int .i64 slot)∧w'.cell? ⟨bx,0,none⟩=some (.int .i64 a)∧w'.cell? ⟨bx,1,none⟩=some (.int .i64 b)∧w'.cell? ⟨bx,2,none⟩=some (.int .i64 c)) ((repeat' apply And.intro)<;>(first|assumption|(go_keep;done)))
  (first|(go_at_call 11;refine (call_all HW.out.1.drew (HW.out.2.1.same (w':=W.drew) rfl) HW.out.2.2 slot num a b c).mono ?_;rintro e w4 ⟨rfl,R4,q4⟩;rw [HO.out] at R4 ⊢;have zo:w4.heap[bo]?=W.heap[bo]?:=q4.block bo (World.block_lt_of_cell? W _ c3) ho.2.1 ho.2.2.1 ho.2.2.2.1;have zx:w4.heap[bx]?=W.heap[bx]?:=q4.block bx (World.block_lt_of_cell? W _ d0) hx.1 hx.2.1 hx.2.2;have f3:=(World.cell?_of_block (w:=W) (a:=⟨bo,3,none⟩) zo).trans c3;have f4:=(World.cell?_of_block (w:=W) (a:=⟨bo,4,none⟩) zo).trans c4;have f12:=(World.cell?_of_block (w:=W) (a:=⟨bo,12,none⟩) zo).trans c12;have g0:=(World.cell?_of_block (w:=W) (a:=⟨bx,0,none⟩) zx).trans d0;have g1:=(World.cell?_of_block (w:=W) (a:=⟨bx,1,none⟩) zx).trans d1;have g2:=(World.cell?_of_block (w:=W) (a:=⟨bx,2,none⟩) zx).trans d2;have y12:w4.frozen? ⟨bo,12,none⟩=false:=(by simp only [World.frozen?,zo];exact e12);have H4:Hid (Rep w4 bk bf bs bd O.K∧Keeps bf bs bd W.drew w4):=⟨R4,q4⟩;clear zo zx R4 q4))
 go_wp2
 have hWs:W.heap.size=v.heap.size:=by rw [← hW];exact hS.out.2.2 _
 have hq:=H4.out.2
 refine ⟨H4.out.1.same (by simp [World.setCell]) (fun k _ hk=>hS.out.2.1 w4 12 _ k (by rcases hk with rfl|rfl|rfl|rfl<;>first|exact Ne.symm ho.1|exact Ne.symm ho.2.1|exact Ne.symm ho.2.2.1|exact Ne.symm ho.2.2.2.1)),Nat.le_trans (Nat.le_of_eq hWs.symm) hq.size,fun k hk h1 h2 h3=>?_⟩
 have e:w4.heap[k]?=W.heap[k]?:=hq.block k (by show k<W.heap.size;omega) h1 h2 h3
 rw [Br.heap_setCell,Br.heap_setCell,e]
end Go.Proofs.YtcgabodkegcpgaaDoor
