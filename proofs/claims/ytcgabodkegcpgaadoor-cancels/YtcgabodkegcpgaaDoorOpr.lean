/- The kernel in company: what its Call and its State come to while other goroutines sit beside. No statement of the program is proved here. -/
import Derived.Test.YtcgabodkegcpgaaDoorRin
import Derived.Test.YtcgabodkegcpgaaDoorCpy
import Derived.Test.YtcgabodkegcpgaaDoorInv3
import Derived.Conc.TokenWords
namespace Go.Proofs.YtcgabodkegcpgaaDoor
open Go.Conc (G)
open Br (OpD KO SO SP sfO Lk Fit Must DL Liv Clear)
set_option linter.unusedVariables false
set_option maxHeartbeats 4000000
structure Ctx where
 o:OpD
 slot:Int
 kd:Int
 A:Int
 B:Int
 bk:Nat
 bf:Nat
 bs:Nat
 bd:Nat
structure Env (C:Ctx) (l:List OpD) (K:Ker) (w:World):Prop where
 rep:Rep w C.bk C.bf C.bs C.bd K
 tab:Tab w
 inv:Inv K
 fit:Fit (sfO l) w
 ko:KO l w
 ap:∀ o∈l,o.bo≠C.bk∧o.bo≠C.bf∧o.bo≠C.bs∧o.bo≠C.bd∧o.bo≠0
theorem frozen_lk {sft:Nat→Nat}{v w:World}(h:Lk sft v w){a:Addr}(hz:sft a.block=0):v.frozen? a=w.frozen? a:=by
 simp only [World.frozen?,h.heap,hz]
 cases w.heap[a.block]? with
 | none=>rfl
 | some o=>cases o<;>rfl
theorem rep_to {sft:Nat→Nat}{v w:World}{bk bf bs bd:Nat}{K:Ker}(h:Lk sft v w)(hf:sft bf=0)(hs:sft bs=0)(hd:sft bd=0)(R:Rep w bk bf bs bd K):Rep v bk bf bs bd K :=
 ⟨by rw [h.cell];exact R.k0,by rw [h.cell];exact R.k1,by rw [h.cell];exact R.k2,fun i c h1 h2=>by rw [h.cell];exact R.f i c h1 h2,fun i c h1 h2 h3=>by rw [h.cell];exact R.s i c h1 h2 h3,fun i c h1 h2=>by rw [h.cell];exact R.b i c h1 h2,
  fun i c h1 h2=>by rw [h.cell];exact R.d i c h1 h2,fun o=>by rw [frozen_lk h hf];exact R.zf o,fun o=>by rw [frozen_lk h hs];exact R.zs o,fun o=>by rw [frozen_lk h hd];exact R.zd o,
  by rw [h.size];exact R.lk,by rw [h.size];exact R.lf,by rw [h.size];exact R.ls,by rw [h.size];exact R.ld,R.kf,R.ks,R.kd,R.fs,R.fd,R.sd,R.hF,R.hS,R.hD⟩
theorem rep_back {sft:Nat→Nat}{v w:World}{bk bf bs bd:Nat}{K:Ker}(h:Lk sft v w)(hf:sft bf=0)(hs:sft bs=0)(hd:sft bd=0)(R:Rep v bk bf bs bd K):Rep w bk bf bs bd K :=
 ⟨by rw [← h.cell];exact R.k0,by rw [← h.cell];exact R.k1,by rw [← h.cell];exact R.k2,fun i c h1 h2=>by rw [← h.cell];exact R.f i c h1 h2,fun i c h1 h2 h3=>by rw [← h.cell];exact R.s i c h1 h2 h3,fun i c h1 h2=>by rw [← h.cell];exact R.b i c h1 h2,
  fun i c h1 h2=>by rw [← h.cell];exact R.d i c h1 h2,fun o=>by rw [← frozen_lk h hf];exact R.zf o,fun o=>by rw [← frozen_lk h hs];exact R.zs o,fun o=>by rw [← frozen_lk h hd];exact R.zd o,
  by rw [← h.size];exact R.lk,by rw [← h.size];exact R.lf,by rw [← h.size];exact R.ls,by rw [← h.size];exact R.ld,R.kf,R.ks,R.kd,R.fs,R.fd,R.sd,R.hF,R.hS,R.hD⟩
theorem tab_to {sft:Nat→Nat}{v w:World}(h:Lk sft v w)(T:Tab w):Tab v:=⟨fun i hi=>by rw [h.cell];exact T.t i hi,fun i j hi hj=>by rw [h.cell];exact T.a i j hi hj⟩
theorem same_block {sft:Nat→Nat}{v v' w w':World}(hK:Br.Kept sft w w')(h:Lk sft v w)(h':Lk sft v' w'){k:Nat}(e:v'.heap[k]?=v.heap[k]?):w'.heap[k]?=w.heap[k]?:=by
 rw [h.heap,h'.heap] at e
 cases hw:w.heap[k]? with
 | none =>
  rw [hw] at e
  cases hw':w'.heap[k]? with
  | none=>rfl
  | some o=>rw [hw'] at e;cases e
 | some o =>
  obtain ⟨o',ho',hs⟩:=hK.same k o hw
  rw [hw,ho'] at e
  rw [ho']
  cases o with
  | cells c t f =>
   obtain ⟨c',rfl,_,_⟩:=hs
   simp only [Option.map_some,Br.fz,Option.some.injEq,Obj.cells.injEq] at e
   obtain ⟨rfl,_⟩:=e
   rfl
  | _=>(have hs:o'=_:=hs;rw [hs])
structure Alike (C:Ctx) (w w':World):Prop where
 size:w.heap.size≤w'.heap.size
 block:∀ k,k<w.heap.size→k≠C.bf→k≠C.bs→k≠C.bd→w'.heap[k]?=w.heap[k]?
theorem Env.zero {C:Ctx}{l:List OpD}{K:Ker}{w:World}(E:Env C l K w):sfO l C.bf=0∧sfO l C.bs=0∧sfO l C.bd=0 :=
 ⟨Br.sfO_zero fun o ho=>(E.ap o ho).2.1,Br.sfO_zero fun o ho=>(E.ap o ho).2.2.1,Br.sfO_zero fun o ho=>(E.ap o ho).2.2.2.1⟩
theorem ko_alike {C:Ctx}{l:List OpD}{w w':World}(h:KO l w)(ap:∀ o∈l,o.bo≠C.bk∧o.bo≠C.bf∧o.bo≠C.bs∧o.bo≠C.bd∧o.bo≠0)(A:Alike C w w'):KO l w':=by
 intro o ho
 obtain ⟨c,t,h0,h1⟩:=h o ho
 obtain ⟨_,a1,a2,a3,_⟩:=ap o ho
 exact ⟨c,t,by rw [A.block _ (Br.KO.lt h ho) a1 a2 a3];exact h0,h1⟩
theorem must_kcall {C:Ctx}{l:List OpD}{K:Ker}{w:World}(E:Env C l K w)(h0:0≠C.bf∧0≠C.bs∧0≠C.bd)(main:Bool)(slot num a b c:Int)(fr:Frame)(cs:List Frame) :
  Must Tryd.prog main (DL true (sfO l)) (fun g w'=>g=G (fr.finish (.tuple #[.int .i64 (kCall K slot num a b c).n,.int .i64 (kCall K slot num a b c).e])) cs∧Env C l (kCall K slot num a b c).K w'∧Alike C w w')
   (G (Frame.enter Tryd.prog 11 #[.pointer (some ⟨C.bk,0,none⟩),.int .i64 slot,.int .i64 num,.agg #[.int .i64 a,.int .i64 b,.int .i64 c]] .normal) (fr::cs)) w:=by
 obtain ⟨z1,z2,z3⟩:=E.zero
 have key:=fun v (hv:Lk (sfO l) v w)=>call_all (rep_to hv z1 z2 z3 E.rep) (tab_to hv E.tab) E.inv.good slot num a b c
 refine (Br.must_calls Br.rules (by kernel_rfl) E.fit main (Q:=fun x v'=>x=.tuple #[.int .i64 (kCall K slot num a b c).n,.int .i64 (kCall K slot num a b c).e]∧Rep v' C.bk C.bf C.bs C.bd (kCall K slot num a b c).K∧∃ v,Lk (sfO l) v w∧Keeps C.bf C.bs C.bd v v')
  (fun v hv=>(key v hv).mono fun e v' he=>by
   obtain ⟨rfl,h1,h2⟩:=he
   exact ⟨rfl,h1,v,hv,h2⟩) fr cs).keep.mono (fun _ _ _ h=>h) ?_
 rintro g w' ⟨⟨x,v',rfl,hl',rfl,hR,v,hl,hk⟩,hkp⟩
 have A:Alike C w w':=⟨by rw [← hl.size,← hl'.size];exact hk.size,fun k hk' h1 h2 h3=>same_block hkp hl hl' (hk.block k (by rw [hl.size];exact hk') h1 h2 h3)⟩
 exact ⟨rfl,⟨rep_back hl' z1 z2 z3 hR,E.tab.same (A.block 0 E.tab.lt h0.1 h0.2.1 h0.2.2),inv_call E.inv _ _ _ _ _,hl'.fit,ko_alike E.ko E.ap A,E.ap⟩,A⟩
end Go.Proofs.YtcgabodkegcpgaaDoor
namespace Go.Proofs.YtcgabodkegcpgaaDoor
open Go.Conc
open Br (OpD KO SO SP sfO Lk Fit Must DL Liv Clear)
set_option linter.unusedVariables false
set_option linter.unusedSimpArgs false
set_option maxHeartbeats 4000000
abbrev pO (o:OpD):Value:=.pointer (some ⟨o.bo,0,none⟩)
noncomputable def waitTodo:List Item :=
 match Tryd.f75.body with
 | some (.seq _ (.seq _ (.seq (.region _ ops _) c)))=>[.inRegion ops [0,1,2,3],.code c]
 | _=>[]
noncomputable def waitRec (o:OpD)(cs:List Frame):Goroutine :=
 G ((base 75).at ⟨#[pO o,undef,.bool false,pO o,pO o,pO o,.chan (some o.tu),pO o,pO o,.pointer (some ⟨o.bo,2,none⟩),.chan (some o.en),undef,undef,undef,undef,undef,undef,undef],[]⟩ waitTodo) cs
noncomputable def seatO (o:OpD)(cs:List Frame):Seat:={ cases:=#[rcase o.tu (.agg #[]),rcase o.en (.agg #[])],shape:=.select,home:=fun g=>g=waitRec o cs }
theorem ko_cells {l:List OpD}{w:World}(h:KO l w){o:OpD}(ho:o∈l):w.cell? ⟨o.bo,0,none⟩=some (.chan (some o.tu))∧w.cell? ⟨o.bo,1,none⟩=some (.chan (some o.to))∧w.cell? ⟨o.bo,2,none⟩=some (.chan (some o.en))∧(∀ i,w.frozen? ⟨o.bo,i,none⟩=false):=by
 obtain ⟨c,t,h0,h1,h2,h3⟩:=h o ho
 refine ⟨by simp [World.cell?,h0,h1],by simp [World.cell?,h0,h2],by simp [World.cell?,h0,h3],fun i=>by simp [World.frozen?,h0]⟩
theorem wait_at (o:OpD)(l:List OpD)(B:Nat)(cs:List Frame):AtIn Tryd.prog false (KO l) (SP l Br.no) B (seatO o cs) (waitRec o cs) (waitRec o cs):=by
 unfold waitRec waitTodo
 simp only [Tryd.f75]
 exact atIn_of (s:=seatO o cs) rfl rfl (by decide) (fun w=>by simp [go_sem,execOp,rcase,Act.eval,seatO]) (fun w=>by simp [go_sem,execOp,Act.eval]) (by
  simp only [seatO,waitRec,waitTodo,Tryd.f75])
noncomputable def waitBody:Code:=(Tryd.f75.body).getD .skip
theorem wait_enter (o:OpD):Frame.enter Tryd.prog 75 #[pO o] .normal=(base 75).at ⟨#[pO o,undef,undef,undef,undef,undef,undef,undef,undef,undef,undef,undef,undef,undef,undef,undef,undef,undef],[]⟩ [.code waitBody]:=by
 rw [enter_at (c:=waitBody) _ Tryd.func75 rfl]
 rfl
set_option maxRecDepth 100000 in
theorem wait_goes (o:OpD)(l:List OpD)(ho:o∈l)(B:Nat)(hB:∀ o∈l,o.bo<B)(cs:List Frame)(w:World) :
  Goes Tryd.prog false (RK (KO l)) (DS (SP l Br.no) B) (fun g _=>∃ g₂,AtIn Tryd.prog false (KO l) (SP l Br.no) B (seatO o cs) g g₂) 20 (G (Frame.enter Tryd.prog 75 #[pO o] .normal) cs) w:=by
 rw [wait_enter]
 simp only [waitBody,Tryd.f75,Option.getD_some,pO]
 refine Goes.step rfl (fun w₁ h₁=>?_);rw [stepG_seq];simp only [goes_go];refine ⟨ds_none _,?_⟩;clear h₁
 refine Goes.step rfl (fun w₁ h₁=>?_);rw [stepG_region];simp only [goes_go,List.size_toArray,List.length_cons,List.length_nil,Nat.reduceAdd,Nat.zero_add,List.range,List.range.loop];refine ⟨ds_none _,?_⟩;clear h₁
 refine Goes.step rfl (fun w₁ h₁=>?_)
 refine goes_oper_k rfl rfl (by decide) (fun K hK=>?_)
 go_simp
 refine hK _ _ ⟨⟨rfl,fun e he=>by (have hm:=mem_listed he;simp [go_sem] at hm)⟩,?_⟩
 clear hK K h₁
 refine Goes.step rfl (fun w₁ h₁=>?_);rw [stepG_region_end];simp only [goes_go];refine ⟨ds_none _,?_⟩;clear h₁
 refine Goes.step rfl (fun w₁ h₁=>?_);rw [stepG_seq];simp only [goes_go];refine ⟨ds_none _,?_⟩;clear h₁
 refine Goes.step rfl (fun w₁ h₁=>?_);rw [stepG_seq];simp only [goes_go];refine ⟨ds_none _,?_⟩;clear h₁
 refine Goes.step rfl (fun w₁ h₁=>?_);rw [stepG_region];simp only [goes_go,List.size_toArray,List.length_cons,List.length_nil,Nat.reduceAdd,Nat.zero_add,List.range,List.range.loop];refine ⟨ds_none _,?_⟩;clear h₁
 refine Goes.step rfl (fun w₁ h₁=>?_)
 refine goes_oper_k rfl rfl (by decide) (fun K hK=>?_)
 go_simp
 refine hK _ _ ⟨⟨rfl,fun e he=>by (have hm:=mem_listed he;simp [go_sem] at hm)⟩,?_⟩
 clear hK K h₁
 refine Goes.step rfl (fun w₁ h₁=>?_)
 refine goes_oper_k rfl rfl (by decide) (fun K hK=>?_)
 go_simp
 refine hK _ _ ⟨⟨rfl,fun e he=>by (have hm:=mem_listed he;simp [go_sem] at hm)⟩,?_⟩
 clear hK K h₁
 refine Goes.step rfl (fun w₁ h₁=>?_)
 refine goes_oper_k rfl rfl (by decide) (fun K hK=>?_)
 go_simp
 refine hK _ _ ⟨⟨rfl,fun e he=>by (have hm:=mem_listed he;simp [go_sem] at hm)⟩,?_⟩
 clear hK K h₁
 refine Goes.step rfl (fun w₁ h₁=>?_)
 refine goes_oper_k rfl rfl (by decide) (fun K hK=>?_)
 have hf:=ko_cells h₁ ho
 have hf0:=hf.1;have hf1:=hf.2.1;have hf2:=hf.2.2.1;have hfz:=hf.2.2.2
 go_simp
 refine hK _ _ ⟨⟨rfl,fun e he=>by (have hm:=mem_listed he;simp [go_sem, *] at hm;subst hm;exact evC_read _ (.inl ⟨o,ho,0,by omega,rfl⟩) (hB o ho))⟩,?_⟩
 clear hK K hf hf0 hf1 hf2 hfz h₁
 refine Goes.step rfl (fun w₁ h₁=>?_);rw [stepG_region_end];simp only [goes_go];refine ⟨ds_none _,?_⟩;clear h₁
 refine Goes.step rfl (fun w₁ h₁=>?_);rw [stepG_region];simp only [goes_go,List.size_toArray,List.length_cons,List.length_nil,Nat.reduceAdd,Nat.zero_add,List.range,List.range.loop];refine ⟨ds_none _,?_⟩;clear h₁
 refine Goes.step rfl (fun w₁ h₁=>?_)
 refine goes_oper_k rfl rfl (by decide) (fun K hK=>?_)
 go_simp
 refine hK _ _ ⟨⟨rfl,fun e he=>by (have hm:=mem_listed he;simp [go_sem] at hm)⟩,?_⟩
 clear hK K h₁
 refine Goes.step rfl (fun w₁ h₁=>?_)
 refine goes_oper_k rfl rfl (by decide) (fun K hK=>?_)
 go_simp
 refine hK _ _ ⟨⟨rfl,fun e he=>by (have hm:=mem_listed he;simp [go_sem] at hm)⟩,?_⟩
 clear hK K h₁
 refine Goes.step rfl (fun w₁ h₁=>?_)
 refine goes_oper_k rfl rfl (by decide) (fun K hK=>?_)
 go_simp
 refine hK _ _ ⟨⟨rfl,fun e he=>by (have hm:=mem_listed he;simp [go_sem] at hm)⟩,?_⟩
 clear hK K h₁
 refine Goes.step rfl (fun w₁ h₁=>?_)
 refine goes_oper_k rfl rfl (by decide) (fun K hK=>?_)
 have hf:=ko_cells h₁ ho
 have hf0:=hf.1;have hf1:=hf.2.1;have hf2:=hf.2.2.1;have hfz:=hf.2.2.2
 go_simp
 refine hK _ _ ⟨⟨rfl,fun e he=>by (have hm:=mem_listed he;simp [go_sem, *] at hm;subst hm;exact evC_read _ (.inl ⟨o,ho,2,by omega,rfl⟩) (hB o ho))⟩,?_⟩
 clear hK K hf hf0 hf1 hf2 hfz h₁
 refine Goes.step rfl (fun w₁ h₁=>?_);rw [stepG_region_end];simp only [goes_go];refine ⟨ds_none _,?_⟩;clear h₁
 refine Goes.step rfl (fun w₁ h₁=>?_);rw [stepG_seq];simp only [goes_go];refine ⟨ds_none _,?_⟩;clear h₁
 refine Goes.step rfl (fun w₁ h₁=>?_);rw [stepG_region];simp only [goes_go,List.size_toArray,List.length_cons,List.length_nil,Nat.reduceAdd,Nat.zero_add,List.range,List.range.loop];refine ⟨ds_none _,?_⟩;clear h₁
 exact Goes.stop fun w₁ h₁=>⟨waitRec o cs,wait_at o l B cs⟩
theorem stepG_call {P:Program}{main:Bool}{b:Frame}{a:Act}{k:List Item}{cs:List Frame}{ops:Array Oper}{i:Nat}{rest:List Nat}{o:Oper}{f:FuncId}{fn:Func}{c:Code}{args:Array Operand}{ats:Array TypeId}(ho:ops[i]?=some o)(hw:Region.wanted o (yielded ops a.tmps)=true)(hk:b.kind≠.early)(hop:o.op=.call { callee:=.value (.func f),args,argTypes:=ats })
  (hf:P.funcs[f]?=some fn)(hname:(fn.name == "runtime.NumGoroutine")=false)(hb:fn.body=some c){vs:Array Value}(hv:args.map a.eval=vs)(u:World) :
  stepG P main (G (b.at a (.inRegion ops (i::rest)::k)) cs) u=.go (G (Frame.enter P f vs .normal) (b.at a (.inRegion ops (i::rest)::k)::cs)) u #[]:=by
 subst hv
 have hb':fn.body.isNone=false:=by rw [hb];rfl
 rw [stepG_enter ho hw hk (run_call_body hop hf hname hb')]
 have:listed P b.fn a o u=#[]:=by unfold listed;rw [events_call_body hop hf hname hb'];exact seen_none P _
 rw [this]
noncomputable def nextBody:Code:=(Tryd.f95.body).getD .skip
noncomputable def nextFr (o:OpD):Frame :=
 match Tryd.f95.body with
 | some (.seq _ (.seq _ (.seq _ (.seq (.region _ ops _) c))))=>(base 95).at ⟨#[pO o,undef,.bool false,pO o,pO o,.pointer (some ⟨o.bo,11,none⟩),.bool false,pO o,pO o,.pointer (some ⟨o.bo,1,none⟩),.chan (some o.to),.agg #[],pO o,undef],[]⟩ [.inRegion ops [1,2],.code c]
 | _=>default
noncomputable def sendG (o:OpD)(cs:List Frame):Goroutine :=
 match Tryd.f95.body with
 | some (.seq _ (.seq _ (.seq (.region _ ops _) c)))=>G ((base 95).at ⟨#[pO o,undef,.bool false,pO o,pO o,.pointer (some ⟨o.bo,11,none⟩),.bool false,pO o,pO o,.pointer (some ⟨o.bo,1,none⟩),.chan (some o.to),.agg #[],undef,undef],[]⟩ [.inRegion ops [5],.code c]) cs
 | _=>default
theorem told_send (o:OpD)(cs:List Frame)(w:World):stepG Tryd.prog false (sendG o cs) w=.comm (sendG o cs) #[scase o.to (.agg #[]) (.tuple #[])] true .send w #[]:=by
 unfold sendG
 simp only [Tryd.f95]
 rw [stepG_comm (cases:=#[scase o.to (.agg #[]) (.tuple #[])]) (blocking:=true) (shape:=.send) (w':=w) rfl rfl (by decide) (by simp [go_sem,execOp,Act.eval,scase]),listed_none (by simp [go_sem,execOp,Act.eval])]
set_option maxRecDepth 100000 in
theorem told_sits (o:OpD)(l:List OpD)(ho:o∈l)(B:Nat)(hB:∀ o∈l,o.bo<B)(cs:List Frame):Sits Tryd.prog false (KO l) (SP l Br.no) B (seatO o (nextFr o::cs)) 26 (Go.Conc.served (sendG o cs) undef):=by
 have hw:=wait_goes o l ho B hB (nextFr o::cs)
 refine .inl ⟨25,default,rfl,?_⟩
 unfold sendG nextFr at *
 simp only [Tryd.f95,served_fr] at *
 rw [Frame.finish_at]
 refine Goes.step rfl (fun w₁ h₁=>?_);rw [stepG_region_end];simp only [goes_go];refine ⟨ds_none _,?_⟩;clear h₁
 refine Goes.step rfl (fun w₁ h₁=>?_);rw [stepG_seq];simp only [goes_go];refine ⟨ds_none _,?_⟩;clear h₁
 refine Goes.step rfl (fun w₁ h₁=>?_);rw [stepG_region];simp only [goes_go,List.size_toArray,List.length_cons,List.length_nil,Nat.reduceAdd,Nat.zero_add,List.range,List.range.loop];refine ⟨ds_none _,?_⟩;clear h₁
 refine Goes.step rfl (fun w₁ h₁=>?_)
 refine goes_oper_k rfl rfl (by decide) (fun K hK=>?_)
 go_simp
 refine hK _ _ ⟨⟨rfl,fun e he=>by (have hm:=mem_listed he;simp [go_sem] at hm)⟩,?_⟩
 clear hK K h₁
 refine Goes.step rfl (fun w₁ h₁=>?_)
 rw [stepG_call rfl rfl (by decide) rfl Tryd.func75 rfl rfl (vs:=#[pO o]) (by simp [Act.eval])]
 simp only [goes_go]
 exact ⟨ds_none _,hw w₁⟩
abbrev turnRes:Value:=.tuple #[.int .i64 0,.bool true,.agg #[],.agg #[]]
abbrev endRes:Value:=.tuple #[.int .i64 1,.bool false,.agg #[],.agg #[]]
theorem res_turn (o:OpD)(cs:List Frame):commResult (seatO o cs).cases (seatO o cs).shape ((0:Nat):Int) (.agg #[]) true=turnRes:=by
 simp [seatO,commResult,rcase,List.zipIdx_cons,goInt]
theorem res_end (o:OpD)(cs:List Frame):commResult (seatO o cs).cases (seatO o cs).shape ((1:Nat):Int) (.agg #[]) false=endRes:=by
 simp [seatO,commResult,rcase,List.zipIdx_cons,goInt]
theorem seatO_wf (o:OpD)(cs:List Frame)(h:o.tu≠o.en):(seatO o cs).Wf:=by
 refine ⟨fun cc h=>?_,fun k m c z z' h1 h2=>?_⟩
 ·simp only [seatO,List.mem_toArray,List.mem_cons,List.not_mem_nil,or_false] at h
  rcases h with rfl|rfl
  ·exact ⟨_,_,rfl⟩
  ·exact ⟨_,_,rfl⟩
 ·rcases k with _|_|k<;>rcases m with _|_|m<;>simp [seatO,rcase] at h1 h2 ⊢<;>omega
theorem seatO_has {o:OpD}{cs:List Frame}{c:Nat}(h:(seatO o cs).has c):c=o.tu∨c=o.en:=by
 obtain ⟨k,z,hk⟩:=h
 rcases k with _|_|k<;>simp [seatO,rcase] at hk<;>omega
set_option maxRecDepth 100000 in
theorem wait_turn {o:OpD}{l:List OpD}(ho:o∈l){w:World}(hc:Clear w)(hk:KO l w){x:Value}(h11:w.cell? ⟨o.bo,11,none⟩=some x)(fr:Frame)(cs:List Frame){Stop:Goroutine→World→Prop}
  (hn:∀ d,Must Tryd.prog false (DL true (sfO l)) Stop (G (fr.finish (.bool true)) cs) ((w.setCell ⟨o.bo,11,none⟩ (.bool true)).at d))(d0:Nat) :
  Must Tryd.prog false (DL true (sfO l)) Stop (Go.Conc.served (waitRec o (fr::cs)) turnRes) (w.at d0):=by
 have hf:=ko_cells hk ho
 have hfz:=hf.2.2.2 11
 unfold waitRec waitTodo
 simp only [Tryd.f75,served_fr,pO]
 rw [Frame.finish_at]
 go_simp
 refine Br.mo rfl rfl hc (fun d K hK=>?_) _
 go_simp
 refine hK _ _ ⟨rfl,?_⟩
 clear hK K
 refine Br.mo rfl rfl hc (fun d K hK=>?_) _
 go_simp
 refine hK _ _ ⟨rfl,?_⟩
 clear hK K
 refine Br.mo rfl rfl hc (fun d K hK=>?_) _
 go_simp
 refine hK _ _ ⟨rfl,?_⟩
 clear hK K
 refine Br.liv_region_end (fun d=>?_) _
 refine Br.mc rfl (fun u=>stepG_block) (fun d=>?_) _
 refine Br.mc rfl (fun u=>stepG_cond (t:=true) rfl) (fun d=>?_) _
 simp only [if_true,if_false,Bool.false_eq_true,↓reduceIte]
 refine Br.liv_seq (fun d=>?_) _
 refine Br.liv_region (fun d=>?_) _
 simp only [Br.rz,Br.ix,Nat.reduceAdd]
 refine Br.mo rfl rfl hc (fun d K hK=>?_) _
 go_simp
 refine hK _ _ ⟨rfl,?_⟩
 clear hK K
 refine Br.mo rfl rfl hc (fun d K hK=>?_) _
 go_simp
 refine hK _ _ ⟨rfl,?_⟩
 clear hK K
 refine Br.mo rfl rfl hc (fun d K hK=>?_) _
 go_simp
 refine hK _ _ ⟨rfl,?_⟩
 clear hK K
 refine Br.must_operW rfl rfl (by decide) (fun d K hK=>?_) _
 have e11:(w.at d).cell? ⟨o.bo,11,none⟩=some x:=h11
 have ez:(w.at d).frozen? ⟨o.bo,11,none⟩=false:=hfz
 go_simp
 refine hK _ _ ⟨Br.dl_store (by rw [Br.sfO_mem ho];show 3≤11;omega) (World.block_lt_of_cell? _ _ e11) (fun e he=>?_),?_⟩
 ·have hm:=mem_listed he
  simp only [go_sem] at hm
  simp [go_sem] at hm
  rw [events_store _ _ _ _ _ _ rfl,e11] at hm
  rw [ez] at hm
  simp only [Bool.false_eq_true,if_false,List.push_toArray,List.nil_append,List.mem_toArray,List.mem_cons,List.not_mem_nil,or_false] at hm
  exact hm
 clear hK K e11 ez
 rw [show (w.at d).setCell ⟨o.bo,11,none⟩ (.bool true)=(w.setCell ⟨o.bo,11,none⟩ (.bool true)).at d from rfl]
 have hc:Clear (w.setCell ⟨o.bo,11,none⟩ (.bool true)):=(Br.lk_setCell hc.lk (Nat.zero_le _) _).1.sight
 refine Br.liv_region_end (fun d=>?_) _
 refine Br.liv_seq (fun d=>?_) _
 refine Br.liv_region (fun d=>?_) _
 simp only [Br.rz,Br.ix,Nat.reduceAdd]
 refine Br.mo rfl rfl hc (fun d K hK=>?_) _
 go_simp
 refine hK _ _ ⟨rfl,?_⟩
 clear hK K
 refine Br.liv_region_end (fun d=>?_) _
 refine Br.liv_ret (fun d=>?_) _
 exact Br.liv_leave (v:=.bool true) rfl rfl Tryd.func75 (resultsC_tmp (t:=2) rfl _) (w:=w.setCell ⟨o.bo,11,none⟩ (.bool true)) hn _
set_option maxRecDepth 100000 in
theorem wait_end {o:OpD}{l:List OpD}(ho:o∈l){w:World}(hc:Clear w)(fr:Frame)(cs:List Frame){Stop:Goroutine→World→Prop}
  (hn:∀ d,Must Tryd.prog false (DL true (sfO l)) Stop (G (fr.finish (.bool false)) cs) (w.at d))(d0:Nat) :
  Must Tryd.prog false (DL true (sfO l)) Stop (Go.Conc.served (waitRec o (fr::cs)) endRes) (w.at d0):=by
 unfold waitRec waitTodo
 simp only [Tryd.f75,served_fr,pO]
 rw [Frame.finish_at]
 go_simp
 refine Br.mo rfl rfl hc (fun d K hK=>?_) _
 go_simp
 refine hK _ _ ⟨rfl,?_⟩
 clear hK K
 refine Br.mo rfl rfl hc (fun d K hK=>?_) _
 go_simp
 refine hK _ _ ⟨rfl,?_⟩
 clear hK K
 refine Br.mo rfl rfl hc (fun d K hK=>?_) _
 go_simp
 refine hK _ _ ⟨rfl,?_⟩
 clear hK K
 refine Br.liv_region_end (fun d=>?_) _
 refine Br.mc rfl (fun u=>stepG_block) (fun d=>?_) _
 refine Br.mc rfl (fun u=>stepG_cond (t:=false) rfl) (fun d=>?_) _
 simp only [if_true,if_false,Bool.false_eq_true,↓reduceIte]
 refine Br.mc rfl (fun u=>stepG_cond (t:=true) rfl) (fun d=>?_) _
 simp only [if_true,if_false,Bool.false_eq_true,↓reduceIte]
 refine Br.liv_seq (fun d=>?_) _
 refine Br.liv_region (fun d=>?_) _
 simp only [Br.rz,Br.ix,Nat.reduceAdd]
 refine Br.mo rfl rfl hc (fun d K hK=>?_) _
 go_simp
 refine hK _ _ ⟨rfl,?_⟩
 clear hK K
 refine Br.liv_region_end (fun d=>?_) _
 refine Br.liv_ret (fun d=>?_) _
 exact Br.liv_leave (v:=.bool false) rfl rfl Tryd.func75 (resultsC_tmp (t:=2) rfl _) hn _
theorem next_enter (o:OpD):Frame.enter Tryd.prog 95 #[pO o] .normal=(base 95).at ⟨#[pO o,undef,undef,undef,undef,undef,undef,undef,undef,undef,undef,undef,undef,undef],[]⟩ [.code nextBody]:=by
 rw [enter_at (c:=nextBody) _ Tryd.func95 rfl]
 rfl
section
variable {o:OpD} {l:List OpD} {w:World} {fr:Frame} {cs:List Frame} {Stop:Goroutine→World→Prop}
set_option maxRecDepth 100000 in
theorem next_true (hc:Clear w)(h11:w.cell? ⟨o.bo,11,none⟩=some (.bool true))
  (hn:∀ d,Must Tryd.prog false (DL true (sfO l)) Stop (G (fr.finish (.bool true)) cs) (w.at d))(d0:Nat) :
  Must Tryd.prog false (DL true (sfO l)) Stop (G (Frame.enter Tryd.prog 95 #[pO o] .normal) (fr::cs)) (w.at d0):=by
 rw [next_enter]
 simp only [nextBody,Tryd.f95,Option.getD_some,pO]
 refine Br.liv_seq (fun d=>?_) _
 refine Br.liv_region (fun d=>?_) _
 simp only [Br.rz,Br.ix,Nat.reduceAdd]
 refine Br.mo rfl rfl hc (fun d K hK=>?_) _
 go_simp
 refine hK _ _ ⟨rfl,?_⟩
 clear hK K
 refine Br.liv_region_end (fun d=>?_) _
 refine Br.liv_seq (fun d=>?_) _
 refine Br.liv_seq (fun d=>?_) _
 refine Br.liv_region (fun d=>?_) _
 simp only [Br.rz,Br.ix,Nat.reduceAdd]
 refine Br.mo rfl rfl hc (fun d K hK=>?_) _
 go_simp
 refine hK _ _ ⟨rfl,?_⟩
 clear hK K
 refine Br.mo rfl rfl hc (fun d K hK=>?_) _
 go_simp
 refine hK _ _ ⟨rfl,?_⟩
 clear hK K
 refine Br.mo rfl rfl hc (fun d K hK=>?_) _
 go_simp
 refine hK _ _ ⟨rfl,?_⟩
 clear hK K
 refine Br.mo rfl rfl hc (fun d K hK=>?_) _
 have e11:(w.at d).cell? ⟨o.bo,11,none⟩=some (.bool true):=h11
 go_simp
 refine hK _ _ ⟨rfl,?_⟩
 clear hK K
 refine Br.liv_region_end (fun d=>?_) _
 refine Br.mc rfl (fun u=>stepG_cond (t:=true) rfl) (fun d=>?_) _
 simp only [if_true,if_false,Bool.false_eq_true,↓reduceIte]
 refine Br.liv_seq (fun d=>?_) _
 refine Br.liv_region (fun d=>?_) _
 simp only [Br.rz,Br.ix,Nat.reduceAdd]
 refine Br.mo rfl rfl hc (fun d K hK=>?_) _
 go_simp
 refine hK _ _ ⟨rfl,?_⟩
 clear hK K
 refine Br.liv_region_end (fun d=>?_) _
 refine Br.liv_ret (fun d=>?_) _
 exact Br.liv_leave (v:=.bool true) rfl rfl Tryd.func95 (resultsC_tmp (t:=2) rfl _) hn _
set_option maxRecDepth 100000 in
theorem next_send (ho:o∈l)(hc:Clear w)(hk:KO l w)(h11:w.cell? ⟨o.bo,11,none⟩=some (.bool false))
  (hn:∀ d,Must Tryd.prog false (DL true (sfO l)) Stop (sendG o (fr::cs)) (w.at d))(d0:Nat) :
  Must Tryd.prog false (DL true (sfO l)) Stop (G (Frame.enter Tryd.prog 95 #[pO o] .normal) (fr::cs)) (w.at d0):=by
 have hf:=(ko_cells hk ho).2.1
 rw [next_enter]
 unfold sendG at hn
 simp only [nextBody,Tryd.f95,Option.getD_some,pO] at *
 refine Br.liv_seq (fun d=>?_) _
 refine Br.liv_region (fun d=>?_) _
 simp only [Br.rz,Br.ix,Nat.reduceAdd]
 refine Br.mo rfl rfl hc (fun d K hK=>?_) _
 go_simp
 refine hK _ _ ⟨rfl,?_⟩
 clear hK K
 refine Br.liv_region_end (fun d=>?_) _
 refine Br.liv_seq (fun d=>?_) _
 refine Br.liv_seq (fun d=>?_) _
 refine Br.liv_region (fun d=>?_) _
 simp only [Br.rz,Br.ix,Nat.reduceAdd]
 refine Br.mo rfl rfl hc (fun d K hK=>?_) _
 go_simp
 refine hK _ _ ⟨rfl,?_⟩
 clear hK K
 refine Br.mo rfl rfl hc (fun d K hK=>?_) _
 go_simp
 refine hK _ _ ⟨rfl,?_⟩
 clear hK K
 refine Br.mo rfl rfl hc (fun d K hK=>?_) _
 go_simp
 refine hK _ _ ⟨rfl,?_⟩
 clear hK K
 refine Br.mo rfl rfl hc (fun d K hK=>?_) _
 have e11:(w.at d).cell? ⟨o.bo,11,none⟩=some (.bool false):=h11
 go_simp
 refine hK _ _ ⟨rfl,?_⟩
 clear hK K
 refine Br.liv_region_end (fun d=>?_) _
 refine Br.mc rfl (fun u=>stepG_cond (t:=false) rfl) (fun d=>?_) _
 simp only [if_true,if_false,Bool.false_eq_true,↓reduceIte]
 refine Br.liv_skip (fun d=>?_) _
 refine Br.liv_seq (fun d=>?_) _
 refine Br.liv_region (fun d=>?_) _
 simp only [Br.rz,Br.ix,Nat.reduceAdd]
 refine Br.mo rfl rfl hc (fun d K hK=>?_) _
 go_simp
 refine hK _ _ ⟨rfl,?_⟩
 clear hK K
 refine Br.mo rfl rfl hc (fun d K hK=>?_) _
 go_simp
 refine hK _ _ ⟨rfl,?_⟩
 clear hK K
 refine Br.mo rfl rfl hc (fun d K hK=>?_) _
 go_simp
 refine hK _ _ ⟨rfl,?_⟩
 clear hK K
 refine Br.mo rfl rfl hc (fun d K hK=>?_) _
 have e1:(w.at d).cell? ⟨o.bo,1,none⟩=some (.chan (some o.to)):=hf
 go_simp
 refine hK _ _ ⟨rfl,?_⟩
 clear hK K
 refine Br.mo rfl rfl hc (fun d K hK=>?_) _
 go_simp
 refine hK _ _ ⟨rfl,?_⟩
 clear hK K
 exact hn _
set_option maxRecDepth 100000 in
theorem next_back (hc:Clear w)(t:Bool)
  (hn:∀ d,Must Tryd.prog false (DL true (sfO l)) Stop (G (fr.finish (.bool t)) cs) (w.at d))(d0:Nat) :
  Must Tryd.prog false (DL true (sfO l)) Stop (G ((nextFr o).finish (.bool t)) (fr::cs)) (w.at d0):=by
 unfold nextFr
 simp only [Tryd.f95,pO]
 rw [Frame.finish_at]
 go_simp
 refine Br.mo rfl rfl hc (fun d K hK=>?_) _
 go_simp
 refine hK _ _ ⟨rfl,?_⟩
 clear hK K
 refine Br.liv_region_end (fun d=>?_) _
 refine Br.liv_ret (fun d=>?_) _
 exact Br.liv_leave (v:=.bool t) rfl rfl Tryd.func95 (resultsC_tmp (t:=2) rfl _) hn _
end
end Go.Proofs.YtcgabodkegcpgaaDoor
namespace Go.Proofs.YtcgabodkegcpgaaDoor
open Go.RowKit
set_option linter.unusedVariables false
set_option linter.unusedSimpArgs false
set_option maxHeartbeats 4000000
def Same (P:Program)(d:Nat)(t:TypeId)(x y:Value):Prop:=∃ r,(∀ w,(Op.equalIn d t x y).run P w=.ok r w)∧(x=y→r=true)
def Pt (P:Program)(t:TypeId)(xs:Array Value)(o:Nat)(a:Value):Prop:=∀ w,(part t xs o).run P w=.ok a w
section
variable {P:Program} {d:Nat} {t:TypeId}
theorem Pt.same {xs:Array Value}{o:Nat}{a b:Value}(h:Pt P t xs o a)(h':Pt P t xs o b):a=b:=by
 have:=(h default).symm.trans (h' default)
 injection this
theorem pt_agg {xs:Array Value}{o n:Nat}(h:∀ w,(isAgg t).run P w=.ok true w)(hs:∀ w,(sizeOf t).run P w=.ok n w):Pt P t xs o (.agg (xs.extract o (o+n))):=fun w=>by
 simp [part,h,hs]
theorem pt_one {xs:Array Value}{o:Nat}{v:Value}(h:∀ w,(isAgg t).run P w=.ok false w)(hv:xs[o]?=some v):Pt P t xs o v:=fun w=>by
 simp [part,h,hv]
theorem same_int {k:IntKind}(h:P.underlying t=some (.int .i64))(a b:Int):Same P (d+1) t (.int .i64 a) (.int .i64 b) :=
 ⟨a == b,fun w=>run_equalIn_int w d t .i64 .i64 a b h,fun e=>by injection e with _ e;subst e;simp⟩
theorem same_bool (h:P.underlying t=some .bool)(a b:Bool):Same P (d+1) t (.bool a) (.bool b) :=
 ⟨a == b,fun w=>run_equalIn_bool' w d t a b h,fun e=>by injection e with e;subst e;simp⟩
theorem same_fields {xs ys:Array Value}:∀ (fs:List Field),(∀ f∈fs,f.name ≠ "_" ∧ ∃ a b,Pt P f.type xs f.offset a∧Pt P f.type ys f.offset b∧Same P d f.type a b) →
  ∃ r,(∀ w,(Op.eqFields d xs ys fs).run P w=.ok r w)∧(xs=ys→r=true)
 | [],_=>⟨true,fun w=>by simp [Op.eqFields],fun _=>rfl⟩
 | f::fs,h=>by
  obtain ⟨r,hr,hx⟩:=same_fields fs (fun g hg=>h g (by simp [hg]))
  obtain ⟨hn,a,b,ha,hb,q,hq,he⟩:=h f (by simp)
  refine ⟨q && r,fun w=>?_,fun e=>?_⟩
  ·rw [Op.eqFields,if_pos hn]
   cases q<;>simp [ha w,hb w,hq w,hr w]
  ·rw [hx e,he (by subst e;exact ha.same hb)];rfl
theorem same_struct {xs ys:Array Value}(ht:P.underlying t=some (.struct (P.fieldsOf t)))(hp:P.stoodInHeld t=false)
  (h:∀ f∈(P.fieldsOf t).toList,f.name ≠ "_" ∧ ∃ a b,Pt P f.type xs f.offset a∧Pt P f.type ys f.offset b∧Same P d f.type a b):Same P (d+1) t (.agg xs) (.agg ys):=by
 obtain ⟨r,hr,hx⟩:=same_fields (P:=P) (d:=d) _ h
 exact ⟨r,fun w=>(run_equalIn_agg w d t xs ys ht hp).trans (hr w),fun e=>hx (by injection e)⟩
theorem same_array {xs ys:Array Value}{e:TypeId}{n m:Nat}(ht:P.underlying t=some (.array n e))(hs:∀ w,(sizeOf e).run P w=.ok m w)
  (h:∀ i,i<n→∃ a b,Pt P e xs (i*m) a∧Pt P e ys (i*m) b∧Same P d e a b):Same P (d+1) t (.agg xs) (.agg ys):=by
 have H:∀ i,∃ q:Bool,i<n→∃ a b,Pt P e xs (i*m) a∧Pt P e ys (i*m) b∧(∀ w,(Op.equalIn d e a b).run P w=.ok q w)∧(a=b→q=true):=fun i=>by
  by_cases hi:i<n
  ·obtain ⟨a,b,ha,hb,q,hq,he⟩:=h i hi
   exact ⟨q,fun _=>⟨a,b,ha,hb,hq,he⟩⟩
  ·exact ⟨true,fun h=>absurd h hi⟩
 obtain ⟨q,hq⟩:=Classical.axiomOfChoice H
 refine ⟨(List.range' 0 n 1).all q,fun w=>?_,fun hxy=>?_⟩
 ·rw [Op.equalIn]
  simp only [Sem.run_bind,run_underlying ht,Result.andThen_ok,hs,Std.Legacy.Range.forIn_eq_forIn_range',Std.Legacy.Range.size,Nat.sub_zero,Nat.add_sub_cancel,Nat.div_one]
  have hl:∀ i∈List.range' 0 n 1,i<n:=fun i hi=>by simpa using (List.mem_range'_1.1 hi).2
  generalize List.range' 0 n 1=l at hl ⊢
  induction l with
  | nil=>simp
  | cons i l ih =>
   obtain ⟨a,b,ha,hb,hc,he⟩:=hq i (hl i (by simp))
   simp only [List.forIn_cons,Sem.run_bind,ha w,hb w,hc w,Result.andThen_ok,List.all_cons]
   cases q i
   ·simp
   ·simp only [Bool.not_true,Bool.false_eq_true,if_false,Sem.run_pure,Result.andThen_ok,Bool.true_and]
    exact ih fun j hj=>hl j (by simp [hj])
 ·rw [List.all_eq_true]
  intro i hi
  obtain ⟨a,b,ha,hb,hc,he⟩:=hq i (by simpa using (List.mem_range'_1.1 hi).2)
  injection hxy with hxy
  subst hxy
  exact he (ha.same hb)
end
def Cmp (t:TypeId)(a b:List Value)(r:Bool):Prop:=∀ w,(binOp .neq t (.agg a.toArray) (.agg b.toArray)).run Tryd.prog w=.ok (.bool (!r)) w
theorem cmp_of {t:TypeId}{a b:List Value}(h:Same Tryd.prog 10000 t (.agg a.toArray) (.agg b.toArray)):∃ r,Cmp t a b r∧(a=b→r=true):=by
 obtain ⟨r,hr,he⟩:=h
 exact ⟨r,fun w=>by rw [run_neq_struct,hr w];rfl,fun e=>he (by rw [e])⟩
def IntAt (xs:Array Value)(o:Nat):Prop:=∃ v,xs[o]?=some (.int .i64 v)
def BoolAt (xs:Array Value)(o:Nat):Prop:=∃ v,xs[o]?=some (.bool v)
theorem IntAt.cut {xs:Array Value}{a b o:Nat}(h:IntAt xs (a+o))(hb:a+o<b):IntAt (xs.extract a b) o:=by
 obtain ⟨v,hv⟩:=h
 have:=(Array.getElem?_eq_some_iff.1 hv).1
 exact ⟨v,by rw [Array.getElem?_extract,if_pos (by omega)];exact hv⟩
theorem BoolAt.cut {xs:Array Value}{a b o:Nat}(h:BoolAt xs (a+o))(hb:a+o<b):BoolAt (xs.extract a b) o:=by
 obtain ⟨v,hv⟩:=h
 have:=(Array.getElem?_eq_some_iff.1 hv).1
 exact ⟨v,by rw [Array.getElem?_extract,if_pos (by omega)];exact hv⟩
theorem part_int {d:Nat}{xs ys:Array Value}{o:Nat}(hx:IntAt xs o)(hy:IntAt ys o):∃ a b,Pt Tryd.prog 3 xs o a∧Pt Tryd.prog 3 ys o b∧Same Tryd.prog (d+1) 3 a b:=by
 obtain ⟨v,hv⟩:=hx;obtain ⟨u,hu⟩:=hy
 exact ⟨_,_,pt_one Tryd.isAgg3 hv,pt_one Tryd.isAgg3 hu,same_int (k:=.i64) Tryd.underlying3 v u⟩
theorem part_bool {d:Nat}{xs ys:Array Value}{o:Nat}(hx:BoolAt xs o)(hy:BoolAt ys o):∃ a b,Pt Tryd.prog 4 xs o a∧Pt Tryd.prog 4 ys o b∧Same Tryd.prog (d+1) 4 a b:=by
 obtain ⟨v,hv⟩:=hx;obtain ⟨u,hu⟩:=hy
 exact ⟨_,_,pt_one Tryd.isAgg4 hv,pt_one Tryd.isAgg4 hu,same_bool Tryd.underlying4 v u⟩
theorem same_duct {d:Nat}{xs ys:Array Value}(hx:∀ j,j<5→IntAt xs j)(hy:∀ j,j<5→IntAt ys j):Same Tryd.prog (d+2) 84 (.agg xs) (.agg ys):=by
 refine same_struct (by kernel_rfl) (by kernel_rfl) ?_
 have e:(Tryd.prog.fieldsOf 84).toList.map (fun f=>(f.name != "_",f.type,f.offset))=[(true,3,0),(true,3,1),(true,3,2),(true,3,3),(true,3,4)]:=by kernel_rfl
 intro f hf
 have hm:=List.mem_map_of_mem (f:=fun f:Field=>(f.name != "_",f.type,f.offset)) hf
 rw [e] at hm
 generalize hn:(f.name != "_")=n at hm
 generalize f.type=ft at *
 generalize f.offset=fo at *
 simp at hm
 rcases hm with ⟨rfl,rfl,rfl⟩|⟨rfl,rfl,rfl⟩|⟨rfl,rfl,rfl⟩|⟨rfl,rfl,rfl⟩|⟨rfl,rfl,rfl⟩
 all_goals exact ⟨by simpa using hn,part_int (hx _ (by omega)) (hy _ (by omega))⟩
theorem same_words {d:Nat}{xs ys:Array Value}(hx:∀ j,j<4→IntAt xs j)(hy:∀ j,j<4→IntAt ys j):Same Tryd.prog (d+2) 73 (.agg xs) (.agg ys) :=
 same_array Tryd.underlying73 Tryd.sizeOf3 (fun i hi=>part_int (hx _ (by omega)) (hy _ (by omega)))
theorem same_frame {d:Nat}{xs ys:Array Value}(hx:∀ j,j<6→IntAt xs j)(hy:∀ j,j<6→IntAt ys j):Same Tryd.prog (d+3) 75 (.agg xs) (.agg ys):=by
 refine same_struct (by kernel_rfl) (by kernel_rfl) ?_
 have e:(Tryd.prog.fieldsOf 75).toList.map (fun f=>(f.name != "_",f.type,f.offset))=[(true,3,0),(true,3,1),(true,73,2)]:=by kernel_rfl
 intro f hf
 have hm:=List.mem_map_of_mem (f:=fun f:Field=>(f.name != "_",f.type,f.offset)) hf
 rw [e] at hm
 generalize hn:(f.name != "_")=n at hm
 generalize f.type=ft at *
 generalize f.offset=fo at *
 simp at hm
 rcases hm with ⟨rfl,rfl,rfl⟩|⟨rfl,rfl,rfl⟩|⟨rfl,rfl,rfl⟩
 ·exact ⟨by simpa using hn,part_int (hx _ (by omega)) (hy _ (by omega))⟩
 ·exact ⟨by simpa using hn,part_int (hx _ (by omega)) (hy _ (by omega))⟩
 ·exact ⟨by simpa using hn,_,_,pt_agg Tryd.isAgg73 Tryd.sizeOf73,pt_agg Tryd.isAgg73 Tryd.sizeOf73,same_words (fun j hj=>(hx (2+j) (by omega)).cut (by omega)) (fun j hj=>(hy (2+j) (by omega)).cut (by omega))⟩
def Pairs (n:Nat)(xs:Array Value)(o:Nat):Prop:=∀ i,i<n→IntAt xs (o+i*2)∧BoolAt xs (o+i*2+1)
theorem Pairs.cut {n:Nat}{xs:Array Value}{o b:Nat}(h:Pairs n xs o)(hb:o+n*2≤b):Pairs n (xs.extract o b) 0:=fun i hi =>
 ⟨(show IntAt xs (o+(0+i*2)) by rw [Nat.zero_add];exact (h i hi).1).cut (by omega),(show BoolAt xs (o+(0+i*2+1)) by rw [Nat.zero_add,← Nat.add_assoc];exact (h i hi).2).cut (by omega)⟩
theorem Pairs.one {n:Nat}{xs:Array Value}{o i:Nat}(h:Pairs n xs o)(hi:i<n):Pairs 1 xs (o+i*2):=fun j hj=>by
 obtain rfl:j=0:=by omega
 simpa using h i hi
theorem same_entry {d:Nat}{xs ys:Array Value}(hx:Pairs 1 xs 0)(hy:Pairs 1 ys 0):Same Tryd.prog (d+2) 49 (.agg xs) (.agg ys):=by
 refine same_struct (by kernel_rfl) (by kernel_rfl) ?_
 have e:(Tryd.prog.fieldsOf 49).toList.map (fun f=>(f.name != "_",f.type,f.offset))=[(true,3,0),(true,4,1)]:=by kernel_rfl
 intro f hf
 have hm:=List.mem_map_of_mem (f:=fun f:Field=>(f.name != "_",f.type,f.offset)) hf
 rw [e] at hm
 generalize hn:(f.name != "_")=n at hm
 generalize f.type=ft at *
 generalize f.offset=fo at *
 simp at hm
 rcases hm with ⟨rfl,rfl,rfl⟩|⟨rfl,rfl,rfl⟩
 ·exact ⟨by simpa using hn,part_int (hx 0 (by omega)).1 (hy 0 (by omega)).1⟩
 ·exact ⟨by simpa using hn,part_bool (hx 0 (by omega)).2 (hy 0 (by omega)).2⟩
theorem same_file {d:Nat}{xs ys:Array Value}(hx:Pairs 1 xs 0)(hy:Pairs 1 ys 0):Same Tryd.prog (d+2) 52 (.agg xs) (.agg ys):=by
 refine same_struct (by kernel_rfl) (by kernel_rfl) ?_
 have e:(Tryd.prog.fieldsOf 52).toList.map (fun f=>(f.name != "_",f.type,f.offset))=[(true,3,0),(true,4,1)]:=by kernel_rfl
 intro f hf
 have hm:=List.mem_map_of_mem (f:=fun f:Field=>(f.name != "_",f.type,f.offset)) hf
 rw [e] at hm
 generalize hn:(f.name != "_")=n at hm
 generalize f.type=ft at *
 generalize f.offset=fo at *
 simp at hm
 rcases hm with ⟨rfl,rfl,rfl⟩|⟨rfl,rfl,rfl⟩
 ·exact ⟨by simpa using hn,part_int (hx 0 (by omega)).1 (hy 0 (by omega)).1⟩
 ·exact ⟨by simpa using hn,part_bool (hx 0 (by omega)).2 (hy 0 (by omega)).2⟩
theorem same_pages {d:Nat}{xs ys:Array Value}(hx:Pairs 4 xs 0)(hy:Pairs 4 ys 0):Same Tryd.prog (d+3) 50 (.agg xs) (.agg ys) :=
 same_array Tryd.underlying50 Tryd.sizeOf49 (fun i hi=>⟨_,_,pt_agg Tryd.isAgg49 Tryd.sizeOf49,pt_agg Tryd.isAgg49 Tryd.sizeOf49,same_entry ((show Pairs 1 xs (i*2) by simpa using hx.one hi).cut (by omega)) ((show Pairs 1 ys (i*2) by simpa using hy.one hi).cut (by omega))⟩)
theorem same_files {d:Nat}{xs ys:Array Value}(hx:Pairs 4 xs 0)(hy:Pairs 4 ys 0):Same Tryd.prog (d+3) 53 (.agg xs) (.agg ys) :=
 same_array Tryd.underlying53 Tryd.sizeOf52 (fun i hi=>⟨_,_,pt_agg Tryd.isAgg52 Tryd.sizeOf52,pt_agg Tryd.isAgg52 Tryd.sizeOf52,same_file ((show Pairs 1 xs (i*2) by simpa using hx.one hi).cut (by omega)) ((show Pairs 1 ys (i*2) by simpa using hy.one hi).cut (by omega))⟩)
structure SlotAt (xs:Array Value):Prop where
 kind:IntAt xs 0
 parent:IntAt xs 1
 table:IntAt xs 2
 pages:Pairs 4 xs 3
 files:Pairs 4 xs 11
 code:IntAt xs 19
theorem same_slot {d:Nat}{xs ys:Array Value}(hx:SlotAt xs)(hy:SlotAt ys):Same Tryd.prog (d+4) 55 (.agg xs) (.agg ys):=by
 refine same_struct (by kernel_rfl) (by kernel_rfl) ?_
 have e:(Tryd.prog.fieldsOf 55).toList.map (fun f=>(f.name != "_",f.type,f.offset))=[(true,3,0),(true,3,1),(true,3,2),(true,50,3),(true,53,11),(true,3,19)]:=by kernel_rfl
 intro f hf
 have hm:=List.mem_map_of_mem (f:=fun f:Field=>(f.name != "_",f.type,f.offset)) hf
 rw [e] at hm
 generalize hn:(f.name != "_")=n at hm
 generalize f.type=ft at *
 generalize f.offset=fo at *
 simp at hm
 rcases hm with ⟨rfl,rfl,rfl⟩|⟨rfl,rfl,rfl⟩|⟨rfl,rfl,rfl⟩|⟨rfl,rfl,rfl⟩|⟨rfl,rfl,rfl⟩|⟨rfl,rfl,rfl⟩
 ·exact ⟨by simpa using hn,part_int hx.kind hy.kind⟩
 ·exact ⟨by simpa using hn,part_int hx.parent hy.parent⟩
 ·exact ⟨by simpa using hn,part_int hx.table hy.table⟩
 ·exact ⟨by simpa using hn,_,_,pt_agg Tryd.isAgg50 Tryd.sizeOf50,pt_agg Tryd.isAgg50 Tryd.sizeOf50,same_pages (hx.pages.cut (by omega)) (hy.pages.cut (by omega))⟩
 ·exact ⟨by simpa using hn,_,_,pt_agg Tryd.isAgg53 Tryd.sizeOf53,pt_agg Tryd.isAgg53 Tryd.sizeOf53,same_files (hx.files.cut (by omega)) (hy.files.cut (by omega))⟩
 ·exact ⟨by simpa using hn,part_int hx.code hy.code⟩
end Go.Proofs.YtcgabodkegcpgaaDoor
