/- The operations' own goroutine: where it waits (waitForTurn's select), and its way there. -/
import Derived.Test.YtcgabodkegcpgaaDoorRpp
import Derived.Conc.TokenWords
set_option linter.unusedVariables false
set_option linter.unusedSimpArgs false
set_option maxHeartbeats 20000000
set_option maxRecDepth 100000
namespace Go.Proofs.YtcgabodkegcpgaaDoor
open Go.Conc
open Br (OpD KO SO SP sfO Lk Fit Must DL Liv Clear)
abbrev pO (o:OpD):Value:=.pointer (some ⟨o.bo,0,none⟩)
noncomputable def a2w:List Item :=
 match Tryd.f75.body with
 | some (.seq _ (.seq _ (.seq (.region _ ops _) c)))=>[.inRegion ops [0,1,2,3],.code c]
 | _=>[]
noncomputable def J1 (o:OpD)(cs:List Frame):Goroutine :=
 G ((base 75).at ⟨#[pO o,undef,.bool false,pO o,pO o,pO o,.chan (some o.tu),pO o,pO o,.pointer (some ⟨o.bo,2,none⟩),.chan (some o.en),undef,undef,undef,undef,undef,undef,undef],[]⟩ a2w) cs
noncomputable def N1 (o:OpD)(cs:List Frame):Seat:={ cases:=#[rcase o.tu (.agg #[]),rcase o.en (.agg #[])],shape:=.select,home:=λg=>g=J1 o cs }
theorem V8 {l:List OpD}{w:World}(h:KO l w){o:OpD}(ho:o∈l):w.cell? ⟨o.bo,0,none⟩=some (.chan (some o.tu))/\w.cell? ⟨o.bo,1,none⟩=some (.chan (some o.to))/\w.cell? ⟨o.bo,2,none⟩=some (.chan (some o.en))/\(∀ i,w.frozen? ⟨o.bo,i,none⟩=false):=by
 obtain ⟨c,t,h0,h1,h2,h3⟩:=h o ho;refine ⟨by simp [World.cell?,h0,h1],by simp [World.cell?,h0,h2],by simp [World.cell?,h0,h3],λi=>by simp [World.frozen?,h0]⟩
theorem b9s (o:OpD)(l:List OpD)(B:Nat)(cs:List Frame):AtIn Tryd.prog false (KO l) (SP l Br.no) B (N1 o cs) (J1 o cs) (J1 o cs):=by
 unfold J1 a2w;simp only [Tryd.f75]
 exact atIn_of (s:=N1 o cs) rfl rfl (by decide) (λw=>by simp [go_sem,execOp,rcase,Act.eval,N1]) (λw=>by simp [go_sem,execOp,Act.eval]) (by
  simp only [N1,J1,a2w,Tryd.f75])
noncomputable def a6I:Code:=(Tryd.f75.body).getD .skip
theorem b1R (o:OpD):Frame.enter Tryd.prog 75 #[pO o] .normal=(base 75).at ⟨#[pO o,undef,undef,undef,undef,undef,undef,undef,undef,undef,undef,undef,undef,undef,undef,undef,undef,undef],[]⟩ [.code a6I]:=by
 rw [enter_at (c:=a6I) _ Tryd.func75 rfl];rfl
theorem a8h (o:OpD)(l:List OpD)(ho:o∈l)(B:Nat)(hB:∀ o∈l,o.bo<B)(cs:List Frame)(w:World) :
  Goes Tryd.prog false (RK (KO l)) (DS (SP l Br.no) B) (λg _=>∃ g₂,AtIn Tryd.prog false (KO l) (SP l Br.no) B (N1 o cs) g g₂) 20 (G (Frame.enter Tryd.prog 75 #[pO o] .normal) cs) w:=by
 rw [b1R];simp only [a6I,Tryd.f75,Option.getD_some,pO];refine Goes.step rfl (λw₁ h₁=>?_);rw [stepG_seq];simp only [goes_go];refine ⟨ds_none _,?_⟩;clear h₁;refine Goes.step rfl (λw₁ h₁=>?_);rw [stepG_region];simp only [goes_go,List.size_toArray,List.length_cons,List.length_nil,Nat.reduceAdd,Nat.zero_add,List.range,List.range.loop];refine ⟨ds_none _,?_⟩;clear h₁;refine Goes.step rfl (λw₁ h₁=>?_);refine goes_oper_k rfl rfl (by decide) (λK hK=>?_);go_simp;refine hK _ _ ⟨⟨rfl,λe he=>by (have hm:=mem_listed he;simp [go_sem] at hm)⟩,?_⟩;clear hK K h₁;refine Goes.step rfl (λw₁ h₁=>?_);rw [stepG_region_end];simp only [goes_go];refine ⟨ds_none _,?_⟩;clear h₁;refine Goes.step rfl (λw₁ h₁=>?_);rw [stepG_seq];simp only [goes_go];refine ⟨ds_none _,?_⟩;clear h₁;refine Goes.step rfl (λw₁ h₁=>?_);rw [stepG_seq];simp only [goes_go];refine ⟨ds_none _,?_⟩;clear h₁;refine Goes.step rfl (λw₁ h₁=>?_);rw [stepG_region];simp only [goes_go,List.size_toArray,List.length_cons,List.length_nil,Nat.reduceAdd,Nat.zero_add,List.range,List.range.loop];refine ⟨ds_none _,?_⟩;clear h₁;refine Goes.step rfl (λw₁ h₁=>?_);refine goes_oper_k rfl rfl (by decide) (λK hK=>?_);go_simp;refine hK _ _ ⟨⟨rfl,λe he=>by (have hm:=mem_listed he;simp [go_sem] at hm)⟩,?_⟩;clear hK K h₁;refine Goes.step rfl (λw₁ h₁=>?_);refine goes_oper_k rfl rfl (by decide) (λK hK=>?_);go_simp;refine hK _ _ ⟨⟨rfl,λe he=>by (have hm:=mem_listed he;simp [go_sem] at hm)⟩,?_⟩;clear hK K h₁;refine Goes.step rfl (λw₁ h₁=>?_);refine goes_oper_k rfl rfl (by decide) (λK hK=>?_);go_simp;refine hK _ _ ⟨⟨rfl,λe he=>by (have hm:=mem_listed he;simp [go_sem] at hm)⟩,?_⟩;clear hK K h₁;refine Goes.step rfl (λw₁ h₁=>?_);refine goes_oper_k rfl rfl (by decide) (λK hK=>?_);have hf:=V8 h₁ ho;have hf0:=hf.1;have hf1:=hf.2.1;have hf2:=hf.2.2.1;have hfz:=hf.2.2.2;go_simp;refine hK _ _ ⟨⟨rfl,λe he=>by (have hm:=mem_listed he;simp [go_sem, *] at hm;subst hm;exact evC_read _ (.inl ⟨o,ho,0,by omega,rfl⟩) (hB o ho))⟩,?_⟩;clear hK K hf hf0 hf1 hf2 hfz h₁;refine Goes.step rfl (λw₁ h₁=>?_);rw [stepG_region_end];simp only [goes_go];refine ⟨ds_none _,?_⟩;clear h₁;refine Goes.step rfl (λw₁ h₁=>?_);rw [stepG_region];simp only [goes_go,List.size_toArray,List.length_cons,List.length_nil,Nat.reduceAdd,Nat.zero_add,List.range,List.range.loop];refine ⟨ds_none _,?_⟩;clear h₁;refine Goes.step rfl (λw₁ h₁=>?_);refine goes_oper_k rfl rfl (by decide) (λK hK=>?_);go_simp;refine hK _ _ ⟨⟨rfl,λe he=>by (have hm:=mem_listed he;simp [go_sem] at hm)⟩,?_⟩;clear hK K h₁;refine Goes.step rfl (λw₁ h₁=>?_);refine goes_oper_k rfl rfl (by decide) (λK hK=>?_);go_simp;refine hK _ _ ⟨⟨rfl,λe he=>by (have hm:=mem_listed he;simp [go_sem] at hm)⟩,?_⟩;clear hK K h₁;refine Goes.step rfl (λw₁ h₁=>?_);refine goes_oper_k rfl rfl (by decide) (λK hK=>?_);go_simp;refine hK _ _ ⟨⟨rfl,λe he=>by (have hm:=mem_listed he;simp [go_sem] at hm)⟩,?_⟩;clear hK K h₁;refine Goes.step rfl (λw₁ h₁=>?_);refine goes_oper_k rfl rfl (by decide) (λK hK=>?_);have hf:=V8 h₁ ho;have hf0:=hf.1;have hf1:=hf.2.1;have hf2:=hf.2.2.1;have hfz:=hf.2.2.2
 go_simp;refine hK _ _ ⟨⟨rfl,λe he=>by (have hm:=mem_listed he;simp [go_sem, *] at hm;subst hm;exact evC_read _ (.inl ⟨o,ho,2,by omega,rfl⟩) (hB o ho))⟩,?_⟩;clear hK K hf hf0 hf1 hf2 hfz h₁;refine Goes.step rfl (λw₁ h₁=>?_);rw [stepG_region_end];simp only [goes_go];refine ⟨ds_none _,?_⟩;clear h₁;refine Goes.step rfl (λw₁ h₁=>?_);rw [stepG_seq];simp only [goes_go];refine ⟨ds_none _,?_⟩;clear h₁;refine Goes.step rfl (λw₁ h₁=>?_);rw [stepG_region];simp only [goes_go,List.size_toArray,List.length_cons,List.length_nil,Nat.reduceAdd,Nat.zero_add,List.range,List.range.loop];refine ⟨ds_none _,?_⟩;clear h₁;exact Goes.stop λw₁ h₁=>⟨J1 o cs,b9s o l B cs⟩
theorem k6 {P:Program}{main:Bool}{b:Frame}{a:Act}{k:List Item}{cs:List Frame}{ops:Array Oper}{i:Nat}{rest:List Nat}{o:Oper}{f:FuncId}{fn:Func}{c:Code}{args:Array Operand}{ats:Array TypeId}(ho:ops[i]?=some o)(hw:Region.wanted o (yielded ops a.tmps)=true)(hk:b.kind≠.early)(hop:o.op=.call { callee:=.value (.func f),args,argTypes:=ats })
  (hf:P.funcs[f]?=some fn)(hname:(fn.name == "runtime.NumGoroutine")=false)(hb:fn.body=some c){vs:Array Value}(hv:args.map a.eval=vs)(u:World) :
  stepG P main (G (b.at a (.inRegion ops (i::rest)::k)) cs) u=.go (G (Frame.enter P f vs .normal) (b.at a (.inRegion ops (i::rest)::k)::cs)) u #[]:=by
 subst hv;have hb':fn.body.isNone=false:=by rw [hb];rfl
 rw [stepG_enter ho hw hk (run_call_body hop hf hname hb')];have:listed P b.fn a o u=#[]:=by unfold listed;rw [events_call_body hop hf hname hb'];exact seen_none P _
 rw [this]
noncomputable def a4p:Code:=(Tryd.f95.body).getD .skip
noncomputable def a0o (o:OpD):Frame :=
 match Tryd.f95.body with
 | some (.seq _ (.seq _ (.seq _ (.seq (.region _ ops _) c))))=>(base 95).at ⟨#[pO o,undef,.bool false,pO o,pO o,.pointer (some ⟨o.bo,11,none⟩),.bool false,pO o,pO o,.pointer (some ⟨o.bo,1,none⟩),.chan (some o.to),.agg #[],pO o,undef],[]⟩ [.inRegion ops [1,2],.code c]
 | _=>default
noncomputable def a4q (o:OpD)(cs:List Frame):Goroutine :=
 match Tryd.f95.body with
 | some (.seq _ (.seq _ (.seq (.region _ ops _) c)))=>G ((base 95).at ⟨#[pO o,undef,.bool false,pO o,pO o,.pointer (some ⟨o.bo,11,none⟩),.bool false,pO o,pO o,.pointer (some ⟨o.bo,1,none⟩),.chan (some o.to),.agg #[],undef,undef],[]⟩ [.inRegion ops [5],.code c]) cs
 | _=>default
theorem b4s (o:OpD)(cs:List Frame)(w:World):stepG Tryd.prog false (a4q o cs) w=.comm (a4q o cs) #[scase o.to (.agg #[]) (.tuple #[])] true .send w #[]:=by
 unfold a4q;simp only [Tryd.f95];rw [stepG_comm (cases:=#[scase o.to (.agg #[]) (.tuple #[])]) (blocking:=true) (shape:=.send) (w':=w) rfl rfl (by decide) (by simp [go_sem,execOp,Act.eval,scase]),listed_none (by simp [go_sem,execOp,Act.eval])]
theorem b4t (o:OpD)(l:List OpD)(ho:o∈l)(B:Nat)(hB:∀ o∈l,o.bo<B)(cs:List Frame):Sits Tryd.prog false (KO l) (SP l Br.no) B (N1 o (a0o o::cs)) 26 (Go.Conc.served (a4q o cs) undef):=by
 have hw:=a8h o l ho B hB (a0o o::cs);refine .inl ⟨25,default,rfl,?_⟩;unfold a4q a0o at *;simp only [Tryd.f95,served_fr] at *;rw [Frame.finish_at];refine Goes.step rfl (λw₁ h₁=>?_);rw [stepG_region_end];simp only [goes_go];refine ⟨ds_none _,?_⟩;clear h₁;refine Goes.step rfl (λw₁ h₁=>?_);rw [stepG_seq];simp only [goes_go];refine ⟨ds_none _,?_⟩;clear h₁;refine Goes.step rfl (λw₁ h₁=>?_);rw [stepG_region];simp only [goes_go,List.size_toArray,List.length_cons,List.length_nil,Nat.reduceAdd,Nat.zero_add,List.range,List.range.loop];refine ⟨ds_none _,?_⟩;clear h₁;refine Goes.step rfl (λw₁ h₁=>?_);refine goes_oper_k rfl rfl (by decide) (λK hK=>?_);go_simp;refine hK _ _ ⟨⟨rfl,λe he=>by (have hm:=mem_listed he;simp [go_sem] at hm)⟩,?_⟩;clear hK K h₁;refine Goes.step rfl (λw₁ h₁=>?_);rw [k6 rfl rfl (by decide) rfl Tryd.func75 rfl rfl (vs:=#[pO o]) (by simp [Act.eval])];simp only [goes_go];exact ⟨ds_none _,hw w₁⟩
abbrev a4r:Value:=.tuple #[.int .i64 0,.bool true,.agg #[],.agg #[]]
abbrev a8Q:Value:=.tuple #[.int .i64 1,.bool false,.agg #[],.agg #[]]
theorem b6Y (o:OpD)(cs:List Frame):commResult (N1 o cs).cases (N1 o cs).shape ((0:Nat):Int) (.agg #[]) true=a4r:=by
 simp [N1,commResult,rcase,List.zipIdx_cons,goInt]
theorem b0t (o:OpD)(cs:List Frame)(h:o.tu≠o.en):(N1 o cs).Wf:=by
 refine ⟨λcc h=>?_,λk m c z z' h1 h2=>?_⟩
 ·simp only [N1,List.mem_toArray,List.mem_cons,List.not_mem_nil,or_false] at h;rcases h with rfl|rfl
  ·exact ⟨_,_,rfl⟩
  ·exact ⟨_,_,rfl⟩
 ·rcases k with _|_|k<;>rcases m with _|_|m<;>simp [N1,rcase] at h1 h2 ⊢<;>omega
theorem O0 {o:OpD}{cs:List Frame}{c:Nat}(h:(N1 o cs).has c):c=o.tu\/c=o.en:=by
 obtain ⟨k,z,hk⟩:=h;rcases k with _|_|k<;>simp [N1,rcase] at hk<;>omega
theorem a8i {o:OpD}{l:List OpD}(ho:o∈l){w:World}(hc:Clear w)(hk:KO l w){x:Value}(h11:w.cell? ⟨o.bo,11,none⟩=some x)(fr:Frame)(cs:List Frame){Stop:Goroutine->World->Prop}
  (hn:∀ d,Must Tryd.prog false (DL true (sfO l)) Stop (G (fr.finish (.bool true)) cs) ((w.setCell ⟨o.bo,11,none⟩ (.bool true)).at d))(d0:Nat) :
  Must Tryd.prog false (DL true (sfO l)) Stop (Go.Conc.served (J1 o (fr::cs)) a4r) (w.at d0):=by
 have hf:=V8 hk ho;have hfz:=hf.2.2.2 11;unfold J1 a2w;simp only [Tryd.f75,served_fr,pO];rw [Frame.finish_at];go_simp;(iterate 3(refine Br.mo rfl rfl λd K hK=>?_;go_simp;refine hK _ _ ⟨rfl,?_⟩;clear hK K));refine Br.a9 (λd=>?_) _;refine Br.mc rfl (λu=>stepG_block) (λd=>?_) _;refine Br.mc rfl (λu=>stepG_cond (t:=true) rfl) (λd=>?_) _;simp only [if_true,if_false,Bool.false_eq_true,↓reduceIte];refine Br.b8 (λd=>?_) _;refine Br.b9 (λd=>?_) _;simp only [Br.rz,Br.ix,Nat.reduceAdd];(iterate 3(refine Br.mo rfl rfl λd K hK=>?_;go_simp;refine hK _ _ ⟨rfl,?_⟩;clear hK K));refine Br.t8 rfl rfl (by decide) (λd K hK=>?_) _;have e11:(w.at d).cell? ⟨o.bo,11,none⟩=some x:=h11;have ez:(w.at d).frozen? ⟨o.bo,11,none⟩=false:=hfz;go_simp;refine hK _ _ ⟨Br.Q7 (by rw [Br.I9 ho];show 3<=11;omega) (World.block_lt_of_cell? _ _ e11) (λe he=>?_),?_⟩
 ·have hm:=mem_listed he;simp only [go_sem] at hm;simp [go_sem] at hm;rw [events_store _ _ _ _ _ _ rfl,e11] at hm;rw [ez] at hm;simp only [Bool.false_eq_true,if_false,List.push_toArray,List.nil_append,List.mem_toArray,List.mem_cons,List.not_mem_nil,or_false] at hm;exact hm
 clear hK K e11 ez;rw [show (w.at d).setCell ⟨o.bo,11,none⟩ (.bool true)=(w.setCell ⟨o.bo,11,none⟩ (.bool true)).at d from rfl];have hc:Clear (w.setCell ⟨o.bo,11,none⟩ (.bool true)):=(Br.F5 hc.lk (Nat.zero_le _) _).1.sight;refine Br.a9 (λd=>?_) _;refine Br.b8 (λd=>?_) _;refine Br.b9 (λd=>?_) _;simp only [Br.rz,Br.ix,Nat.reduceAdd];refine Br.mo rfl rfl λd K hK=>?_;go_simp;refine hK _ _ ⟨rfl,?_⟩;clear hK K;refine Br.a9 (λd=>?_) _;refine Br.q8 (λd=>?_) _;exact Br.m8 (v:=.bool true) rfl rfl Tryd.func75 (resultsC_tmp (t:=2) rfl _) (w:=w.setCell ⟨o.bo,11,none⟩ (.bool true)) hn _
theorem b0u {o:OpD}{l:List OpD}(ho:o∈l){w:World}(hc:Clear w)(fr:Frame)(cs:List Frame){Stop:Goroutine->World->Prop}
  (hn:∀ d,Must Tryd.prog false (DL true (sfO l)) Stop (G (fr.finish (.bool false)) cs) (w.at d))(d0:Nat) :
  Must Tryd.prog false (DL true (sfO l)) Stop (Go.Conc.served (J1 o (fr::cs)) a8Q) (w.at d0):=by
 unfold J1 a2w;simp only [Tryd.f75,served_fr,pO];rw [Frame.finish_at];go_simp;(iterate 3(refine Br.mo rfl rfl λd K hK=>?_;go_simp;refine hK _ _ ⟨rfl,?_⟩;clear hK K));refine Br.a9 (λd=>?_) _;refine Br.mc rfl (λu=>stepG_block) (λd=>?_) _;refine Br.mc rfl (λu=>stepG_cond (t:=false) rfl) (λd=>?_) _;simp only [if_true,if_false,Bool.false_eq_true,↓reduceIte];refine Br.mc rfl (λu=>stepG_cond (t:=true) rfl) (λd=>?_) _;simp only [if_true,if_false,Bool.false_eq_true,↓reduceIte];refine Br.b8 (λd=>?_) _;refine Br.b9 (λd=>?_) _;simp only [Br.rz,Br.ix,Nat.reduceAdd];refine Br.mo rfl rfl λd K hK=>?_;go_simp;refine hK _ _ ⟨rfl,?_⟩;clear hK K;refine Br.a9 (λd=>?_) _;refine Br.q8 (λd=>?_) _;exact Br.m8 (v:=.bool false) rfl rfl Tryd.func75 (resultsC_tmp (t:=2) rfl _) hn _
theorem a6J (o:OpD):Frame.enter Tryd.prog 95 #[pO o] .normal=(base 95).at ⟨#[pO o,undef,undef,undef,undef,undef,undef,undef,undef,undef,undef,undef,undef,undef],[]⟩ [.code a4p]:=by
 rw [enter_at (c:=a4p) _ Tryd.func95 rfl];rfl
section
variable {o:OpD} {l:List OpD} {w:World} {fr:Frame} {cs:List Frame} {Stop:Goroutine->World->Prop}
theorem b4u (hc:Clear w)(h11:w.cell? ⟨o.bo,11,none⟩=some (.bool true))
  (hn:∀ d,Must Tryd.prog false (DL true (sfO l)) Stop (G (fr.finish (.bool true)) cs) (w.at d))(d0:Nat) :
  Must Tryd.prog false (DL true (sfO l)) Stop (G (Frame.enter Tryd.prog 95 #[pO o] .normal) (fr::cs)) (w.at d0):=by
 rw [a6J];simp only [a4p,Tryd.f95,Option.getD_some,pO];refine Br.b8 (λd=>?_) _;refine Br.b9 (λd=>?_) _;simp only [Br.rz,Br.ix,Nat.reduceAdd];refine Br.mo rfl rfl λd K hK=>?_;go_simp;refine hK _ _ ⟨rfl,?_⟩;clear hK K;refine Br.a9 (λd=>?_) _;refine Br.b8 (λd=>?_) _;refine Br.b8 (λd=>?_) _;refine Br.b9 (λd=>?_) _;simp only [Br.rz,Br.ix,Nat.reduceAdd];(iterate 3(refine Br.mo rfl rfl λd K hK=>?_;go_simp;refine hK _ _ ⟨rfl,?_⟩;clear hK K));refine Br.mo rfl rfl λd K hK=>?_;have e11:(w.at d).cell? ⟨o.bo,11,none⟩=some (.bool true):=h11;go_simp;refine hK _ _ ⟨rfl,?_⟩;clear hK K;refine Br.a9 (λd=>?_) _;refine Br.mc rfl (λu=>stepG_cond (t:=true) rfl) (λd=>?_) _;simp only [if_true,if_false,Bool.false_eq_true,↓reduceIte];refine Br.b8 (λd=>?_) _;refine Br.b9 (λd=>?_) _;simp only [Br.rz,Br.ix,Nat.reduceAdd];refine Br.mo rfl rfl λd K hK=>?_;go_simp;refine hK _ _ ⟨rfl,?_⟩;clear hK K;refine Br.a9 (λd=>?_) _;refine Br.q8 (λd=>?_) _;exact Br.m8 (v:=.bool true) rfl rfl Tryd.func95 (resultsC_tmp (t:=2) rfl _) hn _
theorem b4v (ho:o∈l)(hc:Clear w)(hk:KO l w)(h11:w.cell? ⟨o.bo,11,none⟩=some (.bool false))
  (hn:∀ d,Must Tryd.prog false (DL true (sfO l)) Stop (a4q o (fr::cs)) (w.at d))(d0:Nat) :
  Must Tryd.prog false (DL true (sfO l)) Stop (G (Frame.enter Tryd.prog 95 #[pO o] .normal) (fr::cs)) (w.at d0):=by
 have hf:=(V8 hk ho).2.1;rw [a6J];unfold a4q at hn;simp only [a4p,Tryd.f95,Option.getD_some,pO] at *;refine Br.b8 (λd=>?_) _;refine Br.b9 (λd=>?_) _;simp only [Br.rz,Br.ix,Nat.reduceAdd];refine Br.mo rfl rfl λd K hK=>?_;go_simp;refine hK _ _ ⟨rfl,?_⟩;clear hK K;refine Br.a9 (λd=>?_) _;refine Br.b8 (λd=>?_) _;refine Br.b8 (λd=>?_) _;refine Br.b9 (λd=>?_) _;simp only [Br.rz,Br.ix,Nat.reduceAdd];(iterate 3(refine Br.mo rfl rfl λd K hK=>?_;go_simp;refine hK _ _ ⟨rfl,?_⟩;clear hK K));refine Br.mo rfl rfl λd K hK=>?_;have e11:(w.at d).cell? ⟨o.bo,11,none⟩=some (.bool false):=h11;go_simp;refine hK _ _ ⟨rfl,?_⟩;clear hK K;refine Br.a9 (λd=>?_) _;refine Br.mc rfl (λu=>stepG_cond (t:=false) rfl) (λd=>?_) _;simp only [if_true,if_false,Bool.false_eq_true,↓reduceIte];refine Br.l9 (λd=>?_) _;refine Br.b8 (λd=>?_) _;refine Br.b9 (λd=>?_) _;simp only [Br.rz,Br.ix,Nat.reduceAdd];(iterate 3(refine Br.mo rfl rfl λd K hK=>?_;go_simp;refine hK _ _ ⟨rfl,?_⟩;clear hK K));refine Br.mo rfl rfl λd K hK=>?_;have e1:(w.at d).cell? ⟨o.bo,1,none⟩=some (.chan (some o.to)):=hf;go_simp;refine hK _ _ ⟨rfl,?_⟩;clear hK K;refine Br.mo rfl rfl λd K hK=>?_;go_simp;refine hK _ _ ⟨rfl,?_⟩;clear hK K;exact hn _
theorem a8j (hc:Clear w)(t:Bool)
  (hn:∀ d,Must Tryd.prog false (DL true (sfO l)) Stop (G (fr.finish (.bool t)) cs) (w.at d))(d0:Nat) :
  Must Tryd.prog false (DL true (sfO l)) Stop (G ((a0o o).finish (.bool t)) (fr::cs)) (w.at d0):=by
 unfold a0o;simp only [Tryd.f95,pO];rw [Frame.finish_at];go_simp;refine Br.mo rfl rfl λd K hK=>?_;go_simp;refine hK _ _ ⟨rfl,?_⟩;clear hK K;refine Br.a9 (λd=>?_) _;refine Br.q8 (λd=>?_) _;exact Br.m8 (v:=.bool t) rfl rfl Tryd.func95 (resultsC_tmp (t:=2) rfl _) hn _
end
end Go.Proofs.YtcgabodkegcpgaaDoor
namespace Go.Proofs.YtcgabodkegcpgaaDoor
open Go.RowKit
def a1W (P:Program)(d:Nat)(t:TypeId)(x y:Value):Prop:=∃ r,(∀ w,(Op.equalIn d t x y).run P w=.ok r w)/\(x=y->r=true)
def Pt (P:Program)(t:TypeId)(xs:Array Value)(o:Nat)(a:Value):Prop:=∀ w,(part t xs o).run P w=.ok a w
section
variable {P:Program} {d:Nat} {t:TypeId}
theorem Pt.same {xs:Array Value}{o:Nat}{a b:Value}(h:Pt P t xs o a)(h':Pt P t xs o b):a=b:=by
 have:=(h default).symm.trans (h' default);injection this
theorem a1k {xs:Array Value}{o n:Nat}(h:∀ w,(isAgg t).run P w=.ok true w)(hs:∀ w,(sizeOf t).run P w=.ok n w):Pt P t xs o (.agg (xs.extract o (o+n))):=λw=>by
 simp [part,h,hs]
theorem a8R {xs:Array Value}{o:Nat}{v:Value}(h:∀ w,(isAgg t).run P w=.ok false w)(hv:xs[o]?=some v):Pt P t xs o v:=λw=>by
 simp [part,h,hv]
theorem b6Z {k:IntKind}(h:P.underlying t=some (.int .i64))(a b:Int):a1W P (d+1) t (.int .i64 a) (.int .i64 b) :=
 ⟨a == b,λw=>run_equalIn_int w d t .i64 .i64 a b h,λe=>by injection e with _ e;subst e;simp⟩
theorem b4w (h:P.underlying t=some .bool)(a b:Bool):a1W P (d+1) t (.bool a) (.bool b) :=
 ⟨a == b,λw=>run_equalIn_bool' w d t a b h,λe=>by injection e with e;subst e;simp⟩
theorem a5n {xs ys:Array Value}:∀ (fs:List Field),(∀ f∈fs,f.name ≠ "_" /\ ∃ a b,Pt P f.type xs f.offset a/\Pt P f.type ys f.offset b/\a1W P d f.type a b) ->
  ∃ r,(∀ w,(Op.eqFields d xs ys fs).run P w=.ok r w)/\(xs=ys->r=true)
 | [],_=>⟨true,λw=>by simp [Op.eqFields],λ_=>rfl⟩
 | f::fs,h=>by
  obtain ⟨r,hr,hx⟩:=a5n fs (λg hg=>h g (by simp [hg]));obtain ⟨hn,a,b,ha,hb,q,hq,he⟩:=h f (by simp);refine ⟨q && r,λw=>?_,λe=>?_⟩
  ·rw [Op.eqFields,if_pos hn];cases q<;>simp [ha w,hb w,hq w,hr w]
  ·rw [hx e,he (by subst e;exact ha.same hb)];rfl
theorem a0h {xs ys:Array Value}(ht:P.underlying t=some (.struct (P.fieldsOf t)))(hp:P.stoodInHeld t=false)
  (h:∀ f∈(P.fieldsOf t).toList,f.name ≠ "_" /\ ∃ a b,Pt P f.type xs f.offset a/\Pt P f.type ys f.offset b/\a1W P d f.type a b):a1W P (d+1) t (.agg xs) (.agg ys):=by
 obtain ⟨r,hr,hx⟩:=a5n (P:=P) (d:=d) _ h;exact ⟨r,λw=>(run_equalIn_agg w d t xs ys ht hp).trans (hr w),λe=>hx (by injection e)⟩
theorem a3z {xs ys:Array Value}{e:TypeId}{n m:Nat}(ht:P.underlying t=some (.array n e))(hs:∀ w,(sizeOf e).run P w=.ok m w)
  (h:∀ i,i<n->∃ a b,Pt P e xs (i*m) a/\Pt P e ys (i*m) b/\a1W P d e a b):a1W P (d+1) t (.agg xs) (.agg ys):=by
 have H:∀ i,∃ q:Bool,i<n->∃ a b,Pt P e xs (i*m) a/\Pt P e ys (i*m) b/\(∀ w,(Op.equalIn d e a b).run P w=.ok q w)/\(a=b->q=true):=λi=>by
  by_cases hi:i<n
  ·obtain ⟨a,b,ha,hb,q,hq,he⟩:=h i hi;exact ⟨q,λ_=>⟨a,b,ha,hb,hq,he⟩⟩
  ·exact ⟨true,λh=>absurd h hi⟩
 obtain ⟨q,hq⟩:=Classical.axiomOfChoice H;refine ⟨(List.range' 0 n 1).all q,λw=>?_,λhxy=>?_⟩
 ·rw [Op.equalIn];simp only [Sem.run_bind,run_underlying ht,Result.andThen_ok,hs,Std.Legacy.Range.forIn_eq_forIn_range',Std.Legacy.Range.size,Nat.sub_zero,Nat.add_sub_cancel,Nat.div_one];have hl:∀ i∈List.range' 0 n 1,i<n:=λi hi=>by simpa using (List.mem_range'_1.1 hi).2
  generalize List.range' 0 n 1=l at hl ⊢
  induction l with
  | nil=>simp
  | cons i l ih =>
   obtain ⟨a,b,ha,hb,hc,he⟩:=hq i (hl i (by simp));simp only [List.forIn_cons,Sem.run_bind,ha w,hb w,hc w,Result.andThen_ok,List.all_cons];cases q i
   ·simp
   ·simp only [Bool.not_true,Bool.false_eq_true,if_false,Sem.run_pure,Result.andThen_ok,Bool.true_and];exact ih λj hj=>hl j (by simp [hj])
 ·rw [List.all_eq_true];intro i hi;obtain ⟨a,b,ha,hb,hc,he⟩:=hq i (by simpa using (List.mem_range'_1.1 hi).2);injection hxy with hxy
  subst hxy;exact he (ha.same hb)
end
def Cmp (t:TypeId)(a b:List Value)(r:Bool):Prop:=∀ w,(binOp .neq t (.agg a.toArray) (.agg b.toArray)).run Tryd.prog w=.ok (.bool (!r)) w
theorem a5c {t:TypeId}{a b:List Value}(h:a1W Tryd.prog 10000 t (.agg a.toArray) (.agg b.toArray)):∃ r,Cmp t a b r/\(a=b->r=true):=by
 obtain ⟨r,hr,he⟩:=h;exact ⟨r,λw=>by rw [run_neq_struct,hr w];rfl,λe=>he (by rw [e])⟩
def W7 (xs:Array Value)(o:Nat):Prop:=∃ v,xs[o]?=some (.int .i64 v)
def a3A (xs:Array Value)(o:Nat):Prop:=∃ v,xs[o]?=some (.bool v)
theorem W7.cut {xs:Array Value}{a b o:Nat}(h:W7 xs (a+o))(hb:a+o<b):W7 (xs.extract a b) o:=by
 obtain ⟨v,hv⟩:=h;have:=(Array.getElem?_eq_some_iff.1 hv).1;exact ⟨v,by rw [Array.getElem?_extract,if_pos (by omega)];exact hv⟩
theorem a3A.cut {xs:Array Value}{a b o:Nat}(h:a3A xs (a+o))(hb:a+o<b):a3A (xs.extract a b) o:=by
 obtain ⟨v,hv⟩:=h;have:=(Array.getElem?_eq_some_iff.1 hv).1;exact ⟨v,by rw [Array.getElem?_extract,if_pos (by omega)];exact hv⟩
theorem R0 {d:Nat}{xs ys:Array Value}{o:Nat}(hx:W7 xs o)(hy:W7 ys o):∃ a b,Pt Tryd.prog 3 xs o a/\Pt Tryd.prog 3 ys o b/\a1W Tryd.prog (d+1) 3 a b:=by
 obtain ⟨v,hv⟩:=hx;obtain ⟨u,hu⟩:=hy;exact ⟨_,_,a8R Tryd.isAgg3 hv,a8R Tryd.isAgg3 hu,b6Z (k:=.i64) Tryd.underlying3 v u⟩
theorem a8k {d:Nat}{xs ys:Array Value}{o:Nat}(hx:a3A xs o)(hy:a3A ys o):∃ a b,Pt Tryd.prog 4 xs o a/\Pt Tryd.prog 4 ys o b/\a1W Tryd.prog (d+1) 4 a b:=by
 obtain ⟨v,hv⟩:=hx;obtain ⟨u,hu⟩:=hy;exact ⟨_,_,a8R Tryd.isAgg4 hv,a8R Tryd.isAgg4 hu,b4w Tryd.underlying4 v u⟩
theorem b4x {d:Nat}{xs ys:Array Value}(hx:∀ j,j<5->W7 xs j)(hy:∀ j,j<5->W7 ys j):a1W Tryd.prog (d+2) 84 (.agg xs) (.agg ys):=by
 refine a0h (by kernel_rfl) (by kernel_rfl) ?_;have e:(Tryd.prog.fieldsOf 84).toList.map (λf=>(f.name != "_",f.type,f.offset))=[(true,3,0),(true,3,1),(true,3,2),(true,3,3),(true,3,4)]:=by kernel_rfl
 intro f hf;have hm:=List.mem_map_of_mem (f:=λf:Field=>(f.name != "_",f.type,f.offset)) hf;rw [e] at hm;generalize hn:(f.name != "_")=n at hm;generalize f.type=ft at *;generalize f.offset=fo at *;simp at hm;rcases hm with ⟨rfl,rfl,rfl⟩|⟨rfl,rfl,rfl⟩|⟨rfl,rfl,rfl⟩|⟨rfl,rfl,rfl⟩|⟨rfl,rfl,rfl⟩
 all_goals exact ⟨by simpa using hn,R0 (hx _ (by omega)) (hy _ (by omega))⟩
theorem a6K {d:Nat}{xs ys:Array Value}(hx:∀ j,j<4->W7 xs j)(hy:∀ j,j<4->W7 ys j):a1W Tryd.prog (d+2) 73 (.agg xs) (.agg ys) :=
 a3z Tryd.underlying73 Tryd.sizeOf3 (λi hi=>R0 (hx _ (by omega)) (hy _ (by omega)))
theorem b1S {d:Nat}{xs ys:Array Value}(hx:∀ j,j<6->W7 xs j)(hy:∀ j,j<6->W7 ys j):a1W Tryd.prog (d+3) 75 (.agg xs) (.agg ys):=by
 refine a0h (by kernel_rfl) (by kernel_rfl) ?_;have e:(Tryd.prog.fieldsOf 75).toList.map (λf=>(f.name != "_",f.type,f.offset))=[(true,3,0),(true,3,1),(true,73,2)]:=by kernel_rfl
 intro f hf;have hm:=List.mem_map_of_mem (f:=λf:Field=>(f.name != "_",f.type,f.offset)) hf;rw [e] at hm;generalize hn:(f.name != "_")=n at hm;generalize f.type=ft at *;generalize f.offset=fo at *;simp at hm;rcases hm with ⟨rfl,rfl,rfl⟩|⟨rfl,rfl,rfl⟩|⟨rfl,rfl,rfl⟩
 ·exact ⟨by simpa using hn,R0 (hx _ (by omega)) (hy _ (by omega))⟩
 ·exact ⟨by simpa using hn,R0 (hx _ (by omega)) (hy _ (by omega))⟩
 ·exact ⟨by simpa using hn,_,_,a1k Tryd.isAgg73 Tryd.sizeOf73,a1k Tryd.isAgg73 Tryd.sizeOf73,a6K (λj hj=>(hx (2+j) (by omega)).cut (by omega)) (λj hj=>(hy (2+j) (by omega)).cut (by omega))⟩
def V9 (n:Nat)(xs:Array Value)(o:Nat):Prop:=∀ i,i<n->W7 xs (o+i*2)/\a3A xs (o+i*2+1)
theorem V9.cut {n:Nat}{xs:Array Value}{o b:Nat}(h:V9 n xs o)(hb:o+n*2<=b):V9 n (xs.extract o b) 0:=λi hi =>
 ⟨(show W7 xs (o+(0+i*2)) by rw [Nat.zero_add];exact (h i hi).1).cut (by omega),(show a3A xs (o+(0+i*2+1)) by rw [Nat.zero_add,← Nat.add_assoc];exact (h i hi).2).cut (by omega)⟩
theorem V9.one {n:Nat}{xs:Array Value}{o i:Nat}(h:V9 n xs o)(hi:i<n):V9 1 xs (o+i*2):=λj hj=>by
 obtain rfl:j=0:=by omega
 simpa using h i hi
theorem b1T {d:Nat}{xs ys:Array Value}(hx:V9 1 xs 0)(hy:V9 1 ys 0):a1W Tryd.prog (d+2) 49 (.agg xs) (.agg ys):=by
 refine a0h (by kernel_rfl) (by kernel_rfl) ?_;have e:(Tryd.prog.fieldsOf 49).toList.map (λf=>(f.name != "_",f.type,f.offset))=[(true,3,0),(true,4,1)]:=by kernel_rfl
 intro f hf;have hm:=List.mem_map_of_mem (f:=λf:Field=>(f.name != "_",f.type,f.offset)) hf;rw [e] at hm;generalize hn:(f.name != "_")=n at hm;generalize f.type=ft at *;generalize f.offset=fo at *;simp at hm;rcases hm with ⟨rfl,rfl,rfl⟩|⟨rfl,rfl,rfl⟩
 ·exact ⟨by simpa using hn,R0 (hx 0 (by omega)).1 (hy 0 (by omega)).1⟩
 ·exact ⟨by simpa using hn,a8k (hx 0 (by omega)).2 (hy 0 (by omega)).2⟩
theorem b4y {d:Nat}{xs ys:Array Value}(hx:V9 1 xs 0)(hy:V9 1 ys 0):a1W Tryd.prog (d+2) 52 (.agg xs) (.agg ys):=by
 refine a0h (by kernel_rfl) (by kernel_rfl) ?_;have e:(Tryd.prog.fieldsOf 52).toList.map (λf=>(f.name != "_",f.type,f.offset))=[(true,3,0),(true,4,1)]:=by kernel_rfl
 intro f hf;have hm:=List.mem_map_of_mem (f:=λf:Field=>(f.name != "_",f.type,f.offset)) hf;rw [e] at hm;generalize hn:(f.name != "_")=n at hm;generalize f.type=ft at *;generalize f.offset=fo at *;simp at hm;rcases hm with ⟨rfl,rfl,rfl⟩|⟨rfl,rfl,rfl⟩
 ·exact ⟨by simpa using hn,R0 (hx 0 (by omega)).1 (hy 0 (by omega)).1⟩
 ·exact ⟨by simpa using hn,a8k (hx 0 (by omega)).2 (hy 0 (by omega)).2⟩
theorem b1U {d:Nat}{xs ys:Array Value}(hx:V9 4 xs 0)(hy:V9 4 ys 0):a1W Tryd.prog (d+3) 50 (.agg xs) (.agg ys) :=
 a3z Tryd.underlying50 Tryd.sizeOf49 (λi hi=>⟨_,_,a1k Tryd.isAgg49 Tryd.sizeOf49,a1k Tryd.isAgg49 Tryd.sizeOf49,b1T ((show V9 1 xs (i*2) by simpa using hx.one hi).cut (by omega)) ((show V9 1 ys (i*2) by simpa using hy.one hi).cut (by omega))⟩)
theorem a6L {d:Nat}{xs ys:Array Value}(hx:V9 4 xs 0)(hy:V9 4 ys 0):a1W Tryd.prog (d+3) 53 (.agg xs) (.agg ys) :=
 a3z Tryd.underlying53 Tryd.sizeOf52 (λi hi=>⟨_,_,a1k Tryd.isAgg52 Tryd.sizeOf52,a1k Tryd.isAgg52 Tryd.sizeOf52,b4y ((show V9 1 xs (i*2) by simpa using hx.one hi).cut (by omega)) ((show V9 1 ys (i*2) by simpa using hy.one hi).cut (by omega))⟩)
structure SlotAt (xs:Array Value):Prop where
 kind:W7 xs 0
 parent:W7 xs 1
 table:W7 xs 2
 pages:V9 4 xs 3
 files:V9 4 xs 11
 code:W7 xs 19
theorem a8l {d:Nat}{xs ys:Array Value}(hx:SlotAt xs)(hy:SlotAt ys):a1W Tryd.prog (d+4) 55 (.agg xs) (.agg ys):=by
 refine a0h (by kernel_rfl) (by kernel_rfl) ?_;have e:(Tryd.prog.fieldsOf 55).toList.map (λf=>(f.name != "_",f.type,f.offset))=[(true,3,0),(true,3,1),(true,3,2),(true,50,3),(true,53,11),(true,3,19)]:=by kernel_rfl
 intro f hf;have hm:=List.mem_map_of_mem (f:=λf:Field=>(f.name != "_",f.type,f.offset)) hf;rw [e] at hm;generalize hn:(f.name != "_")=n at hm;generalize f.type=ft at *;generalize f.offset=fo at *;simp at hm;rcases hm with ⟨rfl,rfl,rfl⟩|⟨rfl,rfl,rfl⟩|⟨rfl,rfl,rfl⟩|⟨rfl,rfl,rfl⟩|⟨rfl,rfl,rfl⟩|⟨rfl,rfl,rfl⟩
 ·exact ⟨by simpa using hn,R0 hx.kind hy.kind⟩
 ·exact ⟨by simpa using hn,R0 hx.parent hy.parent⟩
 ·exact ⟨by simpa using hn,R0 hx.table hy.table⟩
 ·exact ⟨by simpa using hn,_,_,a1k Tryd.isAgg50 Tryd.sizeOf50,a1k Tryd.isAgg50 Tryd.sizeOf50,b1U (hx.pages.cut (by omega)) (hy.pages.cut (by omega))⟩
 ·exact ⟨by simpa using hn,_,_,a1k Tryd.isAgg53 Tryd.sizeOf53,a1k Tryd.isAgg53 Tryd.sizeOf53,a6L (hx.files.cut (by omega)) (hy.files.cut (by omega))⟩
 ·exact ⟨by simpa using hn,R0 hx.code hy.code⟩
end Go.Proofs.YtcgabodkegcpgaaDoor
