/- perform. -/
import Derived.Test.YtcgabodkegcpgaaDoorOqk
import Derived.Conc.QuitsD
import Derived.Conc.Own2
set_option linter.unusedVariables false
set_option linter.unusedSimpArgs false
set_option maxHeartbeats 20000000
set_option maxRecDepth 100000
namespace Go.Proofs.YtcgabodkegcpgaaDoor
open Go.Conc Go.RowKit
open Br (OpD KO SO SP sfO Lk Fit Must DL Liv Clear)
section
variable {C:Ctx} {n:Nat} {s:q7} {pv:List Nat} {H:w9} {free:Value} {go:Bool}
theorem Sta.mem {l:List OpD}{K:Ker}{un:Bool}{w:World}(h:Sta C l K pv H free un go w):C.o∈l:=by
 obtain ⟨H',A,hH⟩:=h;exact A.mem
theorem Sta.rfrozen {l:List OpD}{K:Ker}{un:Bool}{w:World}{d j:Nat}(h:Sta C l K pv H free un go w):(w.at d).frozen? ⟨C.o.bo,j,none⟩=false:=by
 obtain ⟨H',A,hH⟩:=h;obtain ⟨t,hb⟩:=A.blk;show w.frozen? _=_;simp [World.frozen?,hb]
theorem b4F {g g':Goroutine}(x:Value)
  (hstep:∀ l K un w (Stop:Goroutine->World->Prop),Sta C l K pv H free un go w->(∀ d,Must Tryd.prog false (DL true (sfO l)) Stop g' ((w.setCell ⟨C.o.bo,10,none⟩ x).at d))->∀ d,Must Tryd.prog false (DL true (sfO l)) Stop g (w.at d))
  (hn:o9 C n s pv H x go g'):o9 C n s pv H free go g:=by
 refine X7 (R:=λpv' H' free' g''=>pv'=pv/\H'=H/\free'=x/\g''=g') (λl K un w Stop St h d=>?_) (λpv' H' free' g'' ⟨h1,h2,h3,h4⟩=>by subst h1 h2 h3 h4;exact hn);obtain ⟨H',A,hH⟩:=St;obtain ⟨t,A2,M2⟩:=A.set (j:=10) (x:=x) (free':=x) (un':=un) (go':=go) (by omega) rfl;refine hstep l K un w Stop ⟨H',A,hH⟩ (h pv H x g' _ ⟨rfl,rfl,rfl,rfl⟩ (.of A2 (a2q hH)) ⟨M2.size,λk hk h0 h1 h2 h3=>M2.block k hk (λe=>h0 (by obtain rfl:=List.mem_singleton.1 e;exact List.mem_cons_self ..)) h1 h2 h3⟩ (λi hi=>.inl hi)) d
def N3 (K0:Ker)(p:Nat)(kd A B:Int):M (Int × Int) :=
 if kd=1 then b0v K0 p (D5 K0 K0.nF) else if kd=2 then a3f K0 p K0.nS 0
 else if kd=3 then (a1L 13 (D5 K0 K0.nF).length A 0 B (D5 K0 K0.nF)).bind λz=>M.pure (0,z.1)
 else if kd=4 then (a2r 16 B 0 A).bind λe=>M.pure (0,e)
 else if kd=5 then b6S A B else if kd=6 then V3 9 A 0 0
 else if kd=7 then (a1L 2 (D5 K0 K0.nF).length A 0 0 (D5 K0 K0.nF)).bind λz=>M.pure (0,z.1)
 else M.pure (0,2)
noncomputable def b7i:Code :=
 match Tryd.f76.body with
 | some (.seq _ (.seq _ (.seq c _)))=>c
 | _=>.skip
theorem b4G {K0:Ker}{gF gS gD sb:Nat}{fv:Value}(v:World)(h6:v.cell? ⟨C.o.bo,6,none⟩=some (.int .i64 C.A))(h7:v.cell? ⟨C.o.bo,7,none⟩=some (.int .i64 C.B)) :
  b7i.wp Tryd.prog (λe a' v'=>e=.normal/\∃ bs Hn,Gain pv H v v' bs Hn/\bs=[]/\a'=⟨#[pO C.o,A4 K0 gF gS gD,undef,.pointer (some ⟨sb,0,none⟩),.int .i64 0,.int .i64 0,.int .i64 C.A,.int .i64 C.B,pO C.o,A4 K0 gF gS gD,fv,pO C.o,.pointer (some ⟨C.o.bo,10,none⟩),pO C.o,pO C.o,.pointer (some ⟨C.o.bo,5,none⟩),.pointer (some ⟨C.o.bo,5,none⟩),.pointer (some ⟨C.o.bo,6,none⟩),.int .i64 C.A,pO C.o,pO C.o,.pointer (some ⟨C.o.bo,5,none⟩),.pointer (some ⟨C.o.bo,5,none⟩),.pointer (some ⟨C.o.bo,7,none⟩),.int .i64 C.B,undef,undef,undef,undef,undef,undef,undef,undef,undef,undef,undef,undef,undef,undef,undef,undef,undef,undef,undef,undef,undef,undef,undef,undef,undef,undef,undef,undef,undef,undef,undef,undef,undef,undef,undef,undef,undef,undef,undef,undef,undef,undef,undef,undef,undef,undef,undef,undef,undef,undef,undef,undef,undef,undef,undef,undef],[]⟩) ⟨#[pO C.o,A4 K0 gF gS gD,undef,.pointer (some ⟨sb,0,none⟩),.int .i64 0,.int .i64 0,undef,undef,pO C.o,A4 K0 gF gS gD,fv,pO C.o,.pointer (some ⟨C.o.bo,10,none⟩),undef,undef,undef,undef,undef,undef,undef,undef,undef,undef,undef,undef,undef,undef,undef,undef,undef,undef,undef,undef,undef,undef,undef,undef,undef,undef,undef,undef,undef,undef,undef,undef,undef,undef,undef,undef,undef,undef,undef,undef,undef,undef,undef,undef,undef,undef,undef,undef,undef,undef,undef,undef,undef,undef,undef,undef,undef,undef,undef,undef,undef,undef,undef,undef,undef,undef,undef,undef],[]⟩ v:=by
 have HG:Hid (∀ v':World,v'.heap=v.heap->Gain pv H v v' [] H):=λv' e=>⟨by rw [e];exact Nat.le_refl _,λk _=>by rw [e],λb hb=>(by cases hb),λ_ _=>rfl⟩
 unfold b7i;simp only [Tryd.f76,pO]
 go_quiet (fail)
 exact ⟨rfl,[],H,HG.out _ (by rfl),rfl,rfl⟩
noncomputable def a1c:Code:=(Tryd.f76.body).getD .skip
theorem a7w (o:OpD)(y:Value):Frame.enter Tryd.prog 76 #[pO o,y] .normal=(base 76).at ⟨#[pO o,y,undef,undef,undef,undef,undef,undef,undef,undef,undef,undef,undef,undef,undef,undef,undef,undef,undef,undef,undef,undef,undef,undef,undef,undef,undef,undef,undef,undef,undef,undef,undef,undef,undef,undef,undef,undef,undef,undef,undef,undef,undef,undef,undef,undef,undef,undef,undef,undef,undef,undef,undef,undef,undef,undef,undef,undef,undef,undef,undef,undef,undef,undef,undef,undef,undef,undef,undef,undef,undef,undef,undef,undef,undef,undef,undef,undef,undef,undef,undef],[]⟩ [.code a1c]:=by
 rw [enter_at (c:=a1c) _ Tryd.func76 rfl];refine congrArg (λt=>(base 76).at ⟨t,[]⟩ [.code a1c]) ?_
 kernel_rfl
theorem a8U (K0:Ker)(gF gS gD p:Nat)(hnF:K0.nF<=32)(hK:K0.nS<=32)(hp:p<K0.nS)(hC:C.slot=p)(hRF:Row pv H gF 75 (K0.nF*6) (C8 K0))(hRS:Row pv H gS 55 (K0.nS*20) (o0 K0))(fr:Frame)(cs:List Frame)(k:Int × Int->Bool->q7)
  (hn:∀ x e H' free' go',o9 C n (k (x,e) go') [] H' free' go' (G (fr.finish (.tuple #[.int .i64 x,.int .i64 e])) cs)) :
  o9 C n ((N3 K0 p C.kd C.A C.B).then go k) pv H free go (G (Frame.enter Tryd.prog 76 #[pO C.o,A4 K0 gF gS gD] .normal) (fr::cs)):=by
 rw [a7w];simp only [a1c,Tryd.f76,Option.getD_some,pO] at *;unfold A4 at *;apply a0P (X:=L8 K0 gF gS gD) trivial
 ·intro l K un w bx Stop hbx St hd d;have hc:=St.clear;refine Br.b8 (λd=>?_) _;refine Br.b9 (λd=>?_) _;simp only [Br.rz,Br.ix,Nat.reduceAdd];refine Br.t8 rfl rfl (by decide) (λd K' hK=>?_) _;go_simp;refine hK _ _ ⟨Br.L7 (λe he=>?_),?_⟩
  ·have hm:=mem_listed he;simp [go_sem] at hm
  clear hK K';have hc:Clear (w.alloc (L8 K0 gF gS gD)):=(Br.a0K hc.lk (o:=L8 K0 gF gS gD) trivial).1.sight;rw [show (w.at d).alloc (L8 K0 gF gS gD)=(w.alloc (L8 K0 gF gS gD)).at d from rfl];(iterate 2(refine Br.mo rfl rfl λd K' hK=>?_;go_simp;refine hK _ _ ⟨rfl,?_⟩;clear hK K'));refine Br.a9 (λd=>?_) _;rw [← hbx];exact hd _
 intro sb hb hb';have hs1:∀ i∈pv,i∈sb::pv:=λi hi=>List.mem_cons_of_mem _ hi;have hRF1:=hRF.gain hs1 (a2T (X:=L8 K0 gF gS gD) hb);have hRS1:=hRS.gain hs1 (a2T (X:=L8 K0 gF gS gD) hb);apply d7
 ·intro l K un w Stop St hd d;have hc:=St.clear;refine Br.b8 (λd=>?_) _;refine Br.b9 (λd=>?_) _;simp only [Br.rz,Br.ix,Nat.reduceAdd];refine Br.mo rfl rfl λd K' hK=>?_;go_simp;refine hK _ _ ⟨rfl,?_⟩;clear hK K';exact hd _
 refine M8 (ms:=[.slice (some ⟨gF,0,none⟩) K0.nF K0.nF,.slice (some ⟨gS,0,none⟩) K0.nS K0.nS,.slice (some ⟨gD,0,none⟩) K0.nD K0.nD]) rfl rfl (by decide) rfl rfl (List.mem_cons_self ..) (w9.set_same _ _ _) (λj v hj=>by simpa using hj) Tryd.underlying45 rfl (by kernel_rfl) ?_;apply d7
 ·intro l K un w Stop St hd d;have hc:=St.clear;go_simp;refine Br.mc rfl (λu=>k6 rfl rfl (by decide) rfl Tryd.func78 rfl rfl (vs:=#[.agg #[.slice (some ⟨gF,0,none⟩) K0.nF K0.nF,.slice (some ⟨gS,0,none⟩) K0.nS K0.nS,.slice (some ⟨gD,0,none⟩) K0.nD K0.nD]]) (by simp [Act.eval]) u) (λd=>?_) _;exact hd _
 have hfl:=a8o K0 K0.nF;refine a2v (by kernel_rfl) (xs:=D5 K0 K0.nF) (by omega) (λv hv=>b7I v K0 gF gS gD hnF (hRF1.is hv) (hv gF hRF1.1).1) _ _ (λsl bs Hn hxs hcap hblk hok hnew hkeep=>?_);rw [Frame.finish_at];have hs2:∀ i∈sb::pv,i∈bs ++ (sb::pv):=λi hi=>List.mem_append_right _ hi;have hRS2:=hRS1.gain hs2 hkeep;have hsb2:Hn sb=L8 K0 gF gS gD:=(hkeep sb (List.mem_cons_self ..)).trans (w9.set_same _ _ _);have hfb:∀ b,sl.blk=some b->b∈bs ++ (sb::pv):=λb e=>by
  rcases hblk with h|⟨b',h,hb'⟩
  ·rw [h] at e;cases e
  ·rw [h] at e;obtain rfl:=Option.some.inj e;exact List.mem_append_left _ hb'
 have hgf:some gS≠sl.blk:=λe=>by
  rcases hblk with h|⟨b',h,hb'⟩
  ·rw [h] at e;cases e
  ·rw [h] at e;obtain rfl:=Option.some.inj e;exact (hnew _ hb').1 hRS1.1
 have hF:Fr sl.blk (bs ++ (sb::pv)) Hn sl.val (D5 K0 K0.nF):=⟨sl,rfl,rfl,hxs,hok⟩;obtain ⟨fp,fl,fc,hfv⟩:∃ fp fl fc,sl.val=.slice fp fl fc:=⟨_,_,_,rfl⟩;rw [hfv] at hF ⊢;apply b4F (.slice fp fl fc)
 ·intro l K un w Stop St hd d;have hc:=St.clear;go_simp;(iterate 2(refine Br.mo rfl rfl λd K' hK=>?_;go_simp;refine hK _ _ ⟨rfl,?_⟩;clear hK K'));refine Br.t8 rfl rfl (by decide) (λd K' hK=>?_) _;have ej:(w.at d).cell? ⟨C.o.bo,10,none⟩=some free:=St.rcell rfl;have ez:(w.at d).frozen? ⟨C.o.bo,10,none⟩=false:=St.rfrozen;go_simp;refine hK _ _ ⟨Br.Q7 (by rw [Br.I9 St.mem];show 3<=10;omega) (World.block_lt_of_cell? _ _ ej) (λe he=>?_),?_⟩
  ·have hm:=mem_listed he;simp only [go_sem] at hm;simp [go_sem] at hm;rw [events_store _ _ _ _ _ _ rfl,ej] at hm;rw [ez] at hm;simp only [Bool.false_eq_true,if_false,List.push_toArray,List.nil_append,List.mem_toArray,List.mem_cons,List.not_mem_nil,or_false] at hm;exact hm
  clear hK K' ej ez;exact hd _
 apply d7
 ·intro l K un w Stop St hd d;have hc:=St.clear;refine Br.a9 (λd=>?_) _;refine Br.b8 (λd=>?_) _;exact hd _
 have key:=λ(v:World) h6 h7=>b4G (C:=C) (pv:=bs ++ (sb::pv)) (H:=Hn) (K0:=K0) (gF:=gF) (gS:=gS) (gD:=gD) (sb:=sb) (fv:=.slice fp fl fc) v h6 h7;unfold b7i A4 at key;simp only [Tryd.f76,pO] at key;refine a1x (by kernel_rfl) rfl rfl ⟨_,Tryd.func76⟩ (λv hv hrec=>key v (hrec 6 _ (λun=>by simp [I5])) (hrec 7 _ (λun=>by simp [I5]))) _ _ ?_;clear key;rintro a' bs' Hm ⟨rfl,rfl⟩ hnew3 hkeep3;have hRS3:=hRS2.same (hkeep3 gS hRS2.1);have hF3:Fr sl.blk (bs ++ (sb::pv)) Hm (.slice fp fl fc) (D5 K0 K0.nF):=Fr.same hkeep3 hF;have hsb3:Hm sb=L8 K0 gF gS gD:=(hkeep3 sb (List.mem_append_right _ (List.mem_cons_self ..))).trans hsb2;have hsm:sb∈bs ++ (sb::pv):=List.mem_append_right _ (List.mem_cons_self ..);rw [List.nil_append];apply d7
 ·intro l K un w Stop St hd d;have hc:=St.clear;refine Br.b8 (λd=>?_) _;refine Br.b8 (λd=>?_) _;refine Br.b9 (λd=>?_) _;simp only [Br.rz,Br.ix,Nat.reduceAdd];(iterate 5(refine Br.mo rfl rfl λd K' hK=>?_;go_simp;refine hK _ _ ⟨rfl,?_⟩;clear hK K'));refine Br.mo rfl rfl λd K' hK=>?_;have e5:(w.at d).cell? ⟨C.o.bo,5,none⟩=some (.int .i64 C.kd):=St.rcell rfl;go_simp;refine hK _ _ ⟨rfl,?_⟩;clear hK K';refine Br.a9 (λd=>?_) _;refine Br.mc rfl (λu=>stepG_block) (λd=>?_) _;exact hd _
 unfold N3;apply d7
 ·intro l K un w Stop St hd d;have hc:=St.clear;refine Br.b8 (λd=>?_) _;refine Br.b9 (λd=>?_) _;simp only [Br.rz,Br.ix,Nat.reduceAdd];(iterate 2(refine Br.mo rfl rfl λd K' hK=>?_;go_simp;refine hK _ _ ⟨rfl,?_⟩;clear hK K'));refine Br.a9 (λd=>?_) _;exact hd _
 by_cases hk:C.kd=1
 ·rw [if_pos hk];have hb:(C.kd == 1)=true:=by simp [hk]
  apply d7
  ·intro l K un w Stop St hd d;have hc:=St.clear;refine Br.mc rfl (λu=>stepG_cond (t:=true) (by simpa [Act.eval] using hb)) (λd=>?_) _;simp only [if_true];refine Br.b8 (λd=>?_) _;refine Br.b9 (λd=>?_) _;simp only [Br.rz,Br.ix,Nat.reduceAdd];refine Br.mo rfl rfl λd K' hK=>?_;go_simp;refine hK _ _ ⟨rfl,?_⟩;clear hK K';exact hd _
  refine M8 (ms:=[.slice (some ⟨gF,0,none⟩) K0.nF K0.nF,.slice (some ⟨gS,0,none⟩) K0.nS K0.nS,.slice (some ⟨gD,0,none⟩) K0.nD K0.nD]) rfl rfl (by decide) rfl rfl hsm hsb3 (λj v hj=>by simpa using hj) Tryd.underlying45 rfl (by kernel_rfl) ?_;apply d7
  ·intro l K un w Stop St hd d;have hc:=St.clear;go_simp;refine Br.mc rfl (λu=>k6 rfl rfl (by decide) rfl Tryd.func79 rfl rfl (vs:=#[pO C.o,.agg #[.slice (some ⟨gF,0,none⟩) K0.nF K0.nF,.slice (some ⟨gS,0,none⟩) K0.nS K0.nS,.slice (some ⟨gD,0,none⟩) K0.nD K0.nD]]) (by simp [Act.eval]) u) (λd=>?_) _;exact hd _
  refine b4A K0 gF gS gD p hK hp hC hfb hgf hRS3 hF3 _ _ _ (λx e H' free' go'=>?_);rw [Frame.finish_at];apply d7
  ·intro l K un w Stop St hd d;have hc:=St.clear;go_simp;(iterate 4(refine Br.mo rfl rfl λd K' hK=>?_;go_simp;refine hK _ _ ⟨rfl,?_⟩;clear hK K'));refine Br.a9 (λd=>?_) _;refine Br.q8 (λd=>?_) _;exact Br.m8 (v:=.tuple #[.int .i64 x,.int .i64 e]) rfl rfl Tryd.func76 (resultsC_tmp2 (t:=4) (u:=5) rfl _) hd _
   done
  exact L9 (hn x e H _ go')
 rw [if_neg hk];have hb:(C.kd == 1)=false:=by simp [hk]
 apply d7
 ·intro l K un w Stop St hd d;have hc:=St.clear;refine Br.mc rfl (λu=>stepG_cond (t:=false) (by simpa [Act.eval] using hb)) (λd=>?_) _;simp only [if_false,Bool.false_eq_true];exact hd _
 clear hk hb;apply d7
 ·intro l K un w Stop St hd d;have hc:=St.clear;refine Br.b8 (λd=>?_) _;refine Br.b9 (λd=>?_) _;simp only [Br.rz,Br.ix,Nat.reduceAdd];(iterate 2(refine Br.mo rfl rfl λd K' hK=>?_;go_simp;refine hK _ _ ⟨rfl,?_⟩;clear hK K'));refine Br.a9 (λd=>?_) _;exact hd _
 by_cases hk:C.kd=2
 ·rw [if_pos hk];have hb:(C.kd == 2)=true:=by simp [hk]
  apply d7
  ·intro l K un w Stop St hd d;have hc:=St.clear;refine Br.mc rfl (λu=>stepG_cond (t:=true) (by simpa [Act.eval] using hb)) (λd=>?_) _;simp only [if_true];refine Br.b8 (λd=>?_) _;refine Br.b9 (λd=>?_) _;simp only [Br.rz,Br.ix,Nat.reduceAdd];refine Br.mo rfl rfl λd K' hK=>?_;go_simp;refine hK _ _ ⟨rfl,?_⟩;clear hK K';exact hd _
  refine M8 (ms:=[.slice (some ⟨gF,0,none⟩) K0.nF K0.nF,.slice (some ⟨gS,0,none⟩) K0.nS K0.nS,.slice (some ⟨gD,0,none⟩) K0.nD K0.nD]) rfl rfl (by decide) rfl rfl hsm hsb3 (λj v hj=>by simpa using hj) Tryd.underlying45 rfl (by kernel_rfl) ?_;apply d7
  ·intro l K un w Stop St hd d;have hc:=St.clear;go_simp;refine Br.mc rfl (λu=>k6 rfl rfl (by decide) rfl Tryd.func80 rfl rfl (vs:=#[pO C.o,.agg #[.slice (some ⟨gF,0,none⟩) K0.nF K0.nF,.slice (some ⟨gS,0,none⟩) K0.nS K0.nS,.slice (some ⟨gD,0,none⟩) K0.nD K0.nD]]) (by simp [Act.eval]) u) (λd=>?_) _;exact hd _
  rw [← hC];refine b4E K0 gF gS gD hK hRS3 _ _ _ (λx e go' H'=>?_);rw [Frame.finish_at];apply d7
  ·intro l K un w Stop St hd d;have hc:=St.clear;go_simp;(iterate 4(refine Br.mo rfl rfl λd K' hK=>?_;go_simp;refine hK _ _ ⟨rfl,?_⟩;clear hK K'));refine Br.a9 (λd=>?_) _;refine Br.q8 (λd=>?_) _;exact Br.m8 (v:=.tuple #[.int .i64 x,.int .i64 e]) rfl rfl Tryd.func76 (resultsC_tmp2 (t:=4) (u:=5) rfl _) hd _
   done
  exact L9 (hn x e H _ go')
 rw [if_neg hk];have hb:(C.kd == 2)=false:=by simp [hk]
 apply d7
 ·intro l K un w Stop St hd d;have hc:=St.clear;refine Br.mc rfl (λu=>stepG_cond (t:=false) (by simpa [Act.eval] using hb)) (λd=>?_) _;simp only [if_false,Bool.false_eq_true];exact hd _
 clear hk hb;apply d7
 ·intro l K un w Stop St hd d;have hc:=St.clear;refine Br.b8 (λd=>?_) _;refine Br.b9 (λd=>?_) _;simp only [Br.rz,Br.ix,Nat.reduceAdd];(iterate 2(refine Br.mo rfl rfl λd K' hK=>?_;go_simp;refine hK _ _ ⟨rfl,?_⟩;clear hK K'));refine Br.a9 (λd=>?_) _;exact hd _
 by_cases hk:C.kd=3
 ·rw [if_pos hk];have hb:(C.kd == 3)=true:=by simp [hk]
  rw [M.bind_then];apply d7
  ·intro l K un w Stop St hd d;have hc:=St.clear;refine Br.mc rfl (λu=>stepG_cond (t:=true) (by simpa [Act.eval] using hb)) (λd=>?_) _;simp only [if_true];refine Br.b8 (λd=>?_) _;refine Br.b9 (λd=>?_) _;simp only [Br.rz,Br.ix,Nat.reduceAdd];(iterate 4(refine Br.mo rfl rfl λd K' hK=>?_;go_simp;refine hK _ _ ⟨rfl,?_⟩;clear hK K'));refine Br.mc rfl (λu=>k6 rfl rfl (by decide) rfl Tryd.func81 rfl rfl (vs:=#[pO C.o,.int .i64 13,.agg #[.int .i64 C.A,.int .i64 0,.int .i64 C.B],.int .i64 1]) (by simp [Act.eval]) u) (λd=>?_) _;exact hd _
  refine a3y a4j (λxs _=>a2s xs) hF3 hfb 13 C.A 0 C.B _ _ _ (λe xs' H' free' go' hF' hH'=>?_);rw [Frame.finish_at,M.pure_then];apply d7
  ·intro l K un w Stop St hd d;have hc:=St.clear;go_simp;(iterate 2(refine Br.mo rfl rfl λd K' hK=>?_;go_simp;refine hK _ _ ⟨rfl,?_⟩;clear hK K'));refine Br.a9 (λd=>?_) _;refine Br.q8 (λd=>?_) _;exact Br.m8 (v:=.tuple #[.int .i64 0,.int .i64 e]) rfl rfl Tryd.func76 (resultsC_tmp2 (t:=4) (u:=5) rfl _) hd _
   done
  exact L9 (hn 0 e H _ go')
 rw [if_neg hk];have hb:(C.kd == 3)=false:=by simp [hk]
 apply d7
 ·intro l K un w Stop St hd d;have hc:=St.clear;refine Br.mc rfl (λu=>stepG_cond (t:=false) (by simpa [Act.eval] using hb)) (λd=>?_) _;simp only [if_false,Bool.false_eq_true];exact hd _
 clear hk hb;apply d7
 ·intro l K un w Stop St hd d;have hc:=St.clear;refine Br.b8 (λd=>?_) _;refine Br.b9 (λd=>?_) _;simp only [Br.rz,Br.ix,Nat.reduceAdd];(iterate 2(refine Br.mo rfl rfl λd K' hK=>?_;go_simp;refine hK _ _ ⟨rfl,?_⟩;clear hK K'));refine Br.a9 (λd=>?_) _;exact hd _
 by_cases hk:C.kd=4
 ·rw [if_pos hk];have hb:(C.kd == 4)=true:=by simp [hk]
  rw [M.bind_then];apply d7
  ·intro l K un w Stop St hd d;have hc:=St.clear;refine Br.mc rfl (λu=>stepG_cond (t:=true) (by simpa [Act.eval] using hb)) (λd=>?_) _;simp only [if_true];refine Br.b8 (λd=>?_) _;refine Br.b9 (λd=>?_) _;simp only [Br.rz,Br.ix,Nat.reduceAdd];(iterate 4(refine Br.mo rfl rfl λd K' hK=>?_;go_simp;refine hK _ _ ⟨rfl,?_⟩;clear hK K'));refine Br.mc rfl (λu=>k6 rfl rfl (by decide) rfl Tryd.func82 rfl rfl (vs:=B7 C.o 16 C.B 0 C.A) (by simp [Act.eval]) u) (λd=>?_) _;exact hd _
  refine a6A 16 C.B 0 C.A _ _ _ (λe go'=>?_);rw [Frame.finish_at,M.pure_then];apply d7
  ·intro l K un w Stop St hd d;have hc:=St.clear;go_simp;(iterate 2(refine Br.mo rfl rfl λd K' hK=>?_;go_simp;refine hK _ _ ⟨rfl,?_⟩;clear hK K'));refine Br.a9 (λd=>?_) _;refine Br.q8 (λd=>?_) _;exact Br.m8 (v:=.tuple #[.int .i64 0,.int .i64 e]) rfl rfl Tryd.func76 (resultsC_tmp2 (t:=4) (u:=5) rfl _) hd _
   done
  exact L9 (hn 0 e H _ go')
 rw [if_neg hk];have hb:(C.kd == 4)=false:=by simp [hk]
 apply d7
 ·intro l K un w Stop St hd d;have hc:=St.clear;refine Br.mc rfl (λu=>stepG_cond (t:=false) (by simpa [Act.eval] using hb)) (λd=>?_) _;simp only [if_false,Bool.false_eq_true];exact hd _
 clear hk hb;apply d7
 ·intro l K un w Stop St hd d;have hc:=St.clear;refine Br.b8 (λd=>?_) _;refine Br.b9 (λd=>?_) _;simp only [Br.rz,Br.ix,Nat.reduceAdd];(iterate 2(refine Br.mo rfl rfl λd K' hK=>?_;go_simp;refine hK _ _ ⟨rfl,?_⟩;clear hK K'));refine Br.a9 (λd=>?_) _;exact hd _
 by_cases hk:C.kd=5
 ·rw [if_pos hk];have hb:(C.kd == 5)=true:=by simp [hk]
  apply d7
  ·intro l K un w Stop St hd d;have hc:=St.clear;refine Br.mc rfl (λu=>stepG_cond (t:=true) (by simpa [Act.eval] using hb)) (λd=>?_) _;simp only [if_true];refine Br.b8 (λd=>?_) _;refine Br.b9 (λd=>?_) _;simp only [Br.rz,Br.ix,Nat.reduceAdd];(iterate 3(refine Br.mo rfl rfl λd K' hK=>?_;go_simp;refine hK _ _ ⟨rfl,?_⟩;clear hK K'));refine Br.mc rfl (λu=>k6 rfl rfl (by decide) rfl Tryd.func83 rfl rfl (vs:=#[pO C.o,.int .i64 C.A,.int .i64 C.B]) (by simp [Act.eval]) u) (λd=>?_) _;exact hd _
  refine b4k C.A C.B _ _ _ (λx e go'=>?_);rw [Frame.finish_at];apply d7
  ·intro l K un w Stop St hd d;have hc:=St.clear;go_simp;(iterate 4(refine Br.mo rfl rfl λd K' hK=>?_;go_simp;refine hK _ _ ⟨rfl,?_⟩;clear hK K'));refine Br.a9 (λd=>?_) _;refine Br.q8 (λd=>?_) _;exact Br.m8 (v:=.tuple #[.int .i64 x,.int .i64 e]) rfl rfl Tryd.func76 (resultsC_tmp2 (t:=4) (u:=5) rfl _) hd _
   done
  exact L9 (hn x e H _ go')
 rw [if_neg hk];have hb:(C.kd == 5)=false:=by simp [hk]
 apply d7
 ·intro l K un w Stop St hd d;have hc:=St.clear;refine Br.mc rfl (λu=>stepG_cond (t:=false) (by simpa [Act.eval] using hb)) (λd=>?_) _;simp only [if_false,Bool.false_eq_true];exact hd _
 clear hk hb;apply d7
 ·intro l K un w Stop St hd d;have hc:=St.clear;refine Br.b8 (λd=>?_) _;refine Br.b9 (λd=>?_) _;simp only [Br.rz,Br.ix,Nat.reduceAdd];(iterate 2(refine Br.mo rfl rfl λd K' hK=>?_;go_simp;refine hK _ _ ⟨rfl,?_⟩;clear hK K'));refine Br.a9 (λd=>?_) _;exact hd _
 by_cases hk:C.kd=6
 ·rw [if_pos hk];have hb:(C.kd == 6)=true:=by simp [hk]
  apply d7
  ·intro l K un w Stop St hd d;have hc:=St.clear;refine Br.mc rfl (λu=>stepG_cond (t:=true) (by simpa [Act.eval] using hb)) (λd=>?_) _;simp only [if_true];refine Br.b8 (λd=>?_) _;refine Br.b9 (λd=>?_) _;simp only [Br.rz,Br.ix,Nat.reduceAdd];(iterate 3(refine Br.mo rfl rfl λd K' hK=>?_;go_simp;refine hK _ _ ⟨rfl,?_⟩;clear hK K'));refine Br.mc rfl (λu=>k6 rfl rfl (by decide) rfl Tryd.func84 rfl rfl (vs:=B7 C.o 9 C.A 0 0) (by simp [Act.eval]) u) (λd=>?_) _;exact hd _
  refine N8 9 C.A 0 0 _ _ _ (λx e go' hg=>?_);rw [Frame.finish_at];apply d7
  ·intro l K un w Stop St hd d;have hc:=St.clear;go_simp;(iterate 4(refine Br.mo rfl rfl λd K' hK=>?_;go_simp;refine hK _ _ ⟨rfl,?_⟩;clear hK K'));refine Br.a9 (λd=>?_) _;refine Br.q8 (λd=>?_) _;exact Br.m8 (v:=.tuple #[.int .i64 x,.int .i64 e]) rfl rfl Tryd.func76 (resultsC_tmp2 (t:=4) (u:=5) rfl _) hd _
   done
  exact L9 (hn x e H _ go')
 rw [if_neg hk];have hb:(C.kd == 6)=false:=by simp [hk]
 apply d7
 ·intro l K un w Stop St hd d;have hc:=St.clear;refine Br.mc rfl (λu=>stepG_cond (t:=false) (by simpa [Act.eval] using hb)) (λd=>?_) _;simp only [if_false,Bool.false_eq_true];exact hd _
 clear hk hb;apply d7
 ·intro l K un w Stop St hd d;have hc:=St.clear;refine Br.b8 (λd=>?_) _;refine Br.b9 (λd=>?_) _;simp only [Br.rz,Br.ix,Nat.reduceAdd];(iterate 2(refine Br.mo rfl rfl λd K' hK=>?_;go_simp;refine hK _ _ ⟨rfl,?_⟩;clear hK K'));refine Br.a9 (λd=>?_) _;exact hd _
 by_cases hk:C.kd=7
 ·rw [if_pos hk];have hb:(C.kd == 7)=true:=by simp [hk]
  rw [M.bind_then];apply d7
  ·intro l K un w Stop St hd d;have hc:=St.clear;refine Br.mc rfl (λu=>stepG_cond (t:=true) (by simpa [Act.eval] using hb)) (λd=>?_) _;simp only [if_true];refine Br.b8 (λd=>?_) _;refine Br.b9 (λd=>?_) _;simp only [Br.rz,Br.ix,Nat.reduceAdd];(iterate 3(refine Br.mo rfl rfl λd K' hK=>?_;go_simp;refine hK _ _ ⟨rfl,?_⟩;clear hK K'));refine Br.mc rfl (λu=>k6 rfl rfl (by decide) rfl Tryd.func81 rfl rfl (vs:=#[pO C.o,.int .i64 2,.agg #[.int .i64 C.A,.int .i64 0,.int .i64 0],.int .i64 1]) (by simp [Act.eval]) u) (λd=>?_) _;exact hd _
  refine a3y a4j (λxs _=>a2s xs) hF3 hfb 2 C.A 0 0 _ _ _ (λe xs' H' free' go' hF' hH'=>?_);rw [Frame.finish_at,M.pure_then];apply d7
  ·intro l K un w Stop St hd d;have hc:=St.clear;go_simp;(iterate 2(refine Br.mo rfl rfl λd K' hK=>?_;go_simp;refine hK _ _ ⟨rfl,?_⟩;clear hK K'));refine Br.a9 (λd=>?_) _;refine Br.q8 (λd=>?_) _;exact Br.m8 (v:=.tuple #[.int .i64 0,.int .i64 e]) rfl rfl Tryd.func76 (resultsC_tmp2 (t:=4) (u:=5) rfl _) hd _
   done
  exact L9 (hn 0 e H _ go')
 rw [if_neg hk];have hb:(C.kd == 7)=false:=by simp [hk]
 apply d7
 ·intro l K un w Stop St hd d;have hc:=St.clear;refine Br.mc rfl (λu=>stepG_cond (t:=false) (by simpa [Act.eval] using hb)) (λd=>?_) _;simp only [if_false,Bool.false_eq_true];exact hd _
 clear hk hb;rw [M.pure_then];apply d7
 ·intro l K un w Stop St hd d;have hc:=St.clear;refine Br.l9 (λd=>?_) _;refine Br.mc rfl (λu=>stepG_inBlock) (λd=>?_) _;refine Br.b8 (λd=>?_) _;refine Br.b9 (λd=>?_) _;simp only [Br.rz,Br.ix,Nat.reduceAdd];(iterate 2(refine Br.mo rfl rfl λd K' hK=>?_;go_simp;refine hK _ _ ⟨rfl,?_⟩;clear hK K'));refine Br.a9 (λd=>?_) _;refine Br.q8 (λd=>?_) _;exact Br.m8 (v:=.tuple #[.int .i64 0,.int .i64 2]) rfl rfl Tryd.func76 (resultsC_tmp2 (t:=4) (u:=5) rfl _) hd _
  done
 exact L9 (hn 0 2 H _ go)
end
noncomputable def bot:Frame:={ (default:Frame) with fn:=Tryd.prog.funcs.size,defers:=[],mode:=.panicking [goexitEntry] }
noncomputable def a8V:Code:=(Tryd.f63.body).getD .skip
noncomputable def a1l (o:OpD):Deferred :=
 match Tryd.f63.body with
 | some (.seq (.region _ ops _) _)=>{ target:=.builtin .close (match ops[4]? with|some x=>(match x.op with|.defer c=>c.argTypes|_=>#[])|none=>#[]) 0 #[false],args:=#[.chan (some o.to)] }
 | _=>default
noncomputable def H6 (o:OpD):Frame :=
 match Tryd.f63.body with
 | some (.seq _ (.seq (.region _ ops _) c))=>(baseD 63).at ⟨#[pO o,undef,pO o,pO o,.pointer (some ⟨o.bo,1,none⟩),.chan (some o.to),pO o,undef,undef,undef,undef,undef,undef,undef,undef,undef,undef,undef,undef,undef,undef,undef,undef,undef,undef,undef],[a1l o]⟩ [.inRegion ops [1],.code c]
 | _=>default
noncomputable def a8W (o:OpD)(bk:Nat):Frame :=
 match Tryd.f63.body with
 | some (.seq _ (.seq _ (.cond _ (.region _ ops _) _)))=>(baseD 63).at ⟨#[pO o,undef,pO o,pO o,.pointer (some ⟨o.bo,1,none⟩),.chan (some o.to),pO o,.bool true,undef,pO o,pO o,pO o,pO o,pO o,.pointer (some ⟨o.bo,3,none⟩),.pointer (some ⟨bk,0,none⟩),undef,undef,undef,undef,undef,undef,undef,undef,undef,undef],[a1l o]⟩ [.inRegion ops [7,8,9,10,11,12,13,14,15,16,17,18,19]]
 | _=>default
noncomputable def a5d (o:OpD)(bk:Nat)(st:Value):Frame :=
 match Tryd.f63.body with
 | some (.seq _ (.seq _ (.cond _ (.region _ ops _) _)))=>(baseD 63).at ⟨#[pO o,undef,pO o,pO o,.pointer (some ⟨o.bo,1,none⟩),.chan (some o.to),pO o,.bool true,undef,pO o,pO o,pO o,pO o,pO o,.pointer (some ⟨o.bo,3,none⟩),.pointer (some ⟨bk,0,none⟩),st,undef,undef,undef,undef,undef,undef,undef,undef,undef],[a1l o]⟩ [.inRegion ops [8,9,10,11,12,13,14,15,16,17,18,19]]
 | _=>default
theorem b4H (o:OpD)(w:World):stepG Tryd.prog false (born Tryd.prog (dcall 63 #[pO o])) w=.go (G ((baseD 63).at ⟨#[pO o,undef,undef,undef,undef,undef,undef,undef,undef,undef,undef,undef,undef,undef,undef,undef,undef,undef,undef,undef,undef,undef,undef,undef,undef,undef],[]⟩ [.code a8V]) [bot]) w #[]:=by
 simp [born,dcall,stepG,unwind,callDeferred,invoke,callFunc,Tryd.func63,Tryd.f63,seen,GStep.after,G,Frame.enter,Frame.at,baseD,bot,a8V]
theorem b1Z (tm:Array Value):QuitsD Tryd.prog 2 0 (G { (baseD 63).at ⟨tm,[]⟩ [] with mode:=.returning } [bot]):=by
 refine QuitsD.ctl (g':=G bot []) rfl (λw=>?_) ?_
 ·simp [G,stepG,unwind,doReturn,results,Frame.at,baseD,bot,Tryd.func63,Tryd.f63,seen,GStep.after,goexitEntry]
 refine QuitsD.ctl (g':={ G bot [] with status:=.finished }) rfl (λw=>?_) ⟨rfl,rfl⟩;simp [G,stepG,unwind,bot,goexitEntry,Frame.catches];rfl
theorem b4I (o:OpD)(tm:Array Value){cap k:Nat}{u:World}(hc:u.heap[o.to]?=some (.chan cap #[] false k k false)) :
  stepG Tryd.prog false (G { (baseD 63).at ⟨tm,[a1l o]⟩ [] with mode:=.returning } [bot]) u=.go (G { (baseD 63).at ⟨tm,[]⟩ [] with mode:=.returning } [bot]) (u.setChan o.to cap #[] true k k false) (closeEvents o.to):=by
 have hr:∀ (ats:Array TypeId) (cs:Array Bool),(invoke (.builtin .close ats 0 cs) #[.chan (some o.to)]).run Tryd.prog u=.ok (.value (.tuple #[])) (u.setChan o.to cap #[] true k k false):=λats cs=>by
  simp [go_sem,invoke,run_close_open _ _ hc,World.setChan]
 have he:∀ (ats:Array TypeId) (cs:Array Bool),(invoke (.builtin .close ats 0 cs) #[.chan (some o.to)]).events Tryd.prog u #[]=closeEvents o.to:=λats cs=>by
  simp [go_sem,invoke,events_close_open _ _ hc,closeEvents]
 have hs:seen Tryd.prog 63 (closeEvents o.to)=closeEvents o.to:=seen_eq (by kernel_rfl) (by intro e he f;simp only [closeEvents,List.mem_toArray,List.mem_cons,List.not_mem_nil,or_false] at he;rcases he with rfl|rfl<;>simp);unfold a1l;simp only [Tryd.f63];have hr':=hr;have he':=he;simp [G,stepG,unwind,callDeferred,Frame.at,baseD,hr,he,GStep.after,hs]
theorem b2a (C:Ctx)(tm:Array Value):b6Q C (G { (baseD 63).at ⟨tm,[a1l C.o]⟩ [] with mode:=.returning } [bot]) :=
 ⟨rfl,rfl,_,rfl,λcap k u hc=>b4I C.o tm hc,2,b1Z tm⟩
end Go.Proofs.YtcgabodkegcpgaaDoor
