/- takeBack, giveFiles, copyPages. -/
import Derived.Test.YtcgabodkegcpgaaDoorOpo
set_option linter.unusedVariables false
set_option linter.unusedSimpArgs false
set_option maxHeartbeats 20000000
set_option maxRecDepth 100000
namespace Go.Proofs.YtcgabodkegcpgaaDoor
open Go.Conc Go.RowKit
open Br (OpD KO SO SP sfO Lk Fit Must DL Liv Clear)
section
variable {C:Ctx} {n:Nat} {pv:List Nat} {H:w9} {free:Value} {go:Bool}
def b2W (child:Int)(pages files:List Int)(why:Int):M Int:=(a1J child pages files).bind λz=>M.pure (if z.2=3 then 3 else why)
noncomputable def a4k:Code:=(Tryd.f91.body).getD .skip
theorem b1J (o:OpD)(x v:Int)(y z:Value):Frame.enter Tryd.prog 91 #[pO o,.int .i64 x,y,z,.int .i64 v] .normal=(base 91).at ⟨#[pO o,.int .i64 x,y,z,.int .i64 v,undef,undef,undef,undef,undef,undef,undef,undef,undef,undef,undef,undef,undef,undef,undef,undef,undef,undef,undef,undef],[]⟩ [.code a4k]:=by
 rw [enter_at (c:=a4k) _ Tryd.func91 rfl];refine congrArg (λt=>(base 91).at ⟨t,[]⟩ [.code a4k]) ?_
 kernel_rfl
theorem b4m (child why:Int)(ps fs:Sl)(hps:ps.ok pv H)(hfs:fs.ok pv H)(fr:Frame)(cs:List Frame)(k:Int->Bool->q7)(hn:∀ e go',o9 C n (k e go') pv H free go' (G (fr.finish (.int .i64 e)) cs)) :
  o9 C n ((b2W child ps.xs fs.xs why).then go k) pv H free go (G (Frame.enter Tryd.prog 91 #[pO C.o,.int .i64 child,ps.val,fs.val,.int .i64 why] .normal) (fr::cs)):=by
 unfold b2W;rw [M.bind_then,b1J];simp only [a4k,Tryd.f91,Option.getD_some,pO];apply d7
 ·intro l K un w Stop St hd d;have hc:=St.clear;refine Br.b8 (λd=>?_) _;refine Br.b9 (λd=>?_) _;simp only [Br.rz,Br.ix,Nat.reduceAdd];refine Br.mo rfl rfl λd K' hK=>?_;go_simp;refine hK _ _ ⟨rfl,?_⟩;clear hK K';refine Br.a9 (λd=>?_) _;refine Br.b8 (λd=>?_) _;refine Br.b8 (λd=>?_) _;refine Br.b9 (λd=>?_) _;simp only [Br.rz,Br.ix,Nat.reduceAdd];(iterate 4(refine Br.mo rfl rfl λd K' hK=>?_;go_simp;refine hK _ _ ⟨rfl,?_⟩;clear hK K'));refine Br.mc rfl (λu=>k6 rfl rfl (by decide) rfl Tryd.func92 rfl rfl (vs:=#[pO C.o,.int .i64 child,ps.val,fs.val]) (by simp [Act.eval]) u) (λd=>?_) _;exact hd _
 refine a6B child ps fs hps hfs _ _ _ (λx e go'=>?_);rw [Frame.finish_at,M.pure_then];apply d7
 ·intro l K un w Stop St hd d;have hc:=St.clear;go_simp;(iterate 5(refine Br.mo rfl rfl λd K' hK=>?_;go_simp;refine hK _ _ ⟨rfl,?_⟩;clear hK K'));refine Br.a9 (λd=>?_) _;refine Br.b8 (λd=>?_) _;refine Br.b9 (λd=>?_) _;simp only [Br.rz,Br.ix,Nat.reduceAdd];(iterate 2(refine Br.mo rfl rfl λd K' hK=>?_;go_simp;refine hK _ _ ⟨rfl,?_⟩;clear hK K'));refine Br.a9 (λd=>?_) _;exact hd _
 by_cases he:e=3
 ·subst he;rw [if_pos rfl];apply d7
  ·intro l K un w Stop St hd d;have hc:=St.clear;refine Br.mc rfl (λu=>stepG_cond (t:=true) rfl) (λd=>?_) _;simp only [if_true,if_false,Bool.false_eq_true,↓reduceIte];refine Br.b8 (λd=>?_) _;refine Br.b9 (λd=>?_) _;simp only [Br.rz,Br.ix,Nat.reduceAdd];(iterate 2(refine Br.mo rfl rfl λd K' hK=>?_;go_simp;refine hK _ _ ⟨rfl,?_⟩;clear hK K'));refine Br.a9 (λd=>?_) _;refine Br.q8 (λd=>?_) _;exact Br.m8 (v:=.int .i64 3) rfl rfl Tryd.func91 (resultsC_tmp (t:=10) rfl _) hd _
   done
  exact hn 3 go'
 ·rw [if_neg he];have hb:(e == 3)=false:=by simp [he]
  apply d7
  ·intro l K un w Stop St hd d;have hc:=St.clear;refine Br.mc rfl (λu=>stepG_cond (t:=false) (by simpa [Act.eval] using hb)) (λd=>?_) _;simp only [if_false,Bool.false_eq_true];refine Br.l9 (λd=>?_) _;refine Br.b8 (λd=>?_) _;refine Br.b9 (λd=>?_) _;simp only [Br.rz,Br.ix,Nat.reduceAdd];(iterate 2(refine Br.mo rfl rfl λd K' hK=>?_;go_simp;refine hK _ _ ⟨rfl,?_⟩;clear hK K'));refine Br.a9 (λd=>?_) _;refine Br.q8 (λd=>?_) _;exact Br.m8 (v:=.int .i64 why) rfl rfl Tryd.func91 (resultsC_tmp (t:=10) rfl _) hd _
   done
  exact hn why go'
def Sl.take (s:Sl)(i:Nat):Sl:=⟨s.blk,s.cap,s.xs.take i⟩
theorem Sl.take_ok {s:Sl}{pv:List Nat}{H:w9}(h:s.ok pv H)(i:Nat):(s.take i).ok pv H:=by
 refine ⟨by simp only [Sl.take,List.length_take];have:=h.1;omega,?_⟩;rcases h.2 with h|⟨b,c,t,h1,h2,h3,h4⟩
 ·exact .inl (by simp [Sl.take,h])
 ·refine .inr ⟨b,c,t,h1,h2,h3,λj x hx=>h4 j x ?_⟩;simp only [Sl.take,List.getElem?_take] at hx;split at hx
  ·exact hx
  ·cases hx
theorem Sl.take_all (s:Sl):s.take s.xs.length=s:=by simp [Sl.take]
def a3e (child:Int):List Int->Nat->M (Nat × Int)
 | [],i=>M.pure (i,0)
 | y::ys,i=>(V3 7 child y y).bind λz=>if z.2=0 then a3e child ys (i+1) else M.pure (i,z.2)
noncomputable def a4l:List Item :=
 match Tryd.f89.body with
 | some (.seq _ (.seq (.seq _ (.block i (.loop c))) r))=>[.code c,.inLoop c,.inBlock i,.code r]
 | _=>[]
theorem b4n (child:Int)(ps:Sl)(hps:ps.ok pv H)(hcap:ps.xs.length<=ps.cap)(fr:Frame)(cs:List Frame)(k:Nat × Int->Bool->q7)
  (hn:∀ i e go',o9 C n (k (i,e) go') pv H free go' (G (fr.finish (.tuple #[(ps.take i).val,.int .i64 e])) cs)) :
  ∀ (ys:List Int) (i:Nat),(∀ j,ys[j]?=ps.xs[i+j]?)->i+ys.length=ps.xs.length->∀ (go:Bool) (j8 j9 j10 j11 j15 j16 j17 j18 j19 j20 j21 j22 j23 j24 j25 j26 j27 j28 j29 j30 j31 j32 j33 j34:Value),
  o9 C n ((a3e child ys i).then go k) pv H free go (G ((base 89).at ⟨#[pO C.o,.int .i64 child,ps.val,undef,undef,undef,.slice none 0 0,.int .i64 0,j8,j9,j10,j11,ps.val,.int .i64 ps.xs.length,.int .i64 i,j15,j16,j17,j18,j19,j20,j21,j22,j23,j24,j25,j26,j27,j28,j29,j30,j31,j32,j33,j34,undef],[]⟩ a4l) (fr::cs)):=by
 intro ys
 induction ys with
 | nil =>
  intro i hy hl go j8 j9 j10 j11 j15 j16 j17 j18 j19 j20 j21 j22 j23 j24 j25 j26 j27 j28 j29 j30 j31 j32 j33 j34;have hi:i=ps.xs.length:=by simpa using hl
  subst hi;have h:=hn ps.xs.length 0 go;rw [Sl.take_all] at h;unfold a3e;rw [M.pure_then];unfold a4l;simp only [Tryd.f89,pO] at *;apply d7
  ·intro l K un w Stop St hd d;have hc:=St.clear;refine Br.b8 (λd=>?_) _;refine Br.b9 (λd=>?_) _;simp only [Br.rz,Br.ix,Nat.reduceAdd];refine Br.mo rfl rfl λd K' hK=>?_;go_simp;refine hK _ _ ⟨rfl,?_⟩;clear hK K';refine Br.a9 (λd=>?_) _;refine Br.b8 (λd=>?_) _;refine Br.mc rfl (λu=>stepG_cond (t:=false) (by simp [Act.eval])) (λd=>?_) _;simp only [if_false,Bool.false_eq_true];refine Br.mc rfl (λu=>stepG_exit rfl) (λd=>?_) _;refine Br.b8 (λd=>?_) _;refine Br.b9 (λd=>?_) _;simp only [Br.rz,Br.ix,Nat.reduceAdd];(iterate 3(refine Br.mo rfl rfl λd K' hK=>?_;go_simp;refine hK _ _ ⟨rfl,?_⟩;clear hK K'));refine Br.a9 (λd=>?_) _;refine Br.q8 (λd=>?_) _;exact Br.m8 (v:=.tuple #[ps.val,.int .i64 0]) rfl rfl Tryd.func89 (resultsC_tmp2 (t:=6) (u:=7) rfl _) hd _
   done
  exact h
 | cons y ys ih =>
  intro i hy hl go j8 j9 j10 j11 j15 j16 j17 j18 j19 j20 j21 j22 j23 j24 j25 j26 j27 j28 j29 j30 j31 j32 j33 j34;have hx:ps.xs[i]?=some y:=by have:=hy 0;simpa using this.symm
  have hlt:i<ps.xs.length:=by simp at hl;omega
  have hle:=hps.1;obtain ⟨b,c,t,h1,h2,h3,h4⟩:=hps.2.resolve_left (λh=>by rw [h] at hx;simp at hx);have hv:ps.val=.slice (some ⟨b,0,none⟩) ps.xs.length ps.cap:=by simp [Sl.val,h1]
  have hv':(ps.take i).val=.slice (some ⟨b,0,none⟩) i ps.cap:=by simp [Sl.val,Sl.take,h1];omega
  unfold a3e;rw [M.bind_then];have ih':=λgo=>ih (i+1) (λj=>(by have:=hy (j+1);rw [show i+1+j=i+(j+1) by omega,← this];simp)) (by simp at hl;omega) go;unfold a4l at *;simp only [Tryd.f89,pO] at *;have hlt':(i:Int)<(ps.xs.length:Int):=by omega
  apply d7
  ·intro l K un w Stop St hd d;have hc:=St.clear;refine Br.b8 (λd=>?_) _;refine Br.b9 (λd=>?_) _;simp only [Br.rz,Br.ix,Nat.reduceAdd];refine Br.mo rfl rfl λd K' hK=>?_;go_simp;refine hK _ _ ⟨rfl,?_⟩;clear hK K';refine Br.a9 (λd=>?_) _;refine Br.b8 (λd=>?_) _;refine Br.mc rfl (λu=>stepG_cond (t:=true) (by simp [Act.eval,hlt])) (λd=>?_) _;simp only [if_true];refine Br.l9 (λd=>?_) _;refine Br.b8 (λd=>?_) _;refine Br.mc rfl (λu=>stepG_block) (λd=>?_) _;refine Br.b8 (λd=>?_) _;refine Br.b9 (λd=>?_) _;simp only [Br.rz,Br.ix,Nat.reduceAdd]
   try simp only [hv]
   refine Br.mo rfl rfl λd K' hK=>?_;go_simp;refine hK _ _ ⟨rfl,?_⟩;clear hK K';refine Br.mo rfl rfl λd K' hK=>?_;have hi0:(0:Int)<=i:=Int.natCast_nonneg i;go_simp;refine hK _ _ ⟨rfl,?_⟩;clear hK K';refine Br.mo rfl rfl λd K' hK=>?_;have ec:(w.at d).cell? ⟨b,i,none⟩=some (.int .i64 y):=St.cell h2 h3 (h4 i y hx);go_simp;refine hK _ _ ⟨rfl,?_⟩;clear hK K';(iterate 2(refine Br.mo rfl rfl λd K' hK=>?_;go_simp;refine hK _ _ ⟨rfl,?_⟩;clear hK K'));refine Br.a9 (λd=>?_) _;refine Br.b8 (λd=>?_) _;refine Br.b9 (λd=>?_) _;simp only [Br.rz,Br.ix,Nat.reduceAdd];(iterate 5(refine Br.mo rfl rfl λd K' hK=>?_;go_simp;refine hK _ _ ⟨rfl,?_⟩;clear hK K'));refine Br.mc rfl (λu=>k6 rfl rfl (by decide) rfl Tryd.func84 rfl rfl (vs:=B7 C.o 7 child y y) (by simp [Act.eval]) u) (λd=>?_) _;exact hd _
  refine N8 7 child y y _ _ _ (λx e go' hg=>?_);rw [Frame.finish_at];apply d7
  ·intro l K un w Stop St hd d;have hc:=St.clear;go_simp;(iterate 5(refine Br.mo rfl rfl λd K' hK=>?_;go_simp;refine hK _ _ ⟨rfl,?_⟩;clear hK K'));refine Br.a9 (λd=>?_) _;refine Br.b8 (λd=>?_) _;refine Br.b9 (λd=>?_) _;simp only [Br.rz,Br.ix,Nat.reduceAdd];(iterate 2(refine Br.mo rfl rfl λd K' hK=>?_;go_simp;refine hK _ _ ⟨rfl,?_⟩;clear hK K'));refine Br.a9 (λd=>?_) _;exact hd _
  by_cases he:e=0
  ·subst he;rw [if_pos rfl];apply d7
   ·intro l K un w Stop St hd d;have hc:=St.clear;refine Br.mc rfl (λu=>stepG_cond (t:=false) rfl) (λd=>?_) _;simp only [if_true,if_false,Bool.false_eq_true,↓reduceIte];refine Br.l9 (λd=>?_) _;refine Br.mc rfl (λu=>stepG_inBlock) (λd=>?_) _;refine Br.b9 (λd=>?_) _;simp only [Br.rz,Br.ix,Nat.reduceAdd];(iterate 2(refine Br.mo rfl rfl λd K' hK=>?_;go_simp;refine hK _ _ ⟨rfl,?_⟩;clear hK K'));refine Br.a9 (λd=>?_) _;refine Br.mc rfl (λu=>stepG_inLoop) (λd=>?_) _;exact hd _
   rw [← hv,J8 (by omega) (by omega),show ((i:Int)+1)=((i+1:Nat):Int) from by simp];exact ih' go' _ _ _ _ _ _ _ _ _ _ _ _ _ _ _ _ _ _ _ _ _ _ _ _
  ·rw [if_neg he,M.pure_then];have hb:(e != 0)=true:=by simp [he]
   have hi0:(0:Int)<=i:=Int.natCast_nonneg i;have hic:i<=ps.cap:=by omega
   have hic':(i:Int)<=(ps.cap:Int):=by omega
   have h:=hn i e go';rw [hv'] at h;apply d7
   ·intro l K un w Stop St hd d;have hc:=St.clear;refine Br.mc rfl (λu=>stepG_cond (t:=true) (by simpa [Act.eval] using hb)) (λd=>?_) _;simp only [if_true];refine Br.b8 (λd=>?_) _;refine Br.b9 (λd=>?_) _;simp only [Br.rz,Br.ix,Nat.reduceAdd];(iterate 6(refine Br.mo rfl rfl λd K' hK=>?_;go_simp;refine hK _ _ ⟨rfl,?_⟩;clear hK K'));refine Br.a9 (λd=>?_) _;refine Br.q8 (λd=>?_) _;exact Br.m8 (v:=.tuple #[.slice (some ⟨b,0,none⟩) i ps.cap,.int .i64 e]) rfl rfl Tryd.func89 (resultsC_tmp2 (t:=6) (u:=7) rfl _) hd _
    done
   exact h
noncomputable def a4m:Code:=(Tryd.f89.body).getD .skip
theorem b1K (o:OpD)(x:Int)(y:Value):Frame.enter Tryd.prog 89 #[pO o,.int .i64 x,y] .normal=(base 89).at ⟨#[pO o,.int .i64 x,y,undef,undef,undef,undef,undef,undef,undef,undef,undef,undef,undef,undef,undef,undef,undef,undef,undef,undef,undef,undef,undef,undef,undef,undef,undef,undef,undef,undef,undef,undef,undef,undef,undef],[]⟩ [.code a4m]:=by
 rw [enter_at (c:=a4m) _ Tryd.func89 rfl];refine congrArg (λt=>(base 89).at ⟨t,[]⟩ [.code a4m]) ?_
 kernel_rfl
theorem b4o (child:Int)(ps:Sl)(hps:ps.ok pv H)(hcap:ps.xs.length<=ps.cap)(fr:Frame)(cs:List Frame)(k:Nat × Int->Bool->q7)
  (hn:∀ i e go',o9 C n (k (i,e) go') pv H free go' (G (fr.finish (.tuple #[(ps.take i).val,.int .i64 e])) cs)) :
  o9 C n ((a3e child ps.xs 0).then go k) pv H free go (G (Frame.enter Tryd.prog 89 #[pO C.o,.int .i64 child,ps.val] .normal) (fr::cs)):=by
 have key:=b4n (C:=C) (n:=n) (free:=free) child ps hps hcap fr cs k hn ps.xs 0 (λj=>by simp) (by simp) go;unfold a4l at key;rw [b1K];simp only [a4m,Tryd.f89,Option.getD_some,pO] at *;have hv:ps.val=.slice (ps.blk.map (⟨·,0,none⟩)) ps.xs.length ps.cap:=rfl;apply d7
 ·intro l K un w Stop St hd d;have hc:=St.clear;refine Br.b8 (λd=>?_) _;refine Br.b9 (λd=>?_) _;simp only [Br.rz,Br.ix,Nat.reduceAdd];(iterate 2(refine Br.mo rfl rfl λd K' hK=>?_;go_simp;refine hK _ _ ⟨rfl,?_⟩;clear hK K'));refine Br.a9 (λd=>?_) _;refine Br.b8 (λd=>?_) _;refine Br.b8 (λd=>?_) _;refine Br.b9 (λd=>?_) _;simp only [Br.rz,Br.ix,Nat.reduceAdd];(iterate 3(refine Br.mo rfl rfl λd K' hK=>?_;go_simp;refine hK _ _ ⟨rfl,?_⟩;clear hK K'));refine Br.a9 (λd=>?_) _;refine Br.mc rfl (λu=>stepG_block) (λd=>?_) _;refine Br.mc rfl (λu=>stepG_loop) (λd=>?_) _;exact hd _
 rw [← hv];exact key _ _ _ _ _ _ _ _ _ _ _ _ _ _ _ _ _ _ _ _ _ _ _ _
theorem Sl.ok_same {s : Sl}{pv : List Nat}{H H' : w9}{fb : Option Nat}(h : s.ok pv H)(hf : s.blk ≠ fb \/ s.blk = none)(hH : ∀ i ∈ pv, some i ≠ fb -> H' i = H i) : s.ok pv H' := by
  refine ⟨h.1, h.2.imp id λ⟨b, c, t, h1, h2, h3, h4⟩ => ⟨b, c, t, h1, h2, ?_, h4⟩⟩
  rw [hH b h2 (by rcases hf with hf | hf
                  · rw [← h1]; exact hf
                  · rw [h1] at hf; cases hf)]
  exact h3
def a0g (child:Int):List Int->Nat->List Int->M ((Nat × Int) × List Int)
 | [],i,xs=>M.pure ((i,0),xs)
 | y::ys,i,xs=>(a3x 6 xs.length child y 0 xs).bind λz=>if z.1=0 then a0g child ys (i+1) z.2 else M.pure ((i,z.1),z.2)
noncomputable def a4n:List Item :=
 match Tryd.f87.body with
 | some (.seq _ (.seq (.seq _ (.block i (.loop c))) r))=>[.code c,.inLoop c,.inBlock i,.code r]
 | _=>[]
theorem b4p (hspec:Z8)(hpl:∀ xs:List Int,xs≠[]->(K8 xs).length=xs.length - 1)(fb:Option Nat)(hfb:∀ b,fb=some b->b∈pv)(H0:w9)(child:Int)(ps:Sl)(hps0:ps.ok pv H0)(hpf:ps.blk≠fb\/ps.blk=none)(hcap:ps.xs.length<=ps.cap)(fr:Frame)(cs:List Frame)(k:(Nat × Int) × List Int->Bool->q7)
  (hn:∀ i e xs' H' free' go',Fr fb pv H' free' xs'->(∀ i∈pv,some i≠fb->H' i=H0 i)->o9 C n (k ((i,e),xs') go') pv H' free' go' (G (fr.finish (.tuple #[(ps.take i).val,.int .i64 e])) cs)) :
  ∀ (ys:List Int) (i:Nat),(∀ j,ys[j]?=ps.xs[i+j]?)->i+ys.length=ps.xs.length->∀ (xs:List Int) (H:w9) (free:Value),Fr fb pv H free xs->(∀ i∈pv,some i≠fb->H i=H0 i)->∀ (go:Bool) (j8 j9 j10 j14 j15 j16 j17 j18 j19 j20 j21 j22 j23 j24 j25 j26 j27 j28 j29:Value),
  o9 C n ((a0g child ys i xs).then go k) pv H free go (G ((base 87).at ⟨#[pO C.o,.int .i64 child,ps.val,undef,undef,undef,.slice none 0 0,.int .i64 0,j8,j9,j10,ps.val,.int .i64 ps.xs.length,.int .i64 i,j14,j15,j16,j17,j18,j19,j20,j21,j22,j23,j24,j25,j26,j27,j28,j29,undef],[]⟩ a4n) (fr::cs)):=by
 intro ys
 induction ys with
 | nil =>
  intro i hy hl xs H free hF hH go j8 j9 j10 j14 j15 j16 j17 j18 j19 j20 j21 j22 j23 j24 j25 j26 j27 j28 j29;have hi:i=ps.xs.length:=by simpa using hl
  subst hi;have h:=hn ps.xs.length 0 xs H free go hF hH;rw [Sl.take_all] at h;unfold a0g;rw [M.pure_then];unfold a4n;simp only [Tryd.f87,pO] at *;apply d7
  ·intro l K un w Stop St hd d;have hc:=St.clear;refine Br.b8 (λd=>?_) _;refine Br.b9 (λd=>?_) _;simp only [Br.rz,Br.ix,Nat.reduceAdd];refine Br.mo rfl rfl λd K' hK=>?_;go_simp;refine hK _ _ ⟨rfl,?_⟩;clear hK K';refine Br.a9 (λd=>?_) _;refine Br.b8 (λd=>?_) _;refine Br.mc rfl (λu=>stepG_cond (t:=false) (by simp [Act.eval])) (λd=>?_) _;simp only [if_false,Bool.false_eq_true];refine Br.mc rfl (λu=>stepG_exit rfl) (λd=>?_) _;refine Br.b8 (λd=>?_) _;refine Br.b9 (λd=>?_) _;simp only [Br.rz,Br.ix,Nat.reduceAdd];(iterate 3(refine Br.mo rfl rfl λd K' hK=>?_;go_simp;refine hK _ _ ⟨rfl,?_⟩;clear hK K'));refine Br.a9 (λd=>?_) _;refine Br.q8 (λd=>?_) _;exact Br.m8 (v:=.tuple #[ps.val,.int .i64 0]) rfl rfl Tryd.func87 (resultsC_tmp2 (t:=6) (u:=7) rfl _) hd _
   done
  exact h
 | cons y ys ih =>
  intro i hy hl xs H free hF hH go j8 j9 j10 j14 j15 j16 j17 j18 j19 j20 j21 j22 j23 j24 j25 j26 j27 j28 j29;have hps:=Sl.ok_same hps0 hpf hH;have hx:ps.xs[i]?=some y:=by have:=hy 0;simpa using this.symm
  have hlt:i<ps.xs.length:=by simp at hl;omega
  have hle:=hps.1;obtain ⟨b,c,t,h1,h2,h3,h4⟩:=hps.2.resolve_left (λh=>by rw [h] at hx;simp at hx);have hv:ps.val=.slice (some ⟨b,0,none⟩) ps.xs.length ps.cap:=by simp [Sl.val,h1]
  have hv':(ps.take i).val=.slice (some ⟨b,0,none⟩) i ps.cap:=by simp [Sl.val,Sl.take,h1];omega
  unfold a0g;rw [M.bind_then];have ih':=ih (i+1) (λj=>(by have:=hy (j+1);rw [show i+1+j=i+(j+1) by omega,← this];simp)) (by simp at hl;omega);unfold a4n at *;simp only [Tryd.f87,pO] at *;have hlt':(i:Int)<(ps.xs.length:Int):=by omega
  apply d7
  ·intro l K un w Stop St hd d;have hc:=St.clear;refine Br.b8 (λd=>?_) _;refine Br.b9 (λd=>?_) _;simp only [Br.rz,Br.ix,Nat.reduceAdd];refine Br.mo rfl rfl λd K' hK=>?_;go_simp;refine hK _ _ ⟨rfl,?_⟩;clear hK K';refine Br.a9 (λd=>?_) _;refine Br.b8 (λd=>?_) _;refine Br.mc rfl (λu=>stepG_cond (t:=true) (by simp [Act.eval,hlt])) (λd=>?_) _;simp only [if_true];refine Br.l9 (λd=>?_) _;refine Br.b8 (λd=>?_) _;refine Br.mc rfl (λu=>stepG_block) (λd=>?_) _;refine Br.b8 (λd=>?_) _;refine Br.b9 (λd=>?_) _;simp only [Br.rz,Br.ix,Nat.reduceAdd]
   try simp only [hv]
   refine Br.mo rfl rfl λd K' hK=>?_;go_simp;refine hK _ _ ⟨rfl,?_⟩;clear hK K';refine Br.mo rfl rfl λd K' hK=>?_;have hi0:(0:Int)<=i:=Int.natCast_nonneg i;go_simp;refine hK _ _ ⟨rfl,?_⟩;clear hK K';refine Br.mo rfl rfl λd K' hK=>?_;have ec:(w.at d).cell? ⟨b,i,none⟩=some (.int .i64 y):=St.cell h2 h3 (h4 i y hx);go_simp;refine hK _ _ ⟨rfl,?_⟩;clear hK K';(iterate 2(refine Br.mo rfl rfl λd K' hK=>?_;go_simp;refine hK _ _ ⟨rfl,?_⟩;clear hK K'));refine Br.a9 (λd=>?_) _;refine Br.b8 (λd=>?_) _;refine Br.b9 (λd=>?_) _;simp only [Br.rz,Br.ix,Nat.reduceAdd];(iterate 4(refine Br.mo rfl rfl λd K' hK=>?_;go_simp;refine hK _ _ ⟨rfl,?_⟩;clear hK K'));refine Br.mc rfl (λu=>k6 rfl rfl (by decide) rfl Tryd.func81 rfl rfl (vs:=#[pO C.o,.int .i64 6,.agg #[.int .i64 child,.int .i64 y,.int .i64 0],.int .i64 2]) (by simp [Act.eval]) u) (λd=>?_) _;exact hd _
  refine b1I hspec hpl hF hfb 6 child y 0 _ _ _ (λe xs' H' free' go' hF' hH'=>?_);have hHH:∀ i∈pv,some i≠fb->H' i=H0 i:=λi hi hf=>(hH' i hi hf).trans (hH i hi hf);rw [Frame.finish_at];apply d7
  ·intro l K un w Stop St hd d;have hc:=St.clear;go_simp;refine Br.mo rfl rfl λd K' hK=>?_;go_simp;refine hK _ _ ⟨rfl,?_⟩;clear hK K';refine Br.a9 (λd=>?_) _;refine Br.b8 (λd=>?_) _;refine Br.b9 (λd=>?_) _;simp only [Br.rz,Br.ix,Nat.reduceAdd];(iterate 2(refine Br.mo rfl rfl λd K' hK=>?_;go_simp;refine hK _ _ ⟨rfl,?_⟩;clear hK K'));refine Br.a9 (λd=>?_) _;exact hd _
  by_cases he:e=0
  ·subst he;rw [if_pos rfl];apply d7
   ·intro l K un w Stop St hd d;have hc:=St.clear;refine Br.mc rfl (λu=>stepG_cond (t:=false) rfl) (λd=>?_) _;simp only [if_true,if_false,Bool.false_eq_true,↓reduceIte];refine Br.l9 (λd=>?_) _;refine Br.mc rfl (λu=>stepG_inBlock) (λd=>?_) _;refine Br.b9 (λd=>?_) _;simp only [Br.rz,Br.ix,Nat.reduceAdd];(iterate 2(refine Br.mo rfl rfl λd K' hK=>?_;go_simp;refine hK _ _ ⟨rfl,?_⟩;clear hK K'));refine Br.a9 (λd=>?_) _;refine Br.mc rfl (λu=>stepG_inLoop) (λd=>?_) _;exact hd _
   rw [← hv,J8 (by omega) (by omega),show ((i:Int)+1)=((i+1:Nat):Int) from by simp];exact ih' xs' H' free' hF' hHH go' _ _ _ _ _ _ _ _ _ _ _ _ _ _ _ _ _ _ _
  ·rw [if_neg he,M.pure_then];have hb:(e != 0)=true:=by simp [he]
   have hi0:(0:Int)<=i:=Int.natCast_nonneg i;have hic:i<=ps.cap:=by omega
   have hic':(i:Int)<=(ps.cap:Int):=by omega
   have h:=hn i e xs' H' free' go' hF' hHH;rw [hv'] at h;apply d7
   ·intro l K un w Stop St hd d;have hc:=St.clear;refine Br.mc rfl (λu=>stepG_cond (t:=true) (by simpa [Act.eval] using hb)) (λd=>?_) _;simp only [if_true];refine Br.b8 (λd=>?_) _;refine Br.b9 (λd=>?_) _;simp only [Br.rz,Br.ix,Nat.reduceAdd];(iterate 6(refine Br.mo rfl rfl λd K' hK=>?_;go_simp;refine hK _ _ ⟨rfl,?_⟩;clear hK K'));refine Br.a9 (λd=>?_) _;refine Br.q8 (λd=>?_) _;exact Br.m8 (v:=.tuple #[.slice (some ⟨b,0,none⟩) i ps.cap,.int .i64 e]) rfl rfl Tryd.func87 (resultsC_tmp2 (t:=6) (u:=7) rfl _) hd _
    done
   exact h
noncomputable def a4o:Code:=(Tryd.f87.body).getD .skip
theorem b1L (o:OpD)(x:Int)(y:Value):Frame.enter Tryd.prog 87 #[pO o,.int .i64 x,y] .normal=(base 87).at ⟨#[pO o,.int .i64 x,y,undef,undef,undef,undef,undef,undef,undef,undef,undef,undef,undef,undef,undef,undef,undef,undef,undef,undef,undef,undef,undef,undef,undef,undef,undef,undef,undef,undef],[]⟩ [.code a4o]:=by
 rw [enter_at (c:=a4o) _ Tryd.func87 rfl];refine congrArg (λt=>(base 87).at ⟨t,[]⟩ [.code a4o]) ?_
 kernel_rfl
theorem b4q (hspec:Z8)(hpl:∀ xs:List Int,xs≠[]->(K8 xs).length=xs.length - 1){fb:Option Nat}(hfb:∀ b,fb=some b->b∈pv)(child:Int)(ps:Sl)(hps:ps.ok pv H)(hpf:ps.blk≠fb\/ps.blk=none)(hcap:ps.xs.length<=ps.cap){xs:List Int}(hF:Fr fb pv H free xs)(fr:Frame)(cs:List Frame)(k:(Nat × Int) × List Int->Bool->q7)
  (hn:∀ i e xs' H' free' go',Fr fb pv H' free' xs'->(∀ i∈pv,some i≠fb->H' i=H i)->o9 C n (k ((i,e),xs') go') pv H' free' go' (G (fr.finish (.tuple #[(ps.take i).val,.int .i64 e])) cs)) :
  o9 C n ((a0g child ps.xs 0 xs).then go k) pv H free go (G (Frame.enter Tryd.prog 87 #[pO C.o,.int .i64 child,ps.val] .normal) (fr::cs)):=by
 have key:=b4p (C:=C) (n:=n) hspec hpl fb hfb H child ps hps hpf hcap fr cs k hn ps.xs 0 (λj=>by simp) (by simp) xs H free hF (λ_ _ _=>rfl) go;unfold a4n at key;rw [b1L];simp only [a4o,Tryd.f87,Option.getD_some,pO] at *;have hv:ps.val=.slice (ps.blk.map (⟨·,0,none⟩)) ps.xs.length ps.cap:=rfl;apply d7
 ·intro l K un w Stop St hd d;have hc:=St.clear;refine Br.b8 (λd=>?_) _;refine Br.b9 (λd=>?_) _;simp only [Br.rz,Br.ix,Nat.reduceAdd];(iterate 2(refine Br.mo rfl rfl λd K' hK=>?_;go_simp;refine hK _ _ ⟨rfl,?_⟩;clear hK K'));refine Br.a9 (λd=>?_) _;refine Br.b8 (λd=>?_) _;refine Br.b8 (λd=>?_) _;refine Br.b9 (λd=>?_) _;simp only [Br.rz,Br.ix,Nat.reduceAdd];(iterate 3(refine Br.mo rfl rfl λd K' hK=>?_;go_simp;refine hK _ _ ⟨rfl,?_⟩;clear hK K'));refine Br.a9 (λd=>?_) _;refine Br.mc rfl (λu=>stepG_block) (λd=>?_) _;refine Br.mc rfl (λu=>stepG_loop) (λd=>?_) _;exact hd _
 rw [← hv];exact key _ _ _ _ _ _ _ _ _ _ _ _ _ _ _ _ _ _ _
end
structure Gain (pv:List Nat) (H:w9) (v v':World) (bs:List Nat) (Hn:w9):Prop where
 size:v.heap.size<=v'.heap.size
 old:∀ k,k<v.heap.size->v'.heap[k]?=v.heap[k]?
 new:∀ b∈bs,v.heap.size<=b/\v'.heap[b]?=some (Hn b)
 keep:∀ i∈pv,Hn i=H i
section
variable {C:Ctx} {n:Nat} {s:q7} {pv:List Nat} {H:w9} {free:Value} {go:Bool}
theorem At.gain {l:List OpD}{K:Ker}{un:Bool}{w w':World}(A:At C l K pv H free un go w)(hfit:Fit (sfO l) w')(hsz:w.heap.size<=w'.heap.size)(hk:∀ k,k<w.heap.size->w'.heap[k]?=w.heap[k]?){bs:List Nat}{Hn:w9}(hb:∀ b∈bs,w.heap.size<=b/\w'.heap[b]?=some (Hn b)) :
  At C l K (pv ++ bs) (λi=>if i<w.heap.size then H i else Hn i) free un go w':=by
 have hlt:∀ i∈pv,i<w.heap.size:=λi hi=>(Array.getElem?_eq_some_iff.1 (A.has i hi)).1;have hR:=A.env.rep;refine ⟨⟨hR.same hsz (λk h _=>hk k h),A.env.tab.same (hk 0 A.env.tab.lt),A.env.inv,hfit,λo ho=>?_,A.env.ap⟩,A.mem,⟨List.mem_append_left _ A.own.rc,λi hi=>?_⟩,λi hi=>?_,?_,A.top,λi hi h0 o ho=>?_⟩
 ·obtain ⟨c,t,h0,h1⟩:=A.env.ko o ho;exact ⟨c,t,by rw [hk _ (Br.KO.lt A.env.ko ho)];exact h0,h1⟩
 ·rcases List.mem_append.1 hi with hi|hi
  ·exact A.own.ap i hi
  ·have:=(hb i hi).1;have:=hR.lk;have:=hR.lf;have:=hR.ls;have:=hR.ld;have:=A.env.tab.lt;refine ⟨?_,?_,?_,?_,?_⟩<;>omega
 ·rcases List.mem_append.1 hi with hi|hi
  ·have:=hlt i hi;simp only [this,if_true];rw [hk i this];exact A.has i hi
  ·obtain ⟨h1,h2⟩:=hb i hi;simp only [show ¬ (i<w.heap.size) by omega,if_false];exact h2
 ·obtain ⟨t,h⟩:=A.row;have:=hlt _ A.own.rc;exact ⟨t,by simp only [this,if_true];exact h⟩
 ·rcases List.mem_append.1 hi with hi|hi
  ·exact A.far i hi h0 o ho
  ·have:=Br.KO.lt A.env.ko ho;have:=(hb i hi).1;omega
theorem Sta.lone {l:List OpD}{K:Ker}{un:Bool}{w v:World}(St:Sta C l K pv H free un go w){d:Nat}(hv:Lk (sfO l) v (w.at d)):∀ i∈pv,i<v.heap.size/\(Br.Obj.sight (H i)->v.heap[i]?=some (H i)):=λi hi=>by
 obtain ⟨H',A,hH⟩:=St;have hz:sfO l i=0:=Br.G6 λo ho=>A.far i (List.mem_cons_of_mem _ hi) (hH i hi).1 o ho;have hh:=A.has i (List.mem_cons_of_mem _ hi);refine ⟨by rw [hv.size];exact (Array.getElem?_eq_some_iff.1 hh).1,λhs=>?_⟩;rw [hv.heap,show (w.at d).heap=w.heap from rfl,hh,(hH i hi).2,hz,Option.map_some,Br.a1s hs]
theorem Sta.gain {l:List OpD}{K:Ker}{un:Bool}{w w' v v':World}(St:Sta C l K pv H free un go w){d:Nat}(hv:Lk (sfO l) v (w.at d))(hv':Lk (sfO l) v' w')(hkp:Br.Kept (sfO l) (w.at d) w'){bs:List Nat}{Hn:w9}(hG:Gain pv H v v' bs Hn) :
  Sta C l K (bs ++ pv) Hn free un go w'/\Mine C (C.o.bo::pv) w w'/\Sub (C.o.bo::(bs ++ pv)) (C.o.bo::pv) w/\∀ b∈bs,b ∉ pv/\b≠C.o.bo:=by
 obtain ⟨H',A,hH⟩:=St;have hs:v.heap.size=w.heap.size:=hv.size;have hs':v'.heap.size=w'.heap.size:=hv'.size;have hz:w.heap.size<=w'.heap.size:=by have:=hG.size;omega
 have hk:∀ k,k<w.heap.size->w'.heap[k]?=w.heap[k]?:=λk hk=>H7 (w:=w.at d) hkp hv hv' (hG.old k (by omega));have hlt:∀ i∈C.o.bo::pv,i<w.heap.size:=λi hi=>(Array.getElem?_eq_some_iff.1 (A.has i hi)).1;have hb:∀ b∈bs,w.heap.size<=b/\w'.heap[b]?=some (Hn b):=λb hb=>by
  obtain ⟨h1,h2⟩:=hG.new b hb;rw [hs] at h1;have hz:sfO l b=0:=Br.G6 λo ho=>by have:=Br.KO.lt A.env.ko ho;omega
  refine ⟨h1,?_⟩;rw [hv'.heap,hz] at h2
  cases e:w'.heap[b]? with
  | none=>rw [e] at h2;cases h2
  | some o=>rw [e,Option.map_some,Br.a1s (hkp.new b o h1 e)] at h2;exact h2
 have hnew:∀ b∈bs,b ∉ pv/\b≠C.o.bo:=λb hb'=>⟨λh=>by have:=hlt _ (List.mem_cons_of_mem _ h);have:=(hb b hb').1;omega,λe=>by have:=hlt _ (List.mem_cons_self ..);have:=(hb b hb').1;omega⟩
 refine ⟨⟨_,(A.gain hv'.fit hz hk hb).fewer (pv':=C.o.bo::(bs ++ pv)) (λi hi=>?_) (List.mem_cons_self ..) (λ_ _=>rfl),λi hi=>?_⟩,⟨hz,λk h _ _ _ _=>hk k h⟩,λi hi=>?_,hnew⟩
 ·rcases List.mem_cons.1 hi with rfl|hi
  ·exact List.mem_append_left _ (List.mem_cons_self ..)
  ·rcases List.mem_append.1 hi with hi|hi
   ·exact List.mem_append_right _ hi
   ·exact List.mem_append_left _ (List.mem_cons_of_mem _ hi)
 ·rcases List.mem_append.1 hi with hi|hi
  ·refine ⟨(hnew i hi).2,?_⟩;have:=(hb i hi).1;simp only [show ¬ (i<w.heap.size) by omega,if_false]
  ·refine ⟨(hH i hi).1,?_⟩;have:=hlt i (List.mem_cons_of_mem _ hi);simp only [this,if_true];rw [(hH i hi).2,hG.keep i hi]
 ·rcases List.mem_cons.1 hi with rfl|hi
  ·exact .inl (List.mem_cons_self ..)
  ·rcases List.mem_append.1 hi with hi|hi
   ·exact .inr (hb i hi).1
   ·exact .inl (List.mem_cons_of_mem _ hi)
theorem b6X {f:FuncId}(hf:Br.Sg f=true){args:Array Value}{R:Value->List Nat->w9->Prop}
  (hspec:∀ v:World,(∀ i∈pv,i<v.heap.size/\(Br.Obj.sight (H i)->v.heap[i]?=some (H i)))->Calls Tryd.prog f args v (λe v'=>∃ x bs Hn,e=.returned x/\Gain pv H v v' bs Hn/\R x bs Hn))
  (fr:Frame)(cs:List Frame)(hn:∀ x bs Hn,R x bs Hn->(∀ b∈bs,b ∉ pv/\b≠C.o.bo)->(∀ i∈pv,Hn i=H i)->o9 C n s (bs ++ pv) Hn free go (G (fr.finish x) cs)) :
  o9 C n s pv H free go (G (Frame.enter Tryd.prog f args .normal) (fr::cs)):=by
 refine X7 (R:=λpv' H' free' g'=>∃ x bs,R x bs H'/\(∀ b∈bs,b ∉ pv/\b≠C.o.bo)/\(∀ i∈pv,H' i=H i)/\pv'=bs ++ pv/\free'=free/\g'=G (fr.finish x) cs) (λl K un w Stop St h d=>?_) ?_
 ·have hc:=St.clear;have hfit:Fit (sfO l) (w.at d):=by obtain ⟨H',A,hH⟩:=St;exact ⟨A.env.fit.soft,A.env.fit.clear⟩
  refine (Br.S8 Br.a3j (sft:=sfO l) (w0:=w.at d) hf hfit false (Q:=λx v'=>∃ v bs Hn,Lk (sfO l) v (w.at d)/\Gain pv H v v' bs Hn/\R x bs Hn) (λv hv=>(hspec v (St.lone hv)).mono λe v' he=>?_) fr cs).keep.then ?_
  ·obtain ⟨x,bs,Hn,rfl,h1,h2⟩:=he;exact ⟨v,bs,Hn,hv,h1,h2⟩
  ·rintro g w' ⟨⟨x,v',rfl,hl',v,bs,Hn,hv,h1,h2⟩,hkp⟩;obtain ⟨g1,g2,g3,g4⟩:=St.gain hv hl' hkp h1;exact h _ Hn _ _ w' ⟨x,bs,h2,g4,h1.keep,rfl,rfl,rfl⟩ g1 g2 g3 w'.drawn
 ·rintro pv' H' free' g' ⟨x,bs,h1,h2,h3,rfl,rfl,rfl⟩;exact hn x bs H' h1 h2 h3
theorem a1x {c:Code}(hc:Br.O3 Tryd.prog Br.Sg Br.ms true c=true){a:Act}(ha:a.defers=[]){b:Frame}(hb:b.kind=.normal)(hbf:∃ fn,Tryd.prog.funcs[b.fn]?=some fn){R:Act->List Nat->w9->Prop}
  (hspec:∀ v:World,(∀ i∈pv,i<v.heap.size/\(Br.Obj.sight (H i)->v.heap[i]?=some (H i)))->(∀ j x,(∀ un,(I5 C 0 0 free un go)[j]?=some x)->v.cell? ⟨C.o.bo,j,none⟩=some x)->c.wp Tryd.prog (λe a' v'=>e=.normal/\∃ bs Hn,Gain pv H v v' bs Hn/\R a' bs Hn) a v)
  (k:List Item)(cs:List Frame)(hn:∀ a' bs Hn,R a' bs Hn->(∀ b∈bs,b ∉ pv/\b≠C.o.bo)->(∀ i∈pv,Hn i=H i)->o9 C n s (bs ++ pv) Hn free go (G (b.at a' k) cs)) :
  o9 C n s pv H free go (G (b.at a (.code c::k)) cs):=by
 refine X7 (R:=λpv' H' free' g'=>∃ a' bs,R a' bs H'/\(∀ b∈bs,b ∉ pv/\b≠C.o.bo)/\(∀ i∈pv,H' i=H i)/\pv'=bs ++ pv/\free'=free/\g'=G (b.at a' k) cs) (λl K un w Stop St h d=>?_) ?_
 ·have hfit:Fit (sfO l) (w.at d):=by obtain ⟨H',A,hH⟩:=St;exact ⟨A.env.fit.soft,A.env.fit.clear⟩
  refine (Br.a8N Br.a3j (sft:=sfO l) (w0:=w.at d) hc ha hb hbf hfit false (Q:=λe a' v'=>e=.normal/\∃ v bs Hn,Lk (sfO l) v (w.at d)/\Gain pv H v v' bs Hn/\R a' bs Hn) (λe a w he=>.inl he.1) (λv hv=>?_) k cs).keep.then ?_
  ·refine Code.wp_mono ?_ (hspec v (St.lone hv) (λj x hx=>?_))
   ·rintro e a' v' ⟨h0,bs,Hn,h1,h2⟩;exact ⟨h0,v,bs,Hn,hv,h1,h2⟩
   ·rw [hv.cell];exact St.rcell (hx un)
  ·rintro g w' ⟨⟨e,a',v',⟨he,v,bs,Hn,hv,h1,h2⟩,hl',hg⟩,hkp⟩;obtain ⟨g1,g2,g3,g4⟩:=St.gain hv hl' hkp h1;rcases hg with ⟨_,rfl⟩|⟨h0,_⟩
   ·exact h _ Hn _ _ w' ⟨a',bs,h2,g4,h1.keep,rfl,rfl,rfl⟩ g1 g2 g3 w'.drawn
   ·rw [he] at h0;cases h0
 ·rintro pv' H' free' g' ⟨x,bs,h1,h2,h3,rfl,rfl,rfl⟩;exact hn x bs H' h1 h2 h3
end
end Go.Proofs.YtcgabodkegcpgaaDoor
