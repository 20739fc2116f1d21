/- yield. -/
import Derived.Test.YtcgabodkegcpgaaDoorOpf
set_option linter.unusedVariables false
set_option linter.unusedSimpArgs false
set_option maxHeartbeats 20000000
set_option maxRecDepth 100000
namespace Go.Proofs.YtcgabodkegcpgaaDoor
open Go.Conc Go.RowKit
open Br (OpD KO SO SP sfO Lk Fit Must DL Liv Clear)
section
variable {C:Ctx} {n:Nat} {pv:List Nat} {H:w9} {free:Value} {go:Bool}
theorem Sta.clear {l:List OpD}{K:Ker}{un:Bool}{w:World}(h:Sta C l K pv H free un go w):Clear w:=by obtain ⟨H',A,_⟩:=h;exact A.clear
noncomputable def a2N:Code:=(Tryd.f93.body).getD .skip
theorem b0k (o:OpD)(x:Int):Frame.enter Tryd.prog 93 #[pO o,.int .i64 x] .normal=(base 93).at ⟨#[pO o,.int .i64 x,undef,undef,undef,undef,undef,undef,undef,undef,undef,undef,undef,undef,undef,undef,undef],[]⟩ [.code a2N]:=by
 rw [enter_at (c:=a2N) _ Tryd.func93 rfl];refine congrArg (λt=>(base 93).at ⟨t,[]⟩ [.code a2N]) ?_
 kernel_rfl
def T0 (x:Int):M Int:=(V3 1 0 0 0).bind λr=>M.pure (if r.2≠0 then r.2 else x)
theorem a1I (x:Int)(fr:Frame)(cs:List Frame)(k:Int->Bool->q7)(hn:∀ e go',o9 C n (k e go') pv H free go' (G (fr.finish (.int .i64 e)) cs)) :
  o9 C n ((T0 x).then go k) pv H free go (G (Frame.enter Tryd.prog 93 #[pO C.o,.int .i64 x] .normal) (fr::cs)):=by
 unfold T0;rw [M.bind_then,b0k];simp only [a2N,Tryd.f93,Option.getD_some,pO];apply d7
 ·intro l K un w Stop St hd d;have hc:=St.clear;refine Br.b8 (λd=>?_) _;refine Br.b9 (λd=>?_) _;simp only [Br.rz,Br.ix,Nat.reduceAdd];refine Br.mo rfl rfl λd K' hK=>?_;go_simp;refine hK _ _ ⟨rfl,?_⟩;clear hK K';refine Br.a9 (λd=>?_) _;refine Br.b8 (λd=>?_) _;refine Br.b8 (λd=>?_) _;refine Br.b9 (λd=>?_) _;simp only [Br.rz,Br.ix,Nat.reduceAdd];(iterate 2(refine Br.mo rfl rfl λd K' hK=>?_;go_simp;refine hK _ _ ⟨rfl,?_⟩;clear hK K'));refine Br.mc rfl (λu=>k6 rfl rfl (by decide) rfl Tryd.func84 rfl rfl (vs:=B7 C.o 1 0 0 0) (by simp [Act.eval]) u) (λd=>?_) _;exact hd _
 refine N8 1 0 0 0 _ _ _ (λx' e go' hgo=>?_);rw [M.pure_then,Frame.finish_at];apply d7
 ·intro l K un w Stop St hd d;have hc:=St.clear;go_simp;(iterate 5(refine Br.mo rfl rfl λd K' hK=>?_;go_simp;refine hK _ _ ⟨rfl,?_⟩;clear hK K'));refine Br.a9 (λd=>?_) _;refine Br.b8 (λd=>?_) _;refine Br.b9 (λd=>?_) _;simp only [Br.rz,Br.ix,Nat.reduceAdd];(iterate 2(refine Br.mo rfl rfl λd K' hK=>?_;go_simp;refine hK _ _ ⟨rfl,?_⟩;clear hK K'));refine Br.a9 (λd=>?_) _;exact hd _
 by_cases he:e=0
 ·subst he;apply d7
  ·intro l K un w Stop St hd d;have hc:=St.clear;refine Br.mc rfl (λu=>stepG_cond (t:=false) rfl) (λd=>?_) _;simp only [if_true,if_false,Bool.false_eq_true,↓reduceIte];refine Br.l9 (λd=>?_) _;refine Br.b8 (λd=>?_) _;refine Br.b9 (λd=>?_) _;simp only [Br.rz,Br.ix,Nat.reduceAdd];(iterate 2(refine Br.mo rfl rfl λd K' hK=>?_;go_simp;refine hK _ _ ⟨rfl,?_⟩;clear hK K'));refine Br.a9 (λd=>?_) _;refine Br.q8 (λd=>?_) _;exact Br.m8 (v:=.int .i64 x) rfl rfl Tryd.func93 (resultsC_tmp (t:=4) rfl _) hd _
   done
  simpa using hn x go'
 ·have hb:(e != 0)=true:=by simp [he]
  apply d7
  ·intro l K un w Stop St hd d;have hc:=St.clear;refine Br.mc rfl (λu=>stepG_cond (t:=true) (by simpa [Act.eval] using hb)) (λd=>?_) _;simp only [if_true];refine Br.b8 (λd=>?_) _;refine Br.b9 (λd=>?_) _;simp only [Br.rz,Br.ix,Nat.reduceAdd];(iterate 2(refine Br.mo rfl rfl λd K' hK=>?_;go_simp;refine hK _ _ ⟨rfl,?_⟩;clear hK K'));refine Br.a9 (λd=>?_) _;refine Br.q8 (λd=>?_) _;exact Br.m8 (v:=.int .i64 e) rfl rfl Tryd.func93 (resultsC_tmp (t:=4) rfl _) hd _
   done
  simpa [he] using hn e go'
end
section
variable {C:Ctx} {n:Nat} {s:q7} {pv:List Nat} {H:w9} {free:Value} {go:Bool} {g:Goroutine}
theorem Sta.blk {l:List OpD}{K:Ker}{un:Bool}{w:World}(h:Sta C l K pv H free un go w){i:Nat}(hi:i∈pv):w.heap[i]?=some (H i):=by
 obtain ⟨H',A,hH⟩:=h;rw [A.has i (List.mem_cons_of_mem _ hi),(hH i hi).2]
theorem Sta.cell {l:List OpD}{K:Ker}{un:Bool}{w:World}{d:Nat}(h:Sta C l K pv H free un go w){i:Nat}(hi:i∈pv){c:Array Value}{t:TypeId}{f:Nat × Nat}(hH:H i=.cells c t f){j:Nat}{x:Value}(hx:c[j]?=some x):(w.at d).cell? ⟨i,j,none⟩=some x:=by
 have:=h.blk hi;show w.cell? _=_;simp only [World.cell?,this,hH];simpa using hx
theorem Sta.rcell {l:List OpD}{K:Ker}{un:Bool}{w:World}{d:Nat}(h:Sta C l K pv H free un go w){j:Nat}{x:Value}(hx:(I5 C 0 0 free un go)[j]?=some x):(w.at d).cell? ⟨C.o.bo,j,none⟩=some x:=by
 obtain ⟨H',A,hH⟩:=h;exact A.cell hx
theorem a0P {g':Nat->Goroutine}{X:Obj}(hX:Br.Obj.sight X)
  (hstep:∀ l K un w b (Stop:Goroutine->World->Prop),b=w.heap.size->Sta C l K pv H free un go w->(∀ d,Must Tryd.prog false (DL true (sfO l)) Stop (g' b) ((w.alloc X).at d))->∀ d,Must Tryd.prog false (DL true (sfO l)) Stop g (w.at d))
  (hn:∀ b,b ∉ pv->b≠C.o.bo->o9 C n s (b::pv) (H.set b X) free go (g' b)):o9 C n s pv H free go g:=by
 refine X7 (R:=λpv' H' free' g''=>∃ b,b ∉ pv/\b≠C.o.bo/\pv'=b::pv/\H'=H.set b X/\free'=free/\g''=g' b) (λl K un w Stop St h d=>?_) (λpv' H' free' g'' ⟨b,h0,h1,h2,h3,h4,h5⟩=>by subst h2 h3 h4 h5;exact hn b h0 h1);obtain ⟨H',A,hH⟩:=St;have hlt:∀ i∈C.o.bo::pv,i<w.heap.size:=λi hi=>(Array.getElem?_eq_some_iff.1 (A.has i hi)).1;have hb0:w.heap.size ∉ pv:=λhi=>by have:=hlt _ (List.mem_cons_of_mem _ hi);omega
 have hb1:w.heap.size≠C.o.bo:=λe=>by have:=hlt _ (List.mem_cons_self ..);omega
 refine hstep l K un w _ Stop rfl ⟨H',A,hH⟩ (h _ _ _ _ _ ⟨w.heap.size,hb0,hb1,rfl,rfl,rfl,rfl⟩ ?_ (a3u _ _) (λi hi=>?_)) d
 ·refine ⟨H'.set w.heap.size X,(A.alloc hX).fewer (λi hi=>?_) (List.mem_cons_self ..) (λ_ _=>rfl),λi hi=>?_⟩
  ·rcases List.mem_cons.1 hi with rfl|hi
   ·exact List.mem_cons_of_mem _ (List.mem_cons_self ..)
   ·rcases List.mem_cons.1 hi with rfl|hi
    ·exact List.mem_cons_self ..
    ·exact List.mem_cons_of_mem _ (List.mem_cons_of_mem _ hi)
  ·rcases List.mem_cons.1 hi with rfl|hi
   ·exact ⟨hb1,by rw [w9.set_same,w9.set_same]⟩
   ·have hne:i≠w.heap.size:=λe=>hb0 (e▸hi);exact ⟨(hH i hi).1,by rw [w9.set_other _ _ hne,w9.set_other _ _ hne];exact (hH i hi).2⟩
 ·rcases List.mem_cons.1 hi with rfl|hi
  ·exact .inl (List.mem_cons_self ..)
  ·rcases List.mem_cons.1 hi with rfl|hi
   ·exact .inr (Nat.le_refl _)
   ·exact .inl (List.mem_cons_of_mem _ hi)
theorem N9 {b:Nat}{X:Obj}(hb:b ∉ pv)(h:o9 C n s pv H free go g):o9 C n s (b::pv) (H.set b X) free go g:=by
 have key:∀ {l K un go w},Sta C l K (b::pv) (H.set b X) free un go w->Sta C l K pv H free un go w:=by
  rintro l K un go w ⟨H',A,hH⟩;refine ⟨H',A.fewer (λi hi=>?_) (List.mem_cons_self ..) (λ_ _=>rfl),λi hi=>?_⟩
  ·rcases List.mem_cons.1 hi with rfl|hi
   ·exact List.mem_cons_self ..
   ·exact List.mem_cons_of_mem _ (List.mem_cons_of_mem _ hi)
  ·obtain ⟨h1,h2⟩:=hH i (List.mem_cons_of_mem _ hi);have hne:i≠b:=λe=>hb (e▸hi);exact ⟨h1,by rw [h2,w9.set_other _ _ hne]⟩
 have sub:∀ {pv0 w0},Sub (C.o.bo::b::pv) pv0 w0->Sub (C.o.bo::pv) pv0 w0:=λh i hi=>by
  rcases List.mem_cons.1 hi with rfl|hi
  ·exact h _ (List.mem_cons_self ..)
  ·exact h i (List.mem_cons_of_mem _ (List.mem_cons_of_mem _ hi))
 exact ⟨λm l w0 pv0 T K un w hm St M S P d=>h.1 m l w0 pv0 T K un w hm (key St) M (sub S) P d,λhg l w0 pv0 K un w St M S d=>h.2 hg l w0 pv0 K un w (key St) M (sub S) d⟩
def b1C (num a b c:Int):List (Int × Int)->Node ⊕ (Int × Bool × List (Int × Int))
 | []=>.inl (.call num a b c)
 | (x,e)::h=>if e=11 then b1C num a b c h else .inr (e,e == 3,h)
def a2r (num a b c:Int):M Int:=λgo h=>if go then .inr (3,true,h) else b1C num a b c h
theorem b1D (num a b c:Int)(k:Int->Bool->q7):(a2r num a b c).then go k=(V3 num a b c).then go (λr go'=>if r.2=11 then (a2r num a b c).then go' k else k r.2 go'):=by
 funext h
 cases go with
 | true=>rfl
 | false =>
  cases h with
  | nil=>rfl
  | cons r h =>
   obtain ⟨x,e⟩:=r;unfold M.then a2r V3;simp only [Bool.false_eq_true,if_false,b1C]
   by_cases he:e=11
   ·subst he;simp
   ·simp [he]
noncomputable def a2O:Code:=(Tryd.f82.body).getD .skip
theorem b0l (o:OpD)(x:Int)(y:Value):Frame.enter Tryd.prog 82 #[pO o,.int .i64 x,y] .normal=(base 82).at ⟨#[pO o,.int .i64 x,y,undef,undef,undef,undef,undef,undef,undef,undef,undef,undef,undef,undef,undef,undef,undef,undef],[]⟩ [.code a2O]:=by
 rw [enter_at (c:=a2O) _ Tryd.func82 rfl];refine congrArg (λt=>(base 82).at ⟨t,[]⟩ [.code a2O]) ?_
 kernel_rfl
noncomputable def a0B:List Item :=
 match Tryd.f82.body with
 | some (.seq _ (.block i (.loop c)))=>[.code c,.inLoop c,.inBlock i]
 | _=>[]
theorem b1E (num a b c:Int)(fr:Frame)(cs:List Frame)(k:Int->Bool->q7)(bx:Nat)(hb:bx ∉ pv):∀ n,(∀ e go',o9 C n (k e go') pv H free go' (G (fr.finish (.int .i64 e)) cs))->∀ (go:Bool) (j7 j8 j9 j10 j11 j12 j13 j14 j15 j16 j17 j18:Value),
  o9 C n ((a2r num a b c).then go k) (bx::pv) (H.set bx (A9 a b c)) free go (G ((base 82).at ⟨#[pO C.o,.int .i64 num,.agg #[.int .i64 a,.int .i64 b,.int .i64 c],undef,undef,.pointer (some ⟨bx,0,none⟩),.int .i64 0,j7,j8,j9,j10,j11,j12,j13,j14,j15,j16,j17,j18],[]⟩ a0B) (fr::cs)):=by
 intro n
 induction n using Nat.strongRecOn with
 | _ n ih =>
 intro hn go j7 j8 j9 j10 j11 j12 j13 j14 j15 j16 j17 j18;have fin:∀ n',n'<=n->(n'<n\/True)->∀ x e go' (hlt:e=11->n'<n) (hg:go'=(e == 3)) (j13:Value),o9 C n' (if e=11 then (a2r num a b c).then go' k else k e go') (bx::pv) (H.set bx (A9 a b c)) free go'
   (G (Frame.finish ((base 82).at ⟨#[pO C.o,.int .i64 num,.agg #[.int .i64 a,.int .i64 b,.int .i64 c],undef,undef,.pointer (some ⟨bx,0,none⟩),.int .i64 0,j7,j8,j9,pO C.o,.int .i64 num,.agg #[.int .i64 a,.int .i64 b,.int .i64 c],j13,j14,j15,j16,j17,j18],[]⟩
    (match a0B with|.code (.block i (.seq (.region _ ops _) r))::t=>.inRegion ops [3,4,5,6,7,8] :: .code r::.inBlock i::t|_=>[])) (.tuple #[.int .i64 x,.int .i64 e])) (fr::cs)):=by
  intro n' hle _ x e go' hlt hg j13;unfold a0B;simp only [Tryd.f82,pO];rw [Frame.finish_at];apply d7
  ·intro l K un w Stop St hd d;have hc:=St.clear;go_simp;(iterate 5(refine Br.mo rfl rfl λd K' hK=>?_;go_simp;refine hK _ _ ⟨rfl,?_⟩;clear hK K'));refine Br.a9 (λd=>?_) _;refine Br.b8 (λd=>?_) _;refine Br.b9 (λd=>?_) _;simp only [Br.rz,Br.ix,Nat.reduceAdd];(iterate 2(refine Br.mo rfl rfl λd K' hK=>?_;go_simp;refine hK _ _ ⟨rfl,?_⟩;clear hK K'));refine Br.a9 (λd=>?_) _;exact hd _
  by_cases he:e=11
  ·subst he;rw [if_pos rfl];apply d7
   ·intro l K un w Stop St hd d;have hc:=St.clear;refine Br.mc rfl (λu=>stepG_cond (t:=false) rfl) (λd=>?_) _;simp only [if_true,if_false,Bool.false_eq_true,↓reduceIte];refine Br.l9 (λd=>?_) _;refine Br.mc rfl (λu=>stepG_inBlock) (λd=>?_) _;refine Br.mc rfl (λu=>stepG_inLoop) (λd=>?_) _;exact hd _
   have h:=ih n' (hlt rfl) (λe go'=>(hn e go').less hle) go' (.int .i64 x) (.int .i64 11) (.tuple #[.int .i64 x,.int .i64 11]) (pO C.o) (.int .i64 num) (.agg #[.int .i64 a,.int .i64 b,.int .i64 c]) (.tuple #[.int .i64 x,.int .i64 11]) (.int .i64 x) (.int .i64 11) (.int .i64 11) (.bool false) j18;unfold a0B at h;simp only [Tryd.f82,pO] at h;exact h
  ·rw [if_neg he];have hb':(e != 11)=true:=by simp [he]
   apply d7
   ·intro l K un w Stop St hd d;have hc:=St.clear;refine Br.mc rfl (λu=>stepG_cond (t:=true) (by simpa [Act.eval] using hb')) (λd=>?_) _;simp only [if_true];refine Br.b8 (λd=>?_) _;refine Br.b9 (λd=>?_) _;simp only [Br.rz,Br.ix,Nat.reduceAdd];(iterate 2(refine Br.mo rfl rfl λd K' hK=>?_;go_simp;refine hK _ _ ⟨rfl,?_⟩;clear hK K'));refine Br.a9 (λd=>?_) _;refine Br.q8 (λd=>?_) _;exact Br.m8 (v:=.int .i64 e) rfl rfl Tryd.func82 (resultsC_tmp (t:=6) rfl _) hd _
    done
   exact N9 hb ((hn e go').less hle)
 rw [b1D];unfold a0B at *;simp only [Tryd.f82,pO] at *;apply d7
 ·intro l K un w Stop St hd d;have hc:=St.clear;refine Br.mc rfl (λu=>stepG_block) (λd=>?_) _;refine Br.b8 (λd=>?_) _;refine Br.b9 (λd=>?_) _;simp only [Br.rz,Br.ix,Nat.reduceAdd];(iterate 2(refine Br.mo rfl rfl λd K' hK=>?_;go_simp;refine hK _ _ ⟨rfl,?_⟩;clear hK K'));refine Br.mo rfl rfl λd K' hK=>?_;have e0:(w.at d).cell? ⟨bx,0,none⟩=some (.int .i64 a):=St.cell (List.mem_cons_self ..) (by rw [w9.set_same]) (by rfl);have e1:(w.at d).cell? ⟨bx,1,none⟩=some (.int .i64 b):=St.cell (List.mem_cons_self ..) (by rw [w9.set_same]) (by rfl);have e2:(w.at d).cell? ⟨bx,2,none⟩=some (.int .i64 c):=St.cell (List.mem_cons_self ..) (by rw [w9.set_same]) (by rfl);go_simp;refine hK _ _ ⟨rfl,?_⟩;clear hK K';refine Br.mc rfl (λu=>k6 rfl rfl (by decide) rfl Tryd.func84 rfl rfl (vs:=B7 C.o num a b c) (by simp [Act.eval]) u) (λd=>?_) _;exact hd _
 refine a6z num a b c _ _ _ (λhg=>?_) (λhg n' hn' x e go' hg'=>?_) (λhg=>?_)
 ·exact fin n (Nat.le_refl _) (.inr trivial) 0 3 true (λh=>by omega) rfl j13
 ·exact fin n' (Nat.le_of_lt hn') (.inr trivial) x e go' (λ_=>hn') hg' j13
 ·exact (fin n (Nat.le_refl _) (.inr trivial) 0 3 true (λh=>by omega) rfl j13).2 rfl
theorem a6A (num a b c:Int)(fr:Frame)(cs:List Frame)(k:Int->Bool->q7)(hn:∀ e go',o9 C n (k e go') pv H free go' (G (fr.finish (.int .i64 e)) cs)) :
  o9 C n ((a2r num a b c).then go k) pv H free go (G (Frame.enter Tryd.prog 82 (B7 C.o num a b c) .normal) (fr::cs)):=by
 have key:=λbx hb=>b1E (C:=C) (H:=H) (free:=free) num a b c fr cs k bx hb n hn go;unfold a0B at key;rw [b0l];simp only [a2O,Tryd.f82,Option.getD_some,pO] at *;apply a0P (X:=A9 a b c) trivial
 ·intro l K un w bx Stop hbx St hd d;have hc:=St.clear;refine Br.b8 (λd=>?_) _;refine Br.b9 (λd=>?_) _;simp only [Br.rz,Br.ix,Nat.reduceAdd];refine Br.t8 rfl rfl (by decide) (λd K' hK=>?_) _;go_simp;refine hK _ _ ⟨Br.L7 (λe he=>?_),?_⟩
  ·have hm:=mem_listed he;simp [go_sem] at hm
  clear hK K';have hc:Clear (w.alloc (A9 a b c)):=(Br.a0K hc.lk (o:=A9 a b c) trivial).1.sight;rw [show (w.at d).alloc (A9 a b c)=(w.alloc (A9 a b c)).at d from rfl];refine Br.mo rfl rfl λd K' hK=>?_;go_simp;refine hK _ _ ⟨rfl,?_⟩;clear hK K';refine Br.a9 (λd=>?_) _;refine Br.mc rfl (λu=>stepG_block) (λd=>?_) _;refine Br.mc rfl (λu=>stepG_loop) (λd=>?_) _;rw [← hbx];exact hd _
 exact λbx hb _=>key bx hb _ _ _ _ _ _ _ _ _ _ _ _
end
section
variable {C:Ctx} {n:Nat} {pv:List Nat} {H:w9} {free:Value} {go:Bool}
noncomputable def a4h:Code:=(Tryd.f83.body).getD .skip
theorem b1F (o:OpD)(x y:Int):Frame.enter Tryd.prog 83 #[pO o,.int .i64 x,.int .i64 y] .normal=(base 83).at ⟨#[pO o,.int .i64 x,.int .i64 y,undef,undef,undef,undef,undef,undef,undef,undef,undef,undef,undef,undef,undef,undef,undef,undef,undef,undef,undef,undef],[]⟩ [.code a4h]:=by
 rw [enter_at (c:=a4h) _ Tryd.func83 rfl];refine congrArg (λt=>(base 83).at ⟨t,[]⟩ [.code a4h]) ?_
 kernel_rfl
def b6S (word file:Int):M (Int × Int):=(a2r 17 file 0 word).bind λe=>if e≠0 then M.pure (0,e) else V3 18 0 word 0
theorem b4k (word file:Int)(fr:Frame)(cs:List Frame)(k:Int × Int->Bool->q7)(hn:∀ x e go',o9 C n (k (x,e) go') pv H free go' (G (fr.finish (.tuple #[.int .i64 x,.int .i64 e])) cs)) :
  o9 C n ((b6S word file).then go k) pv H free go (G (Frame.enter Tryd.prog 83 #[pO C.o,.int .i64 word,.int .i64 file] .normal) (fr::cs)):=by
 unfold b6S;rw [M.bind_then,b1F];simp only [a4h,Tryd.f83,Option.getD_some,pO];apply d7
 ·intro l K un w Stop St hd d;have hc:=St.clear;refine Br.b8 (λd=>?_) _;refine Br.b9 (λd=>?_) _;simp only [Br.rz,Br.ix,Nat.reduceAdd];(iterate 2(refine Br.mo rfl rfl λd K' hK=>?_;go_simp;refine hK _ _ ⟨rfl,?_⟩;clear hK K'));refine Br.a9 (λd=>?_) _;refine Br.b8 (λd=>?_) _;refine Br.b8 (λd=>?_) _;refine Br.b9 (λd=>?_) _;simp only [Br.rz,Br.ix,Nat.reduceAdd];(iterate 4(refine Br.mo rfl rfl λd K' hK=>?_;go_simp;refine hK _ _ ⟨rfl,?_⟩;clear hK K'));refine Br.mc rfl (λu=>k6 rfl rfl (by decide) rfl Tryd.func82 rfl rfl (vs:=B7 C.o 17 file 0 word) (by simp [Act.eval]) u) (λd=>?_) _;exact hd _
 refine a6A 17 file 0 word _ _ _ (λe go'=>?_);rw [Frame.finish_at];apply d7
 ·intro l K un w Stop St hd d;have hc:=St.clear;go_simp;refine Br.mo rfl rfl λd K' hK=>?_;go_simp;refine hK _ _ ⟨rfl,?_⟩;clear hK K';refine Br.a9 (λd=>?_) _;refine Br.b8 (λd=>?_) _;refine Br.b9 (λd=>?_) _;simp only [Br.rz,Br.ix,Nat.reduceAdd];(iterate 2(refine Br.mo rfl rfl λd K' hK=>?_;go_simp;refine hK _ _ ⟨rfl,?_⟩;clear hK K'));refine Br.a9 (λd=>?_) _;exact hd _
 by_cases he:e=0
 ·subst he;simp only [ne_eq,not_true_eq_false,if_false];apply d7
  ·intro l K un w Stop St hd d;have hc:=St.clear;refine Br.mc rfl (λu=>stepG_cond (t:=false) rfl) (λd=>?_) _;simp only [if_true,if_false,Bool.false_eq_true,↓reduceIte];refine Br.l9 (λd=>?_) _;refine Br.b8 (λd=>?_) _;refine Br.b9 (λd=>?_) _;simp only [Br.rz,Br.ix,Nat.reduceAdd];(iterate 3(refine Br.mo rfl rfl λd K' hK=>?_;go_simp;refine hK _ _ ⟨rfl,?_⟩;clear hK K'));refine Br.mc rfl (λu=>k6 rfl rfl (by decide) rfl Tryd.func84 rfl rfl (vs:=B7 C.o 18 0 word 0) (by simp [Act.eval]) u) (λd=>?_) _;exact hd _
  refine N8 18 0 word 0 _ _ _ (λx e go'' hg=>?_);rw [Frame.finish_at];apply d7
  ·intro l K un w Stop St hd d;have hc:=St.clear;go_simp;(iterate 4(refine Br.mo rfl rfl λd K' hK=>?_;go_simp;refine hK _ _ ⟨rfl,?_⟩;clear hK K'));refine Br.a9 (λd=>?_) _;refine Br.q8 (λd=>?_) _;exact Br.m8 (v:=.tuple #[.int .i64 x,.int .i64 e]) rfl rfl Tryd.func83 (resultsC_tmp2 (t:=6) (u:=7) rfl _) hd _
   done
  exact hn x e go''
 ·simp only [ne_eq,he,not_false_eq_true,if_true];have hb:(e != 0)=true:=by simp [he]
  rw [M.pure_then];apply d7
  ·intro l K un w Stop St hd d;have hc:=St.clear;refine Br.mc rfl (λu=>stepG_cond (t:=true) (by simpa [Act.eval] using hb)) (λd=>?_) _;simp only [if_true];refine Br.b8 (λd=>?_) _;refine Br.b9 (λd=>?_) _;simp only [Br.rz,Br.ix,Nat.reduceAdd];(iterate 3(refine Br.mo rfl rfl λd K' hK=>?_;go_simp;refine hK _ _ ⟨rfl,?_⟩;clear hK K'));refine Br.a9 (λd=>?_) _;refine Br.q8 (λd=>?_) _;exact Br.m8 (v:=.tuple #[.int .i64 0,.int .i64 e]) rfl rfl Tryd.func83 (resultsC_tmp2 (t:=6) (u:=7) rfl _) hd _
   done
  exact hn 0 e go'
end
structure Sl where
 blk:Option Nat
 cap:Nat
 xs:List Int
def Sl.val (s:Sl):Value:=.slice (s.blk.map (⟨·,0,none⟩)) s.xs.length s.cap
def Sl.ok (s:Sl)(pv:List Nat)(H:w9):Prop:=s.xs.length<=min 40 s.cap/\(s.xs=[]\/∃ (b:Nat) (c:Array Value) (t:TypeId),s.blk=some b/\b∈pv/\H b=.cells c t (0,0)/\∀ (i:Nat) (x:Int),s.xs[i]?=some x->c[i]?=some (.int .i64 x))
theorem Sl.at_ {C:Ctx}{pv:List Nat}{H:w9}{free:Value}{un go:Bool}{l:List OpD}{K:Ker}{w:World}{d:Nat}{s:Sl}(h:s.ok pv H)(St:Sta C l K pv H free un go w){i:Nat}{x:Int}(hx:s.xs[i]?=some x) :
  ∃ b,s.val=.slice (some ⟨b,0,none⟩) s.xs.length s.cap/\(w.at d).cell? ⟨b,i,none⟩=some (.int .i64 x):=by
 rcases h.2 with h|⟨b,c,t,h1,h2,h3,h4⟩
 ·rw [h] at hx;simp at hx
 ·exact ⟨b,by simp [Sl.val,h1],St.cell h2 h3 (h4 i x hx)⟩
theorem J8 {x:Int}(h0:0<=x)(h1:x<1000):IntKind.i64.wrap x=x:=by
 simp [IntKind.wrap,IntKind.bits,IntKind.signed];omega
section
variable {C:Ctx} {n:Nat} {pv:List Nat} {H:w9} {free:Value} {go:Bool}
def a0f (num child:Int):List Int->M Unit
 | []=>M.pure ()
 | p::ps=>(V3 num child p 0).bind λ_=>a0f num child ps
def a1J (child:Int)(pages files:List Int):M (Int × Int):=(a0f 10 child pages).bind λ_=>(a0f 11 child files).bind λ_=>V3 12 child 0 0
noncomputable def a2P:List Item :=
 match Tryd.f92.body with
 | some (.seq _ (.seq (.seq _ (.block i (.loop c))) r))=>[.code c,.inLoop c,.inBlock i,.code r]
 | _=>[]
noncomputable def a5a:List Item :=
 match Tryd.f92.body with
 | some (.seq _ (.seq (.seq _ (.block i (.loop c))) r))=>[.code r]
 | _=>[]
noncomputable def a1K:List Item :=
 match Tryd.f92.body with
 | some (.seq _ (.seq _ (.seq (.seq _ (.block i (.loop c))) r)))=>[.code c,.inLoop c,.inBlock i,.code r]
 | _=>[]
noncomputable def a3v:List Item :=
 match Tryd.f92.body with
 | some (.seq _ (.seq _ (.seq (.seq _ (.block i (.loop c))) r)))=>[.code r]
 | _=>[]
theorem b0m (child:Int)(ps fs:Sl)(hps:ps.ok pv H)(fr:Frame)(cs:List Frame)(k:Bool->q7)
  (hn:∀ (go':Bool) (j16 j11 j17 j18 j19 j20 j21 j22 j23 j24 j25:Value),o9 C n (k go') pv H free go' (G ((base 92).at ⟨#[pO C.o,.int .i64 child,ps.val,fs.val,undef,undef,undef,undef,.int .i64 0,.int .i64 0,undef,j11,undef,undef,ps.val,.int .i64 ps.xs.length,j16,j17,j18,j19,j20,j21,j22,j23,j24,j25,undef,undef,undef,undef,undef,undef,undef,undef,undef,undef,undef,undef,undef,undef,undef,undef,undef,undef],[]⟩ a5a) (fr::cs))) :
  ∀ (ys:List Int) (i:Nat),(∀ j,ys[j]?=ps.xs[i+j]?)->i+ys.length=ps.xs.length->∀ (go:Bool) (j11 j17 j18 j19 j20 j21 j22 j23 j24 j25:Value),
  o9 C n ((a0f 10 child ys).then go (λ_=>k)) pv H free go (G ((base 92).at ⟨#[pO C.o,.int .i64 child,ps.val,fs.val,undef,undef,undef,undef,.int .i64 0,.int .i64 0,undef,j11,undef,undef,ps.val,.int .i64 ps.xs.length,.int .i64 i,j17,j18,j19,j20,j21,j22,j23,j24,j25,undef,undef,undef,undef,undef,undef,undef,undef,undef,undef,undef,undef,undef,undef,undef,undef,undef,undef],[]⟩ a2P) (fr::cs)):=by
 intro ys
 induction ys with
 | nil =>
  intro i hy hl go j11 j17 j18 j19 j20 j21 j22 j23 j24 j25;have hi:i=ps.xs.length:=by simpa using hl
  subst hi;have h:=hn go (.int .i64 ps.xs.length) j11 (.bool false) j18 j19 j20 j21 j22 j23 j24 j25;unfold a0f;rw [M.pure_then];unfold a2P;unfold a5a at h;simp only [Tryd.f92,pO] at *;apply d7
  ·intro l K un w Stop St hd d;have hc:=St.clear;refine Br.b8 (λd=>?_) _;refine Br.b9 (λd=>?_) _;simp only [Br.rz,Br.ix,Nat.reduceAdd];refine Br.mo rfl rfl λd K' hK=>?_;go_simp;refine hK _ _ ⟨rfl,?_⟩;clear hK K';refine Br.a9 (λd=>?_) _;refine Br.b8 (λd=>?_) _;refine Br.mc rfl (λu=>stepG_cond (t:=false) (by simp [Act.eval])) (λd=>?_) _;simp only [if_false,Bool.false_eq_true];refine Br.mc rfl (λu=>stepG_exit rfl) (λd=>?_) _;exact hd _
  exact h
 | cons y ys ih =>
  intro i hy hl go j11 j17 j18 j19 j20 j21 j22 j23 j24 j25;have hx:ps.xs[i]?=some y:=by have:=hy 0;simpa using this.symm
  have hlt:i<ps.xs.length:=by simp at hl;omega
  have hle:=hps.1;obtain ⟨b,c,t,h1,h2,h3,h4⟩:=hps.2.resolve_left (λh=>by rw [h] at hx;simp at hx);have hv:ps.val=.slice (some ⟨b,0,none⟩) ps.xs.length ps.cap:=by simp [Sl.val,h1]
  unfold a0f;rw [M.bind_then];have ih':=λgo=>ih (i+1) (λj=>(by have:=hy (j+1);rw [show i+1+j=i+(j+1) by omega,← this];simp)) (by simp at hl;omega) go;unfold a2P at *;simp only [Tryd.f92,pO] at *;have hlt':(i:Int)<(ps.xs.length:Int):=by omega
  apply d7
  ·intro l K un w Stop St hd d;have hc:=St.clear;refine Br.b8 (λd=>?_) _;refine Br.b9 (λd=>?_) _;simp only [Br.rz,Br.ix,Nat.reduceAdd];refine Br.mo rfl rfl λd K' hK=>?_;go_simp;refine hK _ _ ⟨rfl,?_⟩;clear hK K';refine Br.a9 (λd=>?_) _;refine Br.b8 (λd=>?_) _;refine Br.mc rfl (λu=>stepG_cond (t:=true) (by simp [Act.eval,hlt])) (λd=>?_) _;simp only [if_true];refine Br.l9 (λd=>?_) _;refine Br.b8 (λd=>?_) _;refine Br.mc rfl (λu=>stepG_block) (λd=>?_) _;refine Br.b8 (λd=>?_) _;refine Br.b9 (λd=>?_) _;simp only [Br.rz,Br.ix,Nat.reduceAdd]
   try simp only [hv]
   refine Br.mo rfl rfl λd K' hK=>?_;have hi0:(0:Int)<=i:=Int.natCast_nonneg i;go_simp;refine hK _ _ ⟨rfl,?_⟩;clear hK K';refine Br.mo rfl rfl λd K' hK=>?_;have ec:(w.at d).cell? ⟨b,i,none⟩=some (.int .i64 y):=St.cell h2 h3 (h4 i y hx);go_simp;refine hK _ _ ⟨rfl,?_⟩;clear hK K';refine Br.mo rfl rfl λd K' hK=>?_;go_simp;refine hK _ _ ⟨rfl,?_⟩;clear hK K';refine Br.a9 (λd=>?_) _;refine Br.b9 (λd=>?_) _;simp only [Br.rz,Br.ix,Nat.reduceAdd];(iterate 4(refine Br.mo rfl rfl λd K' hK=>?_;go_simp;refine hK _ _ ⟨rfl,?_⟩;clear hK K'));refine Br.mc rfl (λu=>k6 rfl rfl (by decide) rfl Tryd.func84 rfl rfl (vs:=B7 C.o 10 child y 0) (by simp [Act.eval]) u) (λd=>?_) _;exact hd _
  refine N8 10 child y 0 _ _ _ (λx e go' hg=>?_);rw [Frame.finish_at];apply d7
  ·intro l K un w Stop St hd d;have hc:=St.clear;go_simp;refine Br.a9 (λd=>?_) _;refine Br.mc rfl (λu=>stepG_inBlock) (λd=>?_) _;refine Br.b9 (λd=>?_) _;simp only [Br.rz,Br.ix,Nat.reduceAdd];(iterate 2(refine Br.mo rfl rfl λd K' hK=>?_;go_simp;refine hK _ _ ⟨rfl,?_⟩;clear hK K'));refine Br.a9 (λd=>?_) _;refine Br.mc rfl (λu=>stepG_inLoop) (λd=>?_) _;exact hd _
  rw [← hv,J8 (by omega) (by omega),show ((i:Int)+1)=((i+1:Nat):Int) from by simp];exact ih' go' _ _ _ _ _ _ _ _ _ _
theorem b0n (child:Int)(ps fs:Sl)(hps:fs.ok pv H)(fr:Frame)(cs:List Frame)(k:Bool->q7)
  (hn:∀ (go':Bool) (j16 j11 j17 j18 j19 j20 j21 j22 j23 j24 j25 j28 j13 j29 j30 j31 j32 j33 j34 j35 j36 j37:Value),o9 C n (k go') pv H free go' (G ((base 92).at ⟨#[pO C.o,.int .i64 child,ps.val,fs.val,undef,undef,undef,undef,.int .i64 0,.int .i64 0,undef,j11,undef,j13,ps.val,.int .i64 ps.xs.length,j16,j17,j18,j19,j20,j21,j22,j23,j24,j25,fs.val,.int .i64 fs.xs.length,j28,j29,j30,j31,j32,j33,j34,j35,j36,j37,undef,undef,undef,undef,undef,undef],[]⟩ a3v) (fr::cs))) :
  ∀ (ys:List Int) (i:Nat),(∀ j,ys[j]?=fs.xs[i+j]?)->i+ys.length=fs.xs.length->∀ (go:Bool) (j16 j11 j17 j18 j19 j20 j21 j22 j23 j24 j25 j13 j29 j30 j31 j32 j33 j34 j35 j36 j37:Value),
  o9 C n ((a0f 11 child ys).then go (λ_=>k)) pv H free go (G ((base 92).at ⟨#[pO C.o,.int .i64 child,ps.val,fs.val,undef,undef,undef,undef,.int .i64 0,.int .i64 0,undef,j11,undef,j13,ps.val,.int .i64 ps.xs.length,j16,j17,j18,j19,j20,j21,j22,j23,j24,j25,fs.val,.int .i64 fs.xs.length,.int .i64 i,j29,j30,j31,j32,j33,j34,j35,j36,j37,undef,undef,undef,undef,undef,undef],[]⟩ a1K) (fr::cs)):=by
 intro ys
 induction ys with
 | nil =>
  intro i hy hl go j16 j11 j17 j18 j19 j20 j21 j22 j23 j24 j25 j13 j29 j30 j31 j32 j33 j34 j35 j36 j37;have hi:i=fs.xs.length:=by simpa using hl
  subst hi;have h:=hn go j16 j11 j17 j18 j19 j20 j21 j22 j23 j24 j25 (.int .i64 fs.xs.length) j13 (.bool false) j30 j31 j32 j33 j34 j35 j36 j37;unfold a0f;rw [M.pure_then];unfold a1K;unfold a3v at h;simp only [Tryd.f92,pO] at *;apply d7
  ·intro l K un w Stop St hd d;have hc:=St.clear;refine Br.b8 (λd=>?_) _;refine Br.b9 (λd=>?_) _;simp only [Br.rz,Br.ix,Nat.reduceAdd];refine Br.mo rfl rfl λd K' hK=>?_;go_simp;refine hK _ _ ⟨rfl,?_⟩;clear hK K';refine Br.a9 (λd=>?_) _;refine Br.b8 (λd=>?_) _;refine Br.mc rfl (λu=>stepG_cond (t:=false) (by simp [Act.eval])) (λd=>?_) _;simp only [if_false,Bool.false_eq_true];refine Br.mc rfl (λu=>stepG_exit rfl) (λd=>?_) _;exact hd _
  exact h
 | cons y ys ih =>
  intro i hy hl go j16 j11 j17 j18 j19 j20 j21 j22 j23 j24 j25 j13 j29 j30 j31 j32 j33 j34 j35 j36 j37;have hx:fs.xs[i]?=some y:=by have:=hy 0;simpa using this.symm
  have hlt:i<fs.xs.length:=by simp at hl;omega
  have hle:=hps.1;obtain ⟨b,c,t,h1,h2,h3,h4⟩:=hps.2.resolve_left (λh=>by rw [h] at hx;simp at hx);have hv:fs.val=.slice (some ⟨b,0,none⟩) fs.xs.length fs.cap:=by simp [Sl.val,h1]
  unfold a0f;rw [M.bind_then];have ih':=λgo=>ih (i+1) (λj=>(by have:=hy (j+1);rw [show i+1+j=i+(j+1) by omega,← this];simp)) (by simp at hl;omega) go;unfold a1K at *;simp only [Tryd.f92,pO] at *;have hlt':(i:Int)<(fs.xs.length:Int):=by omega
  apply d7
  ·intro l K un w Stop St hd d;have hc:=St.clear;refine Br.b8 (λd=>?_) _;refine Br.b9 (λd=>?_) _;simp only [Br.rz,Br.ix,Nat.reduceAdd];refine Br.mo rfl rfl λd K' hK=>?_;go_simp;refine hK _ _ ⟨rfl,?_⟩;clear hK K';refine Br.a9 (λd=>?_) _;refine Br.b8 (λd=>?_) _;refine Br.mc rfl (λu=>stepG_cond (t:=true) (by simp [Act.eval,hlt])) (λd=>?_) _;simp only [if_true];refine Br.l9 (λd=>?_) _;refine Br.b8 (λd=>?_) _;refine Br.mc rfl (λu=>stepG_block) (λd=>?_) _;refine Br.b8 (λd=>?_) _;refine Br.b9 (λd=>?_) _;simp only [Br.rz,Br.ix,Nat.reduceAdd]
   try simp only [hv]
   refine Br.mo rfl rfl λd K' hK=>?_;have hi0:(0:Int)<=i:=Int.natCast_nonneg i;go_simp;refine hK _ _ ⟨rfl,?_⟩;clear hK K';refine Br.mo rfl rfl λd K' hK=>?_;have ec:(w.at d).cell? ⟨b,i,none⟩=some (.int .i64 y):=St.cell h2 h3 (h4 i y hx);go_simp;refine hK _ _ ⟨rfl,?_⟩;clear hK K';refine Br.mo rfl rfl λd K' hK=>?_;go_simp;refine hK _ _ ⟨rfl,?_⟩;clear hK K';refine Br.a9 (λd=>?_) _;refine Br.b9 (λd=>?_) _;simp only [Br.rz,Br.ix,Nat.reduceAdd];(iterate 4(refine Br.mo rfl rfl λd K' hK=>?_;go_simp;refine hK _ _ ⟨rfl,?_⟩;clear hK K'));refine Br.mc rfl (λu=>k6 rfl rfl (by decide) rfl Tryd.func84 rfl rfl (vs:=B7 C.o 11 child y 0) (by simp [Act.eval]) u) (λd=>?_) _;exact hd _
  refine N8 11 child y 0 _ _ _ (λx e go' hg=>?_);rw [Frame.finish_at];apply d7
  ·intro l K un w Stop St hd d;have hc:=St.clear;go_simp;refine Br.a9 (λd=>?_) _;refine Br.mc rfl (λu=>stepG_inBlock) (λd=>?_) _;refine Br.b9 (λd=>?_) _;simp only [Br.rz,Br.ix,Nat.reduceAdd];(iterate 2(refine Br.mo rfl rfl λd K' hK=>?_;go_simp;refine hK _ _ ⟨rfl,?_⟩;clear hK K'));refine Br.a9 (λd=>?_) _;refine Br.mc rfl (λu=>stepG_inLoop) (λd=>?_) _;exact hd _
  rw [← hv,J8 (by omega) (by omega),show ((i:Int)+1)=((i+1:Nat):Int) from by simp];exact ih' go' _ _ _ _ _ _ _ _ _ _ _ _ _ _ _ _ _ _ _ _ _
noncomputable def a2Q:Code:=(Tryd.f92.body).getD .skip
theorem b0o (o:OpD)(x:Int)(y z:Value):Frame.enter Tryd.prog 92 #[pO o,.int .i64 x,y,z] .normal=(base 92).at ⟨#[pO o,.int .i64 x,y,z,undef,undef,undef,undef,undef,undef,undef,undef,undef,undef,undef,undef,undef,undef,undef,undef,undef,undef,undef,undef,undef,undef,undef,undef,undef,undef,undef,undef,undef,undef,undef,undef,undef,undef,undef,undef,undef,undef,undef,undef],[]⟩ [.code a2Q]:=by
 rw [enter_at (c:=a2Q) _ Tryd.func92 rfl];refine congrArg (λt=>(base 92).at ⟨t,[]⟩ [.code a2Q]) ?_
 kernel_rfl
theorem a6B (child:Int)(ps fs:Sl)(hps:ps.ok pv H)(hfs:fs.ok pv H)(fr:Frame)(cs:List Frame)(k:Int × Int->Bool->q7)(hn:∀ x e go',o9 C n (k (x,e) go') pv H free go' (G (fr.finish (.tuple #[.int .i64 x,.int .i64 e])) cs)) :
  o9 C n ((a1J child ps.xs fs.xs).then go k) pv H free go (G (Frame.enter Tryd.prog 92 #[pO C.o,.int .i64 child,ps.val,fs.val] .normal) (fr::cs)):=by
 unfold a1J;rw [M.bind_then,b0o];have key:=b0m (C:=C) (n:=n) (free:=free) child ps fs hps fr cs (λgo'=>((a0f 11 child fs.xs).bind λ_=>V3 12 child 0 0).then go' k) (λgo' j16 j11 j17 j18 j19 j20 j21 j22 j23 j24 j25=>?_) ps.xs 0 (λj=>by simp) (by simp) go
 ·unfold a2P at key;simp only [a2Q,Tryd.f92,Option.getD_some,pO] at *;have hv:ps.val=.slice (ps.blk.map (⟨·,0,none⟩)) ps.xs.length ps.cap:=rfl;apply d7
  ·intro l K un w Stop St hd d;have hc:=St.clear;refine Br.b8 (λd=>?_) _;refine Br.b9 (λd=>?_) _;simp only [Br.rz,Br.ix,Nat.reduceAdd];(iterate 2(refine Br.mo rfl rfl λd K' hK=>?_;go_simp;refine hK _ _ ⟨rfl,?_⟩;clear hK K'));refine Br.a9 (λd=>?_) _;refine Br.b8 (λd=>?_) _;refine Br.b8 (λd=>?_) _;refine Br.b9 (λd=>?_) _;simp only [Br.rz,Br.ix,Nat.reduceAdd];(iterate 3(refine Br.mo rfl rfl λd K' hK=>?_;go_simp;refine hK _ _ ⟨rfl,?_⟩;clear hK K'));refine Br.a9 (λd=>?_) _;refine Br.mc rfl (λu=>stepG_block) (λd=>?_) _;refine Br.mc rfl (λu=>stepG_loop) (λd=>?_) _;exact hd _
  rw [← hv];exact key undef undef undef undef undef undef undef undef undef undef
 ·rw [M.bind_then];have key2:=b0n (C:=C) (n:=n) (free:=free) child ps fs hfs fr cs (λgo'=>(V3 12 child 0 0).then go' k) (λgo' j16 j11 j17 j18 j19 j20 j21 j22 j23 j24 j25 j28 j13 j29 j30 j31 j32 j33 j34 j35 j36 j37=>?_) fs.xs 0 (λj=>by simp) (by simp) go' j16 j11 j17 j18 j19 j20 j21 j22 j23 j24 j25
  ·unfold a1K at key2;unfold a5a;simp only [Tryd.f92,pO] at *;have hv:fs.val=.slice (fs.blk.map (⟨·,0,none⟩)) fs.xs.length fs.cap:=rfl;apply d7
   ·intro l K un w Stop St hd d;have hc:=St.clear;refine Br.b8 (λd=>?_) _;refine Br.b8 (λd=>?_) _;refine Br.b9 (λd=>?_) _;simp only [Br.rz,Br.ix,Nat.reduceAdd];(iterate 3(refine Br.mo rfl rfl λd K' hK=>?_;go_simp;refine hK _ _ ⟨rfl,?_⟩;clear hK K'));refine Br.a9 (λd=>?_) _;refine Br.mc rfl (λu=>stepG_block) (λd=>?_) _;refine Br.mc rfl (λu=>stepG_loop) (λd=>?_) _;exact hd _
   rw [← hv];exact key2 undef undef undef undef undef undef undef undef undef undef
  ·unfold a3v;simp only [Tryd.f92,pO];apply d7
   ·intro l K un w Stop St hd d;have hc:=St.clear;refine Br.b8 (λd=>?_) _;refine Br.b9 (λd=>?_) _;simp only [Br.rz,Br.ix,Nat.reduceAdd];(iterate 3(refine Br.mo rfl rfl λd K' hK=>?_;go_simp;refine hK _ _ ⟨rfl,?_⟩;clear hK K'));refine Br.mc rfl (λu=>k6 rfl rfl (by decide) rfl Tryd.func84 rfl rfl (vs:=B7 C.o 12 child 0 0) (by simp [Act.eval]) u) (λd=>?_) _;exact hd _
   refine N8 12 child 0 0 _ _ _ (λx e go'' hg=>?_);rw [Frame.finish_at];apply d7
   ·intro l K un w Stop St hd d;have hc:=St.clear;go_simp;(iterate 4(refine Br.mo rfl rfl λd K' hK=>?_;go_simp;refine hK _ _ ⟨rfl,?_⟩;clear hK K'));refine Br.a9 (λd=>?_) _;refine Br.q8 (λd=>?_) _;exact Br.m8 (v:=.tuple #[.int .i64 x,.int .i64 e]) rfl rfl Tryd.func92 (resultsC_tmp2 (t:=8) (u:=9) rfl _) hd _
    done
   exact hn x e go''
end
end Go.Proofs.YtcgabodkegcpgaaDoor
