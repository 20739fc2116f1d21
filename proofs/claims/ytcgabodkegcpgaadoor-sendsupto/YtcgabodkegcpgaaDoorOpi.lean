/- The judgement of the operations' functions: Good: at this place of its code the operation does as the strategy says, whatever happens beside. -/
import Derived.Test.YtcgabodkegcpgaaDoorOpf
set_option linter.unusedVariables false
set_option linter.unusedSimpArgs false
set_option maxHeartbeats 20000000
set_option maxRecDepth 100000
namespace Go.Proofs.YtcgabodkegcpgaaDoor
open Go.Conc Go.RowKit
open Br (OpD KO SO SP sfO Lk Fit Must DL Liv Clear)
def Sta (C:Ctx)(l:List OpD)(K:Ker)(pv:List Nat)(H:Heap)(free:Value)(un go:Bool)(w:World):Prop:=∃ H',At C l K (C.o.bo::pv) H' free un go w∧∀ i∈pv,i≠C.o.bo∧H' i=H i
def Sub (pv pv0:List Nat)(w0:World):Prop:=∀ i∈pv,i∈pv0∨w0.heap.size≤i
def Ph (C:Ctx)(un:Bool)(T:Ker × Strat)(s:Strat)(K:Ker):Prop:=(un=true∧T=run1 C.slot s K)∨(un=false∧T=(K,s))
def rank (m:Nat)(un:Bool):Nat:=2*m+(if un then 1 else 0)
def Live (C:Ctx)(n:Nat)(s:Strat)(pv:List Nat)(H:Heap)(free:Value)(go:Bool)(g:Goroutine):Prop :=
 ∀ m l w0 pv0 T K un w,rank m un≤n→Sta C l K pv H free un go w→Mine C pv0 w0 w→Sub (C.o.bo::pv) pv0 w0→Ph C un T s K→∀ d,Must Tryd.prog false (DL true (sfO l)) (OStop C (Park C m) l w0 pv0 T) g (w.at d)
def Dead (C:Ctx)(pv:List Nat)(H:Heap)(free:Value)(g:Goroutine):Prop :=
 ∀ l w0 pv0 K un w,Sta C l K pv H free un true w→Mine C pv0 w0 w→Sub (C.o.bo::pv) pv0 w0→∀ d,Must Tryd.prog false (DL true (sfO l)) (EStop C l K w0 pv0) g (w.at d)
def Good' (C:Ctx)(n:Nat)(s:Strat)(pv:List Nat)(H:Heap)(free:Value)(go:Bool)(g:Goroutine):Prop:=Live C n s pv H free go g∧(go=true→Dead C pv H free g)
abbrev M (α:Type):=Bool→List (Int × Int)→Node ⊕ (α × Bool × List (Int × Int))
def M.pure {α:Type}(a:α):M α:=fun go h=>.inr (a,go,h)
def M.bind {α β:Type}(m:M α)(f:α→M β):M β:=fun go h=>match m go h with
 | .inl x=>.inl x
 | .inr (a,go',h')=>f a go' h'
def M.then {α:Type}(m:M α)(go:Bool)(k:α→Bool→Strat):Strat:=fun h=>match m go h with
 | .inl x=>x
 | .inr (a,go',h')=>k a go' h'
theorem M.bind_then {α β:Type}(m:M α)(f:α→M β)(go:Bool)(k:β→Bool→Strat):(m.bind f).then go k=m.then go (fun a go'=>(f a).then go' k):=by
 funext h
 unfold M.then M.bind
 cases m go h with
 | inl x=>rfl
 | inr r=>rfl
theorem M.pure_then {α:Type}(a:α)(go:Bool)(k:α→Bool→Strat):(M.pure a).then go k=k a go:=rfl
def callM (num a b c:Int):M (Int × Int):=fun go h=>if go then .inr ((0,3),true,h) else match h with
 | []=>.inl (.call num a b c)
 | (x,e)::h'=>.inr ((x,e),e == 3,h')
section
variable {C:Ctx} {n:Nat} {s:Strat} {pv:List Nat} {H:Heap} {free:Value} {go:Bool} {g:Goroutine}
theorem Sta.of {l:List OpD}{K:Ker}{un:Bool}{w:World}{H':Heap}(A:At C l K (C.o.bo::pv) H' free un go w)(h:∀ i∈pv,i≠C.o.bo∧H' i=H i):Sta C l K pv H free un go w:=⟨H',A,h⟩
theorem set_keep {H H':Heap}{x:Obj}(h:∀ i∈pv,i≠C.o.bo∧H' i=H i):∀ i∈pv,i≠C.o.bo∧(H'.set C.o.bo x) i=H i:=fun i hi=>⟨(h i hi).1,by rw [Heap.set_other _ _ (h i hi).1];exact (h i hi).2⟩
theorem Good'.less {n':Nat}(h:Good' C n s pv H free go g)(hn:n'≤n):Good' C n' s pv H free go g :=
 ⟨fun m l w0 pv0 T K un w hm=>h.1 m l w0 pv0 T K un w (Nat.le_trans hm hn),h.2⟩
theorem good_callR (num a b c:Int)(fr:Frame)(cs:List Frame)(k:(Int × Int)→Bool→Strat)
  (h1:go=true→Good' C n (k (0,3) true) pv H free true (G (fr.finish (.tuple #[.int .i64 0,.int .i64 3])) cs))
  (h2:go=false→∀ n',n'<n→∀ x e go',go'=(e == 3)→Good' C n' (k (x,e) go') pv H free go' (G (fr.finish (.tuple #[.int .i64 x,.int .i64 e])) cs))
  (h3:go=false→Dead C pv H free (G (fr.finish (.tuple #[.int .i64 0,.int .i64 3])) cs)) :
  Good' C n ((callM num a b c).then go k) pv H free go (G (Frame.enter Tryd.prog 84 (callArgs C.o num a b c) .normal) (fr::cs)):=by
 cases go with
 | true =>
  have h3:=h1 rfl
  refine ⟨fun m l w0 pv0 T K un w hm ⟨H',A,hH⟩ M S P d=>?_,fun _ l w0 pv0 K un w ⟨H',A,hH⟩ M S d=>?_⟩
  ·refine call_over A num a b c fr cs (fun t w' A' M'=>?_) d
   exact h3.1 m l w0 pv0 T K un w' hm (.of A' (set_keep hH)) (M.trans M' (fun i hi=>by obtain rfl:=List.mem_singleton.1 hi;exact S _ (List.mem_cons_self ..))) S P
  ·refine call_over A num a b c fr cs (fun t w' A' M'=>?_) d
   exact h3.2 rfl l w0 pv0 K un w' (.of A' (set_keep hH)) (M.trans M' (fun i hi=>by obtain rfl:=List.mem_singleton.1 hi;exact S _ (List.mem_cons_self ..))) S
 | false =>
  refine ⟨fun m l w0 pv0 T K un w hm ⟨H',A,hH⟩ M S P d=>?_,fun h=>by cases h⟩
  refine call_live ((callM num a b c).then false k) num a b c rfl fr cs (C.o.bo::pv) H' free m (un:=un) (fun m' hm' hlt l w0 pv0 K t w A M S d=>?_) (fun l w0 pv0 K t w A M S d=>?_) A M S P d
  ·have hr:rank m' false<n:=by
    unfold rank at hm ⊢
    cases un with
    | false=>have:=hlt rfl;simp at hm ⊢;omega
    | true=>simp at hm ⊢;omega
   exact (h2 rfl _ hr (kCall K C.slot num a b c).n (kCall K C.slot num a b c).e _ rfl).1 m' l w0 pv0 _ _ false w (Nat.le_refl _) (.of A (set_keep hH)) M S (.inr ⟨rfl,rfl⟩) d
  ·exact h3 rfl l w0 pv0 K false w (.of A (set_keep hH)) M S d
theorem good_call (num a b c:Int)(fr:Frame)(cs:List Frame)(k:(Int × Int)→Bool→Strat)
  (hn:∀ x e go',go'=(e == 3)→Good' C n (k (x,e) go') pv H free go' (G (fr.finish (.tuple #[.int .i64 x,.int .i64 e])) cs)) :
  Good' C n ((callM num a b c).then go k) pv H free go (G (Frame.enter Tryd.prog 84 (callArgs C.o num a b c) .normal) (fr::cs)) :=
 good_callR num a b c fr cs k (fun _=>hn 0 3 true rfl) (fun _ n' hn' x e go' hg=>(hn x e go' hg).less (Nat.le_of_lt hn')) (fun _=>(hn 0 3 true rfl).2 rfl)
theorem good_step {R:List Nat→Heap→Value→Goroutine→Prop}
  (hstep:∀ l K un w (Stop:Goroutine→World→Prop),Sta C l K pv H free un go w→(∀ pv' H' free' g' w',R pv' H' free' g'→Sta C l K pv' H' free' un go w'→Mine C (C.o.bo::pv) w w'→Sub (C.o.bo::pv') (C.o.bo::pv) w→∀ d,Must Tryd.prog false (DL true (sfO l)) Stop g' (w'.at d))→∀ d,Must Tryd.prog false (DL true (sfO l)) Stop g (w.at d))
  (hn:∀ pv' H' free' g',R pv' H' free' g'→Good' C n s pv' H' free' go g'):Good' C n s pv H free go g:=by
 have sub:∀ {pv' pv0:List Nat} {w0 w:World},Sub (C.o.bo::pv) pv0 w0→Sub (C.o.bo::pv') (C.o.bo::pv) w→w0.heap.size≤w.heap.size→Sub (C.o.bo::pv') pv0 w0:=fun h1 h2 hz i hi=>by
  rcases h2 i hi with h|h
  ·exact h1 i h
  ·exact .inr (Nat.le_trans hz h)
 refine ⟨fun m l w0 pv0 T K un w hm St M S P d=>?_,fun hgo l w0 pv0 K un w St M S d=>?_⟩
 ·exact hstep l K un w _ St (fun pv' H' free' g' w' hR St' M' S'=>(hn pv' H' free' g' hR).1 m l w0 pv0 T K un w' hm St' (M.trans M' S) (sub S S' M.size) P) d
 ·subst hgo
  exact hstep l K un w _ St (fun pv' H' free' g' w' hR St' M' S'=>(hn pv' H' free' g' hR).2 rfl l w0 pv0 K un w' St' (M.trans M' S) (sub S S' M.size)) d
theorem good_still {g':Goroutine}
  (hstep:∀ l K un w (Stop:Goroutine→World→Prop),Sta C l K pv H free un go w→(∀ d,Must Tryd.prog false (DL true (sfO l)) Stop g' (w.at d))→∀ d,Must Tryd.prog false (DL true (sfO l)) Stop g (w.at d))
  (hn:Good' C n s pv H free go g'):Good' C n s pv H free go g :=
 good_step (R:=fun pv' H' free' g''=>pv'=pv∧H'=H∧free'=free∧g''=g') (fun l K un w Stop St h d=>hstep l K un w Stop St (h pv H free g' w ⟨rfl,rfl,rfl,rfl⟩ St (.refl _ _ _) (fun i hi=>.inl hi)) d)
  (fun pv' H' free' g'' ⟨h1,h2,h3,h4⟩=>by subst h1 h2 h3 h4;exact hn)
theorem good_c {g':Goroutine}(hr:g.status=.running)(h:∀ u,stepG Tryd.prog false g u=.go g' u #[])(hn:Good' C n s pv H free go g'):Good' C n s pv H free go g :=
 good_still (fun l K un w Stop St hd d=>Br.mc hr h hd d) hn
end
section
variable {C:Ctx} {n:Nat} {pv:List Nat} {H:Heap} {free:Value} {go:Bool}
theorem Sta.clear {l:List OpD}{K:Ker}{un:Bool}{w:World}(h:Sta C l K pv H free un go w):Clear w:=by obtain ⟨H',A,_⟩:=h;exact A.clear
noncomputable def yieldBody:Code:=(Tryd.f93.body).getD .skip
theorem yield_enter (o:OpD)(x:Int):Frame.enter Tryd.prog 93 #[pO o,.int .i64 x] .normal=(base 93).at ⟨#[pO o,.int .i64 x,undef,undef,undef,undef,undef,undef,undef,undef,undef,undef,undef,undef,undef,undef,undef],[]⟩ [.code yieldBody]:=by
 rw [enter_at (c:=yieldBody) _ Tryd.func93 rfl]
 refine congrArg (fun t=>(base 93).at ⟨t,[]⟩ [.code yieldBody]) ?_
 kernel_rfl
def yieldM (x:Int):M Int:=(callM 1 0 0 0).bind fun r=>M.pure (if r.2≠0 then r.2 else x)
theorem good_yield (x:Int)(fr:Frame)(cs:List Frame)(k:Int→Bool→Strat)(hn:∀ e go',Good' C n (k e go') pv H free go' (G (fr.finish (.int .i64 e)) cs)) :
  Good' C n ((yieldM x).then go k) pv H free go (G (Frame.enter Tryd.prog 93 #[pO C.o,.int .i64 x] .normal) (fr::cs)):=by
 unfold yieldM
 rw [M.bind_then,yield_enter]
 simp only [yieldBody,Tryd.f93,Option.getD_some,pO]
 apply good_still
 ·intro l K un w Stop St hd d
  have hc:=St.clear
  refine Br.liv_seq (fun d=>?_) _
  refine Br.liv_region (fun d=>?_) _
  simp only [Br.rz,Br.ix,Nat.reduceAdd]
  refine Br.mo rfl rfl hc (fun d K' hK=>?_) _
  go_simp
  refine hK _ _ ⟨rfl,?_⟩
  clear hK K'
  refine Br.liv_region_end (fun d=>?_) _
  refine Br.liv_seq (fun d=>?_) _
  refine Br.liv_seq (fun d=>?_) _
  refine Br.liv_region (fun d=>?_) _
  simp only [Br.rz,Br.ix,Nat.reduceAdd]
  refine Br.mo rfl rfl hc (fun d K' hK=>?_) _
  go_simp
  refine hK _ _ ⟨rfl,?_⟩
  clear hK K'
  refine Br.mo rfl rfl hc (fun d K' hK=>?_) _
  go_simp
  refine hK _ _ ⟨rfl,?_⟩
  clear hK K'
  refine Br.mc rfl (fun u=>stepG_call rfl rfl (by decide) rfl Tryd.func84 rfl rfl (vs:=callArgs C.o 1 0 0 0) (by simp [Act.eval]) u) (fun d=>?_) _
  exact hd _
 refine good_call 1 0 0 0 _ _ _ (fun x' e go' hgo=>?_)
 rw [M.pure_then,Frame.finish_at]
 apply good_still
 ·intro l K un w Stop St hd d
  have hc:=St.clear
  go_simp
  refine Br.mo rfl rfl hc (fun d K' hK=>?_) _
  go_simp
  refine hK _ _ ⟨rfl,?_⟩
  clear hK K'
  refine Br.mo rfl rfl hc (fun d K' hK=>?_) _
  go_simp
  refine hK _ _ ⟨rfl,?_⟩
  clear hK K'
  refine Br.mo rfl rfl hc (fun d K' hK=>?_) _
  go_simp
  refine hK _ _ ⟨rfl,?_⟩
  clear hK K'
  refine Br.mo rfl rfl hc (fun d K' hK=>?_) _
  go_simp
  refine hK _ _ ⟨rfl,?_⟩
  clear hK K'
  refine Br.mo rfl rfl hc (fun d K' hK=>?_) _
  go_simp
  refine hK _ _ ⟨rfl,?_⟩
  clear hK K'
  refine Br.liv_region_end (fun d=>?_) _
  refine Br.liv_seq (fun d=>?_) _
  refine Br.liv_region (fun d=>?_) _
  simp only [Br.rz,Br.ix,Nat.reduceAdd]
  refine Br.mo rfl rfl hc (fun d K' hK=>?_) _
  go_simp
  refine hK _ _ ⟨rfl,?_⟩
  clear hK K'
  refine Br.mo rfl rfl hc (fun d K' hK=>?_) _
  go_simp
  refine hK _ _ ⟨rfl,?_⟩
  clear hK K'
  refine Br.liv_region_end (fun d=>?_) _
  exact hd _
 by_cases he:e=0
 ·subst he
  apply good_still
  ·intro l K un w Stop St hd d
   have hc:=St.clear
   refine Br.mc rfl (fun u=>stepG_cond (t:=false) rfl) (fun d=>?_) _
   simp only [if_true,if_false,Bool.false_eq_true,↓reduceIte]
   refine Br.liv_skip (fun d=>?_) _
   refine Br.liv_seq (fun d=>?_) _
   refine Br.liv_region (fun d=>?_) _
   simp only [Br.rz,Br.ix,Nat.reduceAdd]
   refine Br.mo rfl rfl hc (fun d K' hK=>?_) _
   go_simp
   refine hK _ _ ⟨rfl,?_⟩
   clear hK K'
   refine Br.mo rfl rfl hc (fun d K' hK=>?_) _
   go_simp
   refine hK _ _ ⟨rfl,?_⟩
   clear hK K'
   refine Br.liv_region_end (fun d=>?_) _
   refine Br.liv_ret (fun d=>?_) _
   exact Br.liv_leave (v:=.int .i64 x) rfl rfl Tryd.func93 (resultsC_tmp (t:=4) rfl _) hd _
   done
  simpa using hn x go'
 ·have hb:(e != 0)=true:=by simp [he]
  apply good_still
  ·intro l K un w Stop St hd d
   have hc:=St.clear
   refine Br.mc rfl (fun u=>stepG_cond (t:=true) (by simpa [Act.eval] using hb)) (fun d=>?_) _
   simp only [if_true]
   refine Br.liv_seq (fun d=>?_) _
   refine Br.liv_region (fun d=>?_) _
   simp only [Br.rz,Br.ix,Nat.reduceAdd]
   refine Br.mo rfl rfl hc (fun d K' hK=>?_) _
   go_simp
   refine hK _ _ ⟨rfl,?_⟩
   clear hK K'
   refine Br.mo rfl rfl hc (fun d K' hK=>?_) _
   go_simp
   refine hK _ _ ⟨rfl,?_⟩
   clear hK K'
   refine Br.liv_region_end (fun d=>?_) _
   refine Br.liv_ret (fun d=>?_) _
   exact Br.liv_leave (v:=.int .i64 e) rfl rfl Tryd.func93 (resultsC_tmp (t:=4) rfl _) hd _
   done
  simpa [he] using hn e go'
end
section
variable {C:Ctx} {n:Nat} {s:Strat} {pv:List Nat} {H:Heap} {free:Value} {go:Bool} {g:Goroutine}
theorem Sta.blk {l:List OpD}{K:Ker}{un:Bool}{w:World}(h:Sta C l K pv H free un go w){i:Nat}(hi:i∈pv):w.heap[i]?=some (H i):=by
 obtain ⟨H',A,hH⟩:=h
 rw [A.has i (List.mem_cons_of_mem _ hi),(hH i hi).2]
theorem Sta.cell {l:List OpD}{K:Ker}{un:Bool}{w:World}{d:Nat}(h:Sta C l K pv H free un go w){i:Nat}(hi:i∈pv){c:Array Value}{t:TypeId}{f:Nat × Nat}(hH:H i=.cells c t f){j:Nat}{x:Value}(hx:c[j]?=some x):(w.at d).cell? ⟨i,j,none⟩=some x:=by
 have:=h.blk hi
 show w.cell? _=_
 simp only [World.cell?,this,hH]
 simpa using hx
theorem Sta.rcell {l:List OpD}{K:Ker}{un:Bool}{w:World}{d:Nat}(h:Sta C l K pv H free un go w){j:Nat}{x:Value}(hx:(oRow C 0 0 free un go)[j]?=some x):(w.at d).cell? ⟨C.o.bo,j,none⟩=some x:=by
 obtain ⟨H',A,hH⟩:=h
 exact A.cell hx
theorem good_box {g':Nat→Goroutine}{X:Obj}(hX:Br.Obj.sight X)
  (hstep:∀ l K un w b (Stop:Goroutine→World→Prop),b=w.heap.size→Sta C l K pv H free un go w→(∀ d,Must Tryd.prog false (DL true (sfO l)) Stop (g' b) ((w.alloc X).at d))→∀ d,Must Tryd.prog false (DL true (sfO l)) Stop g (w.at d))
  (hn:∀ b,b ∉ pv→b≠C.o.bo→Good' C n s (b::pv) (H.set b X) free go (g' b)):Good' C n s pv H free go g:=by
 refine good_step (R:=fun pv' H' free' g''=>∃ b,b ∉ pv∧b≠C.o.bo∧pv'=b::pv∧H'=H.set b X∧free'=free∧g''=g' b) (fun l K un w Stop St h d=>?_) (fun pv' H' free' g'' ⟨b,h0,h1,h2,h3,h4,h5⟩=>by subst h2 h3 h4 h5;exact hn b h0 h1)
 obtain ⟨H',A,hH⟩:=St
 have hlt:∀ i∈C.o.bo::pv,i<w.heap.size:=fun i hi=>(Array.getElem?_eq_some_iff.1 (A.has i hi)).1
 have hb0:w.heap.size ∉ pv:=fun hi=>by have:=hlt _ (List.mem_cons_of_mem _ hi);omega
 have hb1:w.heap.size≠C.o.bo:=fun e=>by have:=hlt _ (List.mem_cons_self ..);omega
 refine hstep l K un w _ Stop rfl ⟨H',A,hH⟩ (h _ _ _ _ _ ⟨w.heap.size,hb0,hb1,rfl,rfl,rfl,rfl⟩ ?_ (mine_alloc _ _) (fun i hi=>?_)) d
 ·refine ⟨H'.set w.heap.size X,(A.alloc hX).fewer (fun i hi=>?_) (List.mem_cons_self ..) (fun _ _=>rfl),fun i hi=>?_⟩
  ·rcases List.mem_cons.1 hi with rfl|hi
   ·exact List.mem_cons_of_mem _ (List.mem_cons_self ..)
   ·rcases List.mem_cons.1 hi with rfl|hi
    ·exact List.mem_cons_self ..
    ·exact List.mem_cons_of_mem _ (List.mem_cons_of_mem _ hi)
  ·rcases List.mem_cons.1 hi with rfl|hi
   ·exact ⟨hb1,by rw [Heap.set_same,Heap.set_same]⟩
   ·have hne:i≠w.heap.size:=fun e=>hb0 (e▸hi)
    exact ⟨(hH i hi).1,by rw [Heap.set_other _ _ hne,Heap.set_other _ _ hne];exact (hH i hi).2⟩
 ·rcases List.mem_cons.1 hi with rfl|hi
  ·exact .inl (List.mem_cons_self ..)
  ·rcases List.mem_cons.1 hi with rfl|hi
   ·exact .inr (Nat.le_refl _)
   ·exact .inl (List.mem_cons_of_mem _ hi)
theorem good_drop {b:Nat}{X:Obj}(hb:b ∉ pv)(h:Good' C n s pv H free go g):Good' C n s (b::pv) (H.set b X) free go g:=by
 have key:∀ {l K un go w},Sta C l K (b::pv) (H.set b X) free un go w→Sta C l K pv H free un go w:=by
  rintro l K un go w ⟨H',A,hH⟩
  refine ⟨H',A.fewer (fun i hi=>?_) (List.mem_cons_self ..) (fun _ _=>rfl),fun i hi=>?_⟩
  ·rcases List.mem_cons.1 hi with rfl|hi
   ·exact List.mem_cons_self ..
   ·exact List.mem_cons_of_mem _ (List.mem_cons_of_mem _ hi)
  ·obtain ⟨h1,h2⟩:=hH i (List.mem_cons_of_mem _ hi)
   have hne:i≠b:=fun e=>hb (e▸hi)
   exact ⟨h1,by rw [h2,Heap.set_other _ _ hne]⟩
 have sub:∀ {pv0 w0},Sub (C.o.bo::b::pv) pv0 w0→Sub (C.o.bo::pv) pv0 w0:=fun h i hi=>by
  rcases List.mem_cons.1 hi with rfl|hi
  ·exact h _ (List.mem_cons_self ..)
  ·exact h i (List.mem_cons_of_mem _ (List.mem_cons_of_mem _ hi))
 exact ⟨fun m l w0 pv0 T K un w hm St M S P d=>h.1 m l w0 pv0 T K un w hm (key St) M (sub S) P d,fun hg l w0 pv0 K un w St M S d=>h.2 hg l w0 pv0 K un w (key St) M (sub S) d⟩
def againL (num a b c:Int):List (Int × Int)→Node ⊕ (Int × Bool × List (Int × Int))
 | []=>.inl (.call num a b c)
 | (x,e)::h=>if e=11 then againL num a b c h else .inr (e,e == 3,h)
def againM (num a b c:Int):M Int:=fun go h=>if go then .inr (3,true,h) else againL num a b c h
theorem again_then (num a b c:Int)(k:Int→Bool→Strat):(againM num a b c).then go k=(callM num a b c).then go (fun r go'=>if r.2=11 then (againM num a b c).then go' k else k r.2 go'):=by
 funext h
 cases go with
 | true=>rfl
 | false =>
  cases h with
  | nil=>rfl
  | cons r h =>
   obtain ⟨x,e⟩:=r
   unfold M.then againM callM
   simp only [Bool.false_eq_true,if_false,againL]
   by_cases he:e=11
   ·subst he;simp
   ·simp [he]
noncomputable def againBody:Code:=(Tryd.f82.body).getD .skip
theorem again_enter (o:OpD)(x:Int)(y:Value):Frame.enter Tryd.prog 82 #[pO o,.int .i64 x,y] .normal=(base 82).at ⟨#[pO o,.int .i64 x,y,undef,undef,undef,undef,undef,undef,undef,undef,undef,undef,undef,undef,undef,undef,undef,undef],[]⟩ [.code againBody]:=by
 rw [enter_at (c:=againBody) _ Tryd.func82 rfl]
 refine congrArg (fun t=>(base 82).at ⟨t,[]⟩ [.code againBody]) ?_
 kernel_rfl
noncomputable def againTodo:List Item :=
 match Tryd.f82.body with
 | some (.seq _ (.block i (.loop c)))=>[.code c,.inLoop c,.inBlock i]
 | _=>[]
theorem again_loop (num a b c:Int)(fr:Frame)(cs:List Frame)(k:Int→Bool→Strat)(bx:Nat)(hb:bx ∉ pv):∀ n,(∀ e go',Good' C n (k e go') pv H free go' (G (fr.finish (.int .i64 e)) cs))→∀ (go:Bool) (j7 j8 j9 j10 j11 j12 j13 j14 j15 j16 j17 j18:Value),
  Good' C n ((againM num a b c).then go k) (bx::pv) (H.set bx (boxed a b c)) free go (G ((base 82).at ⟨#[pO C.o,.int .i64 num,.agg #[.int .i64 a,.int .i64 b,.int .i64 c],undef,undef,.pointer (some ⟨bx,0,none⟩),.int .i64 0,j7,j8,j9,j10,j11,j12,j13,j14,j15,j16,j17,j18],[]⟩ againTodo) (fr::cs)):=by
 intro n
 induction n using Nat.strongRecOn with
 | _ n ih =>
 intro hn go j7 j8 j9 j10 j11 j12 j13 j14 j15 j16 j17 j18
 have fin:∀ n',n'≤n→(n'<n∨True)→∀ x e go' (hlt:e=11→n'<n) (hg:go'=(e == 3)) (j13:Value),Good' C n' (if e=11 then (againM num a b c).then go' k else k e go') (bx::pv) (H.set bx (boxed a b c)) free go'
   (G (Frame.finish ((base 82).at ⟨#[pO C.o,.int .i64 num,.agg #[.int .i64 a,.int .i64 b,.int .i64 c],undef,undef,.pointer (some ⟨bx,0,none⟩),.int .i64 0,j7,j8,j9,pO C.o,.int .i64 num,.agg #[.int .i64 a,.int .i64 b,.int .i64 c],j13,j14,j15,j16,j17,j18],[]⟩
    (match againTodo with|.code (.block i (.seq (.region _ ops _) r))::t=>.inRegion ops [3,4,5,6,7,8] :: .code r::.inBlock i::t|_=>[])) (.tuple #[.int .i64 x,.int .i64 e])) (fr::cs)):=by
  intro n' hle _ x e go' hlt hg j13
  unfold againTodo
  simp only [Tryd.f82,pO]
  rw [Frame.finish_at]
  apply good_still
  ·intro l K un w Stop St hd d
   have hc:=St.clear
   go_simp
   refine Br.mo rfl rfl hc (fun d K' hK=>?_) _
   go_simp
   refine hK _ _ ⟨rfl,?_⟩
   clear hK K'
   refine Br.mo rfl rfl hc (fun d K' hK=>?_) _
   go_simp
   refine hK _ _ ⟨rfl,?_⟩
   clear hK K'
   refine Br.mo rfl rfl hc (fun d K' hK=>?_) _
   go_simp
   refine hK _ _ ⟨rfl,?_⟩
   clear hK K'
   refine Br.mo rfl rfl hc (fun d K' hK=>?_) _
   go_simp
   refine hK _ _ ⟨rfl,?_⟩
   clear hK K'
   refine Br.mo rfl rfl hc (fun d K' hK=>?_) _
   go_simp
   refine hK _ _ ⟨rfl,?_⟩
   clear hK K'
   refine Br.liv_region_end (fun d=>?_) _
   refine Br.liv_seq (fun d=>?_) _
   refine Br.liv_region (fun d=>?_) _
   simp only [Br.rz,Br.ix,Nat.reduceAdd]
   refine Br.mo rfl rfl hc (fun d K' hK=>?_) _
   go_simp
   refine hK _ _ ⟨rfl,?_⟩
   clear hK K'
   refine Br.mo rfl rfl hc (fun d K' hK=>?_) _
   go_simp
   refine hK _ _ ⟨rfl,?_⟩
   clear hK K'
   refine Br.liv_region_end (fun d=>?_) _
   exact hd _
  by_cases he:e=11
  ·subst he
   rw [if_pos rfl]
   apply good_still
   ·intro l K un w Stop St hd d
    have hc:=St.clear
    refine Br.mc rfl (fun u=>stepG_cond (t:=false) rfl) (fun d=>?_) _
    simp only [if_true,if_false,Bool.false_eq_true,↓reduceIte]
    refine Br.liv_skip (fun d=>?_) _
    refine Br.mc rfl (fun u=>stepG_inBlock) (fun d=>?_) _
    refine Br.mc rfl (fun u=>stepG_inLoop) (fun d=>?_) _
    exact hd _
   have h:=ih n' (hlt rfl) (fun e go'=>(hn e go').less hle) go' (.int .i64 x) (.int .i64 11) (.tuple #[.int .i64 x,.int .i64 11]) (pO C.o) (.int .i64 num) (.agg #[.int .i64 a,.int .i64 b,.int .i64 c]) (.tuple #[.int .i64 x,.int .i64 11]) (.int .i64 x) (.int .i64 11) (.int .i64 11) (.bool false) j18
   unfold againTodo at h
   simp only [Tryd.f82,pO] at h
   exact h
  ·rw [if_neg he]
   have hb':(e != 11)=true:=by simp [he]
   apply good_still
   ·intro l K un w Stop St hd d
    have hc:=St.clear
    refine Br.mc rfl (fun u=>stepG_cond (t:=true) (by simpa [Act.eval] using hb')) (fun d=>?_) _
    simp only [if_true]
    refine Br.liv_seq (fun d=>?_) _
    refine Br.liv_region (fun d=>?_) _
    simp only [Br.rz,Br.ix,Nat.reduceAdd]
    refine Br.mo rfl rfl hc (fun d K' hK=>?_) _
    go_simp
    refine hK _ _ ⟨rfl,?_⟩
    clear hK K'
    refine Br.mo rfl rfl hc (fun d K' hK=>?_) _
    go_simp
    refine hK _ _ ⟨rfl,?_⟩
    clear hK K'
    refine Br.liv_region_end (fun d=>?_) _
    refine Br.liv_ret (fun d=>?_) _
    exact Br.liv_leave (v:=.int .i64 e) rfl rfl Tryd.func82 (resultsC_tmp (t:=6) rfl _) hd _
    done
   exact good_drop hb ((hn e go').less hle)
 rw [again_then]
 unfold againTodo at *
 simp only [Tryd.f82,pO] at *
 apply good_still
 ·intro l K un w Stop St hd d
  have hc:=St.clear
  refine Br.mc rfl (fun u=>stepG_block) (fun d=>?_) _
  refine Br.liv_seq (fun d=>?_) _
  refine Br.liv_region (fun d=>?_) _
  simp only [Br.rz,Br.ix,Nat.reduceAdd]
  refine Br.mo rfl rfl hc (fun d K' hK=>?_) _
  go_simp
  refine hK _ _ ⟨rfl,?_⟩
  clear hK K'
  refine Br.mo rfl rfl hc (fun d K' hK=>?_) _
  go_simp
  refine hK _ _ ⟨rfl,?_⟩
  clear hK K'
  refine Br.mo rfl rfl hc (fun d K' hK=>?_) _
  have e0:(w.at d).cell? ⟨bx,0,none⟩=some (.int .i64 a):=St.cell (List.mem_cons_self ..) (by rw [Heap.set_same]) (by rfl)
  have e1:(w.at d).cell? ⟨bx,1,none⟩=some (.int .i64 b):=St.cell (List.mem_cons_self ..) (by rw [Heap.set_same]) (by rfl)
  have e2:(w.at d).cell? ⟨bx,2,none⟩=some (.int .i64 c):=St.cell (List.mem_cons_self ..) (by rw [Heap.set_same]) (by rfl)
  go_simp
  refine hK _ _ ⟨rfl,?_⟩
  clear hK K'
  refine Br.mc rfl (fun u=>stepG_call rfl rfl (by decide) rfl Tryd.func84 rfl rfl (vs:=callArgs C.o num a b c) (by simp [Act.eval]) u) (fun d=>?_) _
  exact hd _
 refine good_callR num a b c _ _ _ (fun hg=>?_) (fun hg n' hn' x e go' hg'=>?_) (fun hg=>?_)
 ·exact fin n (Nat.le_refl _) (.inr trivial) 0 3 true (fun h=>by omega) rfl j13
 ·exact fin n' (Nat.le_of_lt hn') (.inr trivial) x e go' (fun _=>hn') hg' j13
 ·exact (fin n (Nat.le_refl _) (.inr trivial) 0 3 true (fun h=>by omega) rfl j13).2 rfl
theorem good_again (num a b c:Int)(fr:Frame)(cs:List Frame)(k:Int→Bool→Strat)(hn:∀ e go',Good' C n (k e go') pv H free go' (G (fr.finish (.int .i64 e)) cs)) :
  Good' C n ((againM num a b c).then go k) pv H free go (G (Frame.enter Tryd.prog 82 (callArgs C.o num a b c) .normal) (fr::cs)):=by
 have key:=fun bx hb=>again_loop (C:=C) (H:=H) (free:=free) num a b c fr cs k bx hb n hn go
 unfold againTodo at key
 rw [again_enter]
 simp only [againBody,Tryd.f82,Option.getD_some,pO] at *
 apply good_box (X:=boxed a b c) trivial
 ·intro l K un w bx Stop hbx St hd d
  have hc:=St.clear
  refine Br.liv_seq (fun d=>?_) _
  refine Br.liv_region (fun d=>?_) _
  simp only [Br.rz,Br.ix,Nat.reduceAdd]
  refine Br.must_operW rfl rfl (by decide) (fun d K' hK=>?_) _
  go_simp
  refine hK _ _ ⟨Br.dl_alloc (fun e he=>?_),?_⟩
  ·have hm:=mem_listed he
   simp [go_sem] at hm
  clear hK K'
  have hc:Clear (w.alloc (boxed a b c)):=(Br.lk_new hc.lk (o:=boxed a b c) trivial).1.sight
  rw [show (w.at d).alloc (boxed a b c)=(w.alloc (boxed a b c)).at d from rfl]
  refine Br.mo rfl rfl hc (fun d K' hK=>?_) _
  go_simp
  refine hK _ _ ⟨rfl,?_⟩
  clear hK K'
  refine Br.liv_region_end (fun d=>?_) _
  refine Br.mc rfl (fun u=>stepG_block) (fun d=>?_) _
  refine Br.mc rfl (fun u=>stepG_loop) (fun d=>?_) _
  rw [← hbx];exact hd _
 exact fun bx hb _=>key bx hb _ _ _ _ _ _ _ _ _ _ _ _
end
section
variable {C:Ctx} {n:Nat} {pv:List Nat} {H:Heap} {free:Value} {go:Bool}
noncomputable def takeBody:Code:=(Tryd.f83.body).getD .skip
theorem take_enter (o:OpD)(x y:Int):Frame.enter Tryd.prog 83 #[pO o,.int .i64 x,.int .i64 y] .normal=(base 83).at ⟨#[pO o,.int .i64 x,.int .i64 y,undef,undef,undef,undef,undef,undef,undef,undef,undef,undef,undef,undef,undef,undef,undef,undef,undef,undef,undef,undef],[]⟩ [.code takeBody]:=by
 rw [enter_at (c:=takeBody) _ Tryd.func83 rfl]
 refine congrArg (fun t=>(base 83).at ⟨t,[]⟩ [.code takeBody]) ?_
 kernel_rfl
def takeM (word file:Int):M (Int × Int):=(againM 17 file 0 word).bind fun e=>if e≠0 then M.pure (0,e) else callM 18 0 word 0
theorem good_take (word file:Int)(fr:Frame)(cs:List Frame)(k:Int × Int→Bool→Strat)(hn:∀ x e go',Good' C n (k (x,e) go') pv H free go' (G (fr.finish (.tuple #[.int .i64 x,.int .i64 e])) cs)) :
  Good' C n ((takeM word file).then go k) pv H free go (G (Frame.enter Tryd.prog 83 #[pO C.o,.int .i64 word,.int .i64 file] .normal) (fr::cs)):=by
 unfold takeM
 rw [M.bind_then,take_enter]
 simp only [takeBody,Tryd.f83,Option.getD_some,pO]
 apply good_still
 ·intro l K un w Stop St hd d
  have hc:=St.clear
  refine Br.liv_seq (fun d=>?_) _
  refine Br.liv_region (fun d=>?_) _
  simp only [Br.rz,Br.ix,Nat.reduceAdd]
  refine Br.mo rfl rfl hc (fun d K' hK=>?_) _
  go_simp
  refine hK _ _ ⟨rfl,?_⟩
  clear hK K'
  refine Br.mo rfl rfl hc (fun d K' hK=>?_) _
  go_simp
  refine hK _ _ ⟨rfl,?_⟩
  clear hK K'
  refine Br.liv_region_end (fun d=>?_) _
  refine Br.liv_seq (fun d=>?_) _
  refine Br.liv_seq (fun d=>?_) _
  refine Br.liv_region (fun d=>?_) _
  simp only [Br.rz,Br.ix,Nat.reduceAdd]
  refine Br.mo rfl rfl hc (fun d K' hK=>?_) _
  go_simp
  refine hK _ _ ⟨rfl,?_⟩
  clear hK K'
  refine Br.mo rfl rfl hc (fun d K' hK=>?_) _
  go_simp
  refine hK _ _ ⟨rfl,?_⟩
  clear hK K'
  refine Br.mo rfl rfl hc (fun d K' hK=>?_) _
  go_simp
  refine hK _ _ ⟨rfl,?_⟩
  clear hK K'
  refine Br.mo rfl rfl hc (fun d K' hK=>?_) _
  go_simp
  refine hK _ _ ⟨rfl,?_⟩
  clear hK K'
  refine Br.mc rfl (fun u=>stepG_call rfl rfl (by decide) rfl Tryd.func82 rfl rfl (vs:=callArgs C.o 17 file 0 word) (by simp [Act.eval]) u) (fun d=>?_) _
  exact hd _
 refine good_again 17 file 0 word _ _ _ (fun e go'=>?_)
 rw [Frame.finish_at]
 apply good_still
 ·intro l K un w Stop St hd d
  have hc:=St.clear
  go_simp
  refine Br.mo rfl rfl hc (fun d K' hK=>?_) _
  go_simp
  refine hK _ _ ⟨rfl,?_⟩
  clear hK K'
  refine Br.liv_region_end (fun d=>?_) _
  refine Br.liv_seq (fun d=>?_) _
  refine Br.liv_region (fun d=>?_) _
  simp only [Br.rz,Br.ix,Nat.reduceAdd]
  refine Br.mo rfl rfl hc (fun d K' hK=>?_) _
  go_simp
  refine hK _ _ ⟨rfl,?_⟩
  clear hK K'
  refine Br.mo rfl rfl hc (fun d K' hK=>?_) _
  go_simp
  refine hK _ _ ⟨rfl,?_⟩
  clear hK K'
  refine Br.liv_region_end (fun d=>?_) _
  exact hd _
 by_cases he:e=0
 ·subst he
  simp only [ne_eq,not_true_eq_false,if_false]
  apply good_still
  ·intro l K un w Stop St hd d
   have hc:=St.clear
   refine Br.mc rfl (fun u=>stepG_cond (t:=false) rfl) (fun d=>?_) _
   simp only [if_true,if_false,Bool.false_eq_true,↓reduceIte]
   refine Br.liv_skip (fun d=>?_) _
   refine Br.liv_seq (fun d=>?_) _
   refine Br.liv_region (fun d=>?_) _
   simp only [Br.rz,Br.ix,Nat.reduceAdd]
   refine Br.mo rfl rfl hc (fun d K' hK=>?_) _
   go_simp
   refine hK _ _ ⟨rfl,?_⟩
   clear hK K'
   refine Br.mo rfl rfl hc (fun d K' hK=>?_) _
   go_simp
   refine hK _ _ ⟨rfl,?_⟩
   clear hK K'
   refine Br.mo rfl rfl hc (fun d K' hK=>?_) _
   go_simp
   refine hK _ _ ⟨rfl,?_⟩
   clear hK K'
   refine Br.mc rfl (fun u=>stepG_call rfl rfl (by decide) rfl Tryd.func84 rfl rfl (vs:=callArgs C.o 18 0 word 0) (by simp [Act.eval]) u) (fun d=>?_) _
   exact hd _
  refine good_call 18 0 word 0 _ _ _ (fun x e go'' hg=>?_)
  rw [Frame.finish_at]
  apply good_still
  ·intro l K un w Stop St hd d
   have hc:=St.clear
   go_simp
   refine Br.mo rfl rfl hc (fun d K' hK=>?_) _
   go_simp
   refine hK _ _ ⟨rfl,?_⟩
   clear hK K'
   refine Br.mo rfl rfl hc (fun d K' hK=>?_) _
   go_simp
   refine hK _ _ ⟨rfl,?_⟩
   clear hK K'
   refine Br.mo rfl rfl hc (fun d K' hK=>?_) _
   go_simp
   refine hK _ _ ⟨rfl,?_⟩
   clear hK K'
   refine Br.mo rfl rfl hc (fun d K' hK=>?_) _
   go_simp
   refine hK _ _ ⟨rfl,?_⟩
   clear hK K'
   refine Br.liv_region_end (fun d=>?_) _
   refine Br.liv_ret (fun d=>?_) _
   exact Br.liv_leave (v:=.tuple #[.int .i64 x,.int .i64 e]) rfl rfl Tryd.func83 (resultsC_tmp2 (t:=6) (u:=7) rfl _) hd _
   done
  exact hn x e go''
 ·simp only [ne_eq,he,not_false_eq_true,if_true]
  have hb:(e != 0)=true:=by simp [he]
  rw [M.pure_then]
  apply good_still
  ·intro l K un w Stop St hd d
   have hc:=St.clear
   refine Br.mc rfl (fun u=>stepG_cond (t:=true) (by simpa [Act.eval] using hb)) (fun d=>?_) _
   simp only [if_true]
   refine Br.liv_seq (fun d=>?_) _
   refine Br.liv_region (fun d=>?_) _
   simp only [Br.rz,Br.ix,Nat.reduceAdd]
   refine Br.mo rfl rfl hc (fun d K' hK=>?_) _
   go_simp
   refine hK _ _ ⟨rfl,?_⟩
   clear hK K'
   refine Br.mo rfl rfl hc (fun d K' hK=>?_) _
   go_simp
   refine hK _ _ ⟨rfl,?_⟩
   clear hK K'
   refine Br.mo rfl rfl hc (fun d K' hK=>?_) _
   go_simp
   refine hK _ _ ⟨rfl,?_⟩
   clear hK K'
   refine Br.liv_region_end (fun d=>?_) _
   refine Br.liv_ret (fun d=>?_) _
   exact Br.liv_leave (v:=.tuple #[.int .i64 0,.int .i64 e]) rfl rfl Tryd.func83 (resultsC_tmp2 (t:=6) (u:=7) rfl _) hd _
   done
  exact hn 0 e go'
end
end Go.Proofs.YtcgabodkegcpgaaDoor
