/- Lone stretches of an operation in company: functions and pieces of code that only read, and make new blocks. No statement of the program is proved here. -/
import Derived.Test.YtcgabodkegcpgaaDoorOpp
import Derived.Test.YtcgabodkegcpgaaDoorOpr
import Derived.Test.YtcgabodkegcpgaaDoorOpz
namespace Go.Proofs.YtcgabodkegcpgaaDoor
open Go.Conc Go.RowKit
open Br (OpD KO SO SP sfO Lk Fit Must DL Liv Clear)
set_option linter.unusedVariables false
set_option linter.unusedSimpArgs false
set_option maxHeartbeats 20000000
structure Gain (pv:List Nat) (H:Heap) (v v':World) (bs:List Nat) (Hn:Heap):Prop where
 size:v.heap.size≤v'.heap.size
 old:∀ k,k<v.heap.size→v'.heap[k]?=v.heap[k]?
 new:∀ b∈bs,v.heap.size≤b∧v'.heap[b]?=some (Hn b)
 keep:∀ i∈pv,Hn i=H i
section
variable {C:Ctx} {n:Nat} {s:Strat} {pv:List Nat} {H:Heap} {free:Value} {go:Bool}
theorem At.gain {l:List OpD}{K:Ker}{un:Bool}{w w':World}(A:At C l K pv H free un go w)(hfit:Fit (sfO l) w')(hsz:w.heap.size≤w'.heap.size)(hk:∀ k,k<w.heap.size→w'.heap[k]?=w.heap[k]?){bs:List Nat}{Hn:Heap}(hb:∀ b∈bs,w.heap.size≤b∧w'.heap[b]?=some (Hn b)) :
  At C l K (pv ++ bs) (fun i=>if i<w.heap.size then H i else Hn i) free un go w':=by
 have hlt:∀ i∈pv,i<w.heap.size:=fun i hi=>(Array.getElem?_eq_some_iff.1 (A.has i hi)).1
 have hR:=A.env.rep
 refine ⟨⟨hR.same hsz (fun k h _=>hk k h),A.env.tab.same (hk 0 A.env.tab.lt),A.env.inv,hfit,fun o ho=>?_,A.env.ap⟩,A.mem,⟨List.mem_append_left _ A.own.rc,fun i hi=>?_⟩,fun i hi=>?_,?_,A.top,fun i hi h0 o ho=>?_⟩
 ·obtain ⟨c,t,h0,h1⟩:=A.env.ko o ho
  exact ⟨c,t,by rw [hk _ (Br.KO.lt A.env.ko ho)];exact h0,h1⟩
 ·rcases List.mem_append.1 hi with hi|hi
  ·exact A.own.ap i hi
  ·have:=(hb i hi).1;have:=hR.lk;have:=hR.lf;have:=hR.ls;have:=hR.ld;have:=A.env.tab.lt
   refine ⟨?_,?_,?_,?_,?_⟩<;>omega
 ·rcases List.mem_append.1 hi with hi|hi
  ·have:=hlt i hi
   simp only [this,if_true]
   rw [hk i this];exact A.has i hi
  ·obtain ⟨h1,h2⟩:=hb i hi
   simp only [show ¬ (i<w.heap.size) by omega,if_false]
   exact h2
 ·obtain ⟨t,h⟩:=A.row
  have:=hlt _ A.own.rc
  exact ⟨t,by simp only [this,if_true];exact h⟩
 ·rcases List.mem_append.1 hi with hi|hi
  ·exact A.far i hi h0 o ho
  ·have:=Br.KO.lt A.env.ko ho;have:=(hb i hi).1
   omega
theorem Sta.lone {l:List OpD}{K:Ker}{un:Bool}{w v:World}(St:Sta C l K pv H free un go w){d:Nat}(hv:Lk (sfO l) v (w.at d)):∀ i∈pv,i<v.heap.size∧(Br.Obj.sight (H i)→v.heap[i]?=some (H i)):=fun i hi=>by
 obtain ⟨H',A,hH⟩:=St
 have hz:sfO l i=0:=Br.sfO_zero fun o ho=>A.far i (List.mem_cons_of_mem _ hi) (hH i hi).1 o ho
 have hh:=A.has i (List.mem_cons_of_mem _ hi)
 refine ⟨by rw [hv.size];exact (Array.getElem?_eq_some_iff.1 hh).1,fun hs=>?_⟩
 rw [hv.heap,show (w.at d).heap=w.heap from rfl,hh,(hH i hi).2,hz,Option.map_some,Br.fz_sight hs]
theorem Sta.gain {l:List OpD}{K:Ker}{un:Bool}{w w' v v':World}(St:Sta C l K pv H free un go w){d:Nat}(hv:Lk (sfO l) v (w.at d))(hv':Lk (sfO l) v' w')(hkp:Br.Kept (sfO l) (w.at d) w'){bs:List Nat}{Hn:Heap}(hG:Gain pv H v v' bs Hn) :
  Sta C l K (bs ++ pv) Hn free un go w'∧Mine C (C.o.bo::pv) w w'∧Sub (C.o.bo::(bs ++ pv)) (C.o.bo::pv) w∧∀ b∈bs,b ∉ pv∧b≠C.o.bo:=by
 obtain ⟨H',A,hH⟩:=St
 have hs:v.heap.size=w.heap.size:=hv.size
 have hs':v'.heap.size=w'.heap.size:=hv'.size
 have hz:w.heap.size≤w'.heap.size:=by have:=hG.size;omega
 have hk:∀ k,k<w.heap.size→w'.heap[k]?=w.heap[k]?:=fun k hk=>same_block (w:=w.at d) hkp hv hv' (hG.old k (by omega))
 have hlt:∀ i∈C.o.bo::pv,i<w.heap.size:=fun i hi=>(Array.getElem?_eq_some_iff.1 (A.has i hi)).1
 have hb:∀ b∈bs,w.heap.size≤b∧w'.heap[b]?=some (Hn b):=fun b hb=>by
  obtain ⟨h1,h2⟩:=hG.new b hb
  rw [hs] at h1
  have hz:sfO l b=0:=Br.sfO_zero fun o ho=>by have:=Br.KO.lt A.env.ko ho;omega
  refine ⟨h1,?_⟩
  rw [hv'.heap,hz] at h2
  cases e:w'.heap[b]? with
  | none=>rw [e] at h2;cases h2
  | some o=>rw [e,Option.map_some,Br.fz_sight (hkp.new b o h1 e)] at h2;exact h2
 have hnew:∀ b∈bs,b ∉ pv∧b≠C.o.bo:=fun b hb'=>⟨fun h=>by have:=hlt _ (List.mem_cons_of_mem _ h);have:=(hb b hb').1;omega,fun e=>by have:=hlt _ (List.mem_cons_self ..);have:=(hb b hb').1;omega⟩
 refine ⟨⟨_,(A.gain hv'.fit hz hk hb).fewer (pv':=C.o.bo::(bs ++ pv)) (fun i hi=>?_) (List.mem_cons_self ..) (fun _ _=>rfl),fun i hi=>?_⟩,⟨hz,fun k h _ _ _ _=>hk k h⟩,fun i hi=>?_,hnew⟩
 ·rcases List.mem_cons.1 hi with rfl|hi
  ·exact List.mem_append_left _ (List.mem_cons_self ..)
  ·rcases List.mem_append.1 hi with hi|hi
   ·exact List.mem_append_right _ hi
   ·exact List.mem_append_left _ (List.mem_cons_of_mem _ hi)
 ·rcases List.mem_append.1 hi with hi|hi
  ·refine ⟨(hnew i hi).2,?_⟩
   have:=(hb i hi).1
   simp only [show ¬ (i<w.heap.size) by omega,if_false]
  ·refine ⟨(hH i hi).1,?_⟩
   have:=hlt i (List.mem_cons_of_mem _ hi)
   simp only [this,if_true]
   rw [(hH i hi).2,hG.keep i hi]
 ·rcases List.mem_cons.1 hi with rfl|hi
  ·exact .inl (List.mem_cons_self ..)
  ·rcases List.mem_append.1 hi with hi|hi
   ·exact .inr (hb i hi).1
   ·exact .inl (List.mem_cons_of_mem _ hi)
theorem good_fun {f:FuncId}(hf:Br.Sg f=true){args:Array Value}{R:Value→List Nat→Heap→Prop}
  (hspec:∀ v:World,(∀ i∈pv,i<v.heap.size∧(Br.Obj.sight (H i)→v.heap[i]?=some (H i)))→Calls Tryd.prog f args v (fun e v'=>∃ x bs Hn,e=.returned x∧Gain pv H v v' bs Hn∧R x bs Hn))
  (fr:Frame)(cs:List Frame)(hn:∀ x bs Hn,R x bs Hn→(∀ b∈bs,b ∉ pv∧b≠C.o.bo)→(∀ i∈pv,Hn i=H i)→Good' C n s (bs ++ pv) Hn free go (G (fr.finish x) cs)) :
  Good' C n s pv H free go (G (Frame.enter Tryd.prog f args .normal) (fr::cs)):=by
 refine good_step (R:=fun pv' H' free' g'=>∃ x bs,R x bs H'∧(∀ b∈bs,b ∉ pv∧b≠C.o.bo)∧(∀ i∈pv,H' i=H i)∧pv'=bs ++ pv∧free'=free∧g'=G (fr.finish x) cs) (fun l K un w Stop St h d=>?_) ?_
 ·have hc:=St.clear
  have hfit:Fit (sfO l) (w.at d):=by obtain ⟨H',A,hH⟩:=St;exact ⟨A.env.fit.soft,A.env.fit.clear⟩
  refine (Br.must_calls Br.rules (sft:=sfO l) (w0:=w.at d) hf hfit false (Q:=fun x v'=>∃ v bs Hn,Lk (sfO l) v (w.at d)∧Gain pv H v v' bs Hn∧R x bs Hn) (fun v hv=>(hspec v (St.lone hv)).mono fun e v' he=>?_) fr cs).keep.then ?_
  ·obtain ⟨x,bs,Hn,rfl,h1,h2⟩:=he
   exact ⟨v,bs,Hn,hv,h1,h2⟩
  ·rintro g w' ⟨⟨x,v',rfl,hl',v,bs,Hn,hv,h1,h2⟩,hkp⟩
   obtain ⟨g1,g2,g3,g4⟩:=St.gain hv hl' hkp h1
   exact h _ Hn _ _ w' ⟨x,bs,h2,g4,h1.keep,rfl,rfl,rfl⟩ g1 g2 g3 w'.drawn
 ·rintro pv' H' free' g' ⟨x,bs,h1,h2,h3,rfl,rfl,rfl⟩
  exact hn x bs H' h1 h2 h3
theorem good_code {c:Code}(hc:Br.okCode Tryd.prog Br.Sg Br.ms true c=true){a:Act}(ha:a.defers=[]){b:Frame}(hb:b.kind=.normal)(hbf:∃ fn,Tryd.prog.funcs[b.fn]?=some fn){R:Act→List Nat→Heap→Prop}
  (hspec:∀ v:World,(∀ i∈pv,i<v.heap.size∧(Br.Obj.sight (H i)→v.heap[i]?=some (H i)))→(∀ j x,(∀ un,(oRow C 0 0 free un go)[j]?=some x)→v.cell? ⟨C.o.bo,j,none⟩=some x)→c.wp Tryd.prog (fun e a' v'=>e=.normal∧∃ bs Hn,Gain pv H v v' bs Hn∧R a' bs Hn) a v)
  (k:List Item)(cs:List Frame)(hn:∀ a' bs Hn,R a' bs Hn→(∀ b∈bs,b ∉ pv∧b≠C.o.bo)→(∀ i∈pv,Hn i=H i)→Good' C n s (bs ++ pv) Hn free go (G (b.at a' k) cs)) :
  Good' C n s pv H free go (G (b.at a (.code c::k)) cs):=by
 refine good_step (R:=fun pv' H' free' g'=>∃ a' bs,R a' bs H'∧(∀ b∈bs,b ∉ pv∧b≠C.o.bo)∧(∀ i∈pv,H' i=H i)∧pv'=bs ++ pv∧free'=free∧g'=G (b.at a' k) cs) (fun l K un w Stop St h d=>?_) ?_
 ·have hfit:Fit (sfO l) (w.at d):=by obtain ⟨H',A,hH⟩:=St;exact ⟨A.env.fit.soft,A.env.fit.clear⟩
  refine (Br.must_wp Br.rules (sft:=sfO l) (w0:=w.at d) hc ha hb hbf hfit false (Q:=fun e a' v'=>e=.normal∧∃ v bs Hn,Lk (sfO l) v (w.at d)∧Gain pv H v v' bs Hn∧R a' bs Hn) (fun e a w he=>.inl he.1) (fun v hv=>?_) k cs).keep.then ?_
  ·refine Code.wp_mono ?_ (hspec v (St.lone hv) (fun j x hx=>?_))
   ·rintro e a' v' ⟨h0,bs,Hn,h1,h2⟩
    exact ⟨h0,v,bs,Hn,hv,h1,h2⟩
   ·rw [hv.cell];exact St.rcell (hx un)
  ·rintro g w' ⟨⟨e,a',v',⟨he,v,bs,Hn,hv,h1,h2⟩,hl',hg⟩,hkp⟩
   obtain ⟨g1,g2,g3,g4⟩:=St.gain hv hl' hkp h1
   rcases hg with ⟨_,rfl⟩|⟨h0,_⟩
   ·exact h _ Hn _ _ w' ⟨a',bs,h2,g4,h1.keep,rfl,rfl,rfl⟩ g1 g2 g3 w'.drawn
   ·rw [he] at h0;cases h0
 ·rintro pv' H' free' g' ⟨x,bs,h1,h2,h3,rfl,rfl,rfl⟩
  exact hn x bs H' h1 h2 h3
end
attribute [local go_sem ↓] Go.wp_at_zero Go.wp_at_succ
def Row (pv:List Nat)(H:Heap)(g:Nat)(t:TypeId)(n:Nat)(f:Nat→Value):Prop:=g∈pv∧∃ c,H g=.cells c t (0,0)∧c.size=n∧∀ i,i<n→c[i]?=some (f i)
theorem Row.is {pv:List Nat}{H:Heap}{g t n:Nat}{f:Nat→Value}(h:Row pv H g t n f){v:World}(hv:∀ i∈pv,i<v.heap.size∧(Br.Obj.sight (H i)→v.heap[i]?=some (H i))):v.rowIs g t n f:=by
 obtain ⟨h1,c,h2,h3,h4⟩:=h
 exact ⟨c,by rw [(hv g h1).2 (by rw [h2];trivial),h2],h3,h4⟩
def Slt (X:Obj)(K:Ker)(i:Nat):Prop:=∃ c t f,X=.cells c t f∧∀ j,j<20→c[j]?=some (sCell K (i*20+j))
theorem slt_of {w:World}{b:Nat}{K:Ker}{i:Nat}(h:w.rangeAt b 0 (cut (sCell K) (i*20) 20)):∃ X,w.heap[b]?=some X∧Slt X K i:=by
 have hc:=fun j (hj:j<20)=>cut_cell h hj
 have h0:=hc 0 (by omega)
 simp only [World.cell?] at h0 hc
 cases e:w.heap[b]? with
 | none=>rw [e] at h0;cases h0
 | some X =>
  rw [e] at h0 hc
  cases X with
  | cells c t f=>exact ⟨_,rfl,c,t,f,rfl,fun j hj=>by simpa using hc j hj⟩
  | _=>cases h0
section
variable {C:Ctx} {n:Nat} {pv:List Nat} {H:Heap} {free:Value} {go:Bool}
noncomputable def spawnR3:Code :=
 match Tryd.f86.body with
 | some (.seq _ (.seq (.seq _ (.block _ (.loop (.seq _ (.seq _ (.seq (.block _ (.seq r _)) _)))))) _))=>r
 | _=>.skip
set_option maxRecDepth 100000 in
theorem spawn_read {K0:Ker}{gF gS gD sb:Nat}(hK:K0.nS≤32)(hR:Row pv H gS 55 (K0.nS*20) (sCell K0)){i:Nat}(hi:i<K0.nS)(j6 j7 j8 j13 j14 j15 j16 j17 j18 j19 j20 j21 j22 j23 j24 j25 j26 j27 j28:Value)(v:World)(hv:∀ i∈pv,i<v.heap.size∧(Br.Obj.sight (H i)→v.heap[i]?=some (H i))) :
  spawnR3.wp Tryd.prog (fun e a' v'=>e=.normal∧∃ bs Hn,Gain pv H v v' bs Hn∧∃ bx,bs=[bx]∧a'=⟨#[pO C.o,stVal K0 gF gS gD,undef,.pointer (some ⟨sb,0,none⟩),.int .i64 0,.int .i64 0,.int .i64 i,.pointer (some ⟨bx,0,none⟩),j8,.pointer (some ⟨sb,1,none⟩),.slice (some ⟨gS,0,none⟩) K0.nS K0.nS,.int .i64 K0.nS,.int .i64 i,j13,.int .i64 i,.pointer (some ⟨gS,i*20,none⟩),.agg (cut (sCell K0) (i*20) 20).toArray,j17,j18,j19,j20,j21,j22,j23,j24,j25,j26,j27,j28,undef,undef],[]⟩∧Slt (Hn bx) K0 i) ⟨#[pO C.o,stVal K0 gF gS gD,undef,.pointer (some ⟨sb,0,none⟩),.int .i64 0,.int .i64 0,j6,j7,j8,.pointer (some ⟨sb,1,none⟩),.slice (some ⟨gS,0,none⟩) K0.nS K0.nS,.int .i64 K0.nS,.int .i64 i,j13,j14,j15,j16,j17,j18,j19,j20,j21,j22,j23,j24,j25,j26,j27,j28,undef,undef],[]⟩ v:=by
 have hrow:=hR.is hv
 have hlt:∀ i∈pv,i<v.heap.size:=fun i hi=>(hv i hi).1
 obtain ⟨cs,hcs⟩:∃ cs,cs=cut (sCell K0) (i*20) 20:=⟨_,rfl⟩
 have ei:Hid ((Tryd.prog.info? 55).map (·.size)=some cs.length):=by unfold Hid;rw [hcs,cut_len];kernel_rfl
 have ei2:Hid ((Tryd.prog.info? 55).map (·.size)=some cs.toArray.size):=by unfold Hid;rw [List.size_toArray,hcs,cut_len];kernel_rfl
 have o1:Hid (cs.toArray.all (·.oneCell')=true):=by unfold Hid;rw [hcs];exact cut_one K0 _ _
 have z1:Hid (cs.toArray.size=20):=by unfold Hid;rw [List.size_toArray,hcs,cut_len]
 have LA:Hid (v.rangeAt gS (i*20) cs):=by unfold Hid;rw [hcs];exact rowIs_range hrow (o:=i*20) (m:=20) (by omega)
 rw [← hcs]
 have Hcs:Hid (cs=cut (sCell K0) (i*20) 20):=hcs
 clear hcs
 have b1:(0:Int)≤(i:Int):=by omega
 have b2:(i:Int)<(K0.nS:Int):=by omega
 have Hlt:Hid (∀ i∈pv,i<v.heap.size):=hlt
 clear hlt hrow hR hv
 unfold spawnR3
 simp only [Tryd.f86]
 go_wp2_with (first|(refine wpList_load_mid rfl 55 _ rfl gS (i*20) rfl cs _ LA.out Tryd.underlying55 rfl ei.out ?_)|(refine wpList_store_any rfl 55 _ _ rfl _ 0 cs.toArray rfl rfl (by rw [z1.out];exact there_new1 _ _ _ _ (by rfl)) ei2.out o1.out ?_;intro W1 f1 f2 f3 f4))
 obtain ⟨X,hX,hS⟩:=slt_of (K:=K0) (i:=i) (b:=v.heap.size) (w:=W1) (by rw [← Hcs.out];exact f1)
 refine ⟨[v.heap.size],fun k=>if k=v.heap.size then X else H k,⟨?_,?_,?_,?_⟩,v.heap.size,rfl,rfl,by simpa using hS⟩
 ·rw [f3];simp
 ·intro k hk;rw [f2 k (by omega)];exact Below.heap_alloc _ _ _ hk
 ·intro b hb;obtain rfl:=List.mem_singleton.1 hb;exact ⟨Nat.le_refl _,by simpa using hX⟩
 ·intro i hi;have:=Hlt.out i hi;show (if i=v.heap.size then X else H i)=H i;rw [if_neg (by omega)]
theorem good_drop1 {s:Strat}{g:Goroutine}{b:Nat}(hb:b ∉ pv)(h:Good' C n s pv H free go g):Good' C n s ([b] ++ pv) H free go g:=by
 have:=good_drop (X:=H b) hb h
 rwa [Heap.set_self H rfl] at this
theorem Fr.same {fb:Option Nat}{xs:List Int}{H':Heap}(hk:∀ i∈pv,H' i=H i)(h:Fr fb pv H free xs):Fr fb pv H' free xs:=by
 obtain ⟨sl,h1,h2,h3,h4,h5⟩:=h
 exact ⟨sl,h1,h2,h3,h4,h5.imp id fun ⟨b',c,t,g1,g2,g3,g4⟩=>⟨b',c,t,g1,g2,(hk b' g2).trans g3,g4⟩⟩
theorem Row.same {g t m:Nat}{f:Nat→Value}{H':Heap}(h:Row pv H g t m f)(hk:H' g=H g):Row pv H' g t m f:=by
 obtain ⟨h1,c,h2,h3⟩:=h
 exact ⟨h1,c,hk.trans h2,h3⟩
def spawnM (K0:Ker):Nat→Nat→List Int→M ((Int × Int) × List Int)
 | 0,_,xs=>(yieldM 10).bind fun e=>M.pure ((0,e),xs)
 | f+1,i,xs=>if K0.S i 0=0 then (withM1 5 xs.length i 0 0 xs).bind fun z=>if z.1=7 then spawnM K0 f (i+1) z.2 else M.pure (((i:Int),z.1),z.2) else spawnM K0 f (i+1) xs
noncomputable def spawnRest:List Item :=
 match Tryd.f86.body with
 | some (.seq _ (.seq (.seq _ (.block i (.loop c))) r))=>[.code c,.inLoop c,.inBlock i,.code r]
 | _=>[]
set_option maxRecDepth 100000 in
theorem spawn_loop (hspec:PopSpec)(hpl:∀ xs:List Int,xs≠[]→(popL xs).length=xs.length - 1)(K0:Ker)(gF gS gD sb:Nat)(hK:K0.nS≤32)(fb:Option Nat)(hfb:∀ b,fb=some b→b∈pv)(hgf:some gS≠fb)(H0:Heap)(hR:Row pv H0 gS 55 (K0.nS*20) (sCell K0))(fr:Frame)(cs:List Frame)(k:(Int × Int) × List Int→Bool→Strat)
  (hn:∀ x e xs' H' free' go',Fr fb pv H' free' xs'→(∀ i∈pv,some i≠fb→H' i=H0 i)→Good' C n (k ((x,e),xs') go') pv H' free' go' (G (fr.finish (.tuple #[.int .i64 x,.int .i64 e])) cs)) :
  ∀ (f i:Nat),i+f=K0.nS→∀ (xs:List Int) (H:Heap) (free:Value),Fr fb pv H free xs→(∀ i∈pv,some i≠fb→H i=H0 i)→∀ (go:Bool) (j6 j7 j8 j13 j14 j15 j16 j17 j18 j19 j20 j21 j22 j23 j24 j25 j26 j27 j28:Value),
  Good' C n ((spawnM K0 f i xs).then go k) pv H free go (G ((base 86).at ⟨#[pO C.o,stVal K0 gF gS gD,undef,.pointer (some ⟨sb,0,none⟩),.int .i64 0,.int .i64 0,j6,j7,j8,.pointer (some ⟨sb,1,none⟩),.slice (some ⟨gS,0,none⟩) K0.nS K0.nS,.int .i64 K0.nS,.int .i64 i,j13,j14,j15,j16,j17,j18,j19,j20,j21,j22,j23,j24,j25,j26,j27,j28,undef,undef],[]⟩ spawnRest) (fr::cs)):=by
 intro f
 induction f with
 | zero =>
  intro i hi xs H free hF hH go j6 j7 j8 j13 j14 j15 j16 j17 j18 j19 j20 j21 j22 j23 j24 j25 j26 j27 j28
  obtain rfl:i=K0.nS:=by omega
  unfold spawnM
  rw [M.bind_then]
  unfold spawnRest
  simp only [Tryd.f86,pO]
  apply good_still
  ·intro l K un w Stop St hd d
   have hc:=St.clear
   refine Br.liv_seq (fun d=>?_) _
   refine Br.liv_region (fun d=>?_) _
   simp only [Br.rz,Br.ix,Nat.reduceAdd]
   refine Br.mo rfl rfl hc (fun d K' hK=>?_) _
   go_simp
   refine hK _ _ ⟨rfl,?_⟩
   clear hK K'
   refine Br.liv_region_end (fun d=>?_) _
   refine Br.liv_seq (fun d=>?_) _
   refine Br.mc rfl (fun u=>stepG_cond (t:=false) (by simp [Act.eval])) (fun d=>?_) _
   simp only [if_false,Bool.false_eq_true]
   refine Br.mc rfl (fun u=>stepG_exit rfl) (fun d=>?_) _
   refine Br.liv_seq (fun d=>?_) _
   refine Br.liv_region (fun d=>?_) _
   simp only [Br.rz,Br.ix,Nat.reduceAdd]
   refine Br.mo rfl rfl hc (fun d K' hK=>?_) _
   go_simp
   refine hK _ _ ⟨rfl,?_⟩
   clear hK K'
   refine Br.mc rfl (fun u=>stepG_call rfl rfl (by decide) rfl Tryd.func93 rfl rfl (vs:=#[pO C.o,.int .i64 10]) (by simp [Act.eval]) u) (fun d=>?_) _
   exact hd _
  refine good_yield 10 _ _ _ (fun e go'=>?_)
  rw [M.pure_then,Frame.finish_at]
  apply good_still
  ·intro l K un w Stop St hd d
   have hc:=St.clear
   go_simp
   refine Br.mo rfl rfl hc (fun d K' hK=>?_) _
   go_simp
   refine hK _ _ ⟨rfl,?_⟩
   clear hK K'
   refine Br.mo rfl rfl hc (fun d K' hK=>?_) _
   go_simp
   refine hK _ _ ⟨rfl,?_⟩
   clear hK K'
   refine Br.liv_region_end (fun d=>?_) _
   refine Br.liv_ret (fun d=>?_) _
   exact Br.liv_leave (v:=.tuple #[.int .i64 0,.int .i64 e]) rfl rfl Tryd.func86 (resultsC_tmp2 (t:=4) (u:=5) rfl _) hd _
   done
  exact hn 0 e xs H free go' hF hH
 | succ f ih =>
  intro i hi xs H free hF hH go j6 j7 j8 j13 j14 j15 j16 j17 j18 j19 j20 j21 j22 j23 j24 j25 j26 j27 j28
  have hlt:i<K0.nS:=by omega
  have hlt':(i:Int)<(K0.nS:Int):=by omega
  have key:=fun (j6 j7 j8 j13 j14 j15 j16 j17 j18 j19 j20 j21 j22 j23 j24 j25 j26 j27 j28:Value) v hv=>spawn_read (C:=C) (pv:=pv) (H:=H) (gF:=gF) (gD:=gD) (sb:=sb) hK (hR.same (hH gS hR.1 hgf)) hlt j6 j7 j8 j13 j14 j15 j16 j17 j18 j19 j20 j21 j22 j23 j24 j25 j26 j27 j28 v hv
  unfold spawnM
  unfold spawnRest at *
  unfold spawnR3 at key
  simp only [Tryd.f86,pO] at *
  apply good_still
  ·intro l K un w Stop St hd d
   have hc:=St.clear
   refine Br.liv_seq (fun d=>?_) _
   refine Br.liv_region (fun d=>?_) _
   simp only [Br.rz,Br.ix,Nat.reduceAdd]
   refine Br.mo rfl rfl hc (fun d K' hK=>?_) _
   go_simp
   refine hK _ _ ⟨rfl,?_⟩
   clear hK K'
   refine Br.liv_region_end (fun d=>?_) _
   refine Br.liv_seq (fun d=>?_) _
   refine Br.mc rfl (fun u=>stepG_cond (t:=true) (by simp [Act.eval,hlt])) (fun d=>?_) _
   simp only [if_true]
   refine Br.liv_skip (fun d=>?_) _
   refine Br.liv_seq (fun d=>?_) _
   refine Br.mc rfl (fun u=>stepG_block) (fun d=>?_) _
   refine Br.liv_seq (fun d=>?_) _
   exact hd _
  refine good_code (by kernel_rfl) rfl rfl ⟨_,Tryd.func86⟩ (fun v hv _=>key _ _ _ _ _ _ _ _ _ _ _ _ _ _ _ _ _ _ _ v hv) _ _ ?_
  rintro a' bs Hn ⟨bx,rfl,rfl,c,t,fz,hX,hc⟩ hnew hkeep
  have hbx:=(hnew bx (List.mem_singleton.2 rfl)).1
  have hc0:c[0]?=some (.int .i64 (K0.S i 0)):=by rw [hc 0 (by omega),sCell_num K0 i 0 (by omega) (by omega)]
  have hFn:=Fr.same hkeep hF
  have hHn:∀ j∈pv,some j≠fb→Hn j=H0 j:=fun j hj hf=>(hkeep j hj).trans (hH j hj hf)
  apply good_still
  ·intro l K un w Stop St hd d
   have hc:=St.clear
   refine Br.liv_seq (fun d=>?_) _
   refine Br.liv_seq (fun d=>?_) _
   refine Br.liv_region (fun d=>?_) _
   simp only [Br.rz,Br.ix,Nat.reduceAdd]
   refine Br.mo rfl rfl hc (fun d K' hK=>?_) _
   go_simp
   refine hK _ _ ⟨rfl,?_⟩
   clear hK K'
   refine Br.mo rfl rfl hc (fun d K' hK=>?_) _
   have e0:(w.at d).cell? ⟨bx,0,none⟩=some (.int .i64 (K0.S i 0)):=St.cell (List.mem_append_left _ (List.mem_singleton.2 rfl)) hX hc0
   go_simp
   refine hK _ _ ⟨rfl,?_⟩
   clear hK K'
   refine Br.mo rfl rfl hc (fun d K' hK=>?_) _
   go_simp
   refine hK _ _ ⟨rfl,?_⟩
   clear hK K'
   refine Br.liv_region_end (fun d=>?_) _
   exact hd _
  refine good_drop1 hbx ?_
  by_cases hz:K0.S i 0=0
  ·rw [if_pos hz,M.bind_then]
   have hb:(K0.S i 0 != 0)=false:=by simp [hz]
   apply good_still
   ·intro l K un w Stop St hd d
    have hc:=St.clear
    refine Br.mc rfl (fun u=>stepG_cond (t:=false) (by simpa [Act.eval] using hb)) (fun d=>?_) _
    simp only [if_false,Bool.false_eq_true]
    refine Br.liv_skip (fun d=>?_) _
    refine Br.liv_seq (fun d=>?_) _
    refine Br.liv_region (fun d=>?_) _
    simp only [Br.rz,Br.ix,Nat.reduceAdd]
    refine Br.mo rfl rfl hc (fun d K' hK=>?_) _
    go_simp
    refine hK _ _ ⟨rfl,?_⟩
    clear hK K'
    refine Br.mo rfl rfl hc (fun d K' hK=>?_) _
    go_simp
    refine hK _ _ ⟨rfl,?_⟩
    clear hK K'
    refine Br.mo rfl rfl hc (fun d K' hK=>?_) _
    go_simp
    refine hK _ _ ⟨rfl,?_⟩
    clear hK K'
    refine Br.mc rfl (fun u=>stepG_call rfl rfl (by decide) rfl Tryd.func81 rfl rfl (vs:=#[pO C.o,.int .i64 5,.agg #[.int .i64 i,.int .i64 0,.int .i64 0],.int .i64 1]) (by simp [Act.eval]) u) (fun d=>?_) _
    exact hd _
   refine good_with1 hspec hpl hFn hfb 5 i 0 0 _ _ _ (fun e xs' H' free' go' hF' hH'=>?_)
   have hHH:∀ i∈pv,some i≠fb→H' i=H0 i:=fun i hi hf=>(hH' i hi hf).trans (hHn i hi hf)
   rw [Frame.finish_at]
   apply good_still
   ·intro l K un w Stop St hd d
    have hc:=St.clear
    go_simp
    refine Br.mo rfl rfl hc (fun d K' hK=>?_) _
    go_simp
    refine hK _ _ ⟨rfl,?_⟩
    clear hK K'
    refine Br.liv_region_end (fun d=>?_) _
    refine Br.liv_seq (fun d=>?_) _
    refine Br.liv_region (fun d=>?_) _
    simp only [Br.rz,Br.ix,Nat.reduceAdd]
    refine Br.mo rfl rfl hc (fun d K' hK=>?_) _
    go_simp
    refine hK _ _ ⟨rfl,?_⟩
    clear hK K'
    refine Br.mo rfl rfl hc (fun d K' hK=>?_) _
    go_simp
    refine hK _ _ ⟨rfl,?_⟩
    clear hK K'
    refine Br.liv_region_end (fun d=>?_) _
    exact hd _
   by_cases he:e=7
   ·subst he
    rw [if_pos rfl]
    apply good_still
    ·intro l K un w Stop St hd d
     have hc:=St.clear
     refine Br.mc rfl (fun u=>stepG_cond (t:=false) rfl) (fun d=>?_) _
     simp only [if_true,if_false,Bool.false_eq_true,↓reduceIte]
     refine Br.liv_skip (fun d=>?_) _
     refine Br.mc rfl (fun u=>stepG_inBlock) (fun d=>?_) _
     refine Br.liv_region (fun d=>?_) _
     simp only [Br.rz,Br.ix,Nat.reduceAdd]
     refine Br.mo rfl rfl hc (fun d K' hK=>?_) _
     go_simp
     refine hK _ _ ⟨rfl,?_⟩
     clear hK K'
     refine Br.mo rfl rfl hc (fun d K' hK=>?_) _
     go_simp
     refine hK _ _ ⟨rfl,?_⟩
     clear hK K'
     refine Br.liv_region_end (fun d=>?_) _
     refine Br.mc rfl (fun u=>stepG_inLoop) (fun d=>?_) _
     exact hd _
    rw [wrap_small (by omega) (by omega),show ((i:Int)+1)=((i+1:Nat):Int) from by simp]
    exact ih (i+1) (by omega) xs' H' free' hF' hHH go' _ _ _ _ _ _ _ _ _ _ _ _ _ _ _ _ _ _ _
   ·rw [if_neg he,M.pure_then]
    have hb:(e != 7)=true:=by simp [he]
    apply good_still
    ·intro l K un w Stop St hd d
     have hc:=St.clear
     refine Br.mc rfl (fun u=>stepG_cond (t:=true) (by simpa [Act.eval] using hb)) (fun d=>?_) _
     simp only [if_true]
     refine Br.liv_seq (fun d=>?_) _
     refine Br.liv_region (fun d=>?_) _
     simp only [Br.rz,Br.ix,Nat.reduceAdd]
     refine Br.mo rfl rfl hc (fun d K' hK=>?_) _
     go_simp
     refine hK _ _ ⟨rfl,?_⟩
     clear hK K'
     refine Br.mo rfl rfl hc (fun d K' hK=>?_) _
     go_simp
     refine hK _ _ ⟨rfl,?_⟩
     clear hK K'
     refine Br.mo rfl rfl hc (fun d K' hK=>?_) _
     go_simp
     refine hK _ _ ⟨rfl,?_⟩
     clear hK K'
     refine Br.mo rfl rfl hc (fun d K' hK=>?_) _
     go_simp
     refine hK _ _ ⟨rfl,?_⟩
     clear hK K'
     refine Br.liv_region_end (fun d=>?_) _
     refine Br.liv_ret (fun d=>?_) _
     exact Br.liv_leave (v:=.tuple #[.int .i64 i,.int .i64 e]) rfl rfl Tryd.func86 (resultsC_tmp2 (t:=4) (u:=5) rfl _) hd _
     done
    exact hn i e xs' H' free' go' hF' hHH
  ·rw [if_neg hz]
   have hb:(K0.S i 0 != 0)=true:=by simp [hz]
   apply good_still
   ·intro l K un w Stop St hd d
    have hc:=St.clear
    refine Br.mc rfl (fun u=>stepG_cond (t:=true) (by simpa [Act.eval] using hb)) (fun d=>?_) _
    simp only [if_true]
    refine Br.mc rfl (fun u=>stepG_exit rfl) (fun d=>?_) _
    refine Br.liv_region (fun d=>?_) _
    simp only [Br.rz,Br.ix,Nat.reduceAdd]
    refine Br.mo rfl rfl hc (fun d K' hK=>?_) _
    go_simp
    refine hK _ _ ⟨rfl,?_⟩
    clear hK K'
    refine Br.mo rfl rfl hc (fun d K' hK=>?_) _
    go_simp
    refine hK _ _ ⟨rfl,?_⟩
    clear hK K'
    refine Br.liv_region_end (fun d=>?_) _
    refine Br.mc rfl (fun u=>stepG_inLoop) (fun d=>?_) _
    exact hd _
   rw [wrap_small (by omega) (by omega),show ((i:Int)+1)=((i+1:Nat):Int) from by simp]
   exact ih (i+1) (by omega) xs Hn free hFn hHn go _ _ _ _ _ _ _ _ _ _ _ _ _ _ _ _ _ _ _
noncomputable def spawnBody:Code:=(Tryd.f86.body).getD .skip
theorem spawn_enter (o:OpD)(y:Value):Frame.enter Tryd.prog 86 #[pO o,y] .normal=(base 86).at ⟨#[pO o,y,undef,undef,undef,undef,undef,undef,undef,undef,undef,undef,undef,undef,undef,undef,undef,undef,undef,undef,undef,undef,undef,undef,undef,undef,undef,undef,undef,undef,undef],[]⟩ [.code spawnBody]:=by
 rw [enter_at (c:=spawnBody) _ Tryd.func86 rfl]
 refine congrArg (fun t=>(base 86).at ⟨t,[]⟩ [.code spawnBody]) ?_
 kernel_rfl
abbrev boxSt (K:Ker)(gF gS gD:Nat):Obj:=.cells #[.slice (some ⟨gF,0,none⟩) K.nF K.nF,.slice (some ⟨gS,0,none⟩) K.nS K.nS,.slice (some ⟨gD,0,none⟩) K.nD K.nD] 45 (0,0)
set_option maxRecDepth 100000 in
theorem good_spawn (hspec:PopSpec)(hpl:∀ xs:List Int,xs≠[]→(popL xs).length=xs.length - 1)(K0:Ker)(gF gS gD:Nat)(hK:K0.nS≤32){fb:Option Nat}(hfb:∀ b,fb=some b→b∈pv)(hgf:some gS≠fb)(hR:Row pv H gS 55 (K0.nS*20) (sCell K0)){xs:List Int}(hF:Fr fb pv H free xs)(fr:Frame)(cs:List Frame)(k:(Int × Int) × List Int→Bool→Strat)
  (hn:∀ x e xs' H' free' go',Fr fb pv H' free' xs'→(∀ i∈pv,some i≠fb→H' i=H i)→Good' C n (k ((x,e),xs') go') pv H' free' go' (G (fr.finish (.tuple #[.int .i64 x,.int .i64 e])) cs)) :
  Good' C n ((spawnM K0 K0.nS 0 xs).then go k) pv H free go (G (Frame.enter Tryd.prog 86 #[pO C.o,stVal K0 gF gS gD] .normal) (fr::cs)):=by
 have key:=fun sb=>spawn_loop (C:=C) (n:=n) hspec hpl K0 gF gS gD sb hK fb hfb hgf H hR fr cs k hn K0.nS 0 (by omega) xs H free hF (fun _ _ _=>rfl) go
 unfold spawnRest at key
 rw [spawn_enter]
 simp only [spawnBody,Tryd.f86,Option.getD_some,pO] at *
 unfold stVal at *
 apply good_box (X:=boxSt K0 gF gS gD) trivial
 ·intro l K un w bx Stop hbx St hd d
  have hc:=St.clear
  refine Br.liv_seq (fun d=>?_) _
  refine Br.liv_region (fun d=>?_) _
  simp only [Br.rz,Br.ix,Nat.reduceAdd]
  refine Br.must_operW rfl rfl (by decide) (fun d K' hK=>?_) _
  go_simp
  refine hK _ _ ⟨Br.dl_alloc (fun e he=>?_),?_⟩
  ·have hm:=mem_listed he
   simp [go_sem] at hm
  clear hK K'
  have hc:Clear (w.alloc (boxSt K0 gF gS gD)):=(Br.lk_new hc.lk (o:=boxSt K0 gF gS gD) trivial).1.sight
  rw [show (w.at d).alloc (boxSt K0 gF gS gD)=(w.alloc (boxSt K0 gF gS gD)).at d from rfl]
  refine Br.mo rfl rfl hc (fun d K' hK=>?_) _
  go_simp
  refine hK _ _ ⟨rfl,?_⟩
  clear hK K'
  refine Br.mo rfl rfl hc (fun d K' hK=>?_) _
  go_simp
  refine hK _ _ ⟨rfl,?_⟩
  clear hK K'
  refine Br.liv_region_end (fun d=>?_) _
  rw [← hbx];exact hd _
 intro bx hb hb'
 apply good_still
 ·intro l K un w Stop St hd d
  have hc:=St.clear
  refine Br.liv_seq (fun d=>?_) _
  refine Br.liv_seq (fun d=>?_) _
  refine Br.liv_region (fun d=>?_) _
  simp only [Br.rz,Br.ix,Nat.reduceAdd]
  refine Br.mo rfl rfl hc (fun d K' hK=>?_) _
  go_simp
  refine hK _ _ ⟨rfl,?_⟩
  clear hK K'
  refine Br.mo rfl rfl hc (fun d K' hK=>?_) _
  have e1:(w.at d).cell? ⟨bx,1,none⟩=some (.slice (some ⟨gS,0,none⟩) K0.nS K0.nS):=St.cell (List.mem_cons_self ..) (Heap.set_same _ _ _) rfl
  go_simp
  refine hK _ _ ⟨rfl,?_⟩
  clear hK K'
  refine Br.mo rfl rfl hc (fun d K' hK=>?_) _
  go_simp
  refine hK _ _ ⟨rfl,?_⟩
  clear hK K'
  refine Br.mo rfl rfl hc (fun d K' hK=>?_) _
  go_simp
  refine hK _ _ ⟨rfl,?_⟩
  clear hK K'
  refine Br.liv_region_end (fun d=>?_) _
  refine Br.mc rfl (fun u=>stepG_block) (fun d=>?_) _
  refine Br.mc rfl (fun u=>stepG_loop) (fun d=>?_) _
  exact hd _
 refine good_drop hb ?_
 exact key bx _ _ _ _ _ _ _ _ _ _ _ _ _ _ _ _ _ _ _
end
def slotV (K:Ker)(p:Nat):Array Value:=#[.int .i64 (K.S p 0),.int .i64 (K.S p 1),.int .i64 (K.S p 2),.int .i64 (K.S p 3),.bool (K.B p 4),.int .i64 (K.S p 5),.bool (K.B p 6),.int .i64 (K.S p 7),.bool (K.B p 8),.int .i64 (K.S p 9),.bool (K.B p 10),.int .i64 (K.S p 11),.bool (K.B p 12),.int .i64 (K.S p 13),.bool (K.B p 14),.int .i64 (K.S p 15),.bool (K.B p 16),.int .i64 (K.S p 17),.bool (K.B p 18),.int .i64 (K.S p 19)]
theorem sCell_flag (K:Ker)(p j:Nat)(hj:j<20)(h:4≤j∧j≤18∧j % 2=0):sCell K (p*20+j)=.bool (K.B p j):=by
 unfold sCell
 rw [if_pos (by omega),show (p*20+j) / 20=p by omega,show (p*20+j) % 20=j by omega]
theorem cut_slot (K:Ker)(p:Nat):(cut (sCell K) (p*20) 20).toArray=slotV K p:=by
 unfold cut slotV
 simp only [List.range,List.range.loop,List.map]
 rw [show sCell K (p*20+0)=_ from sCell_num K p 0 (by omega) (by omega)]
 rw [show sCell K (p*20+1)=_ from sCell_num K p 1 (by omega) (by omega)]
 rw [show sCell K (p*20+2)=_ from sCell_num K p 2 (by omega) (by omega)]
 rw [show sCell K (p*20+3)=_ from sCell_num K p 3 (by omega) (by omega)]
 rw [show sCell K (p*20+4)=_ from sCell_flag K p 4 (by omega) (by omega)]
 rw [show sCell K (p*20+5)=_ from sCell_num K p 5 (by omega) (by omega)]
 rw [show sCell K (p*20+6)=_ from sCell_flag K p 6 (by omega) (by omega)]
 rw [show sCell K (p*20+7)=_ from sCell_num K p 7 (by omega) (by omega)]
 rw [show sCell K (p*20+8)=_ from sCell_flag K p 8 (by omega) (by omega)]
 rw [show sCell K (p*20+9)=_ from sCell_num K p 9 (by omega) (by omega)]
 rw [show sCell K (p*20+10)=_ from sCell_flag K p 10 (by omega) (by omega)]
 rw [show sCell K (p*20+11)=_ from sCell_num K p 11 (by omega) (by omega)]
 rw [show sCell K (p*20+12)=_ from sCell_flag K p 12 (by omega) (by omega)]
 rw [show sCell K (p*20+13)=_ from sCell_num K p 13 (by omega) (by omega)]
 rw [show sCell K (p*20+14)=_ from sCell_flag K p 14 (by omega) (by omega)]
 rw [show sCell K (p*20+15)=_ from sCell_num K p 15 (by omega) (by omega)]
 rw [show sCell K (p*20+16)=_ from sCell_flag K p 16 (by omega) (by omega)]
 rw [show sCell K (p*20+17)=_ from sCell_num K p 17 (by omega) (by omega)]
 rw [show sCell K (p*20+18)=_ from sCell_flag K p 18 (by omega) (by omega)]
 rw [show sCell K (p*20+19)=_ from sCell_num K p 19 (by omega) (by omega)]
def pagesL (K:Ker)(p:Nat):List Int:=heldL (fun j=>K.S p (3+j*2)) 4
def filesL (K:Ker)(p:Nat):List Int:=heldL (fun j=>K.S p (11+j*2)) 4
theorem pages_slot (K:Ker)(p:Nat)(w:World):Calls Tryd.prog 88 #[.agg (slotV K p)] w fun e w'=>∃ V,e=.returned V∧Lis w w' V (pagesL K p) :=
 pages_any w _ _ _ _ _ _ _ _ _ _ _ _ (fun j=>K.S p (3+j*2)) (K.B p 4) (K.B p 6) (K.B p 8) (K.B p 10)
theorem files_slot (K:Ker)(p:Nat)(w:World):Calls Tryd.prog 90 #[.agg (slotV K p)] w fun e w'=>∃ V,e=.returned V∧Lis w w' V (filesL K p) :=
 files_any w _ _ _ _ _ _ _ _ _ _ _ _ (fun j=>K.S p (11+j*2)) (K.B p 12) (K.B p 14) (K.B p 16) (K.B p 18)
section
variable {C:Ctx} {n:Nat} {s:Strat} {pv:List Nat} {H:Heap} {free:Value} {go:Bool}
theorem good_lis {f:FuncId}(hf:Br.Sg f=true){args:Array Value}{xs:List Int}(hx:xs.length≤40)(hspec:∀ v:World,(∀ i∈pv,i<v.heap.size∧(Br.Obj.sight (H i)→v.heap[i]?=some (H i)))→Calls Tryd.prog f args v (fun e v'=>∃ V,e=.returned V∧Lis v v' V xs))(fr:Frame)(cs:List Frame)
  (hn:∀ (sl:Sl) bs Hn,sl.xs=xs→sl.xs.length≤sl.cap→(sl.blk=none∨∃ b,sl.blk=some b∧b∈bs)→sl.ok (bs ++ pv) Hn→(∀ b∈bs,b ∉ pv∧b≠C.o.bo)→(∀ i∈pv,Hn i=H i)→Good' C n s (bs ++ pv) Hn free go (G (fr.finish sl.val) cs)) :
  Good' C n s pv H free go (G (Frame.enter Tryd.prog f args .normal) (fr::cs)):=by
 refine good_fun hf (R:=fun x bs Hn=>∃ sl:Sl,x=sl.val∧sl.xs=xs∧sl.xs.length≤sl.cap∧(sl.blk=none∨∃ b,sl.blk=some b∧b∈bs)∧sl.ok (bs ++ pv) Hn) (fun v hv=>(hspec v hv).mono ?_) fr cs ?_
 ·rintro e v' ⟨V,rfl,L⟩
  have hlt:∀ i∈pv,i<v.heap.size:=fun i hi=>(hv i hi).1
  obtain ⟨o1,o2|⟨g,cap,cur,rfl,hg,hc,h1,h2,h3,h4⟩⟩:=L.own
  ·obtain ⟨rfl,h0⟩:=o2
   obtain rfl:xs=[]:=List.length_eq_zero_iff.1 h0
   exact ⟨_,[],H,rfl,⟨L.bel.size,L.bel.block,fun b hb=>(by cases hb),fun _ _=>rfl⟩,⟨none,0,[]⟩,rfl,rfl,Nat.le_refl _,.inl rfl,by simp,.inl rfl⟩
  ·refine ⟨_,[g],fun k=>if k=g then .cells cur 3 (0,0) else H k,rfl,⟨L.bel.size,L.bel.block,fun b hb=>?_,fun i hi=>?_⟩,⟨some g,cap,xs⟩,by simp [Sl.val],rfl,h1,(.inr ⟨g,rfl,List.mem_singleton.2 rfl⟩),(by show xs.length≤min 40 cap;omega),.inr ⟨g,cur,3,rfl,by simp,by simp,fun i x hi=>?_⟩⟩
   ·obtain rfl:=List.mem_singleton.1 hb
    exact ⟨hg,by simpa using hc⟩
   ·have:=hlt i hi
    show (if i=g then _ else H i)=H i
    rw [if_neg (by omega)]
   ·have hi':xs[i]?=some x:=hi
    have hl:i<xs.length:=(List.getElem?_eq_some_iff.1 hi').1
    have e1:(ints xs)[i]?=some (.int .i64 x):=by simp [ints,hi']
    rw [← h4,List.getElem?_take,if_pos (by omega)] at e1
    simpa using e1
 ·rintro x bs Hn ⟨sl,rfl,h1,h2,h3,h4⟩ hb hk
  exact hn sl bs Hn h1 h2 h3 h4 hb hk
end
end Go.Proofs.YtcgabodkegcpgaaDoor
