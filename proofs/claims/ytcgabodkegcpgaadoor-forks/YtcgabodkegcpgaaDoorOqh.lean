/- fork. -/
import Derived.Test.YtcgabodkegcpgaaDoorOps
set_option linter.unusedVariables false
set_option linter.unusedSimpArgs false
set_option maxHeartbeats 20000000
set_option maxRecDepth 100000
namespace Go.Proofs.YtcgabodkegcpgaaDoor
open Go.Conc Go.RowKit
open Br (OpD KO SO SP sfO Lk Fit Must DL Liv Clear)
attribute [local go_sem ↓] Go.wp_at_zero Go.wp_at_succ
section
variable {C:Ctx} {n:Nat} {pv:List Nat} {H:w9} {free:Value} {go:Bool}
def a6M (child:Int)(ps fs:List Int)(e:Int):M (Int × Int):=if e=0 then M.pure (child,0) else (b2W child ps fs e).bind λe'=>M.pure (0,e')
def a6N (child:Int)(ps fs:List Int)(e:Int):M (Int × Int):=if e=0 then (V3 8 child 0 0).bind λc=>a6M child ps fs c.2 else a6M child ps fs e
def a6O (child:Int)(ps fs:List Int)(e:Int):M (Int × Int):=if e=0 then (a3e child fs 0).bind λq=>a6N child ps (fs.take q.1) q.2 else a6N child ps [] e
def b0v (K0:Ker)(p:Nat)(xs:List Int):M (Int × Int):=(a0n K0 K0.nS 0 xs).bind λz=>if z.1.2=0 then (a0g z.1.1 (a1j K0 p) 0 z.2).bind λy=>a6O z.1.1 ((a1j K0 p).take y.1.1) (a0Q K0 p) y.1.2 else M.pure (0,z.1.2)
noncomputable def b1V:Code :=
 match Tryd.f79.body with
 | some (.seq _ (.seq _ (.seq _ (.seq _ (.seq _ (.seq _ (.seq _ (.seq _ c))))))))=>c
 | _=>.skip
noncomputable def b1W:Code :=
 match Tryd.f79.body with
 | some (.seq _ (.seq _ (.seq _ (.seq _ (.seq _ (.seq _ (.seq _ c)))))))=>c
 | _=>.skip
theorem b7a (child e:Int)(ps fs:Sl)(hps:ps.ok pv H)(hfs:fs.ok pv H)(fr:Frame)(cs:List Frame)(k:Int × Int->Bool->q7)
  (hn:∀ x e free' go',o9 C n (k (x,e) go') [] H free' go' (G (fr.finish (.tuple #[.int .i64 x,.int .i64 e])) cs))(j1 j2 j3 j8 j11 j12 j13 j14 j15 j16 j17 j18 j19 j20 j21 j22 j23 j24 j25 j26 j27 j28 j29 j30 j31 j32 j33 j34 j35 j36 j37 j38 j39 j40 j41 j42 j43 j44 j45 j46 j47 j48 j49 j50 j51 j52 j53 j54:Value) :
  o9 C n ((a6M child ps.xs fs.xs e).then go k) pv H free go (G ((base 79).at ⟨#[pO C.o,j1,j2,j3,.int .i64 0,.int .i64 0,.int .i64 child,.int .i64 e,j8,ps.val,fs.val,j11,j12,j13,j14,j15,j16,j17,j18,j19,j20,j21,j22,j23,j24,j25,j26,j27,j28,j29,j30,j31,j32,j33,j34,j35,j36,j37,j38,j39,j40,j41,j42,j43,j44,j45,j46,j47,j48,j49,j50,j51,j52,j53,j54,undef,undef,undef,undef,undef,undef,undef,undef,undef],[]⟩ [.code b1V]) (fr::cs)):=by
 unfold a6M b1V;simp only [Tryd.f79,pO];apply d7
 ·intro l K un w Stop St hd d;have hc:=St.clear;refine Br.b8 (λd=>?_) _;refine Br.b8 (λd=>?_) _;refine Br.b9 (λd=>?_) _;simp only [Br.rz,Br.ix,Nat.reduceAdd];(iterate 2(refine Br.mo rfl rfl λd K' hK=>?_;go_simp;refine hK _ _ ⟨rfl,?_⟩;clear hK K'));refine Br.a9 (λd=>?_) _;exact hd _
 by_cases he:e=0
 ·subst he;rw [if_pos rfl,M.pure_then];apply d7
  ·intro l K un w Stop St hd d;have hc:=St.clear;refine Br.mc rfl (λu=>stepG_cond (t:=false) rfl) (λd=>?_) _;simp only [if_true,if_false,Bool.false_eq_true,↓reduceIte];refine Br.l9 (λd=>?_) _;refine Br.b8 (λd=>?_) _;refine Br.b9 (λd=>?_) _;simp only [Br.rz,Br.ix,Nat.reduceAdd];(iterate 3(refine Br.mo rfl rfl λd K' hK=>?_;go_simp;refine hK _ _ ⟨rfl,?_⟩;clear hK K'));refine Br.a9 (λd=>?_) _;refine Br.q8 (λd=>?_) _;exact Br.m8 (v:=.tuple #[.int .i64 child,.int .i64 0]) rfl rfl Tryd.func79 (resultsC_tmp2 (t:=4) (u:=5) rfl _) hd _
   done
  exact L9 (hn child 0 free go)
 ·rw [if_neg he,M.bind_then];have hb:(e != 0)=true:=by simp [he]
  apply d7
  ·intro l K un w Stop St hd d;have hc:=St.clear;refine Br.mc rfl (λu=>stepG_cond (t:=true) (by simpa [Act.eval] using hb)) (λd=>?_) _;simp only [if_true];refine Br.b8 (λd=>?_) _;refine Br.b9 (λd=>?_) _;simp only [Br.rz,Br.ix,Nat.reduceAdd];(iterate 5(refine Br.mo rfl rfl λd K' hK=>?_;go_simp;refine hK _ _ ⟨rfl,?_⟩;clear hK K'));refine Br.mc rfl (λu=>k6 rfl rfl (by decide) rfl Tryd.func91 rfl rfl (vs:=#[pO C.o,.int .i64 child,ps.val,fs.val,.int .i64 e]) (by simp [Act.eval]) u) (λd=>?_) _;exact hd _
  refine b4m child e ps fs hps hfs _ _ _ (λe' go'=>?_);rw [Frame.finish_at,M.pure_then];apply d7
  ·intro l K un w Stop St hd d;have hc:=St.clear;go_simp;(iterate 2(refine Br.mo rfl rfl λd K' hK=>?_;go_simp;refine hK _ _ ⟨rfl,?_⟩;clear hK K'));refine Br.a9 (λd=>?_) _;refine Br.q8 (λd=>?_) _;exact Br.m8 (v:=.tuple #[.int .i64 0,.int .i64 e']) rfl rfl Tryd.func79 (resultsC_tmp2 (t:=4) (u:=5) rfl _) hd _
   done
  exact L9 (hn 0 e' free go')
theorem b1X (child e:Int)(ps fs:Sl)(hps:ps.ok pv H)(hfs:fs.ok pv H)(fr:Frame)(cs:List Frame)(k:Int × Int->Bool->q7)
  (hn:∀ x e free' go',o9 C n (k (x,e) go') [] H free' go' (G (fr.finish (.tuple #[.int .i64 x,.int .i64 e])) cs))(j1 j2 j3 j8 j11 j12 j13 j14 j15 j16 j17 j18 j19 j20 j21 j22 j23 j24 j25 j26 j27 j28 j29 j30 j31 j32 j33 j34 j35 j36 j37 j38 j39 j40 j41 j42 j43 j44 j45:Value) :
  o9 C n ((a6N child ps.xs fs.xs e).then go k) pv H free go (G ((base 79).at ⟨#[pO C.o,j1,j2,j3,.int .i64 0,.int .i64 0,.int .i64 child,.int .i64 e,j8,ps.val,fs.val,j11,j12,j13,j14,j15,j16,j17,j18,j19,j20,j21,j22,j23,j24,j25,j26,j27,j28,j29,j30,j31,j32,j33,j34,j35,j36,j37,j38,j39,j40,j41,j42,j43,j44,j45,undef,undef,undef,undef,undef,undef,undef,undef,undef,undef,undef,undef,undef,undef,undef,undef,undef,undef],[]⟩ [.code b1W]) (fr::cs)):=by
 have key:=λgo e=>b7a (C:=C) (n:=n) (free:=free) (go:=go) child e ps fs hps hfs fr cs k hn;unfold a6N b1W;unfold b1V at key;simp only [Tryd.f79,pO] at *;apply d7
 ·intro l K un w Stop St hd d;have hc:=St.clear;refine Br.b8 (λd=>?_) _;refine Br.b8 (λd=>?_) _;refine Br.b9 (λd=>?_) _;simp only [Br.rz,Br.ix,Nat.reduceAdd];(iterate 2(refine Br.mo rfl rfl λd K' hK=>?_;go_simp;refine hK _ _ ⟨rfl,?_⟩;clear hK K'));refine Br.a9 (λd=>?_) _;exact hd _
 by_cases he:e=0
 ·subst he;rw [if_pos rfl,M.bind_then];apply d7
  ·intro l K un w Stop St hd d;have hc:=St.clear;refine Br.mc rfl (λu=>stepG_cond (t:=true) rfl) (λd=>?_) _;simp only [if_true,if_false,Bool.false_eq_true,↓reduceIte];refine Br.b9 (λd=>?_) _;simp only [Br.rz,Br.ix,Nat.reduceAdd];(iterate 3(refine Br.mo rfl rfl λd K' hK=>?_;go_simp;refine hK _ _ ⟨rfl,?_⟩;clear hK K'));refine Br.mc rfl (λu=>k6 rfl rfl (by decide) rfl Tryd.func84 rfl rfl (vs:=B7 C.o 8 child 0 0) (by simp [Act.eval]) u) (λd=>?_) _;exact hd _
  refine N8 8 child 0 0 _ _ _ (λx e go' hg=>?_);rw [Frame.finish_at];apply d7
  ·intro l K un w Stop St hd d;have hc:=St.clear;go_simp;(iterate 4(refine Br.mo rfl rfl λd K' hK=>?_;go_simp;refine hK _ _ ⟨rfl,?_⟩;clear hK K'));refine Br.a9 (λd=>?_) _;exact hd _
  exact key go' e _ _ _ _ _ _ _ _ _ _ _ _ _ _ _ _ _ _ _ _ _ _ _ _ _ _ _ _ _ _ _ _ _ _ _ _ _ _ _ _ _ _ _ _ _ _ _ _
 ·rw [if_neg he];have hb:(e == 0)=false:=by simp [he]
  apply d7
  ·intro l K un w Stop St hd d;have hc:=St.clear;refine Br.mc rfl (λu=>stepG_cond (t:=false) (by simpa [Act.eval] using hb)) (λd=>?_) _;simp only [if_false,Bool.false_eq_true];refine Br.l9 (λd=>?_) _;exact hd _
  exact key go e _ _ _ _ _ _ _ _ _ _ _ _ _ _ _ _ _ _ _ _ _ _ _ _ _ _ _ _ _ _ _ _ _ _ _ _ _ _ _ _ _ _ _ _ _ _ _ _
theorem cell_lt {w:World}{b j:Nat}{x:Value}(h:w.cell? ⟨b,j,none⟩=some x):b<w.heap.size:=by
 by_cases e:b<w.heap.size
 ·exact e
 ·simp only [World.cell?,Array.getElem?_eq_none (show w.heap.size<=b by omega)] at h;cases h
theorem a8S {P:Program}{op:Oper}{a:Act}{w:World}{K:Act->World->Prop}{Q:Exit->Act->World->Prop}(ty:TypeId)(x y:Operand)(ho:op.op=.store ty x y)
  (b o:Nat)(cells:Array Value)(hx:a.eval x=.pointer (some ⟨b,o,none⟩))(hy:a.eval y=.agg cells)
  (ht:w.there b o cells.size)(hi:(P.info? ty).map (·.size)=some cells.size)(h1:cells.all (·.oneCell')=true)
  (h:∀ W,W.rangeAt b o cells.toList->(∀ k,k≠b->W.heap[k]?=w.heap[k]?)->W.heap.size=w.heap.size->K (a.put op.dst undef) W):op.wp P a w K Q :=
 wp_store_mid ty x y ho b o cells hx hy ht hi h1 (h _ (World.rangeAt_setCells_same w b o _ (by rw [Array.length_toList];exact ht)) (λk hk=>E7 hk _ _ _) (u9 _ _ _))
noncomputable def b7b:Code :=
 match Tryd.f79.body with
 | some (.seq _ (.seq _ (.seq _ (.seq c _))))=>c
 | _=>.skip
theorem b4z {K0:Ker}{gF gS gD sb p:Nat}{child:Int}(hK:K0.nS<=32)(hR:Row pv H gS 55 (K0.nS*20) (o0 K0))(hp:p<K0.nS)(hsb:sb∈pv)(hbs:H sb=L8 K0 gF gS gD)(j11 j12 j13 j14 j15 j16 j17 j18:Value)(v:World)(hv:∀ i∈pv,i<v.heap.size/\(Br.Obj.sight (H i)->v.heap[i]?=some (H i)))(hC:v.cell? ⟨C.o.bo,4,none⟩=some (.int .i64 p)) :
  b7b.wp Tryd.prog (λe a' v'=>e=.normal/\∃ bs Hn,Gain pv H v v' bs Hn/\∃ bx,bs=[bx]/\a'=⟨#[pO C.o,A4 K0 gF gS gD,undef,.pointer (some ⟨sb,0,none⟩),.int .i64 0,.int .i64 0,.int .i64 child,.int .i64 0,.pointer (some ⟨bx,0,none⟩),undef,undef,j11,j12,j13,j14,j15,j16,j17,j18,undef,.pointer (some ⟨sb,1,none⟩),.slice (some ⟨gS,0,none⟩) K0.nS K0.nS,pO C.o,pO C.o,.pointer (some ⟨C.o.bo,4,none⟩),.int .i64 p,.pointer (some ⟨gS,p*20,none⟩),.agg (cut (o0 K0) (p*20) 20).toArray,undef,undef,undef,undef,undef,undef,undef,undef,undef,undef,undef,undef,undef,undef,undef,undef,undef,undef,undef,undef,undef,undef,undef,undef,undef,undef,undef,undef,undef,undef,undef,undef,undef,undef,undef,undef],[]⟩/\Slt (Hn bx) K0 p) ⟨#[pO C.o,A4 K0 gF gS gD,undef,.pointer (some ⟨sb,0,none⟩),.int .i64 0,.int .i64 0,.int .i64 child,.int .i64 0,undef,undef,undef,j11,j12,j13,j14,j15,j16,j17,j18,undef,undef,undef,undef,undef,undef,undef,undef,undef,undef,undef,undef,undef,undef,undef,undef,undef,undef,undef,undef,undef,undef,undef,undef,undef,undef,undef,undef,undef,undef,undef,undef,undef,undef,undef,undef,undef,undef,undef,undef,undef,undef,undef,undef,undef],[]⟩ v:=by
 have hrow:=hR.is hv;have hlt:∀ i∈pv,i<v.heap.size:=λi hi=>(hv i hi).1;obtain ⟨cs,hcs⟩:∃ cs,cs=cut (o0 K0) (p*20) 20:=⟨_,rfl⟩;have hu:=Tryd.underlying55;have ei:(Tryd.prog.info? 55).map (·.size)=some cs.length:=by rw [hcs,A5];kernel_rfl
 have o1:∀ v∈cs,v.oneCell'=true:=by
  have:=a5I K0 (p*20) 20;rw [← hcs] at this;simpa using this
 have z1:cs.length=20:=by rw [hcs,A5]
 have LA:v.rangeAt gS (p*20) cs:=by rw [hcs];exact y7 hrow (o:=p*20) (m:=20) (by omega)
 have cS:v.cell? ⟨sb,1,none⟩=some (.slice (some ⟨gS,0,none⟩) K0.nS K0.nS):=by
  simp only [World.cell?,(hv sb hsb).2 (by rw [hbs];trivial),hbs];rfl
 have n1:=World.new_ne v _ hC;have n2:=World.new_ne v _ cS;rw [← hcs];have Hcs:Hid (cs=cut (o0 K0) (p*20) 20):=hcs;clear hcs;have b1:(0:Int)<=(p:Int):=by omega
 have b2:(p:Int)<(K0.nS:Int):=by omega
 have Hlt:Hid (∀ i∈pv,i<v.heap.size):=hlt;clear hlt hrow hR hv;unfold b7b;simp only [Tryd.f79,pO];refine wp_region_held (S:=λw'=>w'.cell? ⟨sb,1,none⟩=some (.slice (some ⟨gS,0,none⟩) K0.nS K0.nS)/\w'.cell? ⟨C.o.bo,4,none⟩=some (.int .i64 p)/\w'.rangeAt gS (p*20) cs) (by kernel_rfl) ?_;have hS:(λw':World=>w'.cell? ⟨sb,1,none⟩=some (.slice (some ⟨gS,0,none⟩) K0.nS K0.nS)/\w'.cell? ⟨C.o.bo,4,none⟩=some (.int .i64 p)/\w'.rangeAt gS (p*20) cs) { v with drawn:=v.drawn+1 }:=⟨cS,hC,LA⟩;refine wpAnyH_take (i:=0) (v:=(.pointer (some ⟨sb,1,none⟩))) rfl (by kernel_rfl) (by kernel_rfl) (by kernel_rfl) (λ_ _ _ h=>by cases h.1) (Or.inl ⟨by rfl,λw h=>by go_simp⟩) hS ?_
 try simp only [Act.put,List.setIfInBounds_toArray,List.set_cons_zero,List.set_cons_succ]
 refine wpAnyH_take (i:=1) (v:=(.slice (some ⟨gS,0,none⟩) K0.nS K0.nS)) rfl (by kernel_rfl) (by kernel_rfl) (by kernel_rfl) (λ_ _ _ h=>by cases h.1) (Or.inl ⟨by rfl,λw h=>by have h1:=h.1;go_simp⟩) hS ?_
 try simp only [Act.put,List.setIfInBounds_toArray,List.set_cons_zero,List.set_cons_succ]
 refine wpAnyH_take (i:=2) (v:=(.pointer (some ⟨C.o.bo,0,none⟩))) rfl (by kernel_rfl) (by kernel_rfl) (by kernel_rfl) (λ_ _ _ h=>by cases h.1) (Or.inl ⟨by rfl,λw h=>by go_simp⟩) hS ?_
 try simp only [Act.put,List.setIfInBounds_toArray,List.set_cons_zero,List.set_cons_succ]
 refine wpAnyH_take (i:=3) (v:=(.pointer (some ⟨C.o.bo,0,none⟩))) rfl (by kernel_rfl) (by kernel_rfl) (by kernel_rfl) (λ_ _ _ h=>by cases h.1) (Or.inl ⟨by rfl,λw h=>by go_simp⟩) hS ?_
 try simp only [Act.put,List.setIfInBounds_toArray,List.set_cons_zero,List.set_cons_succ]
 refine wpAnyH_take (i:=4) (v:=(.pointer (some ⟨C.o.bo,4,none⟩))) rfl (by kernel_rfl) (by kernel_rfl) (by kernel_rfl) (λ_ _ _ h=>by cases h.1) (Or.inl ⟨by rfl,λw h=>by go_simp⟩) hS ?_
 try simp only [Act.put,List.setIfInBounds_toArray,List.set_cons_zero,List.set_cons_succ]
 refine wpAnyH_take (i:=5) (v:=(.int .i64 p)) rfl (by kernel_rfl) (by kernel_rfl) (by kernel_rfl) (λ_ _ _ h=>by cases h.1) (Or.inl ⟨by rfl,λw h=>by have h1:=h.2.1;go_simp⟩) hS ?_
 try simp only [Act.put,List.setIfInBounds_toArray,List.set_cons_zero,List.set_cons_succ]
 refine wpAnyH_take (i:=6) (v:=(.pointer (some ⟨gS,p*20,none⟩))) rfl (by kernel_rfl) (by kernel_rfl) (by kernel_rfl) (λ_ _ _ h=>by cases h.1) (Or.inl ⟨by rfl,λw h=>by go_simp⟩) hS ?_
 try simp only [Act.put,List.setIfInBounds_toArray,List.set_cons_zero,List.set_cons_succ]
 refine wpAnyH_take (i:=7) (v:=.agg cs.toArray) rfl (by kernel_rfl) (by kernel_rfl) (by kernel_rfl) (λ_ _ _ h=>by cases h.1) (yieldsIf_load_mid (by rfl) _ _ rfl _ _ rfl _ _ (λw h=>h.2.2) hu rfl ei) hS ?_;refine wpAnyH_all (rs:=[8]) (by kernel_rfl) (by simp) (λi hi=>?_);obtain rfl:=List.mem_singleton.1 hi;refine Or.inl ?_;have l1:C.o.bo<v.heap.size:=cell_lt hC;have l2:sb<v.heap.size:=cell_lt cS;have l3:gS<v.heap.size:=cell_lt (LA 0 _ (List.getElem?_eq_getElem (by omega)));have keep:∀ (W:World),(∀ k,k<v.heap.size->W.heap[k]?=v.heap[k]?)->W.cell? ⟨sb,1,none⟩=some (.slice (some ⟨gS,0,none⟩) K0.nS K0.nS)/\W.cell? ⟨C.o.bo,4,none⟩=some (.int .i64 p)/\W.rangeAt gS (p*20) cs:=λW h =>
  ⟨(World.cell?_of_block (w:=v) (h sb l2)).trans cS,(World.cell?_of_block (w:=v) (h C.o.bo l1)).trans hC,a5q LA (h gS l3)⟩
 go_simp;refine ⟨(keep _ (λk hk=>Below.heap_alloc v _ k hk)).2.2,?_⟩;refine wpAnyH_all (rs:=[9]) (by kernel_rfl) (by simp) (λi hi=>?_);obtain rfl:=List.mem_singleton.1 hi;refine Or.inl ?_;refine a8S 55 _ _ rfl _ 0 cs.toArray rfl rfl ((World.there_drew _ _ _ _).2 (a0U v _ _ _ (by show 20=cs.length;rw [z1]))) (by show _=some cs.length;exact ei) (by simpa using o1) ?_;intro W1 f1 f2 f3;have f2':∀ k,k<v.heap.size->W1.heap[k]?=v.heap[k]?:=λk hk=>(f2 k (by show k≠v.heap.size;omega)).trans (Below.heap_alloc v _ _ hk);refine ⟨keep _ f2',wpAnyH_done (by kernel_rfl) ⟨rfl,?_⟩ _⟩;obtain ⟨X,hX,hSl⟩:=b1M (K:=K0) (i:=p) (b:=v.heap.size) (w:=W1) (by rw [← Hcs.out];exact f1);refine ⟨[v.heap.size],λk=>if k=v.heap.size then X else H k,⟨?_,f2',?_,?_⟩,v.heap.size,rfl,rfl,by simpa using hSl⟩
 ·rw [f3];simp
 ·intro b hb;obtain rfl:=List.mem_singleton.1 hb;exact ⟨Nat.le_refl _,by simpa using hX⟩
 ·intro i hi;have:=Hlt.out i hi;show (if i=v.heap.size then X else H i)=H i;rw [if_neg (by omega)]
end
section
variable {C:Ctx} {n:Nat} {pv:List Nat} {H:w9} {free:Value} {go:Bool}
theorem Sl.ok_more {s:Sl}{pv pv':List Nat}{H H':w9}(h:s.ok pv H)(hs:∀ i∈pv,i∈pv')(hH:∀ i∈pv,H' i=H i):s.ok pv' H' :=
 ⟨h.1,h.2.imp id λ⟨b,c,t,h1,h2,h3,h4⟩=>⟨b,c,t,h1,hs b h2,(hH b h2).trans h3,h4⟩⟩
theorem Fr.gain {fb:Option Nat}{xs:List Int}{pv':List Nat}{H':w9}(hs:∀ i∈pv,i∈pv')(hH:∀ i∈pv,H' i=H i)(h:Fr fb pv H free xs):Fr fb pv' H' free xs:=by
 obtain ⟨sl,h1,h2,h3,h4⟩:=h;exact ⟨sl,h1,h2,h3,Sl.ok_more h4 hs hH⟩
theorem Row.gain {g t m:Nat}{f:Nat->Value}{pv':List Nat}{H':w9}(h:Row pv H g t m f)(hs:∀ i∈pv,i∈pv')(hH:∀ i∈pv,H' i=H i):Row pv' H' g t m f:=by
 obtain ⟨h1,c,h2,h3⟩:=h;exact ⟨hs g h1,c,(hH g h1).trans h2,h3⟩
theorem a2T {b:Nat}{X:Obj}(hb:b ∉ pv):∀ i∈pv,(H.set b X) i=H i:=λi hi=>w9.set_other _ _ (λe=>hb (e▸hi))
theorem a8T {f:Nat->Value}{o m j:Nat}{v:Value}(h:(cut f o m)[j]?=some v):j<m/\v=f (o+j):=by
 unfold cut at h;rw [List.getElem?_map] at h
 by_cases e:j<m
 ·rw [List.getElem?_range e] at h;exact ⟨e,(Option.some.inj h).symm⟩
 ·rw [List.getElem?_eq_none (by simpa using e)] at h;cases h
noncomputable def a4s:Code:=(Tryd.f79.body).getD .skip
theorem b1Y (o:OpD)(y:Value):Frame.enter Tryd.prog 79 #[pO o,y] .normal=(base 79).at ⟨#[pO o,y,undef,undef,undef,undef,undef,undef,undef,undef,undef,undef,undef,undef,undef,undef,undef,undef,undef,undef,undef,undef,undef,undef,undef,undef,undef,undef,undef,undef,undef,undef,undef,undef,undef,undef,undef,undef,undef,undef,undef,undef,undef,undef,undef,undef,undef,undef,undef,undef,undef,undef,undef,undef,undef,undef,undef,undef,undef,undef,undef,undef,undef,undef],[]⟩ [.code a4s]:=by
 rw [enter_at (c:=a4s) _ Tryd.func79 rfl];refine congrArg (λt=>(base 79).at ⟨t,[]⟩ [.code a4s]) ?_
 kernel_rfl
theorem b4A (K0:Ker)(gF gS gD p:Nat)(hK:K0.nS<=32)(hp:p<K0.nS)(hC:C.slot=p){fb:Option Nat}(hfb:∀ b,fb=some b->b∈pv)(hgf:some gS≠fb)(hR:Row pv H gS 55 (K0.nS*20) (o0 K0)){xs:List Int}(hF:Fr fb pv H free xs)(fr:Frame)(cs:List Frame)(k:Int × Int->Bool->q7)
  (hn:∀ x e H' free' go',o9 C n (k (x,e) go') [] H' free' go' (G (fr.finish (.tuple #[.int .i64 x,.int .i64 e])) cs)) :
  o9 C n ((b0v K0 p xs).then go k) pv H free go (G (Frame.enter Tryd.prog 79 #[pO C.o,A4 K0 gF gS gD] .normal) (fr::cs)):=by
 unfold b0v;rw [M.bind_then,b1Y];simp only [a4s,Tryd.f79,Option.getD_some,pO] at *;unfold A4 at *;apply a0P (X:=L8 K0 gF gS gD) trivial
 ·intro l K un w bx Stop hbx St hd d;have hc:=St.clear;refine Br.b8 (λd=>?_) _;refine Br.b9 (λd=>?_) _;simp only [Br.rz,Br.ix,Nat.reduceAdd];refine Br.t8 rfl rfl (by decide) (λd K' hK=>?_) _;go_simp;refine hK _ _ ⟨Br.L7 (λe he=>?_),?_⟩
  ·have hm:=mem_listed he;simp [go_sem] at hm
  clear hK K';have hc:Clear (w.alloc (L8 K0 gF gS gD)):=(Br.a0K hc.lk (o:=L8 K0 gF gS gD) trivial).1.sight;rw [show (w.at d).alloc (L8 K0 gF gS gD)=(w.alloc (L8 K0 gF gS gD)).at d from rfl];(iterate 2(refine Br.mo rfl rfl λd K' hK=>?_;go_simp;refine hK _ _ ⟨rfl,?_⟩;clear hK K'));refine Br.a9 (λd=>?_) _;rw [← hbx];exact hd _
 intro sb hb hb';apply d7
 ·intro l K un w Stop St hd d;have hc:=St.clear;refine Br.b8 (λd=>?_) _;refine Br.b9 (λd=>?_) _;simp only [Br.rz,Br.ix,Nat.reduceAdd];refine Br.mo rfl rfl λd K' hK=>?_;go_simp;refine hK _ _ ⟨rfl,?_⟩;clear hK K';exact hd _
 refine M8 (ms:=[.slice (some ⟨gF,0,none⟩) K0.nF K0.nF,.slice (some ⟨gS,0,none⟩) K0.nS K0.nS,.slice (some ⟨gD,0,none⟩) K0.nD K0.nD]) rfl rfl (by decide) rfl rfl (List.mem_cons_self ..) (w9.set_same _ _ _) (λj v hj=>by simpa using hj) Tryd.underlying45 rfl (by kernel_rfl) ?_;apply d7
 ·intro l K un w Stop St hd d;have hc:=St.clear;go_simp;refine Br.mc rfl (λu=>k6 rfl rfl (by decide) rfl Tryd.func86 rfl rfl (vs:=#[pO C.o,.agg #[.slice (some ⟨gF,0,none⟩) K0.nF K0.nF,.slice (some ⟨gS,0,none⟩) K0.nS K0.nS,.slice (some ⟨gD,0,none⟩) K0.nD K0.nD]]) (by simp [Act.eval]) u) (λd=>?_) _;exact hd _
 have hs1:∀ i∈pv,i∈sb::pv:=λi hi=>List.mem_cons_of_mem _ hi;have hR1:=hR.gain hs1 (a2T (X:=L8 K0 gF gS gD) hb);have hfb1:∀ b,fb=some b->b∈sb::pv:=λb e=>hs1 b (hfb b e);have hsf:some sb≠fb:=λe=>hb (hfb sb e.symm);refine b1Q a4j (λxs _=>a2s xs) K0 gF gS gD hK hfb1 hgf hR1 (hF.gain hs1 (a2T hb)) _ _ _ (λchild e xs' H' free' go' hF' hH'=>?_);rw [Frame.finish_at];apply d7
 ·intro l K un w Stop St hd d;have hc:=St.clear;go_simp;(iterate 5(refine Br.mo rfl rfl λd K' hK=>?_;go_simp;refine hK _ _ ⟨rfl,?_⟩;clear hK K'));refine Br.a9 (λd=>?_) _;refine Br.b8 (λd=>?_) _;refine Br.b8 (λd=>?_) _;refine Br.b9 (λd=>?_) _;simp only [Br.rz,Br.ix,Nat.reduceAdd];(iterate 2(refine Br.mo rfl rfl λd K' hK=>?_;go_simp;refine hK _ _ ⟨rfl,?_⟩;clear hK K'));refine Br.a9 (λd=>?_) _;exact hd _
 by_cases he:e=0
 rotate_left
 ·rw [if_neg he,M.pure_then];have hb:(e != 0)=true:=by simp [he]
  apply d7
  ·intro l K un w Stop St hd d;have hc:=St.clear;refine Br.mc rfl (λu=>stepG_cond (t:=true) (by simpa [Act.eval] using hb)) (λd=>?_) _;simp only [if_true];refine Br.b8 (λd=>?_) _;refine Br.b9 (λd=>?_) _;simp only [Br.rz,Br.ix,Nat.reduceAdd];(iterate 3(refine Br.mo rfl rfl λd K' hK=>?_;go_simp;refine hK _ _ ⟨rfl,?_⟩;clear hK K'));refine Br.a9 (λd=>?_) _;refine Br.q8 (λd=>?_) _;exact Br.m8 (v:=.tuple #[.int .i64 0,.int .i64 e]) rfl rfl Tryd.func79 (resultsC_tmp2 (t:=4) (u:=5) rfl _) hd _
   done
  exact L9 (hn 0 e H' free' go')
 subst he;rw [if_pos rfl,M.bind_then];apply d7
 ·intro l K un w Stop St hd d;have hc:=St.clear;refine Br.mc rfl (λu=>stepG_cond (t:=false) rfl) (λd=>?_) _;simp only [if_true,if_false,Bool.false_eq_true,↓reduceIte];refine Br.l9 (λd=>?_) _;refine Br.b8 (λd=>?_) _;exact hd _
 have hR2:Row (sb::pv) H' gS 55 (K0.nS*20) (o0 K0):=hR1.same (hH' gS hR1.1 hgf);have hbs:H' sb=L8 K0 gF gS gD:=(hH' sb (List.mem_cons_self ..) hsf).trans (w9.set_same _ _ _);have key:=λ(j11 j12 j13 j14 j15 j16 j17 j18:Value) v hv hc=>b4z (C:=C) (child:=child) hK hR2 hp (List.mem_cons_self ..) hbs j11 j12 j13 j14 j15 j16 j17 j18 v hv hc;unfold b7b A4 at key;simp only [Tryd.f79,pO] at key;refine a1x (by kernel_rfl) rfl rfl ⟨_,Tryd.func79⟩ (λv hv hrec=>key _ _ _ _ _ _ _ _ v hv (hrec 4 _ (λun=>by simp [I5,hC]))) _ _ ?_;clear key;rintro a' bs Hn ⟨b2,rfl,rfl,c,t,f,hX,hc⟩ hnew hkeep;have hs2:∀ i∈sb::pv,i∈[b2] ++ (sb::pv):=λi hi=>List.mem_append_right _ hi;have h2f:some b2≠fb:=λe=>(hnew b2 (List.mem_singleton.2 rfl)).1 (hfb1 b2 e.symm);have hF2:=Fr.gain hs2 hkeep hF';apply d7
 ·intro l K un w Stop St hd d;have hc:=St.clear;refine Br.b8 (λd=>?_) _;refine Br.b9 (λd=>?_) _;simp only [Br.rz,Br.ix,Nat.reduceAdd];(iterate 2(refine Br.mo rfl rfl λd K' hK=>?_;go_simp;refine hK _ _ ⟨rfl,?_⟩;clear hK K'));exact hd _
 refine M8 (ms:=cut (o0 K0) (p*20) 20) rfl rfl (by decide) rfl rfl (List.mem_append_left _ (List.mem_singleton.2 rfl)) hX (λj v hj=>by obtain ⟨h1,rfl⟩:=a8T hj;exact hc j h1) Tryd.underlying55 rfl (by rw [A5];kernel_rfl) ?_;rw [a2u];apply d7
 ·intro l K un w Stop St hd d;have hc:=St.clear;go_simp;refine Br.mc rfl (λu=>k6 rfl rfl (by decide) rfl Tryd.func88 rfl rfl (vs:=#[.agg (V7 K0 p)]) (by simp [Act.eval]) u) (λd=>?_) _;exact hd _
 refine a2v (by kernel_rfl) (by have:=I8 (λj=>K0.S p (3+j*2)) 4;unfold a1j;omega) (λv _=>a6E K0 p v) _ _ (λps bs3 H3 hpx hpc hpb hpo hnew3 hkeep3=>?_);rw [← hpx,Frame.finish_at];have hs3:∀ i∈[b2] ++ (sb::pv),i∈bs3 ++ ([b2] ++ (sb::pv)):=λi hi=>List.mem_append_right _ hi;have hF3:=Fr.gain hs3 hkeep3 hF2;have hpf:ps.blk≠fb\/ps.blk=none:=by
  rcases hpb with h|⟨b,h,hb3⟩
  ·exact .inr h
  ·exact .inl λe=>(hnew3 b hb3).1 (hs2 b (hfb1 b (e.symm.trans h)))
 apply d7
 ·intro l K un w Stop St hd d;have hc:=St.clear;go_simp;refine Br.mc rfl (λu=>k6 rfl rfl (by decide) rfl Tryd.func87 rfl rfl (vs:=#[pO C.o,.int .i64 child,ps.val]) (by simp [Act.eval]) u) (λd=>?_) _;exact hd _
 refine b4q a4j (λxs _=>a2s xs) (λb e=>hs3 b (hs2 b (hfb1 b e))) child ps hpo hpf hpc hF3 _ _ _ (λip e xs4 H4 free4 go4 hF4 hH4=>?_);rw [Frame.finish_at];have hpo4:=(Sl.ok_same hpo hpf hH4);have h24:H4 b2=.cells c t f:=(hH4 b2 (List.mem_append_right _ (List.mem_append_left _ (List.mem_singleton.2 rfl))) h2f).trans ((hkeep3 b2 (List.mem_append_left _ (List.mem_singleton.2 rfl))).trans hX);apply d7
 ·intro l K un w Stop St hd d;have hc:=St.clear;go_simp;(iterate 5(refine Br.mo rfl rfl λd K' hK=>?_;go_simp;refine hK _ _ ⟨rfl,?_⟩;clear hK K'));refine Br.a9 (λd=>?_) _;refine Br.b8 (λd=>?_) _;refine Br.b9 (λd=>?_) _;simp only [Br.rz,Br.ix,Nat.reduceAdd];refine Br.mo rfl rfl λd K' hK=>?_;go_simp;refine hK _ _ ⟨rfl,?_⟩;clear hK K';refine Br.a9 (λd=>?_) _;refine Br.b8 (λd=>?_) _;refine Br.b8 (λd=>?_) _;refine Br.b9 (λd=>?_) _;simp only [Br.rz,Br.ix,Nat.reduceAdd];(iterate 2(refine Br.mo rfl rfl λd K' hK=>?_;go_simp;refine hK _ _ ⟨rfl,?_⟩;clear hK K'));refine Br.a9 (λd=>?_) _;exact hd _
 unfold a6O;have keyS:=λ(pv:List Nat) (H:w9) (free:Value) (go:Bool) (e:Int) (fs:Sl) (hps:(ps.take ip).ok pv H) (hfs:fs.ok pv H)=>b1X (C:=C) (n:=n) (pv:=pv) (H:=H) (free:=free) (go:=go) child e (ps.take ip) fs hps hfs fr cs k (λx e f g=>hn x e H f g);unfold b1W at keyS;simp only [Tryd.f79,pO] at keyS
 by_cases he:e=0
 rotate_left
 ·rw [if_neg he];have hb:(e == 0)=false:=by simp [he]
  apply d7
  ·intro l K un w Stop St hd d;have hc:=St.clear;refine Br.mc rfl (λu=>stepG_cond (t:=false) (by simpa [Act.eval] using hb)) (λd=>?_) _;simp only [if_false,Bool.false_eq_true];refine Br.l9 (λd=>?_) _;exact hd _
  exact keyS _ _ _ _ e ⟨none,0,[]⟩ (Sl.take_ok hpo4 ip) ⟨by simp,.inl rfl⟩ _ _ _ _ _ _ _ _ _ _ _ _ _ _ _ _ _ _ _ _ _ _ _ _ _ _ _ _ _ _ _ _ _ _ _ _ _ _ _
 subst he;rw [if_pos rfl,M.bind_then];apply d7
 ·intro l K un w Stop St hd d;have hc:=St.clear;refine Br.mc rfl (λu=>stepG_cond (t:=true) rfl) (λd=>?_) _;simp only [if_true,if_false,Bool.false_eq_true,↓reduceIte];refine Br.b9 (λd=>?_) _;simp only [Br.rz,Br.ix,Nat.reduceAdd];(iterate 2(refine Br.mo rfl rfl λd K' hK=>?_;go_simp;refine hK _ _ ⟨rfl,?_⟩;clear hK K'));exact hd _
 refine M8 (ms:=cut (o0 K0) (p*20) 20) rfl rfl (by decide) rfl rfl (List.mem_append_right _ (List.mem_append_left _ (List.mem_singleton.2 rfl))) h24 (λj v hj=>by obtain ⟨h1,rfl⟩:=a8T hj;exact hc j h1) Tryd.underlying55 rfl (by rw [A5];kernel_rfl) ?_;rw [a2u];apply d7
 ·intro l K un w Stop St hd d;have hc:=St.clear;go_simp;refine Br.mc rfl (λu=>k6 rfl rfl (by decide) rfl Tryd.func90 rfl rfl (vs:=#[.agg (V7 K0 p)]) (by simp [Act.eval]) u) (λd=>?_) _;exact hd _
 refine a2v (by kernel_rfl) (by have:=I8 (λj=>K0.S p (11+j*2)) 4;unfold a0Q;omega) (λv _=>a6F K0 p v) _ _ (λfs bs5 H5 hfx hfc hfb5 hfo hnew5 hkeep5=>?_);rw [← hfx,Frame.finish_at];apply d7
 ·intro l K un w Stop St hd d;have hc:=St.clear;go_simp;refine Br.mc rfl (λu=>k6 rfl rfl (by decide) rfl Tryd.func89 rfl rfl (vs:=#[pO C.o,.int .i64 child,fs.val]) (by simp [Act.eval]) u) (λd=>?_) _;exact hd _
 refine b4o child fs hfo hfc _ _ _ (λiq e go6=>?_);rw [Frame.finish_at];apply d7
 ·intro l K un w Stop St hd d;have hc:=St.clear;go_simp;(iterate 5(refine Br.mo rfl rfl λd K' hK=>?_;go_simp;refine hK _ _ ⟨rfl,?_⟩;clear hK K'));refine Br.a9 (λd=>?_) _;exact hd _
 exact keyS _ _ _ _ e (fs.take iq) (Sl.take_ok (Sl.ok_more hpo4 (λi hi=>List.mem_append_right _ hi) hkeep5) ip) (Sl.take_ok hfo iq) _ _ _ _ _ _ _ _ _ _ _ _ _ _ _ _ _ _ _ _ _ _ _ _ _ _ _ _ _ _ _ _ _ _ _ _ _ _ _
end
attribute [local go_sem ↓] Go.wp_at_zero Go.wp_at_succ
section
variable {C:Ctx} {n:Nat} {s:q7} {pv:List Nat} {H:w9} {free:Value} {go:Bool}
noncomputable def b7c:Code :=
 match Tryd.f80.body with
 | some (.seq _ (.seq (.seq _ (.block _ (.loop (.seq _ (.seq _ (.seq (.block _ (.seq r _)) _)))))) _))=>r
 | _=>.skip
noncomputable def b7d:Code :=
 match Tryd.f80.body with
 | some (.seq _ (.seq (.seq _ (.block _ (.loop (.seq _ (.seq _ (.seq (.block _ (.seq _ (.seq r _))) _)))))) _))=>r
 | _=>.skip
noncomputable def u8:Array Oper :=
 match Tryd.f80.body with
 | some (.seq _ (.seq (.seq _ (.block _ (.loop (.seq _ (.seq _ (.seq (.block _ (.seq _ (.seq _ (.cond _ (.seq (.region _ ops _) _) _)))) _)))))) _))=>ops
 | _=>#[]
theorem b4B {K0:Ker}{gF gS gD sb:Nat}(hK:K0.nS<=32)(hR:Row pv H gS 55 (K0.nS*20) (o0 K0)){i:Nat}(hi:i<K0.nS)(j6 j7 j12 j13 j14 j15 j16 j17 j18 j19 j20 j21 j22 j23 j24 j25 j26 j27 j37:Value)(v:World)(hv:∀ i∈pv,i<v.heap.size/\(Br.Obj.sight (H i)->v.heap[i]?=some (H i))) :
  b7c.wp Tryd.prog (λe a' v'=>e=.normal/\∃ bs Hn,Gain pv H v v' bs Hn/\∃ bx,bs=[bx]/\a'=⟨#[pO C.o,A4 K0 gF gS gD,undef,.pointer (some ⟨sb,0,none⟩),.int .i64 0,.int .i64 0,.int .i64 i,.pointer (some ⟨bx,0,none⟩),.pointer (some ⟨sb,1,none⟩),.slice (some ⟨gS,0,none⟩) K0.nS K0.nS,.int .i64 K0.nS,.int .i64 i,j12,.int .i64 i,.pointer (some ⟨gS,i*20,none⟩),.agg (cut (o0 K0) (i*20) 20).toArray,j16,j17,j18,j19,j20,j21,j22,j23,j24,j25,j26,j27,undef,undef,undef,undef,undef,undef,undef,undef,undef,j37,undef,undef],[]⟩/\Slt (Hn bx) K0 i) ⟨#[pO C.o,A4 K0 gF gS gD,undef,.pointer (some ⟨sb,0,none⟩),.int .i64 0,.int .i64 0,j6,j7,.pointer (some ⟨sb,1,none⟩),.slice (some ⟨gS,0,none⟩) K0.nS K0.nS,.int .i64 K0.nS,.int .i64 i,j12,j13,j14,j15,j16,j17,j18,j19,j20,j21,j22,j23,j24,j25,j26,j27,undef,undef,undef,undef,undef,undef,undef,undef,undef,j37,undef,undef],[]⟩ v:=by
 have hrow:=hR.is hv;have hlt:∀ i∈pv,i<v.heap.size:=λi hi=>(hv i hi).1;obtain ⟨cs,hcs⟩:∃ cs,cs=cut (o0 K0) (i*20) 20:=⟨_,rfl⟩;have ei:Hid ((Tryd.prog.info? 55).map (·.size)=some cs.length):=by unfold Hid;rw [hcs,A5];kernel_rfl
 have ei2:Hid ((Tryd.prog.info? 55).map (·.size)=some cs.toArray.size):=by unfold Hid;rw [List.size_toArray,hcs,A5];kernel_rfl
 have o1:Hid (cs.toArray.all (·.oneCell')=true):=by unfold Hid;rw [hcs];exact a5I K0 _ _
 have z1:Hid (cs.toArray.size=20):=by unfold Hid;rw [List.size_toArray,hcs,A5]
 have LA:Hid (v.rangeAt gS (i*20) cs):=by unfold Hid;rw [hcs];exact y7 hrow (o:=i*20) (m:=20) (by omega)
 rw [← hcs];have Hcs:Hid (cs=cut (o0 K0) (i*20) 20):=hcs;clear hcs;have b1:(0:Int)<=(i:Int):=by omega
 have b2:(i:Int)<(K0.nS:Int):=by omega
 have Hlt:Hid (∀ i∈pv,i<v.heap.size):=hlt;clear hlt hrow hR hv;unfold b7c;simp only [Tryd.f80]
 go_wp2_with (first|(refine wpList_load_mid rfl 55 _ rfl gS (i*20) rfl cs _ LA.out Tryd.underlying55 rfl ei.out ?_)|(refine Q0 rfl 55 _ _ rfl _ 0 cs.toArray rfl rfl (by rw [z1.out];exact a0U _ _ _ _ (by rfl)) ei2.out o1.out ?_;intro W1 f1 f2 f3 f4))
 obtain ⟨X,hX,hS⟩:=b1M (K:=K0) (i:=i) (b:=v.heap.size) (w:=W1) (by rw [← Hcs.out];exact f1);refine ⟨[v.heap.size],λk=>if k=v.heap.size then X else H k,⟨?_,?_,?_,?_⟩,v.heap.size,rfl,rfl,by simpa using hS⟩
 ·rw [f3];simp
 ·intro k hk;rw [f2 k (by omega)];exact Below.heap_alloc _ _ _ hk
 ·intro b hb;obtain rfl:=List.mem_singleton.1 hb;exact ⟨Nat.le_refl _,by simpa using hX⟩
 ·intro i hi;have:=Hlt.out i hi;show (if i=v.heap.size then X else H i)=H i;rw [if_neg (by omega)]
theorem b4C {K0:Ker}{gF gS gD sb bx i:Nat}(hbx:bx∈pv){c:Array Value}{t:TypeId}{f:Nat × Nat}(hX:H bx=.cells c t f)(hc:∀ j,j<20->c[j]?=some (o0 K0 (i*20+j)))(j12 j13 j14 j15 j16 j17 j18 j19 j20 j21 j22 j23 j24 j25 j26 j27 j37:Value)(v:World)(hv:∀ i∈pv,i<v.heap.size/\(Br.Obj.sight (H i)->v.heap[i]?=some (H i)))(hC:v.cell? ⟨C.o.bo,4,none⟩=some (.int .i64 C.slot)) :
  b7d.wp Tryd.prog (λe a' v'=>e=.normal/\∃ bs Hn,Gain pv H v v' bs Hn/\bs=[]/\∃ j12 j13 j14 j15 j16 j17 j18 j19 j20 j21 j22 j23 j24 j25 j26 j37:Value,a'=⟨#[pO C.o,A4 K0 gF gS gD,undef,.pointer (some ⟨sb,0,none⟩),.int .i64 0,.int .i64 0,.int .i64 i,.pointer (some ⟨bx,0,none⟩),.pointer (some ⟨sb,1,none⟩),.slice (some ⟨gS,0,none⟩) K0.nS K0.nS,.int .i64 K0.nS,.int .i64 i,j12,j13,j14,j15,j16,j17,j18,j19,j20,j21,j22,j23,j24,j25,j26,.bool (K0.S i 1 == C.slot && K0.S i 0 == 3),undef,undef,undef,undef,undef,undef,undef,undef,undef,j37,undef,undef],[]⟩) ⟨#[pO C.o,A4 K0 gF gS gD,undef,.pointer (some ⟨sb,0,none⟩),.int .i64 0,.int .i64 0,.int .i64 i,.pointer (some ⟨bx,0,none⟩),.pointer (some ⟨sb,1,none⟩),.slice (some ⟨gS,0,none⟩) K0.nS K0.nS,.int .i64 K0.nS,.int .i64 i,j12,j13,j14,j15,j16,j17,j18,j19,j20,j21,j22,j23,j24,j25,j26,j27,undef,undef,undef,undef,undef,undef,undef,undef,undef,j37,undef,undef],[]⟩ v:=by
 have c0:v.cell? ⟨bx,0,none⟩=some (.int .i64 (K0.S i 0)):=by
  simp only [World.cell?,(hv bx hbx).2 (by rw [hX];trivial),hX];have:=hc 0 (by omega);rw [B3 K0 i 0 (by omega) (by omega)] at this;simpa using this
 have c1:v.cell? ⟨bx,1,none⟩=some (.int .i64 (K0.S i 1)):=by
  simp only [World.cell?,(hv bx hbx).2 (by rw [hX];trivial),hX];have:=hc 1 (by omega);rw [B3 K0 i 1 (by omega) (by omega)] at this;simpa using this
 have hG:∀ v':World,v'.heap=v.heap->Gain pv H v v' [] H:=λv' e=>⟨by rw [e];exact Nat.le_refl _,λk _=>by rw [e],λb hb=>(by cases hb),λ_ _=>rfl⟩
 have HG:Hid (∀ v':World,v'.heap=v.heap->Gain pv H v v' [] H):=hG;clear hG hc hX hv hbx;generalize K0.S i 0=x0 at *;generalize K0.S i 1=x1 at *;generalize hs:C.slot=sl at *;unfold b7d;simp only [Tryd.f80,pO]
 by_cases he:x1=sl
 ·subst he
  go_quiet (fail)
  first|exact ⟨rfl,[],H,HG.out _ (by rfl),rfl,_,_,_,_,_,_,_,_,_,_,_,_,_,_,_,_,rfl⟩|(simp only [beq_self_eq_true,Bool.true_and];exact ⟨trivial,[],H,HG.out _ (by rfl),rfl,_,_,_,_,_,_,_,_,_,_,_,_,_,_,_,_,rfl⟩)
 ·have he':(x1 == sl)=false:=by simp [he]
  go_quiet (fail)
  first|exact ⟨rfl,[],H,HG.out _ (by rfl),rfl,_,_,_,_,_,_,_,_,_,_,_,_,_,_,_,_,rfl⟩|(simp only [he',Bool.false_and];exact ⟨trivial,[],H,HG.out _ (by rfl),rfl,_,_,_,_,_,_,_,_,_,_,_,_,_,_,_,_,rfl⟩)
end
end Go.Proofs.YtcgabodkegcpgaaDoor
