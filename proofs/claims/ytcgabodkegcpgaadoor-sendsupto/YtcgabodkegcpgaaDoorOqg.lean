/- Single operations of an operation's own, drawn regions, and blocks that are given up. -/
import Derived.Test.YtcgabodkegcpgaaDoorOqe
import Derived.Test.YtcgabodkegcpgaaDoorOps
import Derived.Deep.MidRow
set_option linter.unusedVariables false
set_option linter.unusedSimpArgs false
set_option maxHeartbeats 20000000
set_option maxRecDepth 100000
namespace Go.Proofs.YtcgabodkegcpgaaDoor
open Go.Conc Go.RowKit
open Br (OpD KO SO SP sfO Lk Fit Must DL Liv Clear)
section
variable {C:Ctx} {n:Nat} {s:Strat} {pv:List Nat} {H:Heap} {free:Value} {go:Bool} {g:Goroutine}
theorem good_fewer {pv':List Nat}{H':Heap}(hs:∀ i∈pv',i∈pv)(hH':∀ i∈pv',H i=H' i)(h:Good' C n s pv' H' free go g):Good' C n s pv H free go g:=by
 have key:∀ {l K un go w},Sta C l K pv H free un go w→Sta C l K pv' H' free un go w:=by
  rintro l K un go w ⟨H1,A,hH⟩
  refine ⟨H1,A.fewer (fun i hi=>?_) (List.mem_cons_self ..) (fun _ _=>rfl),fun i hi=>?_⟩
  ·rcases List.mem_cons.1 hi with rfl|hi
   ·exact List.mem_cons_self ..
   ·exact List.mem_cons_of_mem _ (hs i hi)
  ·obtain ⟨h1,h2⟩:=hH i (hs i hi)
   exact ⟨h1,by rw [h2,hH' i hi]⟩
 have sub:∀ {pv0 w0},Sub (C.o.bo::pv) pv0 w0→Sub (C.o.bo::pv') pv0 w0:=fun h i hi=>by
  rcases List.mem_cons.1 hi with rfl|hi
  ·exact h _ (List.mem_cons_self ..)
  ·exact h _ (List.mem_cons_of_mem _ (hs i hi))
 exact ⟨fun m l w0 pv0 T K un w hm St M S P d=>h.1 m l w0 pv0 T K un w hm (key St) M (sub S) P d,fun hgo l w0 pv0 K un w St M S d=>h.2 hgo l w0 pv0 K un w (key St) M (sub S) d⟩
theorem good_nil {H':Heap}(h:Good' C n s [] H' free go g):Good' C n s pv H free go g:=good_fewer (fun i hi=>by cases hi) (fun i hi=>by cases hi) h
section
variable {ops:Array Oper} {i:Nat} {o:Oper} {a:Act} {b:Frame} {rest:List Nat} {k:List Item} {cs:List Frame}
theorem good_pure {v:Value}(ho:ops[i]?=some o)(hg:o.guard=none)(hk:b.kind≠.early)(hop:Br.okOp Tryd.prog (fun _=>false) [] false o.op=true)
  (hv:∀ l K un w d,Sta C l K pv H free un go w→(execOp a.eval o).run Tryd.prog (w.at d)=.ok (.value v) (w.at d))
  (hn:Good' C n s pv H free go (G (b.at (a.put o.dst v) (.inRegion ops rest::k)) cs)):Good' C n s pv H free go (G (b.at a (.inRegion ops (i::rest)::k)) cs) :=
 good_still (fun l K un w Stop St hd d=>Br.must_oper ho (by unfold Region.wanted;rw [hg]) hk hop St.clear (fun d K' hK=>by rw [hv l K un w d St];exact hK _ _ ⟨rfl,hd d⟩) d) hn
theorem good_loadrow {ty:TypeId}{x:Operand}{b0:Nat}{c:Array Value}{t:TypeId}{f:Nat × Nat}{ms:List Value}{d0:TypeDesc}(ho:ops[i]?=some o)(hg:o.guard=none)(hk:b.kind≠.early)(hop:o.op=.load ty x)
  (hx:a.eval x=.pointer (some ⟨b0,0,none⟩))(hb:b0∈pv)(hH:H b0=.cells c t f)(hms:∀ (j:Nat) (v:Value),ms[j]?=some v→c[j]?=some v)(hu:Tryd.prog.underlying ty=some d0)(hd:d0.isRow=true)(hi:(Tryd.prog.info? ty).map (·.size)=some ms.length)
  (hn:Good' C n s pv H free go (G (b.at (a.put o.dst (.agg ms.toArray)) (.inRegion ops rest::k)) cs)):Good' C n s pv H free go (G (b.at a (.inRegion ops (i::rest)::k)) cs):=by
 refine good_pure ho hg hk (by rw [hop];rfl) (fun l K un w d St=>?_) hn
 have hr:(w.at d).rangeAt b0 0 ms:=fun j v hj=>by
  rw [Nat.zero_add];exact St.cell hb hH (hms j v hj)
 unfold execOp
 simp only [hop,hx,Instr.loadAt,Instr.sureAddr,Sem.run_bind,Sem.run_pure,Result.andThen_ok,run_loadVar_mid (w.at d) b0 0 ty ms d0 hr hu hd hi]
theorem must_draw {main st:Bool}{sft:Nat→Nat}{Stop:Goroutine→World→Prop}{id:Nat}{w:World}(h:∀ t d,Must Tryd.prog main (DL st sft) Stop (G (b.at a (.inRegion ops (Region.schedule (Tryd.prog.follows .mixedOrders) ops t)::k)) cs) (w.at d))(d0:Nat) :
  Must Tryd.prog main (DL st sft) Stop (G (b.at a (.code (.region id ops true)::k)) cs) (w.at d0) :=
 .step (fun d=>G (b.at a (.inRegion ops (Region.schedule (Tryd.prog.follows .mixedOrders) ops ((w.at d).tape (w.at d).drawn (.order b.fn id)))::k)) cs) (fun d=>w.at ((w.at d).drawn+1)) (fun _=>#[]) rfl (fun d=>stepG_region_draw) (fun d=>⟨.of_heap _ rfl,fun e he=>by simp at he,rfl⟩) (fun d=>h _ _)
theorem good_draw {id:Nat}(hm:Tryd.prog.follows .mixedOrders=true)(h:∀ rest,Br.Ord ops ops.size (Array.replicate ops.size false) rest→Good' C n s pv H free go (G (b.at a (.inRegion ops rest::k)) cs)) :
  Good' C n s pv H free go (G (b.at a (.code (.region id ops true)::k)) cs):=by
 refine ⟨fun m l w0 pv0 T K un w hm' St M S P d=>?_,fun hgo l w0 pv0 K un w St M S d=>?_⟩
 ·refine must_draw (fun t d=>?_) d
  exact (h _ (Br.ord_start hm ops t)).1 m l w0 pv0 T K un w hm' St M S P d
 ·refine must_draw (fun t d=>?_) d
  exact (h _ (Br.ord_start hm ops t)).2 hgo l w0 pv0 K un w St M S d
end
end
attribute [local go_sem ↓] Go.wp_at_zero Go.wp_at_succ
section
variable {C:Ctx} {n:Nat} {pv:List Nat} {H:Heap} {free:Value} {go:Bool}
def forkE (child:Int)(ps fs:List Int)(e:Int):M (Int × Int):=if e=0 then M.pure (child,0) else (backM child ps fs e).bind fun e'=>M.pure (0,e')
def forkD (child:Int)(ps fs:List Int)(e:Int):M (Int × Int):=if e=0 then (callM 8 child 0 0).bind fun c=>forkE child ps fs c.2 else forkE child ps fs e
def forkC (child:Int)(ps fs:List Int)(e:Int):M (Int × Int):=if e=0 then (giveM child fs 0).bind fun q=>forkD child ps (fs.take q.1) q.2 else forkD child ps [] e
def forkM (K0:Ker)(p:Nat)(xs:List Int):M (Int × Int):=(spawnM K0 K0.nS 0 xs).bind fun z=>if z.1.2=0 then (copyM z.1.1 (pagesL K0 p) 0 z.2).bind fun y=>forkC z.1.1 ((pagesL K0 p).take y.1.1) (filesL K0 p) y.1.2 else M.pure (0,z.1.2)
noncomputable def forkT2:Code :=
 match Tryd.f79.body with
 | some (.seq _ (.seq _ (.seq _ (.seq _ (.seq _ (.seq _ (.seq _ (.seq _ c))))))))=>c
 | _=>.skip
noncomputable def forkT1:Code :=
 match Tryd.f79.body with
 | some (.seq _ (.seq _ (.seq _ (.seq _ (.seq _ (.seq _ (.seq _ c)))))))=>c
 | _=>.skip
theorem fork_end (child e:Int)(ps fs:Sl)(hps:ps.ok pv H)(hfs:fs.ok pv H)(fr:Frame)(cs:List Frame)(k:Int × Int→Bool→Strat)
  (hn:∀ x e free' go',Good' C n (k (x,e) go') [] H free' go' (G (fr.finish (.tuple #[.int .i64 x,.int .i64 e])) cs))(j1 j2 j3 j8 j11 j12 j13 j14 j15 j16 j17 j18 j19 j20 j21 j22 j23 j24 j25 j26 j27 j28 j29 j30 j31 j32 j33 j34 j35 j36 j37 j38 j39 j40 j41 j42 j43 j44 j45 j46 j47 j48 j49 j50 j51 j52 j53 j54:Value) :
  Good' C n ((forkE child ps.xs fs.xs e).then go k) pv H free go (G ((base 79).at ⟨#[pO C.o,j1,j2,j3,.int .i64 0,.int .i64 0,.int .i64 child,.int .i64 e,j8,ps.val,fs.val,j11,j12,j13,j14,j15,j16,j17,j18,j19,j20,j21,j22,j23,j24,j25,j26,j27,j28,j29,j30,j31,j32,j33,j34,j35,j36,j37,j38,j39,j40,j41,j42,j43,j44,j45,j46,j47,j48,j49,j50,j51,j52,j53,j54,undef,undef,undef,undef,undef,undef,undef,undef,undef],[]⟩ [.code forkT2]) (fr::cs)):=by
 unfold forkE forkT2
 simp only [Tryd.f79,pO]
 apply good_still
 ·intro l K un w Stop St hd d
  have hc:=St.clear
  refine Br.liv_seq (fun d=>?_) _
  refine Br.liv_seq (fun d=>?_) _
  refine Br.liv_region (fun d=>?_) _
  simp only [Br.rz,Br.ix,Nat.reduceAdd]
  refine Br.mo rfl rfl hc (fun d K' hK=>?_) _
  go_simp
  refine hK _ _ ⟨rfl,?_⟩
  clear hK K'
  refine Br.mo rfl rfl hc (fun d K' hK=>?_) _
  go_simp
  refine hK _ _ ⟨rfl,?_⟩
  clear hK K'
  refine Br.liv_region_end (fun d=>?_) _
  exact hd _
 by_cases he:e=0
 ·subst he
  rw [if_pos rfl,M.pure_then]
  apply good_still
  ·intro l K un w Stop St hd d
   have hc:=St.clear
   refine Br.mc rfl (fun u=>stepG_cond (t:=false) rfl) (fun d=>?_) _
   simp only [if_true,if_false,Bool.false_eq_true,↓reduceIte]
   refine Br.liv_skip (fun d=>?_) _
   refine Br.liv_seq (fun d=>?_) _
   refine Br.liv_region (fun d=>?_) _
   simp only [Br.rz,Br.ix,Nat.reduceAdd]
   refine Br.mo rfl rfl hc (fun d K' hK=>?_) _
   go_simp
   refine hK _ _ ⟨rfl,?_⟩
   clear hK K'
   refine Br.mo rfl rfl hc (fun d K' hK=>?_) _
   go_simp
   refine hK _ _ ⟨rfl,?_⟩
   clear hK K'
   refine Br.mo rfl rfl hc (fun d K' hK=>?_) _
   go_simp
   refine hK _ _ ⟨rfl,?_⟩
   clear hK K'
   refine Br.liv_region_end (fun d=>?_) _
   refine Br.liv_ret (fun d=>?_) _
   exact Br.liv_leave (v:=.tuple #[.int .i64 child,.int .i64 0]) rfl rfl Tryd.func79 (resultsC_tmp2 (t:=4) (u:=5) rfl _) hd _
   done
  exact good_nil (hn child 0 free go)
 ·rw [if_neg he,M.bind_then]
  have hb:(e != 0)=true:=by simp [he]
  apply good_still
  ·intro l K un w Stop St hd d
   have hc:=St.clear
   refine Br.mc rfl (fun u=>stepG_cond (t:=true) (by simpa [Act.eval] using hb)) (fun d=>?_) _
   simp only [if_true]
   refine Br.liv_seq (fun d=>?_) _
   refine Br.liv_region (fun d=>?_) _
   simp only [Br.rz,Br.ix,Nat.reduceAdd]
   refine Br.mo rfl rfl hc (fun d K' hK=>?_) _
   go_simp
   refine hK _ _ ⟨rfl,?_⟩
   clear hK K'
   refine Br.mo rfl rfl hc (fun d K' hK=>?_) _
   go_simp
   refine hK _ _ ⟨rfl,?_⟩
   clear hK K'
   refine Br.mo rfl rfl hc (fun d K' hK=>?_) _
   go_simp
   refine hK _ _ ⟨rfl,?_⟩
   clear hK K'
   refine Br.mo rfl rfl hc (fun d K' hK=>?_) _
   go_simp
   refine hK _ _ ⟨rfl,?_⟩
   clear hK K'
   refine Br.mo rfl rfl hc (fun d K' hK=>?_) _
   go_simp
   refine hK _ _ ⟨rfl,?_⟩
   clear hK K'
   refine Br.mc rfl (fun u=>stepG_call rfl rfl (by decide) rfl Tryd.func91 rfl rfl (vs:=#[pO C.o,.int .i64 child,ps.val,fs.val,.int .i64 e]) (by simp [Act.eval]) u) (fun d=>?_) _
   exact hd _
  refine good_back child e ps fs hps hfs _ _ _ (fun e' go'=>?_)
  rw [Frame.finish_at,M.pure_then]
  apply good_still
  ·intro l K un w Stop St hd d
   have hc:=St.clear
   go_simp
   refine Br.mo rfl rfl hc (fun d K' hK=>?_) _
   go_simp
   refine hK _ _ ⟨rfl,?_⟩
   clear hK K'
   refine Br.mo rfl rfl hc (fun d K' hK=>?_) _
   go_simp
   refine hK _ _ ⟨rfl,?_⟩
   clear hK K'
   refine Br.liv_region_end (fun d=>?_) _
   refine Br.liv_ret (fun d=>?_) _
   exact Br.liv_leave (v:=.tuple #[.int .i64 0,.int .i64 e']) rfl rfl Tryd.func79 (resultsC_tmp2 (t:=4) (u:=5) rfl _) hd _
   done
  exact good_nil (hn 0 e' free go')
theorem fork_start (child e:Int)(ps fs:Sl)(hps:ps.ok pv H)(hfs:fs.ok pv H)(fr:Frame)(cs:List Frame)(k:Int × Int→Bool→Strat)
  (hn:∀ x e free' go',Good' C n (k (x,e) go') [] H free' go' (G (fr.finish (.tuple #[.int .i64 x,.int .i64 e])) cs))(j1 j2 j3 j8 j11 j12 j13 j14 j15 j16 j17 j18 j19 j20 j21 j22 j23 j24 j25 j26 j27 j28 j29 j30 j31 j32 j33 j34 j35 j36 j37 j38 j39 j40 j41 j42 j43 j44 j45:Value) :
  Good' C n ((forkD child ps.xs fs.xs e).then go k) pv H free go (G ((base 79).at ⟨#[pO C.o,j1,j2,j3,.int .i64 0,.int .i64 0,.int .i64 child,.int .i64 e,j8,ps.val,fs.val,j11,j12,j13,j14,j15,j16,j17,j18,j19,j20,j21,j22,j23,j24,j25,j26,j27,j28,j29,j30,j31,j32,j33,j34,j35,j36,j37,j38,j39,j40,j41,j42,j43,j44,j45,undef,undef,undef,undef,undef,undef,undef,undef,undef,undef,undef,undef,undef,undef,undef,undef,undef,undef],[]⟩ [.code forkT1]) (fr::cs)):=by
 have key:=fun go e=>fork_end (C:=C) (n:=n) (free:=free) (go:=go) child e ps fs hps hfs fr cs k hn
 unfold forkD forkT1
 unfold forkT2 at key
 simp only [Tryd.f79,pO] at *
 apply good_still
 ·intro l K un w Stop St hd d
  have hc:=St.clear
  refine Br.liv_seq (fun d=>?_) _
  refine Br.liv_seq (fun d=>?_) _
  refine Br.liv_region (fun d=>?_) _
  simp only [Br.rz,Br.ix,Nat.reduceAdd]
  refine Br.mo rfl rfl hc (fun d K' hK=>?_) _
  go_simp
  refine hK _ _ ⟨rfl,?_⟩
  clear hK K'
  refine Br.mo rfl rfl hc (fun d K' hK=>?_) _
  go_simp
  refine hK _ _ ⟨rfl,?_⟩
  clear hK K'
  refine Br.liv_region_end (fun d=>?_) _
  exact hd _
 by_cases he:e=0
 ·subst he
  rw [if_pos rfl,M.bind_then]
  apply good_still
  ·intro l K un w Stop St hd d
   have hc:=St.clear
   refine Br.mc rfl (fun u=>stepG_cond (t:=true) rfl) (fun d=>?_) _
   simp only [if_true,if_false,Bool.false_eq_true,↓reduceIte]
   refine Br.liv_region (fun d=>?_) _
   simp only [Br.rz,Br.ix,Nat.reduceAdd]
   refine Br.mo rfl rfl hc (fun d K' hK=>?_) _
   go_simp
   refine hK _ _ ⟨rfl,?_⟩
   clear hK K'
   refine Br.mo rfl rfl hc (fun d K' hK=>?_) _
   go_simp
   refine hK _ _ ⟨rfl,?_⟩
   clear hK K'
   refine Br.mo rfl rfl hc (fun d K' hK=>?_) _
   go_simp
   refine hK _ _ ⟨rfl,?_⟩
   clear hK K'
   refine Br.mc rfl (fun u=>stepG_call rfl rfl (by decide) rfl Tryd.func84 rfl rfl (vs:=callArgs C.o 8 child 0 0) (by simp [Act.eval]) u) (fun d=>?_) _
   exact hd _
  refine good_call 8 child 0 0 _ _ _ (fun x e go' hg=>?_)
  rw [Frame.finish_at]
  apply good_still
  ·intro l K un w Stop St hd d
   have hc:=St.clear
   go_simp
   refine Br.mo rfl rfl hc (fun d K' hK=>?_) _
   go_simp
   refine hK _ _ ⟨rfl,?_⟩
   clear hK K'
   refine Br.mo rfl rfl hc (fun d K' hK=>?_) _
   go_simp
   refine hK _ _ ⟨rfl,?_⟩
   clear hK K'
   refine Br.mo rfl rfl hc (fun d K' hK=>?_) _
   go_simp
   refine hK _ _ ⟨rfl,?_⟩
   clear hK K'
   refine Br.mo rfl rfl hc (fun d K' hK=>?_) _
   go_simp
   refine hK _ _ ⟨rfl,?_⟩
   clear hK K'
   refine Br.liv_region_end (fun d=>?_) _
   exact hd _
  exact key go' e _ _ _ _ _ _ _ _ _ _ _ _ _ _ _ _ _ _ _ _ _ _ _ _ _ _ _ _ _ _ _ _ _ _ _ _ _ _ _ _ _ _ _ _ _ _ _ _
 ·rw [if_neg he]
  have hb:(e == 0)=false:=by simp [he]
  apply good_still
  ·intro l K un w Stop St hd d
   have hc:=St.clear
   refine Br.mc rfl (fun u=>stepG_cond (t:=false) (by simpa [Act.eval] using hb)) (fun d=>?_) _
   simp only [if_false,Bool.false_eq_true]
   refine Br.liv_skip (fun d=>?_) _
   exact hd _
  exact key go e _ _ _ _ _ _ _ _ _ _ _ _ _ _ _ _ _ _ _ _ _ _ _ _ _ _ _ _ _ _ _ _ _ _ _ _ _ _ _ _ _ _ _ _ _ _ _ _
theorem cell_lt {w:World}{b j:Nat}{x:Value}(h:w.cell? ⟨b,j,none⟩=some x):b<w.heap.size:=by
 by_cases e:b<w.heap.size
 ·exact e
 ·simp only [World.cell?,Array.getElem?_eq_none (show w.heap.size≤b by omega)] at h;cases h
theorem wp_store_any {P:Program}{op:Oper}{a:Act}{w:World}{K:Act→World→Prop}{Q:Exit→Act→World→Prop}(ty:TypeId)(x y:Operand)(ho:op.op=.store ty x y)
  (b o:Nat)(cells:Array Value)(hx:a.eval x=.pointer (some ⟨b,o,none⟩))(hy:a.eval y=.agg cells)
  (ht:w.there b o cells.size)(hi:(P.info? ty).map (·.size)=some cells.size)(h1:cells.all (·.oneCell')=true)
  (h:∀ W,W.rangeAt b o cells.toList→(∀ k,k≠b→W.heap[k]?=w.heap[k]?)→W.heap.size=w.heap.size→K (a.put op.dst undef) W):op.wp P a w K Q :=
 wp_store_mid ty x y ho b o cells hx hy ht hi h1 (h _ (World.rangeAt_setCells_same w b o _ (by rw [Array.length_toList];exact ht)) (fun k hk=>heap_setCells hk _ _ _) (size_setCells _ _ _))
noncomputable def forkR4:Code :=
 match Tryd.f79.body with
 | some (.seq _ (.seq _ (.seq _ (.seq c _))))=>c
 | _=>.skip
theorem fork_read {K0:Ker}{gF gS gD sb p:Nat}{child:Int}(hK:K0.nS≤32)(hR:Row pv H gS 55 (K0.nS*20) (sCell K0))(hp:p<K0.nS)(hsb:sb∈pv)(hbs:H sb=boxSt K0 gF gS gD)(j11 j12 j13 j14 j15 j16 j17 j18:Value)(v:World)(hv:∀ i∈pv,i<v.heap.size∧(Br.Obj.sight (H i)→v.heap[i]?=some (H i)))(hC:v.cell? ⟨C.o.bo,4,none⟩=some (.int .i64 p)) :
  forkR4.wp Tryd.prog (fun e a' v'=>e=.normal∧∃ bs Hn,Gain pv H v v' bs Hn∧∃ bx,bs=[bx]∧a'=⟨#[pO C.o,stVal K0 gF gS gD,undef,.pointer (some ⟨sb,0,none⟩),.int .i64 0,.int .i64 0,.int .i64 child,.int .i64 0,.pointer (some ⟨bx,0,none⟩),undef,undef,j11,j12,j13,j14,j15,j16,j17,j18,undef,.pointer (some ⟨sb,1,none⟩),.slice (some ⟨gS,0,none⟩) K0.nS K0.nS,pO C.o,pO C.o,.pointer (some ⟨C.o.bo,4,none⟩),.int .i64 p,.pointer (some ⟨gS,p*20,none⟩),.agg (cut (sCell K0) (p*20) 20).toArray,undef,undef,undef,undef,undef,undef,undef,undef,undef,undef,undef,undef,undef,undef,undef,undef,undef,undef,undef,undef,undef,undef,undef,undef,undef,undef,undef,undef,undef,undef,undef,undef,undef,undef,undef,undef],[]⟩∧Slt (Hn bx) K0 p) ⟨#[pO C.o,stVal K0 gF gS gD,undef,.pointer (some ⟨sb,0,none⟩),.int .i64 0,.int .i64 0,.int .i64 child,.int .i64 0,undef,undef,undef,j11,j12,j13,j14,j15,j16,j17,j18,undef,undef,undef,undef,undef,undef,undef,undef,undef,undef,undef,undef,undef,undef,undef,undef,undef,undef,undef,undef,undef,undef,undef,undef,undef,undef,undef,undef,undef,undef,undef,undef,undef,undef,undef,undef,undef,undef,undef,undef,undef,undef,undef,undef,undef],[]⟩ v:=by
 have hrow:=hR.is hv
 have hlt:∀ i∈pv,i<v.heap.size:=fun i hi=>(hv i hi).1
 obtain ⟨cs,hcs⟩:∃ cs,cs=cut (sCell K0) (p*20) 20:=⟨_,rfl⟩
 have hu:=Tryd.underlying55
 have ei:(Tryd.prog.info? 55).map (·.size)=some cs.length:=by rw [hcs,cut_len];kernel_rfl
 have o1:∀ v∈cs,v.oneCell'=true:=by
  have:=cut_one K0 (p*20) 20
  rw [← hcs] at this
  simpa using this
 have z1:cs.length=20:=by rw [hcs,cut_len]
 have LA:v.rangeAt gS (p*20) cs:=by rw [hcs];exact rowIs_range hrow (o:=p*20) (m:=20) (by omega)
 have cS:v.cell? ⟨sb,1,none⟩=some (.slice (some ⟨gS,0,none⟩) K0.nS K0.nS):=by
  simp only [World.cell?,(hv sb hsb).2 (by rw [hbs];trivial),hbs];rfl
 have n1:=World.new_ne v _ hC
 have n2:=World.new_ne v _ cS
 rw [← hcs]
 have Hcs:Hid (cs=cut (sCell K0) (p*20) 20):=hcs
 clear hcs
 have b1:(0:Int)≤(p:Int):=by omega
 have b2:(p:Int)<(K0.nS:Int):=by omega
 have Hlt:Hid (∀ i∈pv,i<v.heap.size):=hlt
 clear hlt hrow hR hv
 unfold forkR4
 simp only [Tryd.f79,pO]
 refine wp_region_held (S:=fun w'=>w'.cell? ⟨sb,1,none⟩=some (.slice (some ⟨gS,0,none⟩) K0.nS K0.nS)∧w'.cell? ⟨C.o.bo,4,none⟩=some (.int .i64 p)∧w'.rangeAt gS (p*20) cs) (by kernel_rfl) ?_
 have hS:(fun w':World=>w'.cell? ⟨sb,1,none⟩=some (.slice (some ⟨gS,0,none⟩) K0.nS K0.nS)∧w'.cell? ⟨C.o.bo,4,none⟩=some (.int .i64 p)∧w'.rangeAt gS (p*20) cs) { v with drawn:=v.drawn+1 }:=⟨cS,hC,LA⟩
 refine wpAnyH_take (i:=0) (v:=(.pointer (some ⟨sb,1,none⟩))) rfl (by kernel_rfl) (by kernel_rfl) (by kernel_rfl) (fun _ _ _ h=>by cases h.1) (Or.inl ⟨by rfl,fun w h=>by go_simp⟩) hS ?_
 try simp only [Act.put,List.setIfInBounds_toArray,List.set_cons_zero,List.set_cons_succ]
 refine wpAnyH_take (i:=1) (v:=(.slice (some ⟨gS,0,none⟩) K0.nS K0.nS)) rfl (by kernel_rfl) (by kernel_rfl) (by kernel_rfl) (fun _ _ _ h=>by cases h.1) (Or.inl ⟨by rfl,fun w h=>by have h1:=h.1;go_simp⟩) hS ?_
 try simp only [Act.put,List.setIfInBounds_toArray,List.set_cons_zero,List.set_cons_succ]
 refine wpAnyH_take (i:=2) (v:=(.pointer (some ⟨C.o.bo,0,none⟩))) rfl (by kernel_rfl) (by kernel_rfl) (by kernel_rfl) (fun _ _ _ h=>by cases h.1) (Or.inl ⟨by rfl,fun w h=>by go_simp⟩) hS ?_
 try simp only [Act.put,List.setIfInBounds_toArray,List.set_cons_zero,List.set_cons_succ]
 refine wpAnyH_take (i:=3) (v:=(.pointer (some ⟨C.o.bo,0,none⟩))) rfl (by kernel_rfl) (by kernel_rfl) (by kernel_rfl) (fun _ _ _ h=>by cases h.1) (Or.inl ⟨by rfl,fun w h=>by go_simp⟩) hS ?_
 try simp only [Act.put,List.setIfInBounds_toArray,List.set_cons_zero,List.set_cons_succ]
 refine wpAnyH_take (i:=4) (v:=(.pointer (some ⟨C.o.bo,4,none⟩))) rfl (by kernel_rfl) (by kernel_rfl) (by kernel_rfl) (fun _ _ _ h=>by cases h.1) (Or.inl ⟨by rfl,fun w h=>by go_simp⟩) hS ?_
 try simp only [Act.put,List.setIfInBounds_toArray,List.set_cons_zero,List.set_cons_succ]
 refine wpAnyH_take (i:=5) (v:=(.int .i64 p)) rfl (by kernel_rfl) (by kernel_rfl) (by kernel_rfl) (fun _ _ _ h=>by cases h.1) (Or.inl ⟨by rfl,fun w h=>by have h1:=h.2.1;go_simp⟩) hS ?_
 try simp only [Act.put,List.setIfInBounds_toArray,List.set_cons_zero,List.set_cons_succ]
 refine wpAnyH_take (i:=6) (v:=(.pointer (some ⟨gS,p*20,none⟩))) rfl (by kernel_rfl) (by kernel_rfl) (by kernel_rfl) (fun _ _ _ h=>by cases h.1) (Or.inl ⟨by rfl,fun w h=>by go_simp⟩) hS ?_
 try simp only [Act.put,List.setIfInBounds_toArray,List.set_cons_zero,List.set_cons_succ]
 refine wpAnyH_take (i:=7) (v:=.agg cs.toArray) rfl (by kernel_rfl) (by kernel_rfl) (by kernel_rfl) (fun _ _ _ h=>by cases h.1) (yieldsIf_load_mid (by rfl) _ _ rfl _ _ rfl _ _ (fun w h=>h.2.2) hu rfl ei) hS ?_
 refine wpAnyH_all (rs:=[8]) (by kernel_rfl) (by simp) (fun i hi=>?_)
 obtain rfl:=List.mem_singleton.1 hi
 refine Or.inl ?_
 have l1:C.o.bo<v.heap.size:=cell_lt hC
 have l2:sb<v.heap.size:=cell_lt cS
 have l3:gS<v.heap.size:=cell_lt (LA 0 _ (List.getElem?_eq_getElem (by omega)))
 have keep:∀ (W:World),(∀ k,k<v.heap.size→W.heap[k]?=v.heap[k]?)→W.cell? ⟨sb,1,none⟩=some (.slice (some ⟨gS,0,none⟩) K0.nS K0.nS)∧W.cell? ⟨C.o.bo,4,none⟩=some (.int .i64 p)∧W.rangeAt gS (p*20) cs:=fun W h =>
  ⟨(World.cell?_of_block (w:=v) (h sb l2)).trans cS,(World.cell?_of_block (w:=v) (h C.o.bo l1)).trans hC,range_block LA (h gS l3)⟩
 go_simp
 refine ⟨(keep _ (fun k hk=>Below.heap_alloc v _ k hk)).2.2,?_⟩
 refine wpAnyH_all (rs:=[9]) (by kernel_rfl) (by simp) (fun i hi=>?_)
 obtain rfl:=List.mem_singleton.1 hi
 refine Or.inl ?_
 refine wp_store_any 55 _ _ rfl _ 0 cs.toArray rfl rfl ((World.there_drew _ _ _ _).2 (there_new1 v _ _ _ (by show 20=cs.length;rw [z1]))) (by show _=some cs.length;exact ei) (by simpa using o1) ?_
 intro W1 f1 f2 f3
 have f2':∀ k,k<v.heap.size→W1.heap[k]?=v.heap[k]?:=fun k hk=>(f2 k (by show k≠v.heap.size;omega)).trans (Below.heap_alloc v _ _ hk)
 refine ⟨keep _ f2',wpAnyH_done (by kernel_rfl) ⟨rfl,?_⟩ _⟩
 obtain ⟨X,hX,hSl⟩:=slt_of (K:=K0) (i:=p) (b:=v.heap.size) (w:=W1) (by rw [← Hcs.out];exact f1)
 refine ⟨[v.heap.size],fun k=>if k=v.heap.size then X else H k,⟨?_,f2',?_,?_⟩,v.heap.size,rfl,rfl,by simpa using hSl⟩
 ·rw [f3];simp
 ·intro b hb;obtain rfl:=List.mem_singleton.1 hb;exact ⟨Nat.le_refl _,by simpa using hX⟩
 ·intro i hi;have:=Hlt.out i hi;show (if i=v.heap.size then X else H i)=H i;rw [if_neg (by omega)]
end
section
variable {C:Ctx} {n:Nat} {pv:List Nat} {H:Heap} {free:Value} {go:Bool}
theorem Sl.ok_more {s:Sl}{pv pv':List Nat}{H H':Heap}(h:s.ok pv H)(hs:∀ i∈pv,i∈pv')(hH:∀ i∈pv,H' i=H i):s.ok pv' H' :=
 ⟨h.1,h.2.imp id fun ⟨b,c,t,h1,h2,h3,h4⟩=>⟨b,c,t,h1,hs b h2,(hH b h2).trans h3,h4⟩⟩
theorem Fr.gain {fb:Option Nat}{xs:List Int}{pv':List Nat}{H':Heap}(hs:∀ i∈pv,i∈pv')(hH:∀ i∈pv,H' i=H i)(h:Fr fb pv H free xs):Fr fb pv' H' free xs:=by
 obtain ⟨sl,h1,h2,h3,h4⟩:=h
 exact ⟨sl,h1,h2,h3,Sl.ok_more h4 hs hH⟩
theorem Row.gain {g t m:Nat}{f:Nat→Value}{pv':List Nat}{H':Heap}(h:Row pv H g t m f)(hs:∀ i∈pv,i∈pv')(hH:∀ i∈pv,H' i=H i):Row pv' H' g t m f:=by
 obtain ⟨h1,c,h2,h3⟩:=h
 exact ⟨hs g h1,c,(hH g h1).trans h2,h3⟩
theorem set_agree {b:Nat}{X:Obj}(hb:b ∉ pv):∀ i∈pv,(H.set b X) i=H i:=fun i hi=>Heap.set_other _ _ (fun e=>hb (e▸hi))
theorem cut_mem {f:Nat→Value}{o m j:Nat}{v:Value}(h:(cut f o m)[j]?=some v):j<m∧v=f (o+j):=by
 unfold cut at h
 rw [List.getElem?_map] at h
 by_cases e:j<m
 ·rw [List.getElem?_range e] at h
  exact ⟨e,(Option.some.inj h).symm⟩
 ·rw [List.getElem?_eq_none (by simpa using e)] at h;cases h
noncomputable def forkBody:Code:=(Tryd.f79.body).getD .skip
theorem fork_enter (o:OpD)(y:Value):Frame.enter Tryd.prog 79 #[pO o,y] .normal=(base 79).at ⟨#[pO o,y,undef,undef,undef,undef,undef,undef,undef,undef,undef,undef,undef,undef,undef,undef,undef,undef,undef,undef,undef,undef,undef,undef,undef,undef,undef,undef,undef,undef,undef,undef,undef,undef,undef,undef,undef,undef,undef,undef,undef,undef,undef,undef,undef,undef,undef,undef,undef,undef,undef,undef,undef,undef,undef,undef,undef,undef,undef,undef,undef,undef,undef,undef],[]⟩ [.code forkBody]:=by
 rw [enter_at (c:=forkBody) _ Tryd.func79 rfl]
 refine congrArg (fun t=>(base 79).at ⟨t,[]⟩ [.code forkBody]) ?_
 kernel_rfl
theorem good_fork (K0:Ker)(gF gS gD p:Nat)(hK:K0.nS≤32)(hp:p<K0.nS)(hC:C.slot=p){fb:Option Nat}(hfb:∀ b,fb=some b→b∈pv)(hgf:some gS≠fb)(hR:Row pv H gS 55 (K0.nS*20) (sCell K0)){xs:List Int}(hF:Fr fb pv H free xs)(fr:Frame)(cs:List Frame)(k:Int × Int→Bool→Strat)
  (hn:∀ x e H' free' go',Good' C n (k (x,e) go') [] H' free' go' (G (fr.finish (.tuple #[.int .i64 x,.int .i64 e])) cs)) :
  Good' C n ((forkM K0 p xs).then go k) pv H free go (G (Frame.enter Tryd.prog 79 #[pO C.o,stVal K0 gF gS gD] .normal) (fr::cs)):=by
 unfold forkM
 rw [M.bind_then,fork_enter]
 simp only [forkBody,Tryd.f79,Option.getD_some,pO] at *
 unfold stVal at *
 apply good_box (X:=boxSt K0 gF gS gD) trivial
 ·intro l K un w bx Stop hbx St hd d
  have hc:=St.clear
  refine Br.liv_seq (fun d=>?_) _
  refine Br.liv_region (fun d=>?_) _
  simp only [Br.rz,Br.ix,Nat.reduceAdd]
  refine Br.must_operW rfl rfl (by decide) (fun d K' hK=>?_) _
  go_simp
  refine hK _ _ ⟨Br.dl_alloc (fun e he=>?_),?_⟩
  ·have hm:=mem_listed he
   simp [go_sem] at hm
  clear hK K'
  have hc:Clear (w.alloc (boxSt K0 gF gS gD)):=(Br.lk_new hc.lk (o:=boxSt K0 gF gS gD) trivial).1.sight
  rw [show (w.at d).alloc (boxSt K0 gF gS gD)=(w.alloc (boxSt K0 gF gS gD)).at d from rfl]
  refine Br.mo rfl rfl hc (fun d K' hK=>?_) _
  go_simp
  refine hK _ _ ⟨rfl,?_⟩
  clear hK K'
  refine Br.mo rfl rfl hc (fun d K' hK=>?_) _
  go_simp
  refine hK _ _ ⟨rfl,?_⟩
  clear hK K'
  refine Br.liv_region_end (fun d=>?_) _
  rw [← hbx];exact hd _
 intro sb hb hb'
 apply good_still
 ·intro l K un w Stop St hd d
  have hc:=St.clear
  refine Br.liv_seq (fun d=>?_) _
  refine Br.liv_region (fun d=>?_) _
  simp only [Br.rz,Br.ix,Nat.reduceAdd]
  refine Br.mo rfl rfl hc (fun d K' hK=>?_) _
  go_simp
  refine hK _ _ ⟨rfl,?_⟩
  clear hK K'
  exact hd _
 refine good_loadrow (ms:=[.slice (some ⟨gF,0,none⟩) K0.nF K0.nF,.slice (some ⟨gS,0,none⟩) K0.nS K0.nS,.slice (some ⟨gD,0,none⟩) K0.nD K0.nD]) rfl rfl (by decide) rfl rfl (List.mem_cons_self ..) (Heap.set_same _ _ _) (fun j v hj=>by simpa using hj) Tryd.underlying45 rfl (by kernel_rfl) ?_
 apply good_still
 ·intro l K un w Stop St hd d
  have hc:=St.clear
  go_simp
  refine Br.mc rfl (fun u=>stepG_call rfl rfl (by decide) rfl Tryd.func86 rfl rfl (vs:=#[pO C.o,.agg #[.slice (some ⟨gF,0,none⟩) K0.nF K0.nF,.slice (some ⟨gS,0,none⟩) K0.nS K0.nS,.slice (some ⟨gD,0,none⟩) K0.nD K0.nD]]) (by simp [Act.eval]) u) (fun d=>?_) _
  exact hd _
 have hs1:∀ i∈pv,i∈sb::pv:=fun i hi=>List.mem_cons_of_mem _ hi
 have hR1:=hR.gain hs1 (set_agree (X:=boxSt K0 gF gS gD) hb)
 have hfb1:∀ b,fb=some b→b∈sb::pv:=fun b e=>hs1 b (hfb b e)
 have hsf:some sb≠fb:=fun e=>hb (hfb sb e.symm)
 refine good_spawn pop_spec (fun xs _=>popL_len xs) K0 gF gS gD hK hfb1 hgf hR1 (hF.gain hs1 (set_agree hb)) _ _ _ (fun child e xs' H' free' go' hF' hH'=>?_)
 rw [Frame.finish_at]
 apply good_still
 ·intro l K un w Stop St hd d
  have hc:=St.clear
  go_simp
  refine Br.mo rfl rfl hc (fun d K' hK=>?_) _
  go_simp
  refine hK _ _ ⟨rfl,?_⟩
  clear hK K'
  refine Br.mo rfl rfl hc (fun d K' hK=>?_) _
  go_simp
  refine hK _ _ ⟨rfl,?_⟩
  clear hK K'
  refine Br.mo rfl rfl hc (fun d K' hK=>?_) _
  go_simp
  refine hK _ _ ⟨rfl,?_⟩
  clear hK K'
  refine Br.mo rfl rfl hc (fun d K' hK=>?_) _
  go_simp
  refine hK _ _ ⟨rfl,?_⟩
  clear hK K'
  refine Br.mo rfl rfl hc (fun d K' hK=>?_) _
  go_simp
  refine hK _ _ ⟨rfl,?_⟩
  clear hK K'
  refine Br.liv_region_end (fun d=>?_) _
  refine Br.liv_seq (fun d=>?_) _
  refine Br.liv_seq (fun d=>?_) _
  refine Br.liv_region (fun d=>?_) _
  simp only [Br.rz,Br.ix,Nat.reduceAdd]
  refine Br.mo rfl rfl hc (fun d K' hK=>?_) _
  go_simp
  refine hK _ _ ⟨rfl,?_⟩
  clear hK K'
  refine Br.mo rfl rfl hc (fun d K' hK=>?_) _
  go_simp
  refine hK _ _ ⟨rfl,?_⟩
  clear hK K'
  refine Br.liv_region_end (fun d=>?_) _
  exact hd _
 by_cases he:e=0
 rotate_left
 ·rw [if_neg he,M.pure_then]
  have hb:(e != 0)=true:=by simp [he]
  apply good_still
  ·intro l K un w Stop St hd d
   have hc:=St.clear
   refine Br.mc rfl (fun u=>stepG_cond (t:=true) (by simpa [Act.eval] using hb)) (fun d=>?_) _
   simp only [if_true]
   refine Br.liv_seq (fun d=>?_) _
   refine Br.liv_region (fun d=>?_) _
   simp only [Br.rz,Br.ix,Nat.reduceAdd]
   refine Br.mo rfl rfl hc (fun d K' hK=>?_) _
   go_simp
   refine hK _ _ ⟨rfl,?_⟩
   clear hK K'
   refine Br.mo rfl rfl hc (fun d K' hK=>?_) _
   go_simp
   refine hK _ _ ⟨rfl,?_⟩
   clear hK K'
   refine Br.mo rfl rfl hc (fun d K' hK=>?_) _
   go_simp
   refine hK _ _ ⟨rfl,?_⟩
   clear hK K'
   refine Br.liv_region_end (fun d=>?_) _
   refine Br.liv_ret (fun d=>?_) _
   exact Br.liv_leave (v:=.tuple #[.int .i64 0,.int .i64 e]) rfl rfl Tryd.func79 (resultsC_tmp2 (t:=4) (u:=5) rfl _) hd _
   done
  exact good_nil (hn 0 e H' free' go')
 subst he
 rw [if_pos rfl,M.bind_then]
 apply good_still
 ·intro l K un w Stop St hd d
  have hc:=St.clear
  refine Br.mc rfl (fun u=>stepG_cond (t:=false) rfl) (fun d=>?_) _
  simp only [if_true,if_false,Bool.false_eq_true,↓reduceIte]
  refine Br.liv_skip (fun d=>?_) _
  refine Br.liv_seq (fun d=>?_) _
  exact hd _
 have hR2:Row (sb::pv) H' gS 55 (K0.nS*20) (sCell K0):=hR1.same (hH' gS hR1.1 hgf)
 have hbs:H' sb=boxSt K0 gF gS gD:=(hH' sb (List.mem_cons_self ..) hsf).trans (Heap.set_same _ _ _)
 have key:=fun (j11 j12 j13 j14 j15 j16 j17 j18:Value) v hv hc=>fork_read (C:=C) (child:=child) hK hR2 hp (List.mem_cons_self ..) hbs j11 j12 j13 j14 j15 j16 j17 j18 v hv hc
 unfold forkR4 stVal at key
 simp only [Tryd.f79,pO] at key
 refine good_code (by kernel_rfl) rfl rfl ⟨_,Tryd.func79⟩ (fun v hv hrec=>key _ _ _ _ _ _ _ _ v hv (hrec 4 _ (fun un=>by simp [oRow,hC]))) _ _ ?_
 clear key
 rintro a' bs Hn ⟨b2,rfl,rfl,c,t,f,hX,hc⟩ hnew hkeep
 have hs2:∀ i∈sb::pv,i∈[b2] ++ (sb::pv):=fun i hi=>List.mem_append_right _ hi
 have h2f:some b2≠fb:=fun e=>(hnew b2 (List.mem_singleton.2 rfl)).1 (hfb1 b2 e.symm)
 have hF2:=Fr.gain hs2 hkeep hF'
 apply good_still
 ·intro l K un w Stop St hd d
  have hc:=St.clear
  refine Br.liv_seq (fun d=>?_) _
  refine Br.liv_region (fun d=>?_) _
  simp only [Br.rz,Br.ix,Nat.reduceAdd]
  refine Br.mo rfl rfl hc (fun d K' hK=>?_) _
  go_simp
  refine hK _ _ ⟨rfl,?_⟩
  clear hK K'
  refine Br.mo rfl rfl hc (fun d K' hK=>?_) _
  go_simp
  refine hK _ _ ⟨rfl,?_⟩
  clear hK K'
  exact hd _
 refine good_loadrow (ms:=cut (sCell K0) (p*20) 20) rfl rfl (by decide) rfl rfl (List.mem_append_left _ (List.mem_singleton.2 rfl)) hX (fun j v hj=>by obtain ⟨h1,rfl⟩:=cut_mem hj;exact hc j h1) Tryd.underlying55 rfl (by rw [cut_len];kernel_rfl) ?_
 rw [cut_slot]
 apply good_still
 ·intro l K un w Stop St hd d
  have hc:=St.clear
  go_simp
  refine Br.mc rfl (fun u=>stepG_call rfl rfl (by decide) rfl Tryd.func88 rfl rfl (vs:=#[.agg (slotV K0 p)]) (by simp [Act.eval]) u) (fun d=>?_) _
  exact hd _
 refine good_lis (by kernel_rfl) (by have:=heldL_len (fun j=>K0.S p (3+j*2)) 4;unfold pagesL;omega) (fun v _=>pages_slot K0 p v) _ _ (fun ps bs3 H3 hpx hpc hpb hpo hnew3 hkeep3=>?_)
 rw [← hpx,Frame.finish_at]
 have hs3:∀ i∈[b2] ++ (sb::pv),i∈bs3 ++ ([b2] ++ (sb::pv)):=fun i hi=>List.mem_append_right _ hi
 have hF3:=Fr.gain hs3 hkeep3 hF2
 have hpf:ps.blk≠fb∨ps.blk=none:=by
  rcases hpb with h|⟨b,h,hb3⟩
  ·exact .inr h
  ·exact .inl fun e=>(hnew3 b hb3).1 (hs2 b (hfb1 b (e.symm.trans h)))
 apply good_still
 ·intro l K un w Stop St hd d
  have hc:=St.clear
  go_simp
  refine Br.mc rfl (fun u=>stepG_call rfl rfl (by decide) rfl Tryd.func87 rfl rfl (vs:=#[pO C.o,.int .i64 child,ps.val]) (by simp [Act.eval]) u) (fun d=>?_) _
  exact hd _
 refine good_copy pop_spec (fun xs _=>popL_len xs) (fun b e=>hs3 b (hs2 b (hfb1 b e))) child ps hpo hpf hpc hF3 _ _ _ (fun ip e xs4 H4 free4 go4 hF4 hH4=>?_)
 rw [Frame.finish_at]
 have hpo4:=(Sl.ok_same hpo hpf hH4)
 have h24:H4 b2=.cells c t f:=(hH4 b2 (List.mem_append_right _ (List.mem_append_left _ (List.mem_singleton.2 rfl))) h2f).trans ((hkeep3 b2 (List.mem_append_left _ (List.mem_singleton.2 rfl))).trans hX)
 apply good_still
 ·intro l K un w Stop St hd d
  have hc:=St.clear
  go_simp
  refine Br.mo rfl rfl hc (fun d K' hK=>?_) _
  go_simp
  refine hK _ _ ⟨rfl,?_⟩
  clear hK K'
  refine Br.mo rfl rfl hc (fun d K' hK=>?_) _
  go_simp
  refine hK _ _ ⟨rfl,?_⟩
  clear hK K'
  refine Br.mo rfl rfl hc (fun d K' hK=>?_) _
  go_simp
  refine hK _ _ ⟨rfl,?_⟩
  clear hK K'
  refine Br.mo rfl rfl hc (fun d K' hK=>?_) _
  go_simp
  refine hK _ _ ⟨rfl,?_⟩
  clear hK K'
  refine Br.mo rfl rfl hc (fun d K' hK=>?_) _
  go_simp
  refine hK _ _ ⟨rfl,?_⟩
  clear hK K'
  refine Br.liv_region_end (fun d=>?_) _
  refine Br.liv_seq (fun d=>?_) _
  refine Br.liv_region (fun d=>?_) _
  simp only [Br.rz,Br.ix,Nat.reduceAdd]
  refine Br.mo rfl rfl hc (fun d K' hK=>?_) _
  go_simp
  refine hK _ _ ⟨rfl,?_⟩
  clear hK K'
  refine Br.liv_region_end (fun d=>?_) _
  refine Br.liv_seq (fun d=>?_) _
  refine Br.liv_seq (fun d=>?_) _
  refine Br.liv_region (fun d=>?_) _
  simp only [Br.rz,Br.ix,Nat.reduceAdd]
  refine Br.mo rfl rfl hc (fun d K' hK=>?_) _
  go_simp
  refine hK _ _ ⟨rfl,?_⟩
  clear hK K'
  refine Br.mo rfl rfl hc (fun d K' hK=>?_) _
  go_simp
  refine hK _ _ ⟨rfl,?_⟩
  clear hK K'
  refine Br.liv_region_end (fun d=>?_) _
  exact hd _
 unfold forkC
 have keyS:=fun (pv:List Nat) (H:Heap) (free:Value) (go:Bool) (e:Int) (fs:Sl) (hps:(ps.take ip).ok pv H) (hfs:fs.ok pv H)=>fork_start (C:=C) (n:=n) (pv:=pv) (H:=H) (free:=free) (go:=go) child e (ps.take ip) fs hps hfs fr cs k (fun x e f g=>hn x e H f g)
 unfold forkT1 at keyS
 simp only [Tryd.f79,pO] at keyS
 by_cases he:e=0
 rotate_left
 ·rw [if_neg he]
  have hb:(e == 0)=false:=by simp [he]
  apply good_still
  ·intro l K un w Stop St hd d
   have hc:=St.clear
   refine Br.mc rfl (fun u=>stepG_cond (t:=false) (by simpa [Act.eval] using hb)) (fun d=>?_) _
   simp only [if_false,Bool.false_eq_true]
   refine Br.liv_skip (fun d=>?_) _
   exact hd _
  exact keyS _ _ _ _ e ⟨none,0,[]⟩ (Sl.take_ok hpo4 ip) ⟨by simp,.inl rfl⟩ _ _ _ _ _ _ _ _ _ _ _ _ _ _ _ _ _ _ _ _ _ _ _ _ _ _ _ _ _ _ _ _ _ _ _ _ _ _ _
 subst he
 rw [if_pos rfl,M.bind_then]
 apply good_still
 ·intro l K un w Stop St hd d
  have hc:=St.clear
  refine Br.mc rfl (fun u=>stepG_cond (t:=true) rfl) (fun d=>?_) _
  simp only [if_true,if_false,Bool.false_eq_true,↓reduceIte]
  refine Br.liv_region (fun d=>?_) _
  simp only [Br.rz,Br.ix,Nat.reduceAdd]
  refine Br.mo rfl rfl hc (fun d K' hK=>?_) _
  go_simp
  refine hK _ _ ⟨rfl,?_⟩
  clear hK K'
  refine Br.mo rfl rfl hc (fun d K' hK=>?_) _
  go_simp
  refine hK _ _ ⟨rfl,?_⟩
  clear hK K'
  exact hd _
 refine good_loadrow (ms:=cut (sCell K0) (p*20) 20) rfl rfl (by decide) rfl rfl (List.mem_append_right _ (List.mem_append_left _ (List.mem_singleton.2 rfl))) h24 (fun j v hj=>by obtain ⟨h1,rfl⟩:=cut_mem hj;exact hc j h1) Tryd.underlying55 rfl (by rw [cut_len];kernel_rfl) ?_
 rw [cut_slot]
 apply good_still
 ·intro l K un w Stop St hd d
  have hc:=St.clear
  go_simp
  refine Br.mc rfl (fun u=>stepG_call rfl rfl (by decide) rfl Tryd.func90 rfl rfl (vs:=#[.agg (slotV K0 p)]) (by simp [Act.eval]) u) (fun d=>?_) _
  exact hd _
 refine good_lis (by kernel_rfl) (by have:=heldL_len (fun j=>K0.S p (11+j*2)) 4;unfold filesL;omega) (fun v _=>files_slot K0 p v) _ _ (fun fs bs5 H5 hfx hfc hfb5 hfo hnew5 hkeep5=>?_)
 rw [← hfx,Frame.finish_at]
 apply good_still
 ·intro l K un w Stop St hd d
  have hc:=St.clear
  go_simp
  refine Br.mc rfl (fun u=>stepG_call rfl rfl (by decide) rfl Tryd.func89 rfl rfl (vs:=#[pO C.o,.int .i64 child,fs.val]) (by simp [Act.eval]) u) (fun d=>?_) _
  exact hd _
 refine good_give child fs hfo hfc _ _ _ (fun iq e go6=>?_)
 rw [Frame.finish_at]
 apply good_still
 ·intro l K un w Stop St hd d
  have hc:=St.clear
  go_simp
  refine Br.mo rfl rfl hc (fun d K' hK=>?_) _
  go_simp
  refine hK _ _ ⟨rfl,?_⟩
  clear hK K'
  refine Br.mo rfl rfl hc (fun d K' hK=>?_) _
  go_simp
  refine hK _ _ ⟨rfl,?_⟩
  clear hK K'
  refine Br.mo rfl rfl hc (fun d K' hK=>?_) _
  go_simp
  refine hK _ _ ⟨rfl,?_⟩
  clear hK K'
  refine Br.mo rfl rfl hc (fun d K' hK=>?_) _
  go_simp
  refine hK _ _ ⟨rfl,?_⟩
  clear hK K'
  refine Br.mo rfl rfl hc (fun d K' hK=>?_) _
  go_simp
  refine hK _ _ ⟨rfl,?_⟩
  clear hK K'
  refine Br.liv_region_end (fun d=>?_) _
  exact hd _
 exact keyS _ _ _ _ e (fs.take iq) (Sl.take_ok (Sl.ok_more hpo4 (fun i hi=>List.mem_append_right _ hi) hkeep5) ip) (Sl.take_ok hfo iq) _ _ _ _ _ _ _ _ _ _ _ _ _ _ _ _ _ _ _ _ _ _ _ _ _ _ _ _ _ _ _ _ _ _ _ _ _ _ _
end
end Go.Proofs.YtcgabodkegcpgaaDoor
