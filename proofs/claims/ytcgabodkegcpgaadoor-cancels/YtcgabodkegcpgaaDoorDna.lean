/- Done, alone. No statement of the program is proved here. -/
import Derived.Test.YtcgabodkegcpgaaDoorMcq
import Derived.Laws.CopyRow
import Derived.Test.YtcgabodkegcpgaaDoorSao
import Derived.Test.YtcgabodkegcpgaaDoorInv3
namespace Go.Proofs.YtcgabodkegcpgaaDoor
open Go.Conc Go.RowKit
set_option linter.unusedVariables false
set_option linter.unusedSimpArgs false
set_option maxHeartbeats 4000000
attribute [local go_sem ↓] Go.wp_at_zero Go.wp_at_succ
theorem infoDn:(Tryd.prog.info? 70).map (fun i=>(i.zero.isSome,i.size,i.bytes))=some (true,5,40):=by kernel_rfl
theorem makeDn (n:Nat)(hn:n≤4398046511104)(w:World):∃ C:Array Value,C.size=n*5∧(Instr.makeSlice 65 (.int .i64 n) (.int .i64 n)).run Tryd.prog w=.ok (.slice (some ⟨w.heap.size,0,none⟩) n n) (w.alloc (.cells C 70)):=by
 have hinfo:=infoDn
 cases hq:Tryd.prog.info? 70 with
 | none=>rw [hq] at hinfo;cases hinfo
 | some i =>
  rw [hq] at hinfo
  simp only [Option.map_some,Option.some.injEq,Prod.mk.injEq] at hinfo
  obtain ⟨hz,hs,hb⟩:=hinfo
  obtain ⟨z,hz⟩:=Option.isSome_iff_exists.1 hz
  have:=run_make (P:=Tryd.prog) w 65 70 i z Tryd.underlying65 hq hz .i64 .i64 n n (by omega) (by omega) (by rw [hb];omega) (by omega)
  rw [hs] at this
  exact ⟨_,size_madeCells _ _,this⟩
theorem run_copy_c {P:Program}(w:World)(dT ty elem:TypeId)(b g n m cap:Nat)(cs:List Value)(hu:P.underlying dT=some (.slice elem))(hs:(P.info? elem).map (·.size)=some m)(hn:cs.length=n*m)
  (hsrc:∀ j v,cs[j]?=some v→w.cell? ((⟨g,0,none⟩:Addr).add j)=some v)(ht:w.there b 0 cs.length)(h1:∀ v∈cs,v.oneCell'=true) :
  (Builtin.copy_ #[dT,dT] ty #[.slice (some ⟨b,0,none⟩) n n,.slice (some ⟨g,0,none⟩) n cap]).run P w=.ok (goInt n) (w.setCells b 0 cs):=by
 have hl:=run_loadCells_list (P:=P) w ⟨g,0,none⟩ cs hsrc
 have hst:=run_storeCells_cells (P:=P) b 0 cs 0 w (fun j hj=>by simpa using (ht j hj).1) (fun j hj=>by simpa using (ht j hj).2) h1
 cases hq:P.info? elem with
 | none=>simp [hq] at hs
 | some i =>
  have hi:i.size=m:=by simpa [hq] using hs
  rw [hn] at hl
  simp only [Nat.add_zero] at hst
  simp [Builtin.copy_,run_underlying hu,Builtin.lenOf,Builtin.firstCells,sizeOf,typeInfo,hq,hi,hl,hst]
structure DoneL (v v':World) (N:Nat) (Xs:List Value):Prop where
 bel:Below v.heap.size v v'
 size:v'.heap.size=v.heap.size+1
 row:v'.rowIs v.heap.size 70 (N*5) (fun j=>Xs.getD j (.bool false))
set_option maxRecDepth 100000 in
theorem done_any (v:World)(bl bu bn n B0 p N:Nat)(Vp:Value)(Xs:List Value)(h1:v.cell? ⟨bl,1,none⟩=some (.slice (some ⟨bu,0,none⟩) n n))(h2:v.cell? ⟨bl,2,none⟩=some (.slice (some ⟨bn,0,none⟩) n n))(hp:p<n)
  (hc:v.cell? ⟨bn,p,none⟩=some Vp)(own:v.ownsRow B0 70 5 Vp N Xs)(hN:N≤4398046511104)(hx1:∀ x∈Xs,x.oneCell'=true) :
  Calls Tryd.prog 21 #[.pointer (some ⟨bl,0,none⟩),.int .i64 p] v fun e v'=>e=.returned (.tuple #[.slice (some ⟨v.heap.size,0,none⟩) N N,.int .i64 0])∧DoneL v v' N Xs:=by
 have i0:(0:Int)≤(p:Int):=by omega
 have i1:(p:Int)<(n:Int):=by omega
 have ed:(decide (0≤(p:Int)) && decide ((p:Int)<n))=true:=by simp [hp]
 obtain ⟨C,hC,hmk⟩:=makeDn N hN v
 have hrow:=rowIs_new v C 70
 rw [hC] at hrow
 have lbl:bl<v.heap.size:=cell_lt h2
 have lbn:bn<v.heap.size:=cell_lt hc
 have a2:(v.alloc (.cells C 70)).cell? ⟨bl,2,none⟩=some (.slice (some ⟨bn,0,none⟩) n n):=by rw [World.cell?_of_block (w:=v) (a:=⟨bl,2,none⟩) (Below.heap_alloc _ _ _ lbl)];exact h2
 have a3:(v.alloc (.cells C 70)).cell? ⟨bn,p,none⟩=some Vp:=by rw [World.cell?_of_block (w:=v) (a:=⟨bn,p,none⟩) (Below.heap_alloc _ _ _ lbn)];exact hc
 have hcp:∃ W,(∀ ty,(Builtin.copy_ #[65,65] ty #[.slice (some ⟨v.heap.size,0,none⟩) N N,Vp]).run Tryd.prog (v.alloc (.cells C 70))=.ok (goInt N) W)∧DoneL v W N Xs:=by
  obtain ⟨hl,⟨rfl,rfl⟩|⟨g,cap,cur,rfl,a1,a4,a5,a6,a7,a8⟩⟩:=own
  ·refine ⟨_,fun ty=>run_copy_nil _ _ _ _ _ _ _ _ _ Tryd.underlying65 (by kernel_rfl),(Below.refl _ _).alloc (Nat.le_refl _) _,by simp,hrow.congr fun j hj=>by omega⟩
  ·have hg:g<v.heap.size:=(Array.getElem?_eq_some_iff.1 a4).1
   refine ⟨_,fun ty=>run_copy_c _ _ _ 70 _ _ N 5 cap Xs Tryd.underlying65 (by kernel_rfl) hl (fun j x hx=>?_) (by rw [hl];exact rowIs_there hrow (by omega)) hx1,below_setCells (Nat.le_refl _) _ _ ((Below.refl _ _).alloc (Nat.le_refl _) _),by rw [size_setCells];simp,(rowIs_setCells _ 0 hrow).congr fun j hj=>?_⟩
   ·rw [Addr.add_mid,Nat.zero_add,World.cell?_of_block (w:=v) (a:=⟨g,j,none⟩) (Below.heap_alloc _ _ _ hg)]
    simp only [World.cell?,a4]
    have hj:j<N*5:=by have:=(List.getElem?_eq_some_iff.1 hx).1;omega
    rw [← a8,List.getElem?_take_of_lt hj] at hx
    simpa using hx
   ·rw [if_pos (by omega),Nat.sub_zero]
 obtain ⟨W,hW,hD⟩:=hcp
 have HW:Hid (∀ ty,_):=hW
 have HD:Hid (DoneL v W N Xs):=hD
 have hlen:∃ cap a,Vp=.slice a N cap:=by
  obtain ⟨hl,⟨rfl,rfl⟩|⟨g,cap,cur,rfl,_⟩⟩:=own
  ·exact ⟨0,none,rfl⟩
  ·exact ⟨cap,some ⟨g,0,none⟩,rfl⟩
 obtain ⟨cap,a,rfl⟩:=hlen
 clear own hrow hC hx1 hD hW
 go_enter Tryd.func21,Tryd.ntmps21
 go_wp2_with fail
 refine (isProcess_any v bl bu n p h1).mono ?_
 rintro e w1 ⟨rfl,rfl⟩
 rw [ed]
 go_wp2_with (refine wpList_copy_run rfl _ _ 65 rfl (.slice (some ⟨w1.heap.size,0,none⟩) N N) (.slice a N cap) (goInt N) rfl rfl (HW.out _) ?_)
 go_ret2
 exact ⟨rfl,HD.out⟩
end Go.Proofs.YtcgabodkegcpgaaDoor
namespace Go.Proofs.YtcgabodkegcpgaaDoor
open Go.RowKit
set_option linter.unusedVariables false
set_option linter.unusedSimpArgs false
set_option maxHeartbeats 4000000
attribute [local go_sem ↓] Go.wp_at_zero Go.wp_at_succ
set_option maxRecDepth 100000 in
theorem sameDones_gen (w:World)(n ga gb:Nat)(hn:n≤4398046511104)(f g:Nat→Value)(hf:w.rowIs ga 70 (n*5) f)(bo:Option Addr)(cb:Nat)(hbo:0<n→bo=some ⟨gb,0,none⟩)(hg:0<n→gb<w.heap.size∧∀ k,k<n→w.rangeAt gb (k*5) (cut g (k*5) 5))
  (hc:∀ k,k<n→∃ r,Cmp 70 (cut f (k*5) 5) (cut g (k*5) 5) r∧(cut f (k*5) 5=cut g (k*5) 5→r=true)) :
  Calls Tryd.prog 22 #[.slice (some ⟨ga,0,none⟩) n n,.slice bo n cb] w fun e w'=>∃ r,e=.returned (.bool r)∧((∀ j,j<n*5→f j=g j)→r=true)∧Below w.heap.size w w':=by
 have Hf:Hid (w.rowIs ga 70 (n*5) f):=hf
 have Hg:Hid (0<n→gb<w.heap.size∧∀ k,k<n→w.rangeAt gb (k*5) (cut g (k*5) 5)):=hg
 have Hbo:Hid (0<n→bo=some ⟨gb,0,none⟩):=hbo
 have Hc:Hid (∀ k,k<n→∃ r,Cmp 70 (cut f (k*5) 5) (cut g (k*5) 5) r∧(cut f (k*5) 5=cut g (k*5) 5→r=true)):=hc
 clear hf hg hc hbo
 go_enter Tryd.func22,Tryd.ntmps22
 go_wp2
 go_loopw [5] (fun i w'=>∃ k:Nat,k≤n∧i=.int .i64 k∧Below w.heap.size w w') (fun i _=>n - (intOf i).toNat)
 case atStart=>exact ⟨0,by omega,rfl,Below.refl _ _⟩
 case round =>
  obtain ⟨k,hk,rfl,hb⟩:=hrel
  have Hb:Hid (Below w.heap.size w wr):=hb
  clear hb
  by_cases hlt:k<n
  ·obtain ⟨r,hr,hrt⟩:=Hc.out k hlt
   have Hrt:Hid (cut f (k*5) 5=cut g (k*5) 5→r=true):=hrt
   have Lf:Hid (wr.rangeAt ga (k*5) (cut f (k*5) 5)):=by
    have h:=rowIs_range (Hf.out.of_block (Hb.out.block _ (World.block_lt_of_cell? w ⟨ga,0,none⟩ (Hf.out.cell (by omega))))) (o:=k*5) (m:=5) (by omega)
    exact h
   have Lg:Hid (wr.rangeAt gb (k*5) (cut g (k*5) 5)):=by
    obtain ⟨hl,hr⟩:=Hg.out (by omega)
    exact fun j v hv=>(World.cell?_of_block (w:=w) (a:=⟨gb,k*5+j,none⟩) (Hb.out.block _ hl)).trans (hr k hlt j v hv)
   have ei:Hid ((Tryd.prog.info? 70).map (·.size)=some (cut f (k*5) 5).length):=by unfold Hid;rw [cut_len];kernel_rfl
   have ej:Hid ((Tryd.prog.info? 70).map (·.size)=some (cut g (k*5) 5).length):=by unfold Hid;rw [cut_len];kernel_rfl
   have He:Hid ((∀ j,j<n*5→f j=g j)→cut f (k*5) 5=cut g (k*5) 5):=fun h=>cut_eq (fun j hj=>h _ (by omega))
   unfold Cmp at hr
   clear hrt
   generalize cut f (k*5) 5=cs at *
   generalize cut g (k*5) 5=ds at *
   have M1:∀ w':World,w'.rangeAt ga (k*5) cs∧w'.rangeAt gb (k*5) ds→(Instr.loadAt 70 (.pointer (some ⟨ga,k*5,none⟩))).run Tryd.prog w'=.ok (.agg cs.toArray) w':=fun w' h=>run_loadAt_mid w' ga (k*5) 70 cs _ h.1 Tryd.underlying70 rfl ei.out
   have M2:∀ w':World,w'.rangeAt ga (k*5) cs∧w'.rangeAt gb (k*5) ds→(Instr.loadAt 70 (.pointer (some ⟨gb,k*5,none⟩))).run Tryd.prog w'=.ok (.agg ds.toArray) w':=fun w' h=>run_loadAt_mid w' gb (k*5) 70 ds _ h.2 Tryd.underlying70 rfl ej.out
   have l1:wr.rangeAt ga (k*5) cs:=Lf.out
   have l2:wr.rangeAt gb (k*5) ds:=Lg.out
   have b1:(0:Int)≤(k:Int):=by omega
   have b2:(k:Int)<(n:Int):=by omega
   clear M1 M2
   obtain rfl:bo=some ⟨gb,0,none⟩:=Hbo.out (by omega)
   ·go_wp2_with fail
    refine wp_region_held_drew (S:=fun w'=>w'.rangeAt ga (k*5) cs∧w'.rangeAt gb (k*5) ds) (by kernel_rfl) ⟨(World.rangeAt_drew _ _ _ _).2 Lf.out,(World.rangeAt_drew _ _ _ _).2 Lg.out⟩ (fun hS=>?_)
    refine wpAnyH_take (i:=0) (oi:={ dst:=some 17,op:=.move (.tmp 0),type:=65,pos := "book.go:166",after:=#[],guard:=none }) (v:=.slice (some ⟨ga,0,none⟩) n n) rfl (by kernel_rfl) (by kernel_rfl) (by kernel_rfl) (fun _ _ _ h=>h) (Or.inl ⟨by rfl,fun w h=>by go_simp⟩) (by assumption) ?_
    try simp only [Act.put,List.setIfInBounds_toArray,List.set_cons_zero,List.set_cons_succ]
    refine wpAnyH_take (i:=1) (oi:={ dst:=some 18,op:=.move (.tmp 5),type:=3,pos := "book.go:166",after:=#[],guard:=none }) (v:=.int .i64 k) rfl (by kernel_rfl) (by kernel_rfl) (by kernel_rfl) (fun _ _ _ h=>h) (Or.inl ⟨by rfl,fun w h=>by go_simp⟩) (by assumption) ?_
    try simp only [Act.put,List.setIfInBounds_toArray,List.set_cons_zero,List.set_cons_succ]
    refine wpAnyH_take (i:=2) (oi:={ dst:=some 19,op:=.indexAddr 65 (.tmp 17) (.tmp 18),type:=0,pos := "book.go:166",after:=#[{ on:=0,ground:=.data },{ on:=1,ground:=.data }],guard:=none }) (v:=.pointer (some ⟨ga,k*5,none⟩)) rfl (by kernel_rfl) (by kernel_rfl) (by kernel_rfl) (fun _ _ _ h=>h) (Or.inl ⟨by rfl,fun w h=>by go_simp⟩) (by assumption) ?_
    try simp only [Act.put,List.setIfInBounds_toArray,List.set_cons_zero,List.set_cons_succ]
    refine wpAnyH_take (i:=3) (oi:={ dst:=some 20,op:=.load 70 (.tmp 19),type:=70,pos := "book.go:166",after:=#[{ on:=2,ground:=.data }],guard:=none }) (v:=.agg cs.toArray) rfl (by kernel_rfl) (by kernel_rfl) (by kernel_rfl) (fun _ _ _ h=>h) (yieldsIf_load_mid (by rfl) _ _ rfl _ _ rfl _ _ (fun w h=>h.1) Tryd.underlying70 rfl ei.out) (by assumption) ?_
    try simp only [Act.put,List.setIfInBounds_toArray,List.set_cons_zero,List.set_cons_succ]
    refine wpAnyH_take (i:=4) (oi:={ dst:=some 21,op:=.move (.tmp 1),type:=65,pos := "book.go:166",after:=#[],guard:=none }) (v:=.slice (some ⟨gb,0,none⟩) n cb) rfl (by kernel_rfl) (by kernel_rfl) (by kernel_rfl) (fun _ _ _ h=>h) (Or.inl ⟨by rfl,fun w h=>by go_simp⟩) (by assumption) ?_
    try simp only [Act.put,List.setIfInBounds_toArray,List.set_cons_zero,List.set_cons_succ]
    refine wpAnyH_take (i:=5) (oi:={ dst:=some 22,op:=.move (.tmp 5),type:=3,pos := "book.go:166",after:=#[],guard:=none }) (v:=.int .i64 k) rfl (by kernel_rfl) (by kernel_rfl) (by kernel_rfl) (fun _ _ _ h=>h) (Or.inl ⟨by rfl,fun w h=>by go_simp⟩) (by assumption) ?_
    try simp only [Act.put,List.setIfInBounds_toArray,List.set_cons_zero,List.set_cons_succ]
    refine wpAnyH_take (i:=6) (oi:={ dst:=some 23,op:=.indexAddr 65 (.tmp 21) (.tmp 22),type:=0,pos := "book.go:166",after:=#[{ on:=4,ground:=.data },{ on:=5,ground:=.data }],guard:=none }) (v:=.pointer (some ⟨gb,k*5,none⟩)) rfl (by kernel_rfl) (by kernel_rfl) (by kernel_rfl) (fun _ _ _ h=>h) (Or.inl ⟨by rfl,fun w h=>by go_simp⟩) (by assumption) ?_
    try simp only [Act.put,List.setIfInBounds_toArray,List.set_cons_zero,List.set_cons_succ]
    refine wpAnyH_take (i:=7) (oi:={ dst:=some 24,op:=.load 70 (.tmp 23),type:=70,pos := "book.go:166",after:=#[{ on:=6,ground:=.data }],guard:=none }) (v:=.agg ds.toArray) rfl (by kernel_rfl) (by kernel_rfl) (by kernel_rfl) (fun _ _ _ h=>h) (yieldsIf_load_mid (by rfl) _ _ rfl _ _ rfl _ _ (fun w h=>h.2) Tryd.underlying70 rfl ej.out) (by assumption) ?_
    try simp only [Act.put,List.setIfInBounds_toArray,List.set_cons_zero,List.set_cons_succ]
    refine wpAnyH_take (i:=8) (oi:={ dst:=some 25,op:=.binOp .neq 70 (.tmp 20) (.tmp 24) 70,type:=4,pos := "book.go:166",after:=#[{ on:=3,ground:=.data },{ on:=7,ground:=.data }],guard:=none }) (v:=.bool !r) rfl (by kernel_rfl) (by kernel_rfl) (by kernel_rfl) (fun _ _ _ h=>h) (Or.inl ⟨by rfl,fun w h=>by go_simp⟩) (by assumption) ?_
    try simp only [Act.put,List.setIfInBounds_toArray,List.set_cons_zero,List.set_cons_succ]
    refine wpAnyH_done (by kernel_rfl) ?_ _
    cases r
    ·go_wp2
     go_ret
     exact ⟨false,rfl,fun h=>Hrt.out (He.out h),below_drew Hb.out⟩
    ·go_wp2
     exact ⟨⟨k+1,by omega,by go_num,below_drew Hb.out⟩,by simp [intOf];omega⟩
  ·obtain rfl:k=n:=by omega
   go_wp2
   go_ret
   exact ⟨true,rfl,fun _=>rfl,Hb.out⟩
theorem sameDones_any (w:World)(n ga gb:Nat)(hn:n≤4398046511104)(f g:Nat→Value)(hf:w.rowIs ga 70 (n*5) f)(hg:w.rowIs gb 70 (n*5) g)
  (hc:∀ k,k<n→∃ r,Cmp 70 (cut f (k*5) 5) (cut g (k*5) 5) r∧(cut f (k*5) 5=cut g (k*5) 5→r=true)) :
  Calls Tryd.prog 22 #[.slice (some ⟨ga,0,none⟩) n n,.slice (some ⟨gb,0,none⟩) n n] w fun e w'=>∃ r,e=.returned (.bool r)∧((∀ j,j<n*5→f j=g j)→r=true)∧Below w.heap.size w w' :=
 sameDones_gen w n ga gb hn f g hf (some ⟨gb,0,none⟩) n (fun _=>rfl) (fun h=>⟨World.block_lt_of_cell? w ⟨gb,0,none⟩ (hg.cell (by omega)),fun k hk=>rowIs_range hg (o:=k*5) (m:=5) (by omega)⟩) hc
theorem same_op {d:Nat}{xs ys:Array Value}(hx:∀ j,j<3→IntAt xs j)(hy:∀ j,j<3→IntAt ys j):Same Tryd.prog (d+2) 38 (.agg xs) (.agg ys):=by
 refine same_struct (by kernel_rfl) (by kernel_rfl) ?_
 have e:(Tryd.prog.fieldsOf 38).toList.map (fun f=>(f.name != "_",f.type,f.offset))=[(true,3,0),(true,3,1),(true,3,2)]:=by kernel_rfl
 intro f hf
 have hm:=List.mem_map_of_mem (f:=fun f:Field=>(f.name != "_",f.type,f.offset)) hf
 rw [e] at hm
 generalize hn:(f.name != "_")=n at hm
 generalize f.type=ft at *
 generalize f.offset=fo at *
 simp at hm
 rcases hm with ⟨rfl,rfl,rfl⟩|⟨rfl,rfl,rfl⟩|⟨rfl,rfl,rfl⟩
 all_goals exact ⟨by simpa using hn,part_int (hx _ (by omega)) (hy _ (by omega))⟩
theorem part_errno {d:Nat}{xs ys:Array Value}{o:Nat}(hx:IntAt xs o)(hy:IntAt ys o):∃ a b,Pt Tryd.prog 26 xs o a∧Pt Tryd.prog 26 ys o b∧Same Tryd.prog (d+1) 26 a b:=by
 obtain ⟨v,hv⟩:=hx;obtain ⟨u,hu⟩:=hy
 exact ⟨_,_,pt_one Tryd.isAgg26 hv,pt_one Tryd.isAgg26 hu,same_int (k:=.i64) Tryd.underlying26 v u⟩
theorem same_done {d:Nat}{xs ys:Array Value}(hx:∀ j,j<5→IntAt xs j)(hy:∀ j,j<5→IntAt ys j):Same Tryd.prog (d+3) 70 (.agg xs) (.agg ys):=by
 refine same_struct (by kernel_rfl) (by kernel_rfl) ?_
 have e:(Tryd.prog.fieldsOf 70).toList.map (fun f=>(f.name != "_",f.type,f.offset))=[(true,38,0),(true,26,3),(true,3,4)]:=by kernel_rfl
 intro f hf
 have hm:=List.mem_map_of_mem (f:=fun f:Field=>(f.name != "_",f.type,f.offset)) hf
 rw [e] at hm
 generalize hn:(f.name != "_")=n at hm
 generalize f.type=ft at *
 generalize f.offset=fo at *
 simp at hm
 rcases hm with ⟨rfl,rfl,rfl⟩|⟨rfl,rfl,rfl⟩|⟨rfl,rfl,rfl⟩
 ·exact ⟨by simpa using hn,_,_,pt_agg Tryd.isAgg38 Tryd.sizeOf38,pt_agg Tryd.isAgg38 Tryd.sizeOf38,same_op (fun j hj=>IntAt.cut (a:=0) (by rw [Nat.zero_add];exact hx j (by omega)) (by omega)) (fun j hj=>IntAt.cut (a:=0) (by rw [Nat.zero_add];exact hy j (by omega)) (by omega))⟩
 ·exact ⟨by simpa using hn,part_errno (hx _ (by omega)) (hy _ (by omega))⟩
 ·exact ⟨by simpa using hn,part_int (hx _ (by omega)) (hy _ (by omega))⟩
theorem sameDones_int (w:World)(n ga gb:Nat)(hn:n≤4398046511104)(f g:Nat→Value)(hf:w.rowIs ga 70 (n*5) f)(hg:w.rowIs gb 70 (n*5) g)
  (hF:∀ j,j<n*5→∃ x,f j=.int .i64 x)(hG:∀ j,j<n*5→∃ x,g j=.int .i64 x) :
  Calls Tryd.prog 22 #[.slice (some ⟨ga,0,none⟩) n n,.slice (some ⟨gb,0,none⟩) n n] w fun e w'=>∃ r,e=.returned (.bool r)∧((∀ j,j<n*5→f j=g j)→r=true)∧Below w.heap.size w w' :=
 sameDones_any w n ga gb hn f g hf hg fun k hk=>cmp_of (same_done (d:=9997) (fun j hj=>by
  obtain ⟨x,hx⟩:=hF (k*5+j) (by omega)
  exact ⟨x,by rw [cut_get _ _ _ _ hj,hx]⟩) (fun j hj=>by
  obtain ⟨x,hx⟩:=hG (k*5+j) (by omega)
  exact ⟨x,by rw [cut_get _ _ _ _ hj,hx]⟩))
end Go.Proofs.YtcgabodkegcpgaaDoor
namespace Go.Proofs.YtcgabodkegcpgaaDoor
open Go.Conc Go.RowKit
open Br (X OpD KO SO SP sfO Lk Fit Must DL Liv Clear)
set_option linter.unusedVariables false
set_option linter.unusedSimpArgs false
set_option maxHeartbeats 4000000
section
variable {kb:Kb} {l:List OpD} {K:Ker} {L:Nat→Option Lv} {r:Nat} {Inb:Nat→Option Seat} {nG:Nat} {w w':World} {b:Lb} {n B0:Nat} {U:Nat→Option OpD} {V:Nat→Value} {N:Nat→Nat} {Xs:Nat→List Value}
theorem must_below (hft:Fit (sfO l) w)(hko:KO l w)(main:Bool){f:FuncId}(hf:Br.Sg f=true){args:Array Value}{R R':Value→World→Prop}{d:Nat}
  (hspec:∀ v,Lk (sfO l) v (w.at d)→Calls Tryd.prog f args v (fun e v'=>∃ x,e=.returned x∧Below v.heap.size v v'∧R x v'))
  (hR:∀ x v' w',v'.heap.size=w'.heap.size→(∀ k,w.heap.size≤k→w'.heap[k]?=v'.heap[k]?)→R x v'→R' x w')(fr:Frame)(cs:List Frame) :
  Must Tryd.prog main (DL true (sfO l)) (fun g w'=>∃ x,g=G (fr.finish x) cs∧Grown w w'∧R' x w') (G (Frame.enter Tryd.prog f args .normal) (fr::cs)) (w.at d):=by
 refine (Br.must_calls Br.rules (sft:=sfO l) (w0:=w.at d) hf ⟨hft.soft,hft.clear⟩ main (Q:=fun x v'=>∃ v,Lk (sfO l) v (w.at d)∧Below v.heap.size v v'∧R x v') (fun v hv=>(hspec v hv).mono fun e v' he=>by
   obtain ⟨x,rfl,h1,h2⟩:=he
   exact ⟨v,hv,h1,h2⟩) fr cs).keep.mono (fun _ _ _ h=>h) ?_
 rintro g w' ⟨⟨x,v',rfl,hl',v,hv,hb,hr⟩,hkp⟩
 have e1:v.heap.size=w.heap.size:=hv.size
 have e2:v'.heap.size=w'.heap.size:=hl'.size
 refine ⟨x,rfl,⟨by have:=hb.size;omega,fun k hk=>same_block (w:=w.at d) hkp hv hl' (hb.block k (by omega)),hl'.fit.clear⟩,hR x v' w' e2 (fun k hk=>?_) hr⟩
 have hz:sfO l k=0:=Br.sfO_zero fun o ho=>by have:=Br.KO.lt hko ho;omega
 rw [hl'.heap,hz]
 cases e:w'.heap[k]? with
 | none=>rfl
 | some o=>rw [Option.map_some,Br.fz_sight (hkp.new k o hk e)]
theorem rowIs_of {w w':World}{b t n:Nat}{f:Nat→Value}(h:w.rowIs b t n f)(e:w'.heap[b]?=w.heap[b]?):w'.rowIs b t n f:=h.of_block e
theorem must_done (co:Co kb l K L r Inb nG w)(lm:LibM0 kb l L w b n B0 U V N Xs){p:Nat}(hp:p<n)(hN:N p≤4398046511104)(hx:∀ x∈Xs p,x.oneCell'=true)(fr:Frame)(cs:List Frame)(d:Nat) :
  Must Tryd.prog true (DL true (sfO l)) (fun g w'=>∃ x,g=G (fr.finish x) cs∧Grown w w'∧x=.tuple #[.slice (some ⟨w.heap.size,0,none⟩) (N p) (N p),.int .i64 0]∧w'.rowIs w.heap.size 70 (N p*5) (fun j=>(Xs p).getD j (.bool false)))
   (G (Frame.enter Tryd.prog 21 #[.pointer (some ⟨b.bl,0,none⟩),.int .i64 p] .normal) (fr::cs)) (w.at d):=by
 refine must_below co.env.fit co.env.ko true (by kernel_rfl) (R:=fun x v'=>x=.tuple #[.slice (some ⟨w.heap.size,0,none⟩) (N p) (N p),.int .i64 0]∧v'.rowIs w.heap.size 70 (N p*5) (fun j=>(Xs p).getD j (.bool false))) (fun v hv=>?_) (fun x v' w' hs hk h=>⟨h.1,rowIs_of h.2 (hk _ (Nat.le_refl _))⟩) fr cs
 have sv:v.heap.size=w.heap.size:=hv.size
 refine (done_any v b.bl b.bu b.bn n B0 p (N p) (V p) (Xs p) (by rw [hv.cell];exact lm.is.k1) (by rw [hv.cell];exact lm.is.k2) hp (by rw [hv.cell];exact lm.is.d.cell hp) (owns_same (lm.is.own p hp) (fun x hx=>lk_same hv (lm.mls p hp x hx).sf (.inl (owns_cells (lm.is.own p hp) hx)))) hN hx).mono ?_
 rintro e v' ⟨rfl,h⟩
 have hrow:=h.row
 rw [sv] at hrow
 exact ⟨_,rfl,h.bel,by rw [sv],hrow⟩
theorem must_lnew (co:Co kb l K L r Inb nG w)(fr:Frame)(cs:List Frame)(d:Nat) :
  Must Tryd.prog true (DL true (sfO l)) (fun g w'=>∃ x,g=G (fr.finish x) cs∧Grown w w'∧∃ b:Lb,x=.pointer (some ⟨b.bl,0,none⟩)∧(w.heap.size≤b.bu∧w.heap.size≤b.bn)∧LibM kb l L w' b K.nS (b.bl+1) (fun _=>none) (fun _=>.slice none 0 0) (fun _=>0) (fun _=>[]))
   (G (Frame.enter Tryd.prog 16 #[.pointer (some ⟨kb.bk,0,none⟩)] .normal) (fr::cs)) (w.at d):=by
 obtain ⟨z1,z2,z3⟩:=co.env.zero
 have h6:K.nS≤6:=co.env.rep.hS
 refine (must_below co.env.fit co.env.ko true (by kernel_rfl) (R:=fun x v'=>∃ bl bu bn,x=.pointer (some ⟨bl,0,none⟩)∧w.heap.size≤bu∧w.heap.size≤bn∧bu<bl∧bn<bl∧bu≠bn∧v'.heap[bl]?=some (.cells (nlA kb.bk K.nS bu bn) 104 (0,0))∧RowU v' bu K.nS (fun _=>.pointer none)∧RowU v' bn K.nS (fun _=>.slice none 0 0))
  (R':=fun x v'=>∃ bl bu bn,x=.pointer (some ⟨bl,0,none⟩)∧w.heap.size≤bu∧w.heap.size≤bn∧bu<bl∧bn<bl∧bu≠bn∧v'.heap[bl]?=some (.cells (nlA kb.bk K.nS bu bn) 104 (0,0))∧RowU v' bu K.nS (fun _=>.pointer none)∧RowU v' bn K.nS (fun _=>.slice none 0 0)) (fun v hv=>?_) (fun x v' w' hs hk h=>?_) fr cs).mono (fun _ _ _ h=>h) ?_
 ·have sv:v.heap.size=w.heap.size:=hv.size
  refine (lnew_any (rep_to (w:=w.at d) hv z1 z2 z3 (co.env.rep.same (Nat.le_refl _) (fun _ _ _=>rfl)))).mono ?_
  rintro e v' ⟨bl,rfl,bu,bn,h⟩
  exact ⟨_,rfl,h.bel,bl,bu,bn,rfl,by rw [← sv];exact h.gu,by rw [← sv];exact h.gn,h.lu,h.ln,h.un,h.l,h.u,h.d⟩
 ·obtain ⟨bl,bu,bn,e,gu,gn,lu,ln,un,h1,h2,h3⟩:=h
  exact ⟨bl,bu,bn,e,gu,gn,lu,ln,un,by rw [hk _ (by omega)];exact h1,h2.of (hk _ gu),h3.of (hk _ gn)⟩
 ·rintro g w' ⟨x,rfl,hG,bl,bu,bn,rfl,gu,gn,lu,ln,un,h1,h2,h3⟩
  have llt:bl<w'.heap.size:=(Array.getElem?_eq_some_iff.1 h1).1
  have m1:=co.new (w':=w') (k:=bl) (by omega) llt
  have m2:=co.new (w':=w') (k:=bu) gu h2.lt
  have m3:=co.new (w':=w') (k:=bn) gn h3.lt
  refine ⟨_,rfl,hG,⟨bl,bu,bn⟩,rfl,⟨gu,gn⟩,⟨⟨by simp [World.cell?,h1,nlA],by simp [World.cell?,h1,nlA],by simp [World.cell?,h1,nlA],h2,h3,fun p hp=>⟨rfl,.inl ⟨rfl,rfl⟩⟩,fun p q _ _ _=>.inl rfl,⟨?_,?_,un,?_,?_,?_⟩,h6⟩,m1,m2,m3,fun p hp g hg=>(by cases hg),Nat.le_refl _⟩,fun p hp o ho=>(by cases ho)⟩<;>simp only<;>omega
end
section
variable {kb:Kb} {l:List OpD} {K:Ker} {L:Nat→Option Lv} {r:Nat} {Inb:Nat→Option Seat} {nG:Nat} {w w':World} {b:Lb} {n B0:Nat} {U:Nat→Option OpD} {V:Nat→Value} {N:Nat→Nat} {Xs:Nat→List Value}
theorem co_alike (co:Co kb l K L r Inb nG w){K':Ker}(hE:EnvK kb l K' w')(hS:K'.nS=K.nS)(hA:Alike (kc kb) w w'):Co kb l K' L r Inb nG w'∧Kp kb L w L w':=by
 have blk:∀ k,k<w.heap.size→k≠kb.bf→k≠kb.bs→k≠kb.bd→w'.heap[k]?=w.heap[k]?:=hA.block
 refine ⟨⟨hE,co.top,co.gid,co.onk,fun g v hv=>?_,fun g v hv=>by rw [hS];exact co.wait g v hv,co.seat,co.none,fun s c h1 h2=>Nat.lt_of_lt_of_le (co.main0 s c h1 h2) hA.size,fun g v hv c hc=>?_,co.chne,co.pvch,co.apart⟩,fun k hk=>⟨⟨Nat.lt_of_lt_of_le hk.lt hA.size,hk.nf,hk.ns,hk.nd,hk.own⟩,blk k hk.lt hk.nf hk.ns hk.nd⟩⟩
 ·obtain ⟨free,un,A⟩:=co.at_ g v hv
  have hO:=co.onk g v hv
  refine ⟨free,un,A.other (hO.env hE) (fun i hi=>?_)⟩
  obtain ⟨_,a1,a2,a3,_⟩:=A.own.ap i hi
  obtain ⟨k1,k2,k3,k4⟩:=hO
  exact blk i (A.lt hi) (by rw [← k2];exact a1) (by rw [← k3];exact a2) (by rw [← k4];exact a3)
 ·obtain ⟨⟨cap,k,h⟩,a0,a1,a2,a3,a4,a5⟩:=co.chan g v hv c hc
  exact ⟨⟨cap,k,by rw [blk c (Array.getElem?_eq_some_iff.1 h).1 a1 a2 a3];exact h⟩,a0,a1,a2,a3,a4,a5⟩
theorem LibM.same (h:LibM kb l L w b n B0 U V N Xs)(hk:Kp kb L w L w'):LibM kb l L w' b n B0 U V N Xs:=⟨h.m.turn hk,h.live⟩
theorem must_mcall (co:Co kb l K L r Inb nG w)(slot num a c e:Int)(fr:Frame)(cs:List Frame)(d:Nat) :
  Must Tryd.prog true (DL true (sfO l)) (fun g w'=>g=G (fr.finish (.tuple #[.int .i64 (kCall K slot num a c e).n,.int .i64 (kCall K slot num a c e).e])) cs∧Co kb l (kCall K slot num a c e).K L r Inb nG w'∧Kp kb L w L w')
   (G (Frame.enter Tryd.prog 11 #[.pointer (some ⟨kb.bk,0,none⟩),.int .i64 slot,.int .i64 num,.agg #[.int .i64 a,.int .i64 c,.int .i64 e]] .normal) (fr::cs)) (w.at d):=by
 have co':=co.at d
 refine (must_kcall (C:=kc kb) co'.env co.top true slot num a c e fr cs).mono (fun _ _ _ h=>h) ?_
 rintro g w' ⟨rfl,hE,hA⟩
 have R:=co'.env.rep
 have hS:=(sizes_of R hE.rep (hA.block _ R.lk R.kf R.ks R.kd)).2.1
 obtain ⟨h1,h2⟩:=co_alike co' hE hS hA
 exact ⟨rfl,h1,fun k hk=>h2 k ⟨hk.lt,hk.nf,hk.ns,hk.nd,hk.own⟩⟩
theorem must_mstate (co:Co kb l K L r Inb nG w)(fr:Frame)(cs:List Frame)(d:Nat) :
  Must Tryd.prog true (DL true (sfO l)) (fun g w'=>∃ gF gS gD,g=G (fr.finish (stVal K gF gS gD)) cs∧Grown w w'∧Snap w' gF gS gD K∧w.heap.size≤gF∧w.heap.size≤gS∧w.heap.size≤gD)
   (G (Frame.enter Tryd.prog 13 #[.pointer (some ⟨kb.bk,0,none⟩)] .normal) (fr::cs)) (w.at d):=by
 refine (must_state (C:=kc kb) (co.at d).env true fr cs).mono (fun _ _ _ h=>h) ?_
 rintro g w' ⟨gF,gS,gD,rfl,h1,h2,h3,h4,h5,h6,h7⟩
 exact ⟨gF,gS,gD,rfl,⟨h1,h2,h3.clear⟩,h4,h5,h6,h7⟩
theorem rowIs_cells {w:World}{g t n:Nat}{f:Nat→Value}(h:w.rowIs g t n f):∃ c t f,w.heap[g]?=some (.cells c t f):=by
 obtain ⟨c,e,_⟩:=h
 exact ⟨c,_,_,e⟩
theorem snap_to {sft:Nat→Nat}{v w:World}(h:Lk sft v w){gF gS gD:Nat}{K:Ker}(S:Snap w gF gS gD K)(hz:sft gF=0∧sft gS=0∧sft gD=0):Snap v gF gS gD K:=S.same fun k hk=>by
 rcases hk with rfl|rfl|rfl
 ·exact lk_same h hz.1 (.inl (rowIs_cells S.f))
 ·exact lk_same h hz.2.1 (.inl (rowIs_cells S.s))
 ·exact lk_same h hz.2.2 (.inl (rowIs_cells S.d))
theorem must_sameState (co:Co kb l K L r Inb nG w){K1 K2:Ker}(hb:K1.nF≤32∧K1.nS≤32∧K1.nD≤32)(eF:K2.nF=K1.nF)(eS:K2.nS=K1.nS)(eD:K2.nD=K1.nD){gF gS gD kF kS kD:Nat}(S1:Snap w gF gS gD K1)(S2:Snap w kF kS kD K2)
  (z1:sfO l gF=0∧sfO l gS=0∧sfO l gD=0)(z2:sfO l kF=0∧sfO l kS=0∧sfO l kD=0)(fr:Frame)(cs:List Frame)(d:Nat) :
  Must Tryd.prog true (DL true (sfO l)) (fun g w'=>∃ x,g=G (fr.finish x) cs∧Grown w w'∧∃ t,x=.bool t∧(K2=K1→t=true))
   (G (Frame.enter Tryd.prog 14 #[stVal K1 gF gS gD,stVal K2 kF kS kD] .normal) (fr::cs)) (w.at d):=by
 refine must_below co.env.fit co.env.ko true (by kernel_rfl) (R:=fun x _=>∃ t,x=.bool t∧(K2=K1→t=true)) (fun v hv=>?_) (fun x v' w' _ _ h=>h) fr cs
 have s1:Snap (w.at d) gF gS gD K1:=S1.same fun _ _=>rfl
 have s2:Snap (w.at d) kF kS kD K2:=S2.same fun _ _=>rfl
 refine (sameState_any v K1 K2 hb.1 hb.2.1 hb.2.2 eF eS eD gF gS gD kF kS kD (snap_to hv s1 z1) (snap_to hv s2 z2)).mono ?_
 rintro e v' ⟨t,rfl,h1,h2⟩
 exact ⟨_,rfl,h2,t,rfl,h1⟩
theorem must_sameDones (co:Co kb l K L r Inb nG w){m ga gb:Nat}(hm:m≤4398046511104){f g:Nat→Value}(hf:w.rowIs ga 70 (m*5) f)(hg:w.rowIs gb 70 (m*5) g)(hF:∀ j,j<m*5→∃ x,f j=.int .i64 x)(hG:∀ j,j<m*5→∃ x,g j=.int .i64 x)
  (za:sfO l ga=0)(zb:sfO l gb=0)(fr:Frame)(cs:List Frame)(d:Nat) :
  Must Tryd.prog true (DL true (sfO l)) (fun g' w'=>∃ x,g'=G (fr.finish x) cs∧Grown w w'∧∃ t,x=.bool t∧((∀ j,j<m*5→f j=g j)→t=true))
   (G (Frame.enter Tryd.prog 22 #[.slice (some ⟨ga,0,none⟩) m m,.slice (some ⟨gb,0,none⟩) m m] .normal) (fr::cs)) (w.at d):=by
 refine must_below co.env.fit co.env.ko true (by kernel_rfl) (R:=fun x _=>∃ t,x=.bool t∧((∀ j,j<m*5→f j=g j)→t=true)) (fun v hv=>?_) (fun x v' w' _ _ h=>h) fr cs
 have s1:(w.at d).rowIs ga 70 (m*5) f:=hf.of_block rfl
 have s2:(w.at d).rowIs gb 70 (m*5) g:=hg.of_block rfl
 refine (sameDones_int v m ga gb hm f g (s1.of_block (lk_same hv za (.inl (rowIs_cells s1)))) (s2.of_block (lk_same hv zb (.inl (rowIs_cells s2)))) hF hG).mono ?_
 rintro e v' ⟨t,rfl,h1,h2⟩
 exact ⟨_,rfl,h2,t,rfl,h1⟩
end
structure Lvs (sz:Nat) (env:List (Nat × Value)) (a:Act):Prop where
 size:a.tmps.size=sz
 defers:a.defers=[]
 has:∀ p∈env,a.tmps[p.1]?=some p.2
theorem lookup_mem {t:Nat}{v:Value}:∀ {env:List (Nat × Value)},env.lookup t=some v→(t,v)∈env
 | [],h=>by cases h
 | (s,x)::env,h=>by
  by_cases e:t=s
  ·subst e
   simp only [List.lookup,beq_self_eq_true,Option.some.injEq] at h
   subst h
   exact List.mem_cons_self ..
  ·have:(t == s)=false:=by simpa using e
   simp only [List.lookup,this] at h
   exact List.mem_cons_of_mem _ (lookup_mem h)
section
variable {sz:Nat} {env:List (Nat × Value)} {a:Act}
theorem Lvs.at (h:Lvs sz env a){t:Nat}{v:Value}(ht:env.lookup t=some v):a.tmps[t]?=some v:=h.has _ (lookup_mem ht)
theorem Lvs.get (h:Lvs sz env a){t:Nat}{v:Value}(ht:env.lookup t=some v):a.eval (.tmp t)=v:=by
 show a.tmps.getD t undef=v
 rw [Array.getD_eq_getD_getElem?,h.at ht]
 rfl
theorem Lvs.put (h:Lvs sz env a){d:Nat}(hd:d<sz)(v:Value):Lvs sz ((d,v)::env.filter (fun p=>p.1 != d)) (a.put (some d) v):=by
 refine ⟨by simp [Act.put,h.size],h.defers,fun p hp=>?_⟩
 rcases List.mem_cons.1 hp with rfl|hp
 ·simp [Act.put,h.size,hd]
 ·obtain ⟨h1,h2⟩:=List.mem_filter.1 hp
  have h2:p.1≠d:=by simpa using h2
  simp only [Act.put]
  rw [Array.getElem?_setIfInBounds_ne (Ne.symm h2)]
  exact h.has p h1
theorem Lvs.sub (h:Lvs sz env a){env':List (Nat × Value)}(hs:∀ p∈env',env.lookup p.1=some p.2):Lvs sz env' a:=⟨h.size,h.defers,fun p hp=>h.at (hs p hp)⟩
theorem Lvs.wanted (h:Lvs sz env a){ops:Array Oper}{o oj:Oper}{j t:Nat}{x y:Bool}(hg:o.guard=some (j,y))(hj:ops[j]?=some oj)(hd:oj.dst=some t)(ht:env.lookup t=some (.bool x)):Region.wanted o (yielded ops a.tmps)=(x == y):=by
 unfold Region.wanted
 rw [hg]
 simp only [yielded,hj,Option.bind_some,hd,h.at ht]
 cases x<;>cases y<;>rfl
end
section
variable {l:List OpD} {main:Bool} {sft:Nat→Nat} {Stop:Goroutine→World→Prop} {b:Frame} {a:Act} {ops:Array Oper} {i:Nat} {o:Oper} {rest:List Nat} {k:List Item} {cs:List Frame} {w:World} {v:Value}
theorem lv_val (ho:ops[i]?=some o)(hw:Region.wanted o (yielded ops a.tmps)=true)(hk:b.kind≠.early)(hop:Br.okOp Tryd.prog (fun _=>false) [] false o.op=true)(hv:∀ d,(execOp a.eval o).run Tryd.prog (w.at d)=.ok (.value v) (w.at d))
  (h:Liv Tryd.prog main true sft Stop (G (b.at (a.put o.dst v) (.inRegion ops rest::k)) cs) w):Liv Tryd.prog main true sft Stop (G (b.at a (.inRegion ops (i::rest)::k)) cs) w:=Br.liv_op ho hw hk hop trivial hv h
theorem wanted_none {ops:Array Oper}{o:Oper}{a:Act}(hg:o.guard=none):Region.wanted o (yielded ops a.tmps)=true:=by unfold Region.wanted;rw [hg]
theorem lv_made {ob:Obj}(ho:ops[i]?=some o)(hg:o.guard=none)(hk:b.kind≠.early)(hv:∀ d,(execOp a.eval o).run Tryd.prog (w.at d)=.ok (.value v) ((w.at d).alloc ob))(he:∀ d,(execOp a.eval o).events Tryd.prog (w.at d) #[]=#[])(hs:Br.Obj.sight ob)
  (h:Liv Tryd.prog main true sft Stop (G (b.at (a.put o.dst v) (.inRegion ops rest::k)) cs) (w.alloc ob)):Liv Tryd.prog main true sft Stop (G (b.at a (.inRegion ops (i::rest)::k)) cs) w:=fun d=>must_made ho hg hk hv he (fun d=>h d) d hs
theorem lv_lone {x:Next}{R:World→World→Prop}(ho:ops[i]?=some o)(hg:o.guard=none)(hk:b.kind≠.early)(hop:Br.okOp Tryd.prog (fun _=>false) [] true o.op=true)(hx:x=.skip∨∃ v,x=.value v)(hft:Fit sft w)
  (hv:∀ d v,Lk sft v (w.at d)→∃ v',(execOp a.eval o).run Tryd.prog v=.ok x v'∧R v v')
  (h:∀ d w' v v',Lk sft v (w.at d)→Lk sft v' w'→Br.Kept sft (w.at d) w'→R v v'→Liv Tryd.prog main true sft Stop (G (b.at (a.put o.dst (match x with|.value v=>v|_=>undef)) (.inRegion ops rest::k)) cs) w') :
  Liv Tryd.prog main true sft Stop (G (b.at a (.inRegion ops (i::rest)::k)) cs) w:=fun d0=>by
 refine Br.must_operW ho (wanted_none hg) hk (fun d K' hK=>?_) d0
 have ht:Br.Tame Tryd.prog (true=true) (Br.Comesto (fun f=>(fun _=>false:FuncId→Bool) f=true)) (execOp a.eval o):=Br.t_execOp (P:=Tryd.prog) (S:=fun _=>false) (meths:=[]) (st:=true) id (fun f hf=>by cases hf) (fun m hm=>by cases hm) (fun v=>rfl) (fun f=>rfl) o hop
 have hl:Lk sft (Br.frz sft (w.at d) (w.at d).tape) (w.at d):=Br.lk_frz (w:=w.at d) hft.soft trivial _
 obtain ⟨v',hr,hR⟩:=hv d { Br.frz sft (w.at d) (w.at d).tape with drawn:=(w.at d).drawn } ⟨hl.heap,hl.soft,hl.sight,hl.os,hl.output⟩
 have hl':Lk sft { Br.frz sft (w.at d) (w.at d).tape with drawn:=(w.at d).drawn } (w.at d):=⟨hl.heap,hl.soft,hl.sight,hl.os,hl.output⟩
 have key:=Br.lk_run (sft:=sft) Tryd.prog (execOp a.eval o) (true=true) _ (v:={ Br.frz sft (w.at d) (w.at d).tape with drawn:=(w.at d).drawn }) (w:=w.at d) #[] ((execOp a.eval o).runT Tryd.prog (w.at d) #[]).1.world.drawn ht hl' (fun _ _ _=>rfl) (by omega)
 have e1:((execOp a.eval o).runT Tryd.prog { Br.frz sft (w.at d) (w.at d).tape with drawn:=(w.at d).drawn } #[]).1=.ok x v':=by rw [Sem.runT_fst];exact hr
 have e2:((execOp a.eval o).runT Tryd.prog (w.at d) #[]).1=(execOp a.eval o).run Tryd.prog (w.at d):=Sem.runT_fst ..
 have e3:∀ e∈listed Tryd.prog b.fn a o (w.at d),e∈((execOp a.eval o).runT Tryd.prog (w.at d) #[]).2:=fun e he=>Br.mem_seen he
 revert key e1 e2 e3
 generalize (execOp a.eval o).runT Tryd.prog { Br.frz sft (w.at d) (w.at d).tape with drawn:=(w.at d).drawn } #[]=rv
 generalize (execOp a.eval o).runT Tryd.prog (w.at d) #[]=rw'
 intro key e1 e2 e3
 cases key with
 | @ok y v2 w2 es' c hp h1 h2 h3 h4 =>
  obtain ⟨rfl,rfl⟩:=Result.ok.inj e1
  have hD:DL true sft (w.at d) w2 (listed Tryd.prog b.fn a o (w.at d)):=⟨h2,fun e he=>(by
   rcases h3 e (e3 e he) with h|h
   ·simp at h
   ·exact h),h4.all⟩
  rw [← e2]
  have hM:=(h d w2 _ _ hl' h1 h2 hR) w2.drawn
  rcases hx with rfl|⟨z,rfl⟩
  ·exact hK _ _ ⟨hD,hM⟩
  ·exact hK _ _ ⟨hD,hM⟩
 | panic _ _ _ _=>cases e1
 | lost _=>cases e1
end
end Go.Proofs.YtcgabodkegcpgaaDoor
namespace Go.Proofs.YtcgabodkegcpgaaDoor
open Go.RowKit
set_option linter.unusedVariables false
set_option maxHeartbeats 4000000
def pickI (c:Int):Int:=if c<0 then -(c+1) else c
def pickN (c:Int)(n:Nat):Nat:=(pickI c % n).toNat
theorem pickN_lt (c:Int){n:Nat}(h:0<n):pickN c n<n:=by
 have h0:0≤pickI c % (n:Int):=Int.emod_nonneg _ (by omega)
 have h1:pickI c % (n:Int)<n:=Int.emod_lt_of_pos _ (by omega)
 unfold pickN;omega
theorem pickN_cast (c:Int){n:Nat}(h:0<n):((pickN c n:Nat):Int)=pickI c % n:=by
 have h0:0≤pickI c % (n:Int):=Int.emod_nonneg _ (by omega)
 unfold pickN;omega
theorem pick_any (c:Int)(hl:-9223372036854775808≤c)(hh:c<9223372036854775808)(n:Nat)(h1:0<n)(h2:n≤31)(w:World) :
  Calls Tryd.prog 33 #[.int .i64 c,.int .i64 n] w fun e w'=>e=.returned (.int .i64 (pickN c n:Nat))∧w'=w:=by
 have E:=pickN_cast c h1
 have L:=pickN_lt c h1
 generalize pickN c n=m at *
 have HE:Hid ((m:Int)=pickI c % n):=E
 have HL:Hid (m<n):=L
 by_cases h:c<0
 ·have e1:IntKind.i64.wrap (c+1)=c+1:=IntWalk.i64_in _ (by omega)
  have e2:IntKind.i64.wrap (-(c+1))=-(c+1):=IntWalk.i64_in _ (by omega)
  have e3:(-(c+1)) % (n:Int)=m:=by rw [E,pickI,if_pos h]
  have e4:IntKind.i64.wrap (m:Int)=m:=IntWalk.i64_in _ (by omega)
  have e5:Int.tmod (-(c+1)) (n:Int)=m:=by rw [Int.tmod_eq_emod_of_nonneg (by omega)];exact e3
  clear E L
  go_enter Tryd.func33,Tryd.ntmps33
  go_wp2
  go_ret
  exact ⟨rfl,rfl⟩
 ·have e3:c % (n:Int)=m:=by rw [E,pickI,if_neg h]
  have e4:IntKind.i64.wrap (m:Int)=m:=IntWalk.i64_in _ (by omega)
  have e5:Int.tmod c (n:Int)=m:=by rw [Int.tmod_eq_emod_of_nonneg (by omega)];exact e3
  clear E L
  go_enter Tryd.func33,Tryd.ntmps33
  go_wp2
  go_ret
  exact ⟨rfl,rfl⟩
theorem settings_any (a b c:Int)(ha:-9223372036854775808≤a∧a<9223372036854775808)(hb:-9223372036854775808≤b∧b<9223372036854775808)(hc:-9223372036854775808≤c∧c<9223372036854775808)(w:World) :
  Calls Tryd.prog 12 #[.agg #[.int .i64 a,.int .i64 b,.int .i64 c]] w fun e w'=>e=.returned (.agg #[.int .i64 ((2+pickN a 31:Nat):Int),.int .i64 ((1+pickN b 6:Nat):Int),.int .i64 (pickN c 5:Nat)])∧Below w.heap.size w w':=by
 have l1:=pickN_lt a (n:=31) (by omega)
 have l2:=pickN_lt b (n:=6) (by omega)
 obtain ⟨OKP,hOK⟩:∃ OKP:Int→Int→Prop,OKP=fun x n=>(x=a∧n=31)∨(x=b∧n=6)∨(x=c∧n=5):=⟨_,rfl⟩
 obtain ⟨pk,hpk⟩:∃ pk:Int→Int→Int,pk=fun x n=>((pickN x n.toNat:Nat):Int):=⟨_,rfl⟩
 have P:∀ x n w,OKP x n→Calls Tryd.prog 33 #[.int .i64 x,.int .i64 n] w fun e w'=>e=.returned (.int .i64 (pk x n))∧w'=w:=by
  subst hOK hpk
  rintro x n w (⟨rfl,rfl⟩|⟨rfl,rfl⟩|⟨rfl,rfl⟩)
  ·exact pick_any x ha.1 ha.2 31 (by omega) (by omega) w
  ·exact pick_any x hb.1 hb.2 6 (by omega) (by omega) w
  ·exact pick_any x hc.1 hc.2 5 (by omega) (by omega) w
 have o1:OKP a 31:=by rw [hOK];simp
 have o2:OKP b 6:=by rw [hOK];simp
 have o3:OKP c 5:=by rw [hOK];simp
 have q1:pk a 31=(pickN a 31:Nat):=by rw [hpk];rfl
 have q2:pk b 6=(pickN b 6:Nat):=by rw [hpk];rfl
 have q3:pk c 5=(pickN c 5:Nat):=by rw [hpk];rfl
 clear ha hb hc hOK hpk
 have e1:IntKind.i64.wrap (2+pk a 31)=((2+pickN a 31:Nat):Int):=by rw [q1,IntWalk.i64_in _ (by omega)];omega
 have e2:IntKind.i64.wrap (1+pk b 6)=((1+pickN b 6:Nat):Int):=by rw [q2,IntWalk.i64_in _ (by omega)];omega
 rw [← q3]
 clear l1 l2 q1 q2 q3
 generalize ((2+pickN a 31:Nat):Int)=p2 at *
 generalize ((1+pickN b 6:Nat):Int)=q2 at *
 go_enter Tryd.func12,Tryd.ntmps12
 go_wp2_with fail
 obtain ⟨W,eW⟩:∃ W,W=(w.alloc (.cells #[.int .i64 a,.int .i64 b,.int .i64 c] 30)).alloc (.cells #[.int .i64 0,.int .i64 0,.int .i64 0] 30):=⟨_,rfl⟩
 have y0:W.cell? ⟨w.heap.size,0,none⟩=some (.int .i64 a):=by rw [eW,World.cell?_alloc2_first];rfl
 have y1:W.cell? ⟨w.heap.size,1,none⟩=some (.int .i64 b):=by rw [eW,World.cell?_alloc2_first];rfl
 have y2:W.cell? ⟨w.heap.size,2,none⟩=some (.int .i64 c):=by rw [eW,World.cell?_alloc2_first];rfl
 have HW:Hid (Below w.heap.size w W∧W.rowIs (w.heap.size+1) 30 3 (fun j=>(#[.int .i64 0,.int .i64 0,.int .i64 0]:Array Value).getD j (.bool false))):=by
  refine ⟨?_,?_⟩
  ·rw [eW];exact ((Below.refl _ _).alloc (Nat.le_refl _) _).alloc (by simp) _
  ·rw [eW];exact rowIs_new2 _ _ _ _
 have z0:W.cell? ⟨w.heap.size+1,0,none⟩=some (.int .i64 0):=HW.out.2.cell (by omega)
 have z1:W.cell? ⟨w.heap.size+1,1,none⟩=some (.int .i64 0):=HW.out.2.cell (by omega)
 have z2:W.cell? ⟨w.heap.size+1,2,none⟩=some (.int .i64 0):=HW.out.2.cell (by omega)
 have f0:W.frozen? ⟨w.heap.size+1,0,none⟩=false:=HW.out.2.frozen _
 have f1:W.frozen? ⟨w.heap.size+1,1,none⟩=false:=HW.out.2.frozen _
 have f2:W.frozen? ⟨w.heap.size+1,2,none⟩=false:=HW.out.2.frozen _
 rw [← eW]
 clear eW
 have n1:w.heap.size+1≠w.heap.size:=by omega
 have n2:w.heap.size≠w.heap.size+1:=by omega
 generalize e:w.heap.size+1=g1 at *
 generalize e0:w.heap.size=g0 at *
 go_region_held3 (fun w'=>w'.cell? ⟨g0,0,none⟩=some (.int .i64 a)∧w'.cell? ⟨g0,1,none⟩=some (.int .i64 b)∧w'.cell? ⟨g0,2,none⟩=some (.int .i64 c)) ((repeat' apply And.intro)<;>(first|(go_keep;done)|(refine keep_same ?_;go_keep)))
  (first|(go_at_call 33;refine (P _ _ _ (by first|exact o1|exact o2|exact o3)).mono ?_;rintro e w1 ⟨rfl,rfl⟩))
 rename_i Q1 K1 hK hH
 refine hK _ _ ?_
 subst Q1
 refine wp_ret ?_
 obtain ⟨cs,hcs⟩:∃ cs:List Value,cs=[.int .i64 p2,.int .i64 q2,.int .i64 (pk c 5)]:=⟨_,rfl⟩
 have hr:(W.setCells g1 0 cs).drew.rangeAt g1 0 cs:=World.rangeAt_setCells_same W g1 0 cs (by rw [hcs];exact rowIs_there HW.out.2 (by simp))
 have hb:Below g0 w (W.setCells g1 0 cs):=below_setCells (by omega) _ _ HW.out.1
 refine bodyPost_ret (v:=.agg cs.toArray) (results_cell_range Tryd.results12 _ _ g1 cs _ rfl ?_ Tryd.underlying30 rfl (by rw [hcs];kernel_rfl)) rfl ?_
 ·rw [hcs] at hr ⊢;exact hr
 ·rw [hcs] at hb ⊢;exact ⟨rfl,by rw [e0];exact ⟨hb.os,hb.tape,hb.output,hb.size,hb.block⟩⟩
end Go.Proofs.YtcgabodkegcpgaaDoor
