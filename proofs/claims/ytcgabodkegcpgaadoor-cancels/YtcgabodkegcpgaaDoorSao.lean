/- Comparing lists of structs: it answers, and true where the cells agree. -/
import Derived.Test.YtcgabodkegcpgaaDoorOpr
namespace Go.Proofs.YtcgabodkegcpgaaDoor
open Go.RowKit
set_option linter.unusedVariables false
set_option linter.unusedSimpArgs false
set_option maxHeartbeats 4000000
attribute [local go_sem ↓] Go.wp_at_zero Go.wp_at_succ
def cut (f:Nat→Value)(o m:Nat):List Value:=(List.range m).map fun j=>f (o+j)
theorem cut_get (f:Nat→Value)(o m j:Nat)(h:j<m):(cut f o m).toArray[j]?=some (f (o+j)):=by simp [cut,h]
theorem cut_eq {f g:Nat→Value}{o m:Nat}(h:∀ j,j<m→f (o+j)=g (o+j)):cut f o m=cut g o m:=List.map_congr_left fun j hj=>h j (by simpa using hj)
theorem below_drew {B:Nat}{a w:World}(h:Below B a w):Below B a w.drew:=⟨h.os,h.tape,h.output,h.size,h.block⟩
theorem cut_len (f:Nat→Value)(o m:Nat):(cut f o m).length=m:=by simp [cut]
set_option maxRecDepth 100000 in
theorem sameDucts_gen (w:World)(n ga gb:Nat)(hn:n≤32)(f g:Nat→Value)(hf:w.rowIs ga 84 (n*5) f)(bo:Option Addr)(cb:Nat)(hbo:0<n→bo=some ⟨gb,0,none⟩)(hg:0<n→gb<w.heap.size∧∀ k,k<n→w.rangeAt gb (k*5) (cut g (k*5) 5))
  (hc:∀ k,k<n→∃ r,Cmp 84 (cut f (k*5) 5) (cut g (k*5) 5) r∧(cut f (k*5) 5=cut g (k*5) 5→r=true)) :
  Calls Tryd.prog 39 #[.slice (some ⟨ga,0,none⟩) n n,.slice bo n cb] w fun e w'=>∃ r,e=.returned (.bool r)∧((∀ j,j<n*5→f j=g j)→r=true)∧Below w.heap.size w w':=by
 have Hf:Hid (w.rowIs ga 84 (n*5) f):=hf
 have Hg:Hid (0<n→gb<w.heap.size∧∀ k,k<n→w.rangeAt gb (k*5) (cut g (k*5) 5)):=hg
 have Hbo:Hid (0<n→bo=some ⟨gb,0,none⟩):=hbo
 have Hc:Hid (∀ k,k<n→∃ r,Cmp 84 (cut f (k*5) 5) (cut g (k*5) 5) r∧(cut f (k*5) 5=cut g (k*5) 5→r=true)):=hc
 clear hf hg hc hbo
 go_enter Tryd.func39,Tryd.ntmps39
 go_wp2
 go_loopw [5] (fun i w'=>∃ k:Nat,k≤n∧i=.int .i64 k∧Below w.heap.size w w') (fun i _=>n - (intOf i).toNat)
 case atStart=>exact ⟨0,by omega,rfl,Below.refl _ _⟩
 case round =>
  obtain ⟨k,hk,rfl,hb⟩:=hrel
  have Hb:Hid (Below w.heap.size w wr):=hb
  clear hb
  by_cases hlt:k<n
  ·obtain ⟨r,hr,hrt⟩:=Hc.out k hlt
   have Hrt:Hid (cut f (k*5) 5=cut g (k*5) 5→r=true):=hrt
   have Lf:Hid (wr.rangeAt ga (k*5) (cut f (k*5) 5)):=by
    have h:=rowIs_range (Hf.out.of_block (Hb.out.block _ (World.block_lt_of_cell? w ⟨ga,0,none⟩ (Hf.out.cell (by omega))))) (o:=k*5) (m:=5) (by omega)
    exact h
   have Lg:Hid (wr.rangeAt gb (k*5) (cut g (k*5) 5)):=by
    obtain ⟨hl,hr⟩:=Hg.out (by omega)
    exact fun j v hv=>(World.cell?_of_block (w:=w) (a:=⟨gb,k*5+j,none⟩) (Hb.out.block _ hl)).trans (hr k hlt j v hv)
   have ei:Hid ((Tryd.prog.info? 84).map (·.size)=some (cut f (k*5) 5).length):=by unfold Hid;rw [cut_len];kernel_rfl
   have ej:Hid ((Tryd.prog.info? 84).map (·.size)=some (cut g (k*5) 5).length):=by unfold Hid;rw [cut_len];kernel_rfl
   have He:Hid ((∀ j,j<n*5→f j=g j)→cut f (k*5) 5=cut g (k*5) 5):=fun h=>cut_eq (fun j hj=>h _ (by omega))
   unfold Cmp at hr
   clear hrt
   generalize cut f (k*5) 5=cs at *
   generalize cut g (k*5) 5=ds at *
   have M1:∀ w':World,w'.rangeAt ga (k*5) cs∧w'.rangeAt gb (k*5) ds→(Instr.loadAt 84 (.pointer (some ⟨ga,k*5,none⟩))).run Tryd.prog w'=.ok (.agg cs.toArray) w':=fun w' h=>run_loadAt_mid w' ga (k*5) 84 cs _ h.1 Tryd.underlying84 rfl ei.out
   have M2:∀ w':World,w'.rangeAt ga (k*5) cs∧w'.rangeAt gb (k*5) ds→(Instr.loadAt 84 (.pointer (some ⟨gb,k*5,none⟩))).run Tryd.prog w'=.ok (.agg ds.toArray) w':=fun w' h=>run_loadAt_mid w' gb (k*5) 84 ds _ h.2 Tryd.underlying84 rfl ej.out
   have l1:wr.rangeAt ga (k*5) cs:=Lf.out
   have l2:wr.rangeAt gb (k*5) ds:=Lg.out
   have b1:(0:Int)≤(k:Int):=by omega
   have b2:(k:Int)<(n:Int):=by omega
   clear M1 M2
   obtain rfl:bo=some ⟨gb,0,none⟩:=Hbo.out (by omega)
   ·go_wp2_with fail
    refine wp_region_held_drew (S:=fun w'=>w'.rangeAt ga (k*5) cs∧w'.rangeAt gb (k*5) ds) (by kernel_rfl) ⟨(World.rangeAt_drew _ _ _ _).2 Lf.out,(World.rangeAt_drew _ _ _ _).2 Lg.out⟩ (fun hS=>?_)
    refine wpAnyH_take (i:=0) (oi:={ dst:=some 17,op:=.move (.tmp 0),type:=43,pos := "book.go:154",after:=#[],guard:=none }) (v:=.slice (some ⟨ga,0,none⟩) n n) rfl (by kernel_rfl) (by kernel_rfl) (by kernel_rfl) (fun _ _ _ h=>h) (Or.inl ⟨by rfl,fun w h=>by go_simp⟩) (by assumption) ?_
    try simp only [Act.put,List.setIfInBounds_toArray,List.set_cons_zero,List.set_cons_succ]
    refine wpAnyH_take (i:=1) (oi:={ dst:=some 18,op:=.move (.tmp 5),type:=3,pos := "book.go:154",after:=#[],guard:=none }) (v:=.int .i64 k) rfl (by kernel_rfl) (by kernel_rfl) (by kernel_rfl) (fun _ _ _ h=>h) (Or.inl ⟨by rfl,fun w h=>by go_simp⟩) (by assumption) ?_
    try simp only [Act.put,List.setIfInBounds_toArray,List.set_cons_zero,List.set_cons_succ]
    refine wpAnyH_take (i:=2) (oi:={ dst:=some 19,op:=.indexAddr 43 (.tmp 17) (.tmp 18),type:=0,pos := "book.go:154",after:=#[{ on:=0,ground:=.data },{ on:=1,ground:=.data }],guard:=none }) (v:=.pointer (some ⟨ga,k*5,none⟩)) rfl (by kernel_rfl) (by kernel_rfl) (by kernel_rfl) (fun _ _ _ h=>h) (Or.inl ⟨by rfl,fun w h=>by go_simp⟩) (by assumption) ?_
    try simp only [Act.put,List.setIfInBounds_toArray,List.set_cons_zero,List.set_cons_succ]
    refine wpAnyH_take (i:=3) (oi:={ dst:=some 20,op:=.load 84 (.tmp 19),type:=84,pos := "book.go:154",after:=#[{ on:=2,ground:=.data }],guard:=none }) (v:=.agg cs.toArray) rfl (by kernel_rfl) (by kernel_rfl) (by kernel_rfl) (fun _ _ _ h=>h) (yieldsIf_load_mid (by rfl) _ _ rfl _ _ rfl _ _ (fun w h=>h.1) Tryd.underlying84 rfl ei.out) (by assumption) ?_
    try simp only [Act.put,List.setIfInBounds_toArray,List.set_cons_zero,List.set_cons_succ]
    refine wpAnyH_take (i:=4) (oi:={ dst:=some 21,op:=.move (.tmp 1),type:=43,pos := "book.go:154",after:=#[],guard:=none }) (v:=.slice (some ⟨gb,0,none⟩) n cb) rfl (by kernel_rfl) (by kernel_rfl) (by kernel_rfl) (fun _ _ _ h=>h) (Or.inl ⟨by rfl,fun w h=>by go_simp⟩) (by assumption) ?_
    try simp only [Act.put,List.setIfInBounds_toArray,List.set_cons_zero,List.set_cons_succ]
    refine wpAnyH_take (i:=5) (oi:={ dst:=some 22,op:=.move (.tmp 5),type:=3,pos := "book.go:154",after:=#[],guard:=none }) (v:=.int .i64 k) rfl (by kernel_rfl) (by kernel_rfl) (by kernel_rfl) (fun _ _ _ h=>h) (Or.inl ⟨by rfl,fun w h=>by go_simp⟩) (by assumption) ?_
    try simp only [Act.put,List.setIfInBounds_toArray,List.set_cons_zero,List.set_cons_succ]
    refine wpAnyH_take (i:=6) (oi:={ dst:=some 23,op:=.indexAddr 43 (.tmp 21) (.tmp 22),type:=0,pos := "book.go:154",after:=#[{ on:=4,ground:=.data },{ on:=5,ground:=.data }],guard:=none }) (v:=.pointer (some ⟨gb,k*5,none⟩)) rfl (by kernel_rfl) (by kernel_rfl) (by kernel_rfl) (fun _ _ _ h=>h) (Or.inl ⟨by rfl,fun w h=>by go_simp⟩) (by assumption) ?_
    try simp only [Act.put,List.setIfInBounds_toArray,List.set_cons_zero,List.set_cons_succ]
    refine wpAnyH_take (i:=7) (oi:={ dst:=some 24,op:=.load 84 (.tmp 23),type:=84,pos := "book.go:154",after:=#[{ on:=6,ground:=.data }],guard:=none }) (v:=.agg ds.toArray) rfl (by kernel_rfl) (by kernel_rfl) (by kernel_rfl) (fun _ _ _ h=>h) (yieldsIf_load_mid (by rfl) _ _ rfl _ _ rfl _ _ (fun w h=>h.2) Tryd.underlying84 rfl ej.out) (by assumption) ?_
    try simp only [Act.put,List.setIfInBounds_toArray,List.set_cons_zero,List.set_cons_succ]
    refine wpAnyH_take (i:=8) (oi:={ dst:=some 25,op:=.binOp .neq 84 (.tmp 20) (.tmp 24) 84,type:=4,pos := "book.go:154",after:=#[{ on:=3,ground:=.data },{ on:=7,ground:=.data }],guard:=none }) (v:=.bool !r) rfl (by kernel_rfl) (by kernel_rfl) (by kernel_rfl) (fun _ _ _ h=>h) (Or.inl ⟨by rfl,fun w h=>by go_simp⟩) (by assumption) ?_
    try simp only [Act.put,List.setIfInBounds_toArray,List.set_cons_zero,List.set_cons_succ]
    refine wpAnyH_done (by kernel_rfl) ?_ _
    cases r
    ·go_wp2
     go_ret
     exact ⟨false,rfl,fun h=>Hrt.out (He.out h),below_drew Hb.out⟩
    ·go_wp2
     exact ⟨⟨k+1,by omega,by go_num,below_drew Hb.out⟩,by simp [intOf];omega⟩
  ·obtain rfl:k=n:=by omega
   go_wp2
   go_ret
   exact ⟨true,rfl,fun _=>rfl,Hb.out⟩
theorem sameDucts_any (w:World)(n ga gb:Nat)(hn:n≤32)(f g:Nat→Value)(hf:w.rowIs ga 84 (n*5) f)(hg:w.rowIs gb 84 (n*5) g)
  (hc:∀ k,k<n→∃ r,Cmp 84 (cut f (k*5) 5) (cut g (k*5) 5) r∧(cut f (k*5) 5=cut g (k*5) 5→r=true)) :
  Calls Tryd.prog 39 #[.slice (some ⟨ga,0,none⟩) n n,.slice (some ⟨gb,0,none⟩) n n] w fun e w'=>∃ r,e=.returned (.bool r)∧((∀ j,j<n*5→f j=g j)→r=true)∧Below w.heap.size w w' :=
 sameDucts_gen w n ga gb hn f g hf (some ⟨gb,0,none⟩) n (fun _=>rfl) (fun h=>⟨World.block_lt_of_cell? w ⟨gb,0,none⟩ (hg.cell (by omega)),fun k hk=>rowIs_range hg (o:=k*5) (m:=5) (by omega)⟩) hc
set_option maxRecDepth 100000 in
theorem sameFrames_gen (w:World)(n ga gb:Nat)(hn:n≤32)(f g:Nat→Value)(hf:w.rowIs ga 75 (n*6) f)(bo:Option Addr)(cb:Nat)(hbo:0<n→bo=some ⟨gb,0,none⟩)(hg:0<n→gb<w.heap.size∧∀ k,k<n→w.rangeAt gb (k*6) (cut g (k*6) 6))
  (hc:∀ k,k<n→∃ r,Cmp 75 (cut f (k*6) 6) (cut g (k*6) 6) r∧(cut f (k*6) 6=cut g (k*6) 6→r=true)) :
  Calls Tryd.prog 37 #[.slice (some ⟨ga,0,none⟩) n n,.slice bo n cb] w fun e w'=>∃ r,e=.returned (.bool r)∧((∀ j,j<n*6→f j=g j)→r=true)∧Below w.heap.size w w':=by
 have Hf:Hid (w.rowIs ga 75 (n*6) f):=hf
 have Hg:Hid (0<n→gb<w.heap.size∧∀ k,k<n→w.rangeAt gb (k*6) (cut g (k*6) 6)):=hg
 have Hbo:Hid (0<n→bo=some ⟨gb,0,none⟩):=hbo
 have Hc:Hid (∀ k,k<n→∃ r,Cmp 75 (cut f (k*6) 6) (cut g (k*6) 6) r∧(cut f (k*6) 6=cut g (k*6) 6→r=true)):=hc
 clear hf hg hc hbo
 go_enter Tryd.func37,Tryd.ntmps37
 go_wp2
 go_loopw [5] (fun i w'=>∃ k:Nat,k≤n∧i=.int .i64 k∧Below w.heap.size w w') (fun i _=>n - (intOf i).toNat)
 case atStart=>exact ⟨0,by omega,rfl,Below.refl _ _⟩
 case round =>
  obtain ⟨k,hk,rfl,hb⟩:=hrel
  have Hb:Hid (Below w.heap.size w wr):=hb
  clear hb
  by_cases hlt:k<n
  ·obtain ⟨r,hr,hrt⟩:=Hc.out k hlt
   have Hrt:Hid (cut f (k*6) 6=cut g (k*6) 6→r=true):=hrt
   have Lf:Hid (wr.rangeAt ga (k*6) (cut f (k*6) 6)):=by
    have h:=rowIs_range (Hf.out.of_block (Hb.out.block _ (World.block_lt_of_cell? w ⟨ga,0,none⟩ (Hf.out.cell (by omega))))) (o:=k*6) (m:=6) (by omega)
    exact h
   have Lg:Hid (wr.rangeAt gb (k*6) (cut g (k*6) 6)):=by
    obtain ⟨hl,hr⟩:=Hg.out (by omega)
    exact fun j v hv=>(World.cell?_of_block (w:=w) (a:=⟨gb,k*6+j,none⟩) (Hb.out.block _ hl)).trans (hr k hlt j v hv)
   have ei:Hid ((Tryd.prog.info? 75).map (·.size)=some (cut f (k*6) 6).length):=by unfold Hid;rw [cut_len];kernel_rfl
   have ej:Hid ((Tryd.prog.info? 75).map (·.size)=some (cut g (k*6) 6).length):=by unfold Hid;rw [cut_len];kernel_rfl
   have He:Hid ((∀ j,j<n*6→f j=g j)→cut f (k*6) 6=cut g (k*6) 6):=fun h=>cut_eq (fun j hj=>h _ (by omega))
   unfold Cmp at hr
   clear hrt
   generalize cut f (k*6) 6=cs at *
   generalize cut g (k*6) 6=ds at *
   have M1:∀ w':World,w'.rangeAt ga (k*6) cs∧w'.rangeAt gb (k*6) ds→(Instr.loadAt 75 (.pointer (some ⟨ga,k*6,none⟩))).run Tryd.prog w'=.ok (.agg cs.toArray) w':=fun w' h=>run_loadAt_mid w' ga (k*6) 75 cs _ h.1 Tryd.underlying75 rfl ei.out
   have M2:∀ w':World,w'.rangeAt ga (k*6) cs∧w'.rangeAt gb (k*6) ds→(Instr.loadAt 75 (.pointer (some ⟨gb,k*6,none⟩))).run Tryd.prog w'=.ok (.agg ds.toArray) w':=fun w' h=>run_loadAt_mid w' gb (k*6) 75 ds _ h.2 Tryd.underlying75 rfl ej.out
   have l1:wr.rangeAt ga (k*6) cs:=Lf.out
   have l2:wr.rangeAt gb (k*6) ds:=Lg.out
   have b1:(0:Int)≤(k:Int):=by omega
   have b2:(k:Int)<(n:Int):=by omega
   clear M1 M2
   obtain rfl:bo=some ⟨gb,0,none⟩:=Hbo.out (by omega)
   ·go_wp2_with fail
    refine wp_region_held_drew (S:=fun w'=>w'.rangeAt ga (k*6) cs∧w'.rangeAt gb (k*6) ds) (by kernel_rfl) ⟨(World.rangeAt_drew _ _ _ _).2 Lf.out,(World.rangeAt_drew _ _ _ _).2 Lg.out⟩ (fun hS=>?_)
    refine wpAnyH_take (i:=0) (oi:={ dst:=some 17,op:=.move (.tmp 0),type:=41,pos := "book.go:130",after:=#[],guard:=none }) (v:=.slice (some ⟨ga,0,none⟩) n n) rfl (by kernel_rfl) (by kernel_rfl) (by kernel_rfl) (fun _ _ _ h=>h) (Or.inl ⟨by rfl,fun w h=>by go_simp⟩) (by assumption) ?_
    try simp only [Act.put,List.setIfInBounds_toArray,List.set_cons_zero,List.set_cons_succ]
    refine wpAnyH_take (i:=1) (oi:={ dst:=some 18,op:=.move (.tmp 5),type:=3,pos := "book.go:130",after:=#[],guard:=none }) (v:=.int .i64 k) rfl (by kernel_rfl) (by kernel_rfl) (by kernel_rfl) (fun _ _ _ h=>h) (Or.inl ⟨by rfl,fun w h=>by go_simp⟩) (by assumption) ?_
    try simp only [Act.put,List.setIfInBounds_toArray,List.set_cons_zero,List.set_cons_succ]
    refine wpAnyH_take (i:=2) (oi:={ dst:=some 19,op:=.indexAddr 41 (.tmp 17) (.tmp 18),type:=0,pos := "book.go:130",after:=#[{ on:=0,ground:=.data },{ on:=1,ground:=.data }],guard:=none }) (v:=.pointer (some ⟨ga,k*6,none⟩)) rfl (by kernel_rfl) (by kernel_rfl) (by kernel_rfl) (fun _ _ _ h=>h) (Or.inl ⟨by rfl,fun w h=>by go_simp⟩) (by assumption) ?_
    try simp only [Act.put,List.setIfInBounds_toArray,List.set_cons_zero,List.set_cons_succ]
    refine wpAnyH_take (i:=3) (oi:={ dst:=some 20,op:=.load 75 (.tmp 19),type:=75,pos := "book.go:130",after:=#[{ on:=2,ground:=.data }],guard:=none }) (v:=.agg cs.toArray) rfl (by kernel_rfl) (by kernel_rfl) (by kernel_rfl) (fun _ _ _ h=>h) (yieldsIf_load_mid (by rfl) _ _ rfl _ _ rfl _ _ (fun w h=>h.1) Tryd.underlying75 rfl ei.out) (by assumption) ?_
    try simp only [Act.put,List.setIfInBounds_toArray,List.set_cons_zero,List.set_cons_succ]
    refine wpAnyH_take (i:=4) (oi:={ dst:=some 21,op:=.move (.tmp 1),type:=41,pos := "book.go:130",after:=#[],guard:=none }) (v:=.slice (some ⟨gb,0,none⟩) n cb) rfl (by kernel_rfl) (by kernel_rfl) (by kernel_rfl) (fun _ _ _ h=>h) (Or.inl ⟨by rfl,fun w h=>by go_simp⟩) (by assumption) ?_
    try simp only [Act.put,List.setIfInBounds_toArray,List.set_cons_zero,List.set_cons_succ]
    refine wpAnyH_take (i:=5) (oi:={ dst:=some 22,op:=.move (.tmp 5),type:=3,pos := "book.go:130",after:=#[],guard:=none }) (v:=.int .i64 k) rfl (by kernel_rfl) (by kernel_rfl) (by kernel_rfl) (fun _ _ _ h=>h) (Or.inl ⟨by rfl,fun w h=>by go_simp⟩) (by assumption) ?_
    try simp only [Act.put,List.setIfInBounds_toArray,List.set_cons_zero,List.set_cons_succ]
    refine wpAnyH_take (i:=6) (oi:={ dst:=some 23,op:=.indexAddr 41 (.tmp 21) (.tmp 22),type:=0,pos := "book.go:130",after:=#[{ on:=4,ground:=.data },{ on:=5,ground:=.data }],guard:=none }) (v:=.pointer (some ⟨gb,k*6,none⟩)) rfl (by kernel_rfl) (by kernel_rfl) (by kernel_rfl) (fun _ _ _ h=>h) (Or.inl ⟨by rfl,fun w h=>by go_simp⟩) (by assumption) ?_
    try simp only [Act.put,List.setIfInBounds_toArray,List.set_cons_zero,List.set_cons_succ]
    refine wpAnyH_take (i:=7) (oi:={ dst:=some 24,op:=.load 75 (.tmp 23),type:=75,pos := "book.go:130",after:=#[{ on:=6,ground:=.data }],guard:=none }) (v:=.agg ds.toArray) rfl (by kernel_rfl) (by kernel_rfl) (by kernel_rfl) (fun _ _ _ h=>h) (yieldsIf_load_mid (by rfl) _ _ rfl _ _ rfl _ _ (fun w h=>h.2) Tryd.underlying75 rfl ej.out) (by assumption) ?_
    try simp only [Act.put,List.setIfInBounds_toArray,List.set_cons_zero,List.set_cons_succ]
    refine wpAnyH_take (i:=8) (oi:={ dst:=some 25,op:=.binOp .neq 75 (.tmp 20) (.tmp 24) 75,type:=4,pos := "book.go:130",after:=#[{ on:=3,ground:=.data },{ on:=7,ground:=.data }],guard:=none }) (v:=.bool !r) rfl (by kernel_rfl) (by kernel_rfl) (by kernel_rfl) (fun _ _ _ h=>h) (Or.inl ⟨by rfl,fun w h=>by go_simp⟩) (by assumption) ?_
    try simp only [Act.put,List.setIfInBounds_toArray,List.set_cons_zero,List.set_cons_succ]
    refine wpAnyH_done (by kernel_rfl) ?_ _
    cases r
    ·go_wp2
     go_ret
     exact ⟨false,rfl,fun h=>Hrt.out (He.out h),below_drew Hb.out⟩
    ·go_wp2
     exact ⟨⟨k+1,by omega,by go_num,below_drew Hb.out⟩,by simp [intOf];omega⟩
  ·obtain rfl:k=n:=by omega
   go_wp2
   go_ret
   exact ⟨true,rfl,fun _=>rfl,Hb.out⟩
theorem sameFrames_any (w:World)(n ga gb:Nat)(hn:n≤32)(f g:Nat→Value)(hf:w.rowIs ga 75 (n*6) f)(hg:w.rowIs gb 75 (n*6) g)
  (hc:∀ k,k<n→∃ r,Cmp 75 (cut f (k*6) 6) (cut g (k*6) 6) r∧(cut f (k*6) 6=cut g (k*6) 6→r=true)) :
  Calls Tryd.prog 37 #[.slice (some ⟨ga,0,none⟩) n n,.slice (some ⟨gb,0,none⟩) n n] w fun e w'=>∃ r,e=.returned (.bool r)∧((∀ j,j<n*6→f j=g j)→r=true)∧Below w.heap.size w w' :=
 sameFrames_gen w n ga gb hn f g hf (some ⟨gb,0,none⟩) n (fun _=>rfl) (fun h=>⟨World.block_lt_of_cell? w ⟨gb,0,none⟩ (hg.cell (by omega)),fun k hk=>rowIs_range hg (o:=k*6) (m:=6) (by omega)⟩) hc
set_option maxRecDepth 100000 in
theorem sameSlots_gen (w:World)(n ga gb:Nat)(hn:n≤32)(f g:Nat→Value)(hf:w.rowIs ga 55 (n*20) f)(bo:Option Addr)(cb:Nat)(hbo:0<n→bo=some ⟨gb,0,none⟩)(hg:0<n→gb<w.heap.size∧∀ k,k<n→w.rangeAt gb (k*20) (cut g (k*20) 20))
  (hc:∀ k,k<n→∃ r,Cmp 55 (cut f (k*20) 20) (cut g (k*20) 20) r∧(cut f (k*20) 20=cut g (k*20) 20→r=true)) :
  Calls Tryd.prog 38 #[.slice (some ⟨ga,0,none⟩) n n,.slice bo n cb] w fun e w'=>∃ r,e=.returned (.bool r)∧((∀ j,j<n*20→f j=g j)→r=true)∧Below w.heap.size w w':=by
 have Hf:Hid (w.rowIs ga 55 (n*20) f):=hf
 have Hg:Hid (0<n→gb<w.heap.size∧∀ k,k<n→w.rangeAt gb (k*20) (cut g (k*20) 20)):=hg
 have Hbo:Hid (0<n→bo=some ⟨gb,0,none⟩):=hbo
 have Hc:Hid (∀ k,k<n→∃ r,Cmp 55 (cut f (k*20) 20) (cut g (k*20) 20) r∧(cut f (k*20) 20=cut g (k*20) 20→r=true)):=hc
 clear hf hg hc hbo
 go_enter Tryd.func38,Tryd.ntmps38
 go_wp2
 go_loopw [5] (fun i w'=>∃ k:Nat,k≤n∧i=.int .i64 k∧Below w.heap.size w w') (fun i _=>n - (intOf i).toNat)
 case atStart=>exact ⟨0,by omega,rfl,Below.refl _ _⟩
 case round =>
  obtain ⟨k,hk,rfl,hb⟩:=hrel
  have Hb:Hid (Below w.heap.size w wr):=hb
  clear hb
  by_cases hlt:k<n
  ·obtain ⟨r,hr,hrt⟩:=Hc.out k hlt
   have Hrt:Hid (cut f (k*20) 20=cut g (k*20) 20→r=true):=hrt
   have Lf:Hid (wr.rangeAt ga (k*20) (cut f (k*20) 20)):=by
    have h:=rowIs_range (Hf.out.of_block (Hb.out.block _ (World.block_lt_of_cell? w ⟨ga,0,none⟩ (Hf.out.cell (by omega))))) (o:=k*20) (m:=20) (by omega)
    exact h
   have Lg:Hid (wr.rangeAt gb (k*20) (cut g (k*20) 20)):=by
    obtain ⟨hl,hr⟩:=Hg.out (by omega)
    exact fun j v hv=>(World.cell?_of_block (w:=w) (a:=⟨gb,k*20+j,none⟩) (Hb.out.block _ hl)).trans (hr k hlt j v hv)
   have ei:Hid ((Tryd.prog.info? 55).map (·.size)=some (cut f (k*20) 20).length):=by unfold Hid;rw [cut_len];kernel_rfl
   have ej:Hid ((Tryd.prog.info? 55).map (·.size)=some (cut g (k*20) 20).length):=by unfold Hid;rw [cut_len];kernel_rfl
   have He:Hid ((∀ j,j<n*20→f j=g j)→cut f (k*20) 20=cut g (k*20) 20):=fun h=>cut_eq (fun j hj=>h _ (by omega))
   unfold Cmp at hr
   clear hrt
   generalize cut f (k*20) 20=cs at *
   generalize cut g (k*20) 20=ds at *
   have M1:∀ w':World,w'.rangeAt ga (k*20) cs∧w'.rangeAt gb (k*20) ds→(Instr.loadAt 55 (.pointer (some ⟨ga,k*20,none⟩))).run Tryd.prog w'=.ok (.agg cs.toArray) w':=fun w' h=>run_loadAt_mid w' ga (k*20) 55 cs _ h.1 Tryd.underlying55 rfl ei.out
   have M2:∀ w':World,w'.rangeAt ga (k*20) cs∧w'.rangeAt gb (k*20) ds→(Instr.loadAt 55 (.pointer (some ⟨gb,k*20,none⟩))).run Tryd.prog w'=.ok (.agg ds.toArray) w':=fun w' h=>run_loadAt_mid w' gb (k*20) 55 ds _ h.2 Tryd.underlying55 rfl ej.out
   have l1:wr.rangeAt ga (k*20) cs:=Lf.out
   have l2:wr.rangeAt gb (k*20) ds:=Lg.out
   have b1:(0:Int)≤(k:Int):=by omega
   have b2:(k:Int)<(n:Int):=by omega
   clear M1 M2
   obtain rfl:bo=some ⟨gb,0,none⟩:=Hbo.out (by omega)
   ·go_wp2_with fail
    refine wp_region_held_drew (S:=fun w'=>w'.rangeAt ga (k*20) cs∧w'.rangeAt gb (k*20) ds) (by kernel_rfl) ⟨(World.rangeAt_drew _ _ _ _).2 Lf.out,(World.rangeAt_drew _ _ _ _).2 Lg.out⟩ (fun hS=>?_)
    refine wpAnyH_take (i:=0) (oi:={ dst:=some 17,op:=.move (.tmp 0),type:=42,pos := "book.go:142",after:=#[],guard:=none }) (v:=.slice (some ⟨ga,0,none⟩) n n) rfl (by kernel_rfl) (by kernel_rfl) (by kernel_rfl) (fun _ _ _ h=>h) (Or.inl ⟨by rfl,fun w h=>by go_simp⟩) (by assumption) ?_
    try simp only [Act.put,List.setIfInBounds_toArray,List.set_cons_zero,List.set_cons_succ]
    refine wpAnyH_take (i:=1) (oi:={ dst:=some 18,op:=.move (.tmp 5),type:=3,pos := "book.go:142",after:=#[],guard:=none }) (v:=.int .i64 k) rfl (by kernel_rfl) (by kernel_rfl) (by kernel_rfl) (fun _ _ _ h=>h) (Or.inl ⟨by rfl,fun w h=>by go_simp⟩) (by assumption) ?_
    try simp only [Act.put,List.setIfInBounds_toArray,List.set_cons_zero,List.set_cons_succ]
    refine wpAnyH_take (i:=2) (oi:={ dst:=some 19,op:=.indexAddr 42 (.tmp 17) (.tmp 18),type:=0,pos := "book.go:142",after:=#[{ on:=0,ground:=.data },{ on:=1,ground:=.data }],guard:=none }) (v:=.pointer (some ⟨ga,k*20,none⟩)) rfl (by kernel_rfl) (by kernel_rfl) (by kernel_rfl) (fun _ _ _ h=>h) (Or.inl ⟨by rfl,fun w h=>by go_simp⟩) (by assumption) ?_
    try simp only [Act.put,List.setIfInBounds_toArray,List.set_cons_zero,List.set_cons_succ]
    refine wpAnyH_take (i:=3) (oi:={ dst:=some 20,op:=.load 55 (.tmp 19),type:=55,pos := "book.go:142",after:=#[{ on:=2,ground:=.data }],guard:=none }) (v:=.agg cs.toArray) rfl (by kernel_rfl) (by kernel_rfl) (by kernel_rfl) (fun _ _ _ h=>h) (yieldsIf_load_mid (by rfl) _ _ rfl _ _ rfl _ _ (fun w h=>h.1) Tryd.underlying55 rfl ei.out) (by assumption) ?_
    try simp only [Act.put,List.setIfInBounds_toArray,List.set_cons_zero,List.set_cons_succ]
    refine wpAnyH_take (i:=4) (oi:={ dst:=some 21,op:=.move (.tmp 1),type:=42,pos := "book.go:142",after:=#[],guard:=none }) (v:=.slice (some ⟨gb,0,none⟩) n cb) rfl (by kernel_rfl) (by kernel_rfl) (by kernel_rfl) (fun _ _ _ h=>h) (Or.inl ⟨by rfl,fun w h=>by go_simp⟩) (by assumption) ?_
    try simp only [Act.put,List.setIfInBounds_toArray,List.set_cons_zero,List.set_cons_succ]
    refine wpAnyH_take (i:=5) (oi:={ dst:=some 22,op:=.move (.tmp 5),type:=3,pos := "book.go:142",after:=#[],guard:=none }) (v:=.int .i64 k) rfl (by kernel_rfl) (by kernel_rfl) (by kernel_rfl) (fun _ _ _ h=>h) (Or.inl ⟨by rfl,fun w h=>by go_simp⟩) (by assumption) ?_
    try simp only [Act.put,List.setIfInBounds_toArray,List.set_cons_zero,List.set_cons_succ]
    refine wpAnyH_take (i:=6) (oi:={ dst:=some 23,op:=.indexAddr 42 (.tmp 21) (.tmp 22),type:=0,pos := "book.go:142",after:=#[{ on:=4,ground:=.data },{ on:=5,ground:=.data }],guard:=none }) (v:=.pointer (some ⟨gb,k*20,none⟩)) rfl (by kernel_rfl) (by kernel_rfl) (by kernel_rfl) (fun _ _ _ h=>h) (Or.inl ⟨by rfl,fun w h=>by go_simp⟩) (by assumption) ?_
    try simp only [Act.put,List.setIfInBounds_toArray,List.set_cons_zero,List.set_cons_succ]
    refine wpAnyH_take (i:=7) (oi:={ dst:=some 24,op:=.load 55 (.tmp 23),type:=55,pos := "book.go:142",after:=#[{ on:=6,ground:=.data }],guard:=none }) (v:=.agg ds.toArray) rfl (by kernel_rfl) (by kernel_rfl) (by kernel_rfl) (fun _ _ _ h=>h) (yieldsIf_load_mid (by rfl) _ _ rfl _ _ rfl _ _ (fun w h=>h.2) Tryd.underlying55 rfl ej.out) (by assumption) ?_
    try simp only [Act.put,List.setIfInBounds_toArray,List.set_cons_zero,List.set_cons_succ]
    refine wpAnyH_take (i:=8) (oi:={ dst:=some 25,op:=.binOp .neq 55 (.tmp 20) (.tmp 24) 55,type:=4,pos := "book.go:142",after:=#[{ on:=3,ground:=.data },{ on:=7,ground:=.data }],guard:=none }) (v:=.bool !r) rfl (by kernel_rfl) (by kernel_rfl) (by kernel_rfl) (fun _ _ _ h=>h) (Or.inl ⟨by rfl,fun w h=>by go_simp⟩) (by assumption) ?_
    try simp only [Act.put,List.setIfInBounds_toArray,List.set_cons_zero,List.set_cons_succ]
    refine wpAnyH_done (by kernel_rfl) ?_ _
    cases r
    ·go_wp2
     go_ret
     exact ⟨false,rfl,fun h=>Hrt.out (He.out h),below_drew Hb.out⟩
    ·go_wp2
     exact ⟨⟨k+1,by omega,by go_num,below_drew Hb.out⟩,by simp [intOf];omega⟩
  ·obtain rfl:k=n:=by omega
   go_wp2
   go_ret
   exact ⟨true,rfl,fun _=>rfl,Hb.out⟩
theorem sameSlots_any (w:World)(n ga gb:Nat)(hn:n≤32)(f g:Nat→Value)(hf:w.rowIs ga 55 (n*20) f)(hg:w.rowIs gb 55 (n*20) g)
  (hc:∀ k,k<n→∃ r,Cmp 55 (cut f (k*20) 20) (cut g (k*20) 20) r∧(cut f (k*20) 20=cut g (k*20) 20→r=true)) :
  Calls Tryd.prog 38 #[.slice (some ⟨ga,0,none⟩) n n,.slice (some ⟨gb,0,none⟩) n n] w fun e w'=>∃ r,e=.returned (.bool r)∧((∀ j,j<n*20→f j=g j)→r=true)∧Below w.heap.size w w' :=
 sameSlots_gen w n ga gb hn f g hf (some ⟨gb,0,none⟩) n (fun _=>rfl) (fun h=>⟨World.block_lt_of_cell? w ⟨gb,0,none⟩ (hg.cell (by omega)),fun k hk=>rowIs_range hg (o:=k*20) (m:=20) (by omega)⟩) hc
attribute [local go_sem ↓] Go.wp_at_zero Go.wp_at_succ
theorem cmpF (K K':Ker)(k:Nat):∃ r,Cmp 75 (cut (fCell K) (k*6) 6) (cut (fCell K') (k*6) 6) r∧(cut (fCell K) (k*6) 6=cut (fCell K') (k*6) 6→r=true) :=
 cmp_of (same_frame (d:=9997) (fun j hj=>⟨_,cut_get _ _ _ _ hj⟩) (fun j hj=>⟨_,cut_get _ _ _ _ hj⟩))
theorem cmpD (K K':Ker)(k:Nat):∃ r,Cmp 84 (cut (dCell K) (k*5) 5) (cut (dCell K') (k*5) 5) r∧(cut (dCell K) (k*5) 5=cut (dCell K') (k*5) 5→r=true) :=
 cmp_of (same_duct (d:=9998) (fun j hj=>⟨_,cut_get _ _ _ _ hj⟩) (fun j hj=>⟨_,cut_get _ _ _ _ hj⟩))
theorem sCell_int (K:Ker)(k j:Nat)(h:j<20)(hj:¬ (4≤j∧j≤18∧j % 2=0)):IntAt (cut (sCell K) (k*20) 20).toArray j :=
 ⟨_,by rw [cut_get _ _ _ _ h,sCell,show (k*20+j) % 20=j by omega,if_neg hj]⟩
theorem sCell_bool (K:Ker)(k j:Nat)(h:j<20)(hj:4≤j∧j≤18∧j % 2=0):BoolAt (cut (sCell K) (k*20) 20).toArray j :=
 ⟨_,by rw [cut_get _ _ _ _ h,sCell,show (k*20+j) % 20=j by omega,if_pos hj]⟩
theorem slotAt (K:Ker)(k:Nat):SlotAt (cut (sCell K) (k*20) 20).toArray :=
 ⟨sCell_int K k 0 (by omega) (by omega),sCell_int K k 1 (by omega) (by omega),sCell_int K k 2 (by omega) (by omega),fun i hi=>⟨sCell_int K k _ (by omega) (by omega),sCell_bool K k _ (by omega) (by omega)⟩,fun i hi=>⟨sCell_int K k _ (by omega) (by omega),sCell_bool K k _ (by omega) (by omega)⟩,sCell_int K k 19 (by omega) (by omega)⟩
theorem cmpS (K K':Ker)(k:Nat):∃ r,Cmp 55 (cut (sCell K) (k*20) 20) (cut (sCell K') (k*20) 20) r∧(cut (sCell K) (k*20) 20=cut (sCell K') (k*20) 20→r=true) :=
 cmp_of (same_slot (d:=9996) (slotAt K k) (slotAt K' k))
theorem below_then {B n:Nat}{a b c:World}(h:Below B a b)(k:Below n b c)(hn:B≤n):Below B a c :=
 h.trans ⟨k.os,k.tape,k.output,k.size,fun i hi=>k.block i (Nat.lt_of_lt_of_le hi hn)⟩
theorem below_cell {n:Nat}{W w1:World}(b:Below n W w1){g o:Nat}{v:Value}(hg:g<n)(h:W.cell? ⟨g,o,none⟩=some v):w1.cell? ⟨g,o,none⟩=some v :=
 (World.cell?_of_block (w:=W) (a:=⟨g,o,none⟩) (b.block g hg)).trans h
theorem row_lt {w:World}{g t n:Nat}{f:Nat→Value}(h:w.rowIs g t n f):g<w.heap.size:=h.lt
theorem sameState_any (w:World)(K K':Ker)(hF:K.nF≤32)(hS:K.nS≤32)(hD:K.nD≤32)(eF:K'.nF=K.nF)(eS:K'.nS=K.nS)(eD:K'.nD=K.nD)(gF gS gD kF kS kD:Nat)(S1:Snap w gF gS gD K)(S2:Snap w kF kS kD K') :
  Calls Tryd.prog 14 #[stVal K gF gS gD,stVal K' kF kS kD] w fun e w'=>∃ r,e=.returned (.bool r)∧(K'=K→r=true)∧Below w.heap.size w w':=by
 unfold stVal
 have s2f:=S2.f
 have s2s:=S2.s
 have s2d:=S2.d
 rw [eF] at s2f ⊢
 rw [eS] at s2s ⊢
 rw [eD] at s2d ⊢
 have H1:Hid (Snap w gF gS gD K):=S1
 have H2:Hid (w.rowIs kF 75 (K.nF*6) (fCell K')∧w.rowIs kS 55 (K.nS*20) (sCell K')∧w.rowIs kD 84 (K.nD*5) (dCell K')):=⟨s2f,s2s,s2d⟩
 clear S1 S2 s2f s2s s2d eF eS eD
 go_enter Tryd.func14,Tryd.ntmps14
 go_wp2_with fail
 obtain ⟨W,eW⟩:∃ W,W=(w.alloc (.cells #[.slice (some ⟨gF,0,none⟩) K.nF K.nF,.slice (some ⟨gS,0,none⟩) K.nS K.nS,.slice (some ⟨gD,0,none⟩) K.nD K.nD] 45)).alloc (.cells #[.slice (some ⟨kF,0,none⟩) K.nF K.nF,.slice (some ⟨kS,0,none⟩) K.nS K.nS,.slice (some ⟨kD,0,none⟩) K.nD K.nD] 45):=⟨_,rfl⟩
 have y1:W.cell? ⟨w.heap.size,1,none⟩=some (.slice (some ⟨gS,0,none⟩) K.nS K.nS):=by rw [eW,World.cell?_alloc2_first];rfl
 have y2:W.cell? ⟨w.heap.size,2,none⟩=some (.slice (some ⟨gD,0,none⟩) K.nD K.nD):=by rw [eW,World.cell?_alloc2_first];rfl
 have z1:W.cell? ⟨w.heap.size+1,1,none⟩=some (.slice (some ⟨kS,0,none⟩) K.nS K.nS):=by rw [eW,World.cell?_alloc2_new];rfl
 have z2:W.cell? ⟨w.heap.size+1,2,none⟩=some (.slice (some ⟨kD,0,none⟩) K.nD K.nD):=by rw [eW,World.cell?_alloc2_new];rfl
 have HW:Hid (Below w.heap.size w W∧W.heap.size=w.heap.size+2):=by
  rw [eW];exact ⟨((Below.refl _ _).alloc (Nat.le_refl _) _).alloc (by simp) _,by simp⟩
 rw [← eW]
 clear eW
 have Y1:Hid (W.cell? ⟨w.heap.size,1,none⟩=some (.slice (some ⟨gS,0,none⟩) K.nS K.nS)):=y1
 have Y2:Hid (W.cell? ⟨w.heap.size,2,none⟩=some (.slice (some ⟨gD,0,none⟩) K.nD K.nD)):=y2
 have Z1:Hid (W.cell? ⟨w.heap.size+1,1,none⟩=some (.slice (some ⟨kS,0,none⟩) K.nS K.nS)):=z1
 have Z2:Hid (W.cell? ⟨w.heap.size+1,2,none⟩=some (.slice (some ⟨kD,0,none⟩) K.nD K.nD)):=z2
 clear y1 y2 z1 z2
 refine (sameFrames_any W K.nF gF kF hF (fCell K) (fCell K') (H1.out.f.of_block (HW.out.1.block _ (row_lt H1.out.f))) (H2.out.1.of_block (HW.out.1.block _ (row_lt H2.out.1))) (fun k _=>cmpF K K' k)).mono ?_
 rintro e w1 ⟨r1,rfl,q1,b1⟩
 have Q1:Hid (K'=K→r1=true):=fun h=>q1 (fun j _=>by rw [h])
 have HB1:Hid (Below w.heap.size w w1∧w.heap.size+2≤w1.heap.size):=⟨below_then HW.out.1 b1 (by have:=HW.out.2;omega),by have:=HW.out.2;have:=b1.size;omega⟩
 have y1:=below_cell b1 (by have:=HW.out.2;omega) Y1.out
 have z1:=below_cell b1 (by have:=HW.out.2;omega) Z1.out
 have Y3:Hid (w1.cell? ⟨w.heap.size,2,none⟩=some (.slice (some ⟨gD,0,none⟩) K.nD K.nD)):=below_cell b1 (by have:=HW.out.2;omega) Y2.out
 have Z3:Hid (w1.cell? ⟨w.heap.size+1,2,none⟩=some (.slice (some ⟨kD,0,none⟩) K.nD K.nD)):=below_cell b1 (by have:=HW.out.2;omega) Z2.out
 clear q1 b1
 go_wp2_with fail
 refine (sameSlots_any w1 K.nS gS kS hS (sCell K) (sCell K') (H1.out.s.of_block (HB1.out.1.block _ (row_lt H1.out.s))) (H2.out.2.1.of_block (HB1.out.1.block _ (row_lt H2.out.2.1))) (fun k _=>cmpS K K' k)).mono ?_
 rintro e w2 ⟨r2,rfl,q2,b2⟩
 have Q2:Hid (K'=K→r2=true):=fun h=>q2 (fun j _=>by rw [h])
 have HB2:Hid (Below w.heap.size w w2):=below_then HB1.out.1 b2 (by have:=HB1.out.2;omega)
 have y2:=below_cell b2 (by have:=HB1.out.2;omega) Y3.out
 have z2:=below_cell b2 (by have:=HB1.out.2;omega) Z3.out
 clear q2 b2
 go_wp2_with fail
 refine (sameDucts_any w2 K.nD gD kD hD (dCell K) (dCell K') (H1.out.d.of_block (HB2.out.block _ (row_lt H1.out.d))) (H2.out.2.2.of_block (HB2.out.block _ (row_lt H2.out.2.2))) (fun k _=>cmpD K K' k)).mono ?_
 rintro e w3 ⟨r3,rfl,q3,b3⟩
 have Q3:Hid (K'=K→r3=true):=fun h=>q3 (fun j _=>by rw [h])
 have HB3:Hid (Below w.heap.size w w3):=below_then HB2.out b3 HB2.out.size
 clear q3 b3
 cases r1<;>cases r2<;>cases r3
 all_goals go_wp2
 all_goals go_ret
 all_goals first|exact ⟨true,rfl,fun _=>rfl,HB3.out⟩|exact ⟨false,rfl,fun h=>Q1.out h,HB3.out⟩|exact ⟨false,rfl,fun h=>Q2.out h,HB3.out⟩|exact ⟨false,rfl,fun h=>Q3.out h,HB3.out⟩
structure Kept (K K':Ker) (p:Nat):Prop where
 kind:K'.S p 0=K.S p 0
 table:K'.S p 2=K.S p 2
 mid:∀ j,3≤j→j<19→sCell K' (p*20+j)=sCell K (p*20+j)
 words:∀ j,j<4→K.S p (3+j*2)<0∨∃ n:Nat,K.S p (3+j*2)=n∧n<K.nF∧∀ i,i<6→K'.F n i=K.F n i
attribute [local go_sem ↓] Go.wp_at_zero Go.wp_at_succ
theorem wpList_store_any {P:Program}{ops:Array Oper}{rest:List Oper}{op:Oper}{a:Act}{w:World}{Q:Exit→Act→World→Prop}(hgd:op.guard=none)(ty:TypeId)(x y:Operand)(ho:op.op=.store ty x y)
  (b o:Nat)(cells:Array Value)(hx:a.eval x=.pointer (some ⟨b,o,none⟩))(hy:a.eval y=.agg cells)
  (ht:w.there b o cells.size)(hi:(P.info? ty).map (·.size)=some cells.size)(h1:cells.all (·.oneCell')=true)
  (h:∀ W,W.rangeAt b o cells.toList→(∀ k,k≠b→W.heap[k]?=w.heap[k]?)→W.heap.size=w.heap.size→(∀ B a,Below B a w→B≤b→Below B a W)→wpList P ops Q rest (a.put op.dst undef) W):wpList P ops Q (op::rest) a w :=
 wpList_store_mid hgd ty x y ho b o cells hx hy ht hi h1 (h _ (World.rangeAt_setCells_same w b o _ (by rw [Array.length_toList];exact ht)) (fun k hk=>heap_setCells hk _ _ _) (size_setCells _ _ _) (fun B a hb hB=>below_setCells hB _ _ hb))
theorem sCell_num (K:Ker)(p j:Nat)(hj:j<20)(h:¬ (4≤j∧j≤18∧j % 2=0)):sCell K (p*20+j)=.int .i64 (K.S p j):=by
 unfold sCell
 rw [if_neg (by omega),show (p*20+j) / 20=p by omega,show (p*20+j) % 20=j by omega]
theorem cut_cell {w:World}{b:Nat}{f:Nat→Value}{o m:Nat}(h:w.rangeAt b 0 (cut f o m)){j:Nat}(hj:j<m):w.cell? ⟨b,j,none⟩=some (f (o+j)):=by
 have e:=h j (f (o+j)) (by simp [cut,hj])
 rw [Nat.zero_add] at e;exact e
theorem cut_one (K:Ker)(o m:Nat):(cut (sCell K) o m).toArray.all (·.oneCell')=true :=
 all_oneCell_toArray (fun v hv=>by
  unfold cut at hv
  obtain ⟨j,_,rfl⟩:=List.mem_map.1 hv
  exact one_s K _)
structure Behind (W:World) (A B X Y:Nat) (gF kF m:Nat) (K:Ker) (p:Nat):Prop where
 a:W.cell? ⟨A,0,none⟩=some (.slice (some ⟨gF,0,none⟩) m m)
 b:W.cell? ⟨B,0,none⟩=some (.slice (some ⟨kF,0,none⟩) m m)
 x0:W.cell? ⟨X,0,none⟩=some (.int .i64 (K.S p 0))
 y0:W.cell? ⟨Y,0,none⟩=some (.int .i64 (K.S p 0))
 x2:W.cell? ⟨X,2,none⟩=some (.int .i64 (K.S p 2))
 y2:W.cell? ⟨Y,2,none⟩=some (.int .i64 (K.S p 2))
 xp:W.rangeAt X 3 (cut (sCell K) (p*20+3) 8)
 yp:W.rangeAt Y 3 (cut (sCell K) (p*20+3) 8)
 xf:W.rangeAt X 11 (cut (sCell K) (p*20+11) 8)
 yf:W.rangeAt Y 11 (cut (sCell K) (p*20+11) 8)
 pg:∀ j,j<4→W.cell? ⟨X,3+j*2,none⟩=some (.int .i64 (K.S p (3+j*2)))
theorem there_new3 (w:World)(A B:Obj)(c:Array Value)(t:TypeId)(m:Nat)(h:c.size=m):(((w.alloc A).alloc B).alloc (.cells c t)).there (w.heap.size+2) 0 m:=by
 have:=rowIs_there (rowIs_new ((w.alloc A).alloc B) c t) (o:=0) (m:=m) (by omega)
 simpa using this
theorem there_new1 (w:World)(c:Array Value)(t:TypeId)(m:Nat)(h:c.size=m):(w.alloc (.cells c t)).there w.heap.size 0 m :=
 rowIs_there (rowIs_new w c t) (o:=0) (m:=m) (by omega)
theorem range_block {W W':World}{b o:Nat}{cs:List Value}(h:W.rangeAt b o cs)(e:W'.heap[b]?=W.heap[b]?):W'.rangeAt b o cs:=fun j v hv =>
 (World.cell?_of_block (w:=W) (a:=⟨b,o+j,none⟩) e).trans (h j v hv)
end Go.Proofs.YtcgabodkegcpgaaDoor
