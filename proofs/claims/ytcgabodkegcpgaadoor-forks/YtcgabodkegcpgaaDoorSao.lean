/- Comparing lists of structs: it answers, and true where the cells agree. -/
import Derived.Test.YtcgabodkegcpgaaDoorOpw
import Derived.Deep.RegionHeld3
set_option linter.unusedVariables false
set_option linter.unusedSimpArgs false
set_option maxHeartbeats 20000000
set_option maxRecDepth 100000
namespace Go.Proofs.YtcgabodkegcpgaaDoor
open Go.RowKit
attribute [local go_sem ↓] Go.wp_at_zero Go.wp_at_succ
def cut (f:Nat->Value)(o m:Nat):List Value:=(List.range m).map λj=>f (o+j)
theorem a0x (f:Nat->Value)(o m j:Nat)(h:j<m):(cut f o m).toArray[j]?=some (f (o+j)):=by simp [cut,h]
theorem b2l {f g:Nat->Value}{o m:Nat}(h:∀ j,j<m->f (o+j)=g (o+j)):cut f o m=cut g o m:=List.map_congr_left λj hj=>h j (by simpa using hj)
theorem Y4 {B:Nat}{a w:World}(h:Below B a w):Below B a w.drew:=⟨h.os,h.tape,h.output,h.size,h.block⟩
theorem A5 (f:Nat->Value)(o m:Nat):(cut f o m).length=m:=by simp [cut]
theorem a7D (w:World)(n ga gb:Nat)(hn:n<=32)(f g:Nat->Value)(hf:w.rowIs ga 84 (n*5) f)(bo:Option Addr)(cb:Nat)(hbo:0<n->bo=some ⟨gb,0,none⟩)(hg:0<n->gb<w.heap.size/\∀ k,k<n->w.rangeAt gb (k*5) (cut g (k*5) 5))
  (hc:∀ k,k<n->∃ r,Cmp 84 (cut f (k*5) 5) (cut g (k*5) 5) r/\(cut f (k*5) 5=cut g (k*5) 5->r=true)) :
  Calls Tryd.prog 39 #[.slice (some ⟨ga,0,none⟩) n n,.slice bo n cb] w λe w'=>∃ r,e=.returned (.bool r)/\((∀ j,j<n*5->f j=g j)->r=true)/\Below w.heap.size w w':=by
 have Hf:Hid (w.rowIs ga 84 (n*5) f):=hf;have Hg:Hid (0<n->gb<w.heap.size/\∀ k,k<n->w.rangeAt gb (k*5) (cut g (k*5) 5)):=hg;have Hbo:Hid (0<n->bo=some ⟨gb,0,none⟩):=hbo;have Hc:Hid (∀ k,k<n->∃ r,Cmp 84 (cut f (k*5) 5) (cut g (k*5) 5) r/\(cut f (k*5) 5=cut g (k*5) 5->r=true)):=hc;clear hf hg hc hbo
 go_enter Tryd.func39,Tryd.ntmps39
 go_wp2
 go_loopw [5] (λi w'=>∃ k:Nat,k<=n/\i=.int .i64 k/\Below w.heap.size w w') (λi _=>n - (intOf i).toNat)
 case atStart=>exact ⟨0,by omega,rfl,Below.refl _ _⟩
 case round =>
  obtain ⟨k,hk,rfl,hb⟩:=hrel;have Hb:Hid (Below w.heap.size w wr):=hb;clear hb
  by_cases hlt:k<n
  ·obtain ⟨r,hr,hrt⟩:=Hc.out k hlt;have Hrt:Hid (cut f (k*5) 5=cut g (k*5) 5->r=true):=hrt;have Lf:Hid (wr.rangeAt ga (k*5) (cut f (k*5) 5)):=by
    have h:=y7 (Hf.out.of_block (Hb.out.block _ (World.block_lt_of_cell? w ⟨ga,0,none⟩ (Hf.out.cell (by omega))))) (o:=k*5) (m:=5) (by omega);exact h
   have Lg:Hid (wr.rangeAt gb (k*5) (cut g (k*5) 5)):=by
    obtain ⟨hl,hr⟩:=Hg.out (by omega);exact λj v hv=>(World.cell?_of_block (w:=w) (a:=⟨gb,k*5+j,none⟩) (Hb.out.block _ hl)).trans (hr k hlt j v hv)
   have ei:Hid ((Tryd.prog.info? 84).map (·.size)=some (cut f (k*5) 5).length):=by unfold Hid;rw [A5];kernel_rfl
   have ej:Hid ((Tryd.prog.info? 84).map (·.size)=some (cut g (k*5) 5).length):=by unfold Hid;rw [A5];kernel_rfl
   have He:Hid ((∀ j,j<n*5->f j=g j)->cut f (k*5) 5=cut g (k*5) 5):=λh=>b2l (λj hj=>h _ (by omega));unfold Cmp at hr;clear hrt;generalize cut f (k*5) 5=cs at *;generalize cut g (k*5) 5=ds at *;have M1:∀ w':World,w'.rangeAt ga (k*5) cs/\w'.rangeAt gb (k*5) ds->(Instr.loadAt 84 (.pointer (some ⟨ga,k*5,none⟩))).run Tryd.prog w'=.ok (.agg cs.toArray) w':=λw' h=>run_loadAt_mid w' ga (k*5) 84 cs _ h.1 Tryd.underlying84 rfl ei.out;have M2:∀ w':World,w'.rangeAt ga (k*5) cs/\w'.rangeAt gb (k*5) ds->(Instr.loadAt 84 (.pointer (some ⟨gb,k*5,none⟩))).run Tryd.prog w'=.ok (.agg ds.toArray) w':=λw' h=>run_loadAt_mid w' gb (k*5) 84 ds _ h.2 Tryd.underlying84 rfl ej.out;have l1:wr.rangeAt ga (k*5) cs:=Lf.out;have l2:wr.rangeAt gb (k*5) ds:=Lg.out;have b1:(0:Int)<=(k:Int):=by omega
   have b2:(k:Int)<(n:Int):=by omega
   clear M1 M2;obtain rfl:bo=some ⟨gb,0,none⟩:=Hbo.out (by omega)
   ·go_wp2_with fail
    refine wp_region_held_drew (S:=λw'=>w'.rangeAt ga (k*5) cs/\w'.rangeAt gb (k*5) ds) (by kernel_rfl) ⟨(World.rangeAt_drew _ _ _ _).2 Lf.out,(World.rangeAt_drew _ _ _ _).2 Lg.out⟩ (λhS=>?_);refine wpAnyH_take (i:=0) (oi:={ dst:=some 17,op:=.move (.tmp 0),type:=43,pos := "book.go:154",after:=#[],guard:=none }) (v:=.slice (some ⟨ga,0,none⟩) n n) rfl (by kernel_rfl) (by kernel_rfl) (by kernel_rfl) (λ_ _ _ h=>h) (Or.inl ⟨by rfl,λw h=>by go_simp⟩) (by assumption) ?_
    try simp only [Act.put,List.setIfInBounds_toArray,List.set_cons_zero,List.set_cons_succ]
    refine wpAnyH_take (i:=1) (oi:={ dst:=some 18,op:=.move (.tmp 5),type:=3,pos := "book.go:154",after:=#[],guard:=none }) (v:=.int .i64 k) rfl (by kernel_rfl) (by kernel_rfl) (by kernel_rfl) (λ_ _ _ h=>h) (Or.inl ⟨by rfl,λw h=>by go_simp⟩) (by assumption) ?_
    try simp only [Act.put,List.setIfInBounds_toArray,List.set_cons_zero,List.set_cons_succ]
    refine wpAnyH_take (i:=2) (oi:={ dst:=some 19,op:=.indexAddr 43 (.tmp 17) (.tmp 18),type:=0,pos := "book.go:154",after:=#[{ on:=0,ground:=.data },{ on:=1,ground:=.data }],guard:=none }) (v:=.pointer (some ⟨ga,k*5,none⟩)) rfl (by kernel_rfl) (by kernel_rfl) (by kernel_rfl) (λ_ _ _ h=>h) (Or.inl ⟨by rfl,λw h=>by go_simp⟩) (by assumption) ?_
    try simp only [Act.put,List.setIfInBounds_toArray,List.set_cons_zero,List.set_cons_succ]
    refine wpAnyH_take (i:=3) (oi:={ dst:=some 20,op:=.load 84 (.tmp 19),type:=84,pos := "book.go:154",after:=#[{ on:=2,ground:=.data }],guard:=none }) (v:=.agg cs.toArray) rfl (by kernel_rfl) (by kernel_rfl) (by kernel_rfl) (λ_ _ _ h=>h) (yieldsIf_load_mid (by rfl) _ _ rfl _ _ rfl _ _ (λw h=>h.1) Tryd.underlying84 rfl ei.out) (by assumption) ?_
    try simp only [Act.put,List.setIfInBounds_toArray,List.set_cons_zero,List.set_cons_succ]
    refine wpAnyH_take (i:=4) (oi:={ dst:=some 21,op:=.move (.tmp 1),type:=43,pos := "book.go:154",after:=#[],guard:=none }) (v:=.slice (some ⟨gb,0,none⟩) n cb) rfl (by kernel_rfl) (by kernel_rfl) (by kernel_rfl) (λ_ _ _ h=>h) (Or.inl ⟨by rfl,λw h=>by go_simp⟩) (by assumption) ?_
    try simp only [Act.put,List.setIfInBounds_toArray,List.set_cons_zero,List.set_cons_succ]
    refine wpAnyH_take (i:=5) (oi:={ dst:=some 22,op:=.move (.tmp 5),type:=3,pos := "book.go:154",after:=#[],guard:=none }) (v:=.int .i64 k) rfl (by kernel_rfl) (by kernel_rfl) (by kernel_rfl) (λ_ _ _ h=>h) (Or.inl ⟨by rfl,λw h=>by go_simp⟩) (by assumption) ?_
    try simp only [Act.put,List.setIfInBounds_toArray,List.set_cons_zero,List.set_cons_succ]
    refine wpAnyH_take (i:=6) (oi:={ dst:=some 23,op:=.indexAddr 43 (.tmp 21) (.tmp 22),type:=0,pos := "book.go:154",after:=#[{ on:=4,ground:=.data },{ on:=5,ground:=.data }],guard:=none }) (v:=.pointer (some ⟨gb,k*5,none⟩)) rfl (by kernel_rfl) (by kernel_rfl) (by kernel_rfl) (λ_ _ _ h=>h) (Or.inl ⟨by rfl,λw h=>by go_simp⟩) (by assumption) ?_
    try simp only [Act.put,List.setIfInBounds_toArray,List.set_cons_zero,List.set_cons_succ]
    refine wpAnyH_take (i:=7) (oi:={ dst:=some 24,op:=.load 84 (.tmp 23),type:=84,pos := "book.go:154",after:=#[{ on:=6,ground:=.data }],guard:=none }) (v:=.agg ds.toArray) rfl (by kernel_rfl) (by kernel_rfl) (by kernel_rfl) (λ_ _ _ h=>h) (yieldsIf_load_mid (by rfl) _ _ rfl _ _ rfl _ _ (λw h=>h.2) Tryd.underlying84 rfl ej.out) (by assumption) ?_
    try simp only [Act.put,List.setIfInBounds_toArray,List.set_cons_zero,List.set_cons_succ]
    refine wpAnyH_take (i:=8) (oi:={ dst:=some 25,op:=.binOp .neq 84 (.tmp 20) (.tmp 24) 84,type:=4,pos := "book.go:154",after:=#[{ on:=3,ground:=.data },{ on:=7,ground:=.data }],guard:=none }) (v:=.bool !r) rfl (by kernel_rfl) (by kernel_rfl) (by kernel_rfl) (λ_ _ _ h=>h) (Or.inl ⟨by rfl,λw h=>by go_simp⟩) (by assumption) ?_
    try simp only [Act.put,List.setIfInBounds_toArray,List.set_cons_zero,List.set_cons_succ]
    refine wpAnyH_done (by kernel_rfl) ?_ _;cases r
    ·go_wp2
     go_ret
     exact ⟨false,rfl,λh=>Hrt.out (He.out h),Y4 Hb.out⟩
    ·go_wp2
     exact ⟨⟨k+1,by omega,by go_num,Y4 Hb.out⟩,by simp [intOf];omega⟩
  ·obtain rfl:k=n:=by omega
   go_wp2
   go_ret
   exact ⟨true,rfl,λ_=>rfl,Hb.out⟩
theorem a7E (w:World)(n ga gb:Nat)(hn:n<=32)(f g:Nat->Value)(hf:w.rowIs ga 84 (n*5) f)(hg:w.rowIs gb 84 (n*5) g)
  (hc:∀ k,k<n->∃ r,Cmp 84 (cut f (k*5) 5) (cut g (k*5) 5) r/\(cut f (k*5) 5=cut g (k*5) 5->r=true)) :
  Calls Tryd.prog 39 #[.slice (some ⟨ga,0,none⟩) n n,.slice (some ⟨gb,0,none⟩) n n] w λe w'=>∃ r,e=.returned (.bool r)/\((∀ j,j<n*5->f j=g j)->r=true)/\Below w.heap.size w w' :=
 a7D w n ga gb hn f g hf (some ⟨gb,0,none⟩) n (λ_=>rfl) (λh=>⟨World.block_lt_of_cell? w ⟨gb,0,none⟩ (hg.cell (by omega)),λk hk=>y7 hg (o:=k*5) (m:=5) (by omega)⟩) hc
theorem a7c (w:World)(n ga gb:Nat)(hn:n<=32)(f g:Nat->Value)(hf:w.rowIs ga 75 (n*6) f)(bo:Option Addr)(cb:Nat)(hbo:0<n->bo=some ⟨gb,0,none⟩)(hg:0<n->gb<w.heap.size/\∀ k,k<n->w.rangeAt gb (k*6) (cut g (k*6) 6))
  (hc:∀ k,k<n->∃ r,Cmp 75 (cut f (k*6) 6) (cut g (k*6) 6) r/\(cut f (k*6) 6=cut g (k*6) 6->r=true)) :
  Calls Tryd.prog 37 #[.slice (some ⟨ga,0,none⟩) n n,.slice bo n cb] w λe w'=>∃ r,e=.returned (.bool r)/\((∀ j,j<n*6->f j=g j)->r=true)/\Below w.heap.size w w':=by
 have Hf:Hid (w.rowIs ga 75 (n*6) f):=hf;have Hg:Hid (0<n->gb<w.heap.size/\∀ k,k<n->w.rangeAt gb (k*6) (cut g (k*6) 6)):=hg;have Hbo:Hid (0<n->bo=some ⟨gb,0,none⟩):=hbo;have Hc:Hid (∀ k,k<n->∃ r,Cmp 75 (cut f (k*6) 6) (cut g (k*6) 6) r/\(cut f (k*6) 6=cut g (k*6) 6->r=true)):=hc;clear hf hg hc hbo
 go_enter Tryd.func37,Tryd.ntmps37
 go_wp2
 go_loopw [5] (λi w'=>∃ k:Nat,k<=n/\i=.int .i64 k/\Below w.heap.size w w') (λi _=>n - (intOf i).toNat)
 case atStart=>exact ⟨0,by omega,rfl,Below.refl _ _⟩
 case round =>
  obtain ⟨k,hk,rfl,hb⟩:=hrel;have Hb:Hid (Below w.heap.size w wr):=hb;clear hb
  by_cases hlt:k<n
  ·obtain ⟨r,hr,hrt⟩:=Hc.out k hlt;have Hrt:Hid (cut f (k*6) 6=cut g (k*6) 6->r=true):=hrt;have Lf:Hid (wr.rangeAt ga (k*6) (cut f (k*6) 6)):=by
    have h:=y7 (Hf.out.of_block (Hb.out.block _ (World.block_lt_of_cell? w ⟨ga,0,none⟩ (Hf.out.cell (by omega))))) (o:=k*6) (m:=6) (by omega);exact h
   have Lg:Hid (wr.rangeAt gb (k*6) (cut g (k*6) 6)):=by
    obtain ⟨hl,hr⟩:=Hg.out (by omega);exact λj v hv=>(World.cell?_of_block (w:=w) (a:=⟨gb,k*6+j,none⟩) (Hb.out.block _ hl)).trans (hr k hlt j v hv)
   have ei:Hid ((Tryd.prog.info? 75).map (·.size)=some (cut f (k*6) 6).length):=by unfold Hid;rw [A5];kernel_rfl
   have ej:Hid ((Tryd.prog.info? 75).map (·.size)=some (cut g (k*6) 6).length):=by unfold Hid;rw [A5];kernel_rfl
   have He:Hid ((∀ j,j<n*6->f j=g j)->cut f (k*6) 6=cut g (k*6) 6):=λh=>b2l (λj hj=>h _ (by omega));unfold Cmp at hr;clear hrt;generalize cut f (k*6) 6=cs at *;generalize cut g (k*6) 6=ds at *;have M1:∀ w':World,w'.rangeAt ga (k*6) cs/\w'.rangeAt gb (k*6) ds->(Instr.loadAt 75 (.pointer (some ⟨ga,k*6,none⟩))).run Tryd.prog w'=.ok (.agg cs.toArray) w':=λw' h=>run_loadAt_mid w' ga (k*6) 75 cs _ h.1 Tryd.underlying75 rfl ei.out;have M2:∀ w':World,w'.rangeAt ga (k*6) cs/\w'.rangeAt gb (k*6) ds->(Instr.loadAt 75 (.pointer (some ⟨gb,k*6,none⟩))).run Tryd.prog w'=.ok (.agg ds.toArray) w':=λw' h=>run_loadAt_mid w' gb (k*6) 75 ds _ h.2 Tryd.underlying75 rfl ej.out;have l1:wr.rangeAt ga (k*6) cs:=Lf.out;have l2:wr.rangeAt gb (k*6) ds:=Lg.out;have b1:(0:Int)<=(k:Int):=by omega
   have b2:(k:Int)<(n:Int):=by omega
   clear M1 M2;obtain rfl:bo=some ⟨gb,0,none⟩:=Hbo.out (by omega)
   ·go_wp2_with fail
    refine wp_region_held_drew (S:=λw'=>w'.rangeAt ga (k*6) cs/\w'.rangeAt gb (k*6) ds) (by kernel_rfl) ⟨(World.rangeAt_drew _ _ _ _).2 Lf.out,(World.rangeAt_drew _ _ _ _).2 Lg.out⟩ (λhS=>?_);refine wpAnyH_take (i:=0) (oi:={ dst:=some 17,op:=.move (.tmp 0),type:=41,pos := "book.go:130",after:=#[],guard:=none }) (v:=.slice (some ⟨ga,0,none⟩) n n) rfl (by kernel_rfl) (by kernel_rfl) (by kernel_rfl) (λ_ _ _ h=>h) (Or.inl ⟨by rfl,λw h=>by go_simp⟩) (by assumption) ?_
    try simp only [Act.put,List.setIfInBounds_toArray,List.set_cons_zero,List.set_cons_succ]
    refine wpAnyH_take (i:=1) (oi:={ dst:=some 18,op:=.move (.tmp 5),type:=3,pos := "book.go:130",after:=#[],guard:=none }) (v:=.int .i64 k) rfl (by kernel_rfl) (by kernel_rfl) (by kernel_rfl) (λ_ _ _ h=>h) (Or.inl ⟨by rfl,λw h=>by go_simp⟩) (by assumption) ?_
    try simp only [Act.put,List.setIfInBounds_toArray,List.set_cons_zero,List.set_cons_succ]
    refine wpAnyH_take (i:=2) (oi:={ dst:=some 19,op:=.indexAddr 41 (.tmp 17) (.tmp 18),type:=0,pos := "book.go:130",after:=#[{ on:=0,ground:=.data },{ on:=1,ground:=.data }],guard:=none }) (v:=.pointer (some ⟨ga,k*6,none⟩)) rfl (by kernel_rfl) (by kernel_rfl) (by kernel_rfl) (λ_ _ _ h=>h) (Or.inl ⟨by rfl,λw h=>by go_simp⟩) (by assumption) ?_
    try simp only [Act.put,List.setIfInBounds_toArray,List.set_cons_zero,List.set_cons_succ]
    refine wpAnyH_take (i:=3) (oi:={ dst:=some 20,op:=.load 75 (.tmp 19),type:=75,pos := "book.go:130",after:=#[{ on:=2,ground:=.data }],guard:=none }) (v:=.agg cs.toArray) rfl (by kernel_rfl) (by kernel_rfl) (by kernel_rfl) (λ_ _ _ h=>h) (yieldsIf_load_mid (by rfl) _ _ rfl _ _ rfl _ _ (λw h=>h.1) Tryd.underlying75 rfl ei.out) (by assumption) ?_
    try simp only [Act.put,List.setIfInBounds_toArray,List.set_cons_zero,List.set_cons_succ]
    refine wpAnyH_take (i:=4) (oi:={ dst:=some 21,op:=.move (.tmp 1),type:=41,pos := "book.go:130",after:=#[],guard:=none }) (v:=.slice (some ⟨gb,0,none⟩) n cb) rfl (by kernel_rfl) (by kernel_rfl) (by kernel_rfl) (λ_ _ _ h=>h) (Or.inl ⟨by rfl,λw h=>by go_simp⟩) (by assumption) ?_
    try simp only [Act.put,List.setIfInBounds_toArray,List.set_cons_zero,List.set_cons_succ]
    refine wpAnyH_take (i:=5) (oi:={ dst:=some 22,op:=.move (.tmp 5),type:=3,pos := "book.go:130",after:=#[],guard:=none }) (v:=.int .i64 k) rfl (by kernel_rfl) (by kernel_rfl) (by kernel_rfl) (λ_ _ _ h=>h) (Or.inl ⟨by rfl,λw h=>by go_simp⟩) (by assumption) ?_
    try simp only [Act.put,List.setIfInBounds_toArray,List.set_cons_zero,List.set_cons_succ]
    refine wpAnyH_take (i:=6) (oi:={ dst:=some 23,op:=.indexAddr 41 (.tmp 21) (.tmp 22),type:=0,pos := "book.go:130",after:=#[{ on:=4,ground:=.data },{ on:=5,ground:=.data }],guard:=none }) (v:=.pointer (some ⟨gb,k*6,none⟩)) rfl (by kernel_rfl) (by kernel_rfl) (by kernel_rfl) (λ_ _ _ h=>h) (Or.inl ⟨by rfl,λw h=>by go_simp⟩) (by assumption) ?_
    try simp only [Act.put,List.setIfInBounds_toArray,List.set_cons_zero,List.set_cons_succ]
    refine wpAnyH_take (i:=7) (oi:={ dst:=some 24,op:=.load 75 (.tmp 23),type:=75,pos := "book.go:130",after:=#[{ on:=6,ground:=.data }],guard:=none }) (v:=.agg ds.toArray) rfl (by kernel_rfl) (by kernel_rfl) (by kernel_rfl) (λ_ _ _ h=>h) (yieldsIf_load_mid (by rfl) _ _ rfl _ _ rfl _ _ (λw h=>h.2) Tryd.underlying75 rfl ej.out) (by assumption) ?_
    try simp only [Act.put,List.setIfInBounds_toArray,List.set_cons_zero,List.set_cons_succ]
    refine wpAnyH_take (i:=8) (oi:={ dst:=some 25,op:=.binOp .neq 75 (.tmp 20) (.tmp 24) 75,type:=4,pos := "book.go:130",after:=#[{ on:=3,ground:=.data },{ on:=7,ground:=.data }],guard:=none }) (v:=.bool !r) rfl (by kernel_rfl) (by kernel_rfl) (by kernel_rfl) (λ_ _ _ h=>h) (Or.inl ⟨by rfl,λw h=>by go_simp⟩) (by assumption) ?_
    try simp only [Act.put,List.setIfInBounds_toArray,List.set_cons_zero,List.set_cons_succ]
    refine wpAnyH_done (by kernel_rfl) ?_ _;cases r
    ·go_wp2
     go_ret
     exact ⟨false,rfl,λh=>Hrt.out (He.out h),Y4 Hb.out⟩
    ·go_wp2
     exact ⟨⟨k+1,by omega,by go_num,Y4 Hb.out⟩,by simp [intOf];omega⟩
  ·obtain rfl:k=n:=by omega
   go_wp2
   go_ret
   exact ⟨true,rfl,λ_=>rfl,Hb.out⟩
theorem a7d (w:World)(n ga gb:Nat)(hn:n<=32)(f g:Nat->Value)(hf:w.rowIs ga 75 (n*6) f)(hg:w.rowIs gb 75 (n*6) g)
  (hc:∀ k,k<n->∃ r,Cmp 75 (cut f (k*6) 6) (cut g (k*6) 6) r/\(cut f (k*6) 6=cut g (k*6) 6->r=true)) :
  Calls Tryd.prog 37 #[.slice (some ⟨ga,0,none⟩) n n,.slice (some ⟨gb,0,none⟩) n n] w λe w'=>∃ r,e=.returned (.bool r)/\((∀ j,j<n*6->f j=g j)->r=true)/\Below w.heap.size w w' :=
 a7c w n ga gb hn f g hf (some ⟨gb,0,none⟩) n (λ_=>rfl) (λh=>⟨World.block_lt_of_cell? w ⟨gb,0,none⟩ (hg.cell (by omega)),λk hk=>y7 hg (o:=k*6) (m:=6) (by omega)⟩) hc
theorem a7F (w:World)(n ga gb:Nat)(hn:n<=32)(f g:Nat->Value)(hf:w.rowIs ga 55 (n*20) f)(bo:Option Addr)(cb:Nat)(hbo:0<n->bo=some ⟨gb,0,none⟩)(hg:0<n->gb<w.heap.size/\∀ k,k<n->w.rangeAt gb (k*20) (cut g (k*20) 20))
  (hc:∀ k,k<n->∃ r,Cmp 55 (cut f (k*20) 20) (cut g (k*20) 20) r/\(cut f (k*20) 20=cut g (k*20) 20->r=true)) :
  Calls Tryd.prog 38 #[.slice (some ⟨ga,0,none⟩) n n,.slice bo n cb] w λe w'=>∃ r,e=.returned (.bool r)/\((∀ j,j<n*20->f j=g j)->r=true)/\Below w.heap.size w w':=by
 have Hf:Hid (w.rowIs ga 55 (n*20) f):=hf;have Hg:Hid (0<n->gb<w.heap.size/\∀ k,k<n->w.rangeAt gb (k*20) (cut g (k*20) 20)):=hg;have Hbo:Hid (0<n->bo=some ⟨gb,0,none⟩):=hbo;have Hc:Hid (∀ k,k<n->∃ r,Cmp 55 (cut f (k*20) 20) (cut g (k*20) 20) r/\(cut f (k*20) 20=cut g (k*20) 20->r=true)):=hc;clear hf hg hc hbo
 go_enter Tryd.func38,Tryd.ntmps38
 go_wp2
 go_loopw [5] (λi w'=>∃ k:Nat,k<=n/\i=.int .i64 k/\Below w.heap.size w w') (λi _=>n - (intOf i).toNat)
 case atStart=>exact ⟨0,by omega,rfl,Below.refl _ _⟩
 case round =>
  obtain ⟨k,hk,rfl,hb⟩:=hrel;have Hb:Hid (Below w.heap.size w wr):=hb;clear hb
  by_cases hlt:k<n
  ·obtain ⟨r,hr,hrt⟩:=Hc.out k hlt;have Hrt:Hid (cut f (k*20) 20=cut g (k*20) 20->r=true):=hrt;have Lf:Hid (wr.rangeAt ga (k*20) (cut f (k*20) 20)):=by
    have h:=y7 (Hf.out.of_block (Hb.out.block _ (World.block_lt_of_cell? w ⟨ga,0,none⟩ (Hf.out.cell (by omega))))) (o:=k*20) (m:=20) (by omega);exact h
   have Lg:Hid (wr.rangeAt gb (k*20) (cut g (k*20) 20)):=by
    obtain ⟨hl,hr⟩:=Hg.out (by omega);exact λj v hv=>(World.cell?_of_block (w:=w) (a:=⟨gb,k*20+j,none⟩) (Hb.out.block _ hl)).trans (hr k hlt j v hv)
   have ei:Hid ((Tryd.prog.info? 55).map (·.size)=some (cut f (k*20) 20).length):=by unfold Hid;rw [A5];kernel_rfl
   have ej:Hid ((Tryd.prog.info? 55).map (·.size)=some (cut g (k*20) 20).length):=by unfold Hid;rw [A5];kernel_rfl
   have He:Hid ((∀ j,j<n*20->f j=g j)->cut f (k*20) 20=cut g (k*20) 20):=λh=>b2l (λj hj=>h _ (by omega));unfold Cmp at hr;clear hrt;generalize cut f (k*20) 20=cs at *;generalize cut g (k*20) 20=ds at *;have M1:∀ w':World,w'.rangeAt ga (k*20) cs/\w'.rangeAt gb (k*20) ds->(Instr.loadAt 55 (.pointer (some ⟨ga,k*20,none⟩))).run Tryd.prog w'=.ok (.agg cs.toArray) w':=λw' h=>run_loadAt_mid w' ga (k*20) 55 cs _ h.1 Tryd.underlying55 rfl ei.out;have M2:∀ w':World,w'.rangeAt ga (k*20) cs/\w'.rangeAt gb (k*20) ds->(Instr.loadAt 55 (.pointer (some ⟨gb,k*20,none⟩))).run Tryd.prog w'=.ok (.agg ds.toArray) w':=λw' h=>run_loadAt_mid w' gb (k*20) 55 ds _ h.2 Tryd.underlying55 rfl ej.out;have l1:wr.rangeAt ga (k*20) cs:=Lf.out;have l2:wr.rangeAt gb (k*20) ds:=Lg.out;have b1:(0:Int)<=(k:Int):=by omega
   have b2:(k:Int)<(n:Int):=by omega
   clear M1 M2;obtain rfl:bo=some ⟨gb,0,none⟩:=Hbo.out (by omega)
   ·go_wp2_with fail
    refine wp_region_held_drew (S:=λw'=>w'.rangeAt ga (k*20) cs/\w'.rangeAt gb (k*20) ds) (by kernel_rfl) ⟨(World.rangeAt_drew _ _ _ _).2 Lf.out,(World.rangeAt_drew _ _ _ _).2 Lg.out⟩ (λhS=>?_);refine wpAnyH_take (i:=0) (oi:={ dst:=some 17,op:=.move (.tmp 0),type:=42,pos := "book.go:142",after:=#[],guard:=none }) (v:=.slice (some ⟨ga,0,none⟩) n n) rfl (by kernel_rfl) (by kernel_rfl) (by kernel_rfl) (λ_ _ _ h=>h) (Or.inl ⟨by rfl,λw h=>by go_simp⟩) (by assumption) ?_
    try simp only [Act.put,List.setIfInBounds_toArray,List.set_cons_zero,List.set_cons_succ]
    refine wpAnyH_take (i:=1) (oi:={ dst:=some 18,op:=.move (.tmp 5),type:=3,pos := "book.go:142",after:=#[],guard:=none }) (v:=.int .i64 k) rfl (by kernel_rfl) (by kernel_rfl) (by kernel_rfl) (λ_ _ _ h=>h) (Or.inl ⟨by rfl,λw h=>by go_simp⟩) (by assumption) ?_
    try simp only [Act.put,List.setIfInBounds_toArray,List.set_cons_zero,List.set_cons_succ]
    refine wpAnyH_take (i:=2) (oi:={ dst:=some 19,op:=.indexAddr 42 (.tmp 17) (.tmp 18),type:=0,pos := "book.go:142",after:=#[{ on:=0,ground:=.data },{ on:=1,ground:=.data }],guard:=none }) (v:=.pointer (some ⟨ga,k*20,none⟩)) rfl (by kernel_rfl) (by kernel_rfl) (by kernel_rfl) (λ_ _ _ h=>h) (Or.inl ⟨by rfl,λw h=>by go_simp⟩) (by assumption) ?_
    try simp only [Act.put,List.setIfInBounds_toArray,List.set_cons_zero,List.set_cons_succ]
    refine wpAnyH_take (i:=3) (oi:={ dst:=some 20,op:=.load 55 (.tmp 19),type:=55,pos := "book.go:142",after:=#[{ on:=2,ground:=.data }],guard:=none }) (v:=.agg cs.toArray) rfl (by kernel_rfl) (by kernel_rfl) (by kernel_rfl) (λ_ _ _ h=>h) (yieldsIf_load_mid (by rfl) _ _ rfl _ _ rfl _ _ (λw h=>h.1) Tryd.underlying55 rfl ei.out) (by assumption) ?_
    try simp only [Act.put,List.setIfInBounds_toArray,List.set_cons_zero,List.set_cons_succ]
    refine wpAnyH_take (i:=4) (oi:={ dst:=some 21,op:=.move (.tmp 1),type:=42,pos := "book.go:142",after:=#[],guard:=none }) (v:=.slice (some ⟨gb,0,none⟩) n cb) rfl (by kernel_rfl) (by kernel_rfl) (by kernel_rfl) (λ_ _ _ h=>h) (Or.inl ⟨by rfl,λw h=>by go_simp⟩) (by assumption) ?_
    try simp only [Act.put,List.setIfInBounds_toArray,List.set_cons_zero,List.set_cons_succ]
    refine wpAnyH_take (i:=5) (oi:={ dst:=some 22,op:=.move (.tmp 5),type:=3,pos := "book.go:142",after:=#[],guard:=none }) (v:=.int .i64 k) rfl (by kernel_rfl) (by kernel_rfl) (by kernel_rfl) (λ_ _ _ h=>h) (Or.inl ⟨by rfl,λw h=>by go_simp⟩) (by assumption) ?_
    try simp only [Act.put,List.setIfInBounds_toArray,List.set_cons_zero,List.set_cons_succ]
    refine wpAnyH_take (i:=6) (oi:={ dst:=some 23,op:=.indexAddr 42 (.tmp 21) (.tmp 22),type:=0,pos := "book.go:142",after:=#[{ on:=4,ground:=.data },{ on:=5,ground:=.data }],guard:=none }) (v:=.pointer (some ⟨gb,k*20,none⟩)) rfl (by kernel_rfl) (by kernel_rfl) (by kernel_rfl) (λ_ _ _ h=>h) (Or.inl ⟨by rfl,λw h=>by go_simp⟩) (by assumption) ?_
    try simp only [Act.put,List.setIfInBounds_toArray,List.set_cons_zero,List.set_cons_succ]
    refine wpAnyH_take (i:=7) (oi:={ dst:=some 24,op:=.load 55 (.tmp 23),type:=55,pos := "book.go:142",after:=#[{ on:=6,ground:=.data }],guard:=none }) (v:=.agg ds.toArray) rfl (by kernel_rfl) (by kernel_rfl) (by kernel_rfl) (λ_ _ _ h=>h) (yieldsIf_load_mid (by rfl) _ _ rfl _ _ rfl _ _ (λw h=>h.2) Tryd.underlying55 rfl ej.out) (by assumption) ?_
    try simp only [Act.put,List.setIfInBounds_toArray,List.set_cons_zero,List.set_cons_succ]
    refine wpAnyH_take (i:=8) (oi:={ dst:=some 25,op:=.binOp .neq 55 (.tmp 20) (.tmp 24) 55,type:=4,pos := "book.go:142",after:=#[{ on:=3,ground:=.data },{ on:=7,ground:=.data }],guard:=none }) (v:=.bool !r) rfl (by kernel_rfl) (by kernel_rfl) (by kernel_rfl) (λ_ _ _ h=>h) (Or.inl ⟨by rfl,λw h=>by go_simp⟩) (by assumption) ?_
    try simp only [Act.put,List.setIfInBounds_toArray,List.set_cons_zero,List.set_cons_succ]
    refine wpAnyH_done (by kernel_rfl) ?_ _;cases r
    ·go_wp2
     go_ret
     exact ⟨false,rfl,λh=>Hrt.out (He.out h),Y4 Hb.out⟩
    ·go_wp2
     exact ⟨⟨k+1,by omega,by go_num,Y4 Hb.out⟩,by simp [intOf];omega⟩
  ·obtain rfl:k=n:=by omega
   go_wp2
   go_ret
   exact ⟨true,rfl,λ_=>rfl,Hb.out⟩
theorem a7G (w:World)(n ga gb:Nat)(hn:n<=32)(f g:Nat->Value)(hf:w.rowIs ga 55 (n*20) f)(hg:w.rowIs gb 55 (n*20) g)
  (hc:∀ k,k<n->∃ r,Cmp 55 (cut f (k*20) 20) (cut g (k*20) 20) r/\(cut f (k*20) 20=cut g (k*20) 20->r=true)) :
  Calls Tryd.prog 38 #[.slice (some ⟨ga,0,none⟩) n n,.slice (some ⟨gb,0,none⟩) n n] w λe w'=>∃ r,e=.returned (.bool r)/\((∀ j,j<n*20->f j=g j)->r=true)/\Below w.heap.size w w' :=
 a7F w n ga gb hn f g hf (some ⟨gb,0,none⟩) n (λ_=>rfl) (λh=>⟨World.block_lt_of_cell? w ⟨gb,0,none⟩ (hg.cell (by omega)),λk hk=>y7 hg (o:=k*20) (m:=20) (by omega)⟩) hc
attribute [local go_sem ↓] Go.wp_at_zero Go.wp_at_succ
theorem c1V (K K':Ker)(k:Nat):∃ r,Cmp 75 (cut (C8 K) (k*6) 6) (cut (C8 K') (k*6) 6) r/\(cut (C8 K) (k*6) 6=cut (C8 K') (k*6) 6->r=true) :=
 a5c (b1S (d:=9997) (λj hj=>⟨_,a0x _ _ _ _ hj⟩) (λj hj=>⟨_,a0x _ _ _ _ hj⟩))
theorem c2g (K K':Ker)(k:Nat):∃ r,Cmp 84 (cut (a1z K) (k*5) 5) (cut (a1z K') (k*5) 5) r/\(cut (a1z K) (k*5) 5=cut (a1z K') (k*5) 5->r=true) :=
 a5c (b4x (d:=9998) (λj hj=>⟨_,a0x _ _ _ _ hj⟩) (λj hj=>⟨_,a0x _ _ _ _ hj⟩))
theorem a0D (K:Ker)(k j:Nat)(h:j<20)(hj:¬ (4<=j/\j<=18/\j % 2=0)):W7 (cut (o0 K) (k*20) 20).toArray j :=
 ⟨_,by rw [a0x _ _ _ _ h,o0,show (k*20+j) % 20=j by omega,if_neg hj]⟩
theorem a7e (K:Ker)(k j:Nat)(h:j<20)(hj:4<=j/\j<=18/\j % 2=0):a3A (cut (o0 K) (k*20) 20).toArray j :=
 ⟨_,by rw [a0x _ _ _ _ h,o0,show (k*20+j) % 20=j by omega,if_pos hj]⟩
theorem a9f (K:Ker)(k:Nat):SlotAt (cut (o0 K) (k*20) 20).toArray :=
 ⟨a0D K k 0 (by omega) (by omega),a0D K k 1 (by omega) (by omega),a0D K k 2 (by omega) (by omega),λi hi=>⟨a0D K k _ (by omega) (by omega),a7e K k _ (by omega) (by omega)⟩,λi hi=>⟨a0D K k _ (by omega) (by omega),a7e K k _ (by omega) (by omega)⟩,a0D K k 19 (by omega) (by omega)⟩
theorem c2h (K K':Ker)(k:Nat):∃ r,Cmp 55 (cut (o0 K) (k*20) 20) (cut (o0 K') (k*20) 20) r/\(cut (o0 K) (k*20) 20=cut (o0 K') (k*20) 20->r=true) :=
 a5c (a8l (d:=9996) (a9f K k) (a9f K' k))
theorem a1O {B n:Nat}{a b c:World}(h:Below B a b)(k:Below n b c)(hn:B<=n):Below B a c :=
 h.trans ⟨k.os,k.tape,k.output,k.size,λi hi=>k.block i (Nat.lt_of_lt_of_le hi hn)⟩
theorem T6 {n:Nat}{W w1:World}(b:Below n W w1){g o:Nat}{v:Value}(hg:g<n)(h:W.cell? ⟨g,o,none⟩=some v):w1.cell? ⟨g,o,none⟩=some v :=
 (World.cell?_of_block (w:=W) (a:=⟨g,o,none⟩) (b.block g hg)).trans h
theorem W0 {w:World}{g t n:Nat}{f:Nat->Value}(h:w.rowIs g t n f):g<w.heap.size:=h.lt
theorem a7H (w:World)(K K':Ker)(hF:K.nF<=32)(hS:K.nS<=32)(hD:K.nD<=32)(eF:K'.nF=K.nF)(eS:K'.nS=K.nS)(eD:K'.nD=K.nD)(gF gS gD kF kS kD:Nat)(S1:Snap w gF gS gD K)(S2:Snap w kF kS kD K') :
  Calls Tryd.prog 14 #[A4 K gF gS gD,A4 K' kF kS kD] w λe w'=>∃ r,e=.returned (.bool r)/\(K'=K->r=true)/\Below w.heap.size w w':=by
 unfold A4;have s2f:=S2.f;have s2s:=S2.s;have s2d:=S2.d;rw [eF] at s2f ⊢;rw [eS] at s2s ⊢;rw [eD] at s2d ⊢;have H1:Hid (Snap w gF gS gD K):=S1;have H2:Hid (w.rowIs kF 75 (K.nF*6) (C8 K')/\w.rowIs kS 55 (K.nS*20) (o0 K')/\w.rowIs kD 84 (K.nD*5) (a1z K')):=⟨s2f,s2s,s2d⟩;clear S1 S2 s2f s2s s2d eF eS eD
 go_enter Tryd.func14,Tryd.ntmps14
 go_wp2_with fail
 obtain ⟨W,eW⟩:∃ W,W=(w.alloc (.cells #[.slice (some ⟨gF,0,none⟩) K.nF K.nF,.slice (some ⟨gS,0,none⟩) K.nS K.nS,.slice (some ⟨gD,0,none⟩) K.nD K.nD] 45)).alloc (.cells #[.slice (some ⟨kF,0,none⟩) K.nF K.nF,.slice (some ⟨kS,0,none⟩) K.nS K.nS,.slice (some ⟨kD,0,none⟩) K.nD K.nD] 45):=⟨_,rfl⟩;have y1:W.cell? ⟨w.heap.size,1,none⟩=some (.slice (some ⟨gS,0,none⟩) K.nS K.nS):=by rw [eW,World.cell?_alloc2_first];rfl
 have y2:W.cell? ⟨w.heap.size,2,none⟩=some (.slice (some ⟨gD,0,none⟩) K.nD K.nD):=by rw [eW,World.cell?_alloc2_first];rfl
 have z1:W.cell? ⟨w.heap.size+1,1,none⟩=some (.slice (some ⟨kS,0,none⟩) K.nS K.nS):=by rw [eW,World.cell?_alloc2_new];rfl
 have z2:W.cell? ⟨w.heap.size+1,2,none⟩=some (.slice (some ⟨kD,0,none⟩) K.nD K.nD):=by rw [eW,World.cell?_alloc2_new];rfl
 have HW:Hid (Below w.heap.size w W/\W.heap.size=w.heap.size+2):=by
  rw [eW];exact ⟨((Below.refl _ _).alloc (Nat.le_refl _) _).alloc (by simp) _,by simp⟩
 rw [← eW];clear eW;have Y1:Hid (W.cell? ⟨w.heap.size,1,none⟩=some (.slice (some ⟨gS,0,none⟩) K.nS K.nS)):=y1;have Y2:Hid (W.cell? ⟨w.heap.size,2,none⟩=some (.slice (some ⟨gD,0,none⟩) K.nD K.nD)):=y2;have Z1:Hid (W.cell? ⟨w.heap.size+1,1,none⟩=some (.slice (some ⟨kS,0,none⟩) K.nS K.nS)):=z1;have Z2:Hid (W.cell? ⟨w.heap.size+1,2,none⟩=some (.slice (some ⟨kD,0,none⟩) K.nD K.nD)):=z2;clear y1 y2 z1 z2;refine (a7d W K.nF gF kF hF (C8 K) (C8 K') (H1.out.f.of_block (HW.out.1.block _ (W0 H1.out.f))) (H2.out.1.of_block (HW.out.1.block _ (W0 H2.out.1))) (λk _=>c1V K K' k)).mono ?_;rintro e w1 ⟨r1,rfl,q1,b1⟩;have Q1:Hid (K'=K->r1=true):=λh=>q1 (λj _=>by rw [h]);have HB1:Hid (Below w.heap.size w w1/\w.heap.size+2<=w1.heap.size):=⟨a1O HW.out.1 b1 (by have:=HW.out.2;omega),by have:=HW.out.2;have:=b1.size;omega⟩;have y1:=T6 b1 (by have:=HW.out.2;omega) Y1.out;have z1:=T6 b1 (by have:=HW.out.2;omega) Z1.out;have Y3:Hid (w1.cell? ⟨w.heap.size,2,none⟩=some (.slice (some ⟨gD,0,none⟩) K.nD K.nD)):=T6 b1 (by have:=HW.out.2;omega) Y2.out;have Z3:Hid (w1.cell? ⟨w.heap.size+1,2,none⟩=some (.slice (some ⟨kD,0,none⟩) K.nD K.nD)):=T6 b1 (by have:=HW.out.2;omega) Z2.out;clear q1 b1
 go_wp2_with fail
 refine (a7G w1 K.nS gS kS hS (o0 K) (o0 K') (H1.out.s.of_block (HB1.out.1.block _ (W0 H1.out.s))) (H2.out.2.1.of_block (HB1.out.1.block _ (W0 H2.out.2.1))) (λk _=>c2h K K' k)).mono ?_;rintro e w2 ⟨r2,rfl,q2,b2⟩;have Q2:Hid (K'=K->r2=true):=λh=>q2 (λj _=>by rw [h]);have HB2:Hid (Below w.heap.size w w2):=a1O HB1.out.1 b2 (by have:=HB1.out.2;omega);have y2:=T6 b2 (by have:=HB1.out.2;omega) Y3.out;have z2:=T6 b2 (by have:=HB1.out.2;omega) Z3.out;clear q2 b2
 go_wp2_with fail
 refine (a7E w2 K.nD gD kD hD (a1z K) (a1z K') (H1.out.d.of_block (HB2.out.block _ (W0 H1.out.d))) (H2.out.2.2.of_block (HB2.out.block _ (W0 H2.out.2.2))) (λk _=>c2g K K' k)).mono ?_;rintro e w3 ⟨r3,rfl,q3,b3⟩;have Q3:Hid (K'=K->r3=true):=λh=>q3 (λj _=>by rw [h]);have HB3:Hid (Below w.heap.size w w3):=a1O HB2.out b3 HB2.out.size;clear q3 b3;cases r1<;>cases r2<;>cases r3
 all_goals go_wp2
 all_goals go_ret
 all_goals first|exact ⟨true,rfl,λ_=>rfl,HB3.out⟩|exact ⟨false,rfl,λh=>Q1.out h,HB3.out⟩|exact ⟨false,rfl,λh=>Q2.out h,HB3.out⟩|exact ⟨false,rfl,λh=>Q3.out h,HB3.out⟩
structure Kept (K K':Ker) (p:Nat):Prop where
 kind:K'.S p 0=K.S p 0
 table:K'.S p 2=K.S p 2
 mid:∀ j,3<=j->j<19->o0 K' (p*20+j)=o0 K (p*20+j)
 words:∀ j,j<4->K.S p (3+j*2)<0\/∃ n:Nat,K.S p (3+j*2)=n/\n<K.nF/\∀ i,i<6->K'.F n i=K.F n i
attribute [local go_sem ↓] Go.wp_at_zero Go.wp_at_succ
theorem Q0 {P:Program}{ops:Array Oper}{rest:List Oper}{op:Oper}{a:Act}{w:World}{Q:Exit->Act->World->Prop}(hgd:op.guard=none)(ty:TypeId)(x y:Operand)(ho:op.op=.store ty x y)
  (b o:Nat)(cells:Array Value)(hx:a.eval x=.pointer (some ⟨b,o,none⟩))(hy:a.eval y=.agg cells)
  (ht:w.there b o cells.size)(hi:(P.info? ty).map (·.size)=some cells.size)(h1:cells.all (·.oneCell')=true)
  (h:∀ W,W.rangeAt b o cells.toList->(∀ k,k≠b->W.heap[k]?=w.heap[k]?)->W.heap.size=w.heap.size->(∀ B a,Below B a w->B<=b->Below B a W)->wpList P ops Q rest (a.put op.dst undef) W):wpList P ops Q (op::rest) a w :=
 wpList_store_mid hgd ty x y ho b o cells hx hy ht hi h1 (h _ (World.rangeAt_setCells_same w b o _ (by rw [Array.length_toList];exact ht)) (λk hk=>E7 hk _ _ _) (u9 _ _ _) (λB a hb hB=>A0 hB _ _ hb))
theorem a8s (K:Ker)(p o:Nat)(h:o=3\/o=11):V9 4 (cut (o0 K) (p*20+o) 8).toArray 0:=λi hi=>by
 constructor
 ·refine ⟨K.S p (o+i*2),?_⟩;rw [Nat.zero_add,a0x _ _ _ _ (by omega)];unfold o0;rw [if_neg (by omega)]
  congr 2
  rw [show (p*20+o+i*2) / 20=p by omega,show (p*20+o+i*2) % 20=o+i*2 by omega]
 ·refine ⟨K.B p (o+i*2+1),?_⟩;rw [Nat.zero_add,a0x _ _ _ _ (by omega)];unfold o0;rw [if_pos (by omega)]
  congr 2
  rw [show (p*20+o+(i*2+1)) / 20=p by omega,show (p*20+o+(i*2+1)) % 20=o+i*2+1 by omega]
theorem b5j (K:Ker)(p:Nat):Cmp 53 (cut (o0 K) (p*20+11) 8) (cut (o0 K) (p*20+11) 8) true:=by
 obtain ⟨r,hr,e⟩:=a5c (t:=53) (a6L (d:=9997) (a8s K p 11 (by omega)) (a8s K p 11 (by omega)));obtain rfl:=e rfl;exact hr
theorem b5k (K:Ker)(n:Nat):Cmp 75 (cut (C8 K) (n*6) 6) (cut (C8 K) (n*6) 6) true:=by
 obtain ⟨r,hr,e⟩:=c1V K K n;obtain rfl:=e rfl;exact hr
theorem B3 (K:Ker)(p j:Nat)(hj:j<20)(h:¬ (4<=j/\j<=18/\j % 2=0)):o0 K (p*20+j)=.int .i64 (K.S p j):=by
 unfold o0;rw [if_neg (by omega),show (p*20+j) / 20=p by omega,show (p*20+j) % 20=j by omega]
theorem a8t {w:World}{b:Nat}{f:Nat->Value}{o m:Nat}(h:w.rangeAt b 0 (cut f o m)){j n:Nat}(hm:j+n<=m):w.rangeAt b j (cut f (o+j) n):=λi v hv=>by
 have e:=h (j+i) v ?_
 ·rw [Nat.zero_add] at e;rw [← e]
 ·by_cases hi:i<n
  ·simp [cut,hi] at hv;simp [cut,show j+i<m by omega,← hv,Nat.add_assoc]
  ·simp [cut,hi] at hv
theorem W3 {w:World}{b:Nat}{f:Nat->Value}{o m:Nat}(h:w.rangeAt b 0 (cut f o m)){j:Nat}(hj:j<m):w.cell? ⟨b,j,none⟩=some (f (o+j)):=by
 have e:=h j (f (o+j)) (by simp [cut,hj]);rw [Nat.zero_add] at e;exact e
theorem a5I (K:Ker)(o m:Nat):(cut (o0 K) o m).toArray.all (·.oneCell')=true :=
 all_oneCell_toArray (λv hv=>by
  unfold cut at hv;obtain ⟨j,_,rfl⟩:=List.mem_map.1 hv
  exact c0f K _)
structure Behind (W:World) (A B X Y:Nat) (gF kF m:Nat) (K:Ker) (p:Nat):Prop where
 a:W.cell? ⟨A,0,none⟩=some (.slice (some ⟨gF,0,none⟩) m m)
 b:W.cell? ⟨B,0,none⟩=some (.slice (some ⟨kF,0,none⟩) m m)
 x0:W.cell? ⟨X,0,none⟩=some (.int .i64 (K.S p 0))
 y0:W.cell? ⟨Y,0,none⟩=some (.int .i64 (K.S p 0))
 x2:W.cell? ⟨X,2,none⟩=some (.int .i64 (K.S p 2))
 y2:W.cell? ⟨Y,2,none⟩=some (.int .i64 (K.S p 2))
 xp:W.rangeAt X 3 (cut (o0 K) (p*20+3) 8)
 yp:W.rangeAt Y 3 (cut (o0 K) (p*20+3) 8)
 xf:W.rangeAt X 11 (cut (o0 K) (p*20+11) 8)
 yf:W.rangeAt Y 11 (cut (o0 K) (p*20+11) 8)
 pg:∀ j,j<4->W.cell? ⟨X,3+j*2,none⟩=some (.int .i64 (K.S p (3+j*2)))
theorem c0V (w:World)(A B:Obj)(c:Array Value)(t:TypeId)(m:Nat)(h:c.size=m):(((w.alloc A).alloc B).alloc (.cells c t)).there (w.heap.size+2) 0 m:=by
 have:=B5 (U5 ((w.alloc A).alloc B) c t) (o:=0) (m:=m) (by omega);simpa using this
theorem a0U (w:World)(c:Array Value)(t:TypeId)(m:Nat)(h:c.size=m):(w.alloc (.cells c t)).there w.heap.size 0 m :=
 B5 (U5 w c t) (o:=0) (m:=m) (by omega)
theorem a5q {W W':World}{b o:Nat}{cs:List Value}(h:W.rangeAt b o cs)(e:W'.heap[b]?=W.heap[b]?):W'.rangeAt b o cs:=λj v hv =>
 (World.cell?_of_block (w:=W) (a:=⟨b,o+j,none⟩) e).trans (h j v hv)
end Go.Proofs.YtcgabodkegcpgaaDoor
namespace Go.Proofs.YtcgabodkegcpgaaDoor
open Go.RowKit
open Br (OpD KO SO SP sfO Lk Fit Must DL Liv Clear)
noncomputable def a4y:Code :=
 match Tryd.f84.body with
 | some (.seq _ (.seq _ c))=>c
 | _=>.skip
def a0i (bo bx:Nat)(num a b c:Int)(t16 t17 t18:Value):Array Value :=
 #[.pointer (some ⟨bo,0,none⟩),.int .i64 num,.agg #[.int .i64 a,.int .i64 b,.int .i64 c],undef,undef,.pointer (some ⟨bx,0,none⟩),.int .i64 0,.int .i64 0,undef,undef,.pointer (some ⟨bo,0,none⟩),.pointer (some ⟨bo,0,none⟩),.pointer (some ⟨bo,12,none⟩),.bool false,.bool false,.pointer (some ⟨bo,0,none⟩),t16,t17,t18,
  undef,undef,undef,undef,undef,undef,undef,undef,undef,undef,undef,undef,undef,undef,undef,undef,undef,undef,undef,undef,undef,undef,undef,undef,undef,undef,undef]
theorem b5l {v:World}{bo bx bk bf bs bd:Nat}{K:Ker}(R:Rep v bk bf bs bd K)(T:Tab v)(Gd:Good K)(slot num a b c:Int){x11 x12:Value}
  (h3:v.cell? ⟨bo,3,none⟩=some (.pointer (some ⟨bk,0,none⟩)))(h4:v.cell? ⟨bo,4,none⟩=some (.int .i64 slot))(h11:v.cell? ⟨bo,11,none⟩=some x11)(h12:v.cell? ⟨bo,12,none⟩=some x12)(z11:v.frozen? ⟨bo,11,none⟩=false)(z12:v.frozen? ⟨bo,12,none⟩=false)
  (b0:v.cell? ⟨bx,0,none⟩=some (.int .i64 a))(b1:v.cell? ⟨bx,1,none⟩=some (.int .i64 b))(b2:v.cell? ⟨bx,2,none⟩=some (.int .i64 c))(hne:bx≠bo)(ho:bo≠bk/\bo≠bf/\bo≠bs/\bo≠bd/\bo≠0)(hx:bx≠bf/\bx≠bs/\bx≠bd) :
  a4y.wp Tryd.prog (λe a' v'=>e=.ret/\a'.defers=[]/\a'.tmps.getD 6 undef=.int .i64 (o8 K slot num a b c).n/\a'.tmps.getD 7 undef=.int .i64 (o8 K slot num a b c).e/\Rep v' bk bf bs bd (o8 K slot num a b c).K/\v.heap.size<=v'.heap.size /\
   (∀ k,k<v.heap.size->k≠bf->k≠bs->k≠bd->v'.heap[k]?=((v.setCell ⟨bo,11,none⟩ (.bool false)).setCell ⟨bo,12,none⟩ (.bool ((o8 K slot num a b c).e == 3))).heap[k]?)) ⟨a0i bo bx num a b c (.bool true) (.bool false) (.bool false),[]⟩ v:=by
 have hsz:∀ x:Value,(v.setCell ⟨bo,11,none⟩ x).heap.size=v.heap.size:=λx=>by simp [World.setCell]
 have hblk:∀ (u:World) (j:Nat) (x:Value) (k:Nat),k≠bo->(u.setCell ⟨bo,j,none⟩ x).heap[k]?=u.heap[k]?:=λu j x k hk=>by rw [Br.heap_setCell,if_neg (λe=>hk e.symm)]
 generalize hO:o8 K slot num a b c=O;have HO:Hid (o8 K slot num a b c=O):=hO;have HW:Hid (Rep (v.setCell ⟨bo,11,none⟩ (.bool false)) bk bf bs bd K/\Tab (v.setCell ⟨bo,11,none⟩ (.bool false))/\Good K):=⟨R.same (Nat.le_of_eq (hsz _).symm) (λk _ hk=>hblk _ _ _ _ (by rcases hk with rfl|rfl|rfl|rfl<;>first|exact Ne.symm ho.1|exact Ne.symm ho.2.1|exact Ne.symm ho.2.2.1|exact Ne.symm ho.2.2.2.1)),T.same (hblk _ _ _ _ (Ne.symm ho.2.2.2.2)),Gd⟩;have c3:(v.setCell ⟨bo,11,none⟩ (.bool false)).cell? ⟨bo,3,none⟩=some (.pointer (some ⟨bk,0,none⟩)):=(World.cell?_setCell_other v ⟨bo,11,none⟩ ⟨bo,3,none⟩ (.bool false) (by simp)).trans h3;have c4:(v.setCell ⟨bo,11,none⟩ (.bool false)).cell? ⟨bo,4,none⟩=some (.int .i64 slot):=(World.cell?_setCell_other v ⟨bo,11,none⟩ ⟨bo,4,none⟩ (.bool false) (by simp)).trans h4;have c12:(v.setCell ⟨bo,11,none⟩ (.bool false)).cell? ⟨bo,12,none⟩=some x12:=(World.cell?_setCell_other v ⟨bo,11,none⟩ ⟨bo,12,none⟩ (.bool false) (by simp)).trans h12;have d0:(v.setCell ⟨bo,11,none⟩ (.bool false)).cell? ⟨bx,0,none⟩=some (.int .i64 a):=(World.cell?_setCell_other v ⟨bo,11,none⟩ ⟨bx,0,none⟩ (.bool false) (by simp [Ne.symm hne])).trans b0;have d1:(v.setCell ⟨bo,11,none⟩ (.bool false)).cell? ⟨bx,1,none⟩=some (.int .i64 b):=(World.cell?_setCell_other v ⟨bo,11,none⟩ ⟨bx,1,none⟩ (.bool false) (by simp [Ne.symm hne])).trans b1;have d2:(v.setCell ⟨bo,11,none⟩ (.bool false)).cell? ⟨bx,2,none⟩=some (.int .i64 c):=(World.cell?_setCell_other v ⟨bo,11,none⟩ ⟨bx,2,none⟩ (.bool false) (by simp [Ne.symm hne])).trans b2;have e12:(v.setCell ⟨bo,11,none⟩ (.bool false)).frozen? ⟨bo,12,none⟩=false:=by rw [z6];exact z12
 have hS:Hid (bo<v.heap.size/\(∀ (u:World) (j:Nat) (x:Value) (k:Nat),k≠bo->(u.setCell ⟨bo,j,none⟩ x).heap[k]?=u.heap[k]?)/\(∀ x:Value,(v.setCell ⟨bo,11,none⟩ x).heap.size=v.heap.size)):=⟨World.block_lt_of_cell? _ _ h3,hblk,hsz⟩;clear hO R T Gd hblk hsz;unfold a4y a0i;simp only [Tryd.f84]
 go_wp2_with fail
 generalize hW:v.setCell ⟨bo,11,none⟩ (.bool false)=W at *;clear h3 h4 h11 h12 z11 z12 b0 b1 b2
 go_region_held3 (λw'=>w'.cell? ⟨bo,3,none⟩=some (.pointer (some ⟨bk,0,none⟩))/\w'.cell? ⟨bo,4,none⟩=some (.int .i64 slot)/\w'.cell? ⟨bx,0,none⟩=some (.int .i64 a)/\w'.cell? ⟨bx,1,none⟩=some (.int .i64 b)/\w'.cell? ⟨bx,2,none⟩=some (.int .i64 c)) ((repeat' apply And.intro)<;>(first|assumption|(go_keep;done)))
  (first|(go_at_call 11;refine (b0I HW.out.1.drew (HW.out.2.1.same (w':=W.drew) rfl) HW.out.2.2 slot num a b c).mono ?_;rintro e w4 ⟨rfl,R4,q4⟩;rw [HO.out] at R4 ⊢;have zo:w4.heap[bo]?=W.heap[bo]?:=q4.block bo (World.block_lt_of_cell? W _ c3) ho.2.1 ho.2.2.1 ho.2.2.2.1;have zx:w4.heap[bx]?=W.heap[bx]?:=q4.block bx (World.block_lt_of_cell? W _ d0) hx.1 hx.2.1 hx.2.2;have f3:=(World.cell?_of_block (w:=W) (a:=⟨bo,3,none⟩) zo).trans c3;have f4:=(World.cell?_of_block (w:=W) (a:=⟨bo,4,none⟩) zo).trans c4;have f12:=(World.cell?_of_block (w:=W) (a:=⟨bo,12,none⟩) zo).trans c12;have g0:=(World.cell?_of_block (w:=W) (a:=⟨bx,0,none⟩) zx).trans d0;have g1:=(World.cell?_of_block (w:=W) (a:=⟨bx,1,none⟩) zx).trans d1;have g2:=(World.cell?_of_block (w:=W) (a:=⟨bx,2,none⟩) zx).trans d2;have y12:w4.frozen? ⟨bo,12,none⟩=false:=(by simp only [World.frozen?,zo];exact e12);have H4:Hid (Rep w4 bk bf bs bd O.K/\Keeps bf bs bd W.drew w4):=⟨R4,q4⟩;clear zo zx R4 q4))
 go_wp2
 have hWs:W.heap.size=v.heap.size:=by rw [← hW];exact hS.out.2.2 _
 have hq:=H4.out.2;refine ⟨H4.out.1.same (by simp [World.setCell]) (λk _ hk=>hS.out.2.1 w4 12 _ k (by rcases hk with rfl|rfl|rfl|rfl<;>first|exact Ne.symm ho.1|exact Ne.symm ho.2.1|exact Ne.symm ho.2.2.1|exact Ne.symm ho.2.2.2.1)),Nat.le_trans (Nat.le_of_eq hWs.symm) hq.size,λk hk h1 h2 h3=>?_⟩;have e:w4.heap[k]?=W.heap[k]?:=hq.block k (by show k<W.heap.size;omega) h1 h2 h3;rw [Br.heap_setCell,Br.heap_setCell,e]
end Go.Proofs.YtcgabodkegcpgaaDoor
