/- What the kernel's Call does: the looks ahead of the switch, and the switch itself by whatever it is shown to do. -/
import Derived.Test.YtcgabodkegcpgaaDoorKer
import Derived.Test.YtcgabodkegcpgaaDoorRows
import Derived.ProofKit
import Derived.OpenShut
import Derived.Lib.LaidTab
import Derived.Conc.Holds
import Derived.SevenTiedAt
import Derived.LaidByTextLater
import Derived.Test.YtcgabodkegcpgaaDoorProg
import Derived.WalkKit
import Derived.Deep.MidRow
import Derived.Deep.Grids
import Derived.Deep.DeepHandedRow
import Derived.Deep.Strs
import Derived.Laws.IdiomArrays
import Derived.Conc.LeavingOf
set_option linter.unusedVariables false
set_option linter.unusedSimpArgs false
set_option maxHeartbeats 20000000
set_option maxRecDepth 100000
namespace Go.Proofs.YtcgabodkegcpgaaDoor
open Go.RowKit
structure Tab (w:World):Prop where
 t:∀ i,i<20->w.cell? ⟨0,i*4,none⟩=some (.bool (there i))
 a:∀ i j,i<20->j<3->w.cell? ⟨0,i*4+1+j,none⟩=some (.int .i64 ((i9 i).getD j 0))
theorem Tab.same {w w':World}(T:Tab w)(h:w'.heap[0]?=w.heap[0]?):Tab w' :=
 ⟨λi hi=>(World.cell?_of_block (w:=w) (a:=⟨0,i*4,none⟩) h).trans (T.t i hi),λi j hi hj=>(World.cell?_of_block (w:=w) (a:=⟨0,i*4+1+j,none⟩) h).trans (T.a i j hi hj)⟩
theorem Tab.lt {w:World}(T:Tab w):0<w.heap.size:=World.block_lt_of_cell? w ⟨0,0*4,none⟩ (T.t 0 (by omega))
theorem Tab.alloc {w:World}(T:Tab w)(o:Obj):Tab (w.alloc o):=T.same (Below.heap_alloc w o 0 T.lt)
theorem Tab.drewN {w:World}(T:Tab w)(n:Nat):Tab (w.drewN n):=T.same rfl
theorem Tab.keeps {bf bs bd:Nat}{w w':World}(T:Tab w)(k:Keeps bf bs bd w w')(h1:0<bf)(h2:0<bs)(h3:0<bd):Tab w':=T.same (k.block 0 T.lt (by omega) (by omega) (by omega))
section
variable {bk bf bs bd:Nat} {K:Ker} {w:World}
theorem a0E:∀ i,i<20->∀ j,j<3->0<=(i9 i).getD j 0/\(i9 i).getD j 0<=6:=by decide
theorem F4 {P:Program}{f:FuncId}{args:Array Value}{W:World}{a n:Nat}{v:Value}(h:Calls P f args (W.drewN (a+n)) λe w'=>e=.returned v/\w'=W.drewN (a+n)) :
  Calls P f args (W.drewN (a+n)) λe w''=>e=.returned v/\∃ m,w''=W.drewN (a+m):=h.mono λ_ _ ⟨he,hm⟩=>⟨he,n,hm⟩
theorem a9p (R:Rep w bk bf bs bd K)(T:Tab w)(slot call a b c:Int)
  (Hdo:Hid (∀ s n:Nat,slot=s->call=n->s<K.nS->n<20->(y9 K ((i9 n).getD 0 0) a=true/\y9 K ((i9 n).getD 1 0) b=true/\y9 K ((i9 n).getD 2 0) c=true) ->
   ∀ w1,Rep w1 bk bf bs bd K->Calls Tryd.prog 32 #[.pointer (some ⟨bk,0,none⟩),.int .i64 slot,.int .i64 call,.agg #[.int .i64 a,.int .i64 b,.int .i64 c]] w1 (Ends bk bf bs bd w1 (kDo K s n a b c)))) :
  Calls Tryd.prog 11 #[.pointer (some ⟨bk,0,none⟩),.int .i64 slot,.int .i64 call,.agg #[.int .i64 a,.int .i64 b,.int .i64 c]] w (Ends bk bf bs bd w (o8 K slot call a b c)):=by
 have HR:Hid (Rep w bk bf bs bd K):=R;have HT:Hid (Tab w):=T;have m2:=R.hS;have k1:=λo=>(HR.out.alloc o).k1;clear R T
 by_cases h1:0<=call/\call<20
 ·obtain ⟨n,rfl⟩:=Int.eq_ofNat_of_zero_le h1.1;have hn:n<20:=by omega
  have e1:X0 n 20=true:=by unfold X0;simp;omega
  have c1:=λo=>(HT.out.alloc o).t n hn
  by_cases h2:n=0
  ·have e2:there n=false:=by rw [h2];rfl
   have E:Hid (o8 K slot n a b c=⟨K,0,2⟩):=by unfold o8 Hid;rw [if_pos (Or.inr (by omega))]
   clear h1 h2
   go_enter Tryd.func11,Tryd.ntmps11
   go_wp2_with fail
   refine (F3 _ _ _).mono ?_;rintro e w1 ⟨rfl,rfl⟩
   go_wp2
   go_ret2
   exact Ends.mk E (HR.out.alloc _) ((Keeps.refl w).alloc _)
  ·have e2:there n=true:=by unfold there;simpa using h2
   by_cases h3:0<=slot/\slot<K.nS
   ·obtain ⟨s,rfl⟩:=Int.eq_ofNat_of_zero_le h3.1;have hs:s<K.nS:=by omega
    have e3:X0 s K.nS=true:=by unfold X0;simp;omega
    have c2:=λo=>(HR.out.alloc o).sk hs
    by_cases h4:K.S s 0=2
    ·have e4:(K.S s 0 != 2)=false:=by simpa using h4
     have E4:Hid (y9 K ((i9 n).getD 0 0) a=false\/y9 K ((i9 n).getD 1 0) b=false\/y9 K ((i9 n).getD 2 0) c=false->o8 K s n a b c=⟨K,0,4⟩):=by
      intro h;unfold o8;rw [if_neg (by omega),if_neg (by simp only [Int.toNat_natCast];omega),if_pos (by simp only [Int.toNat_natCast];exact h)]
     have E0:Hid (y9 K ((i9 n).getD 0 0) a=true/\y9 K ((i9 n).getD 1 0) b=true/\y9 K ((i9 n).getD 2 0) c=true->o8 K s n a b c=kDo K s n a b c):=by
      intro h;unfold o8;rw [if_neg (by omega),if_neg (by simp only [Int.toNat_natCast];omega),if_neg (by simp only [Int.toNat_natCast];rw [h.1,h.2.1,h.2.2];simp)];simp only [Int.toNat_natCast]
     have g0:=a0E n hn 0 (by omega);have g1:=a0E n hn 1 (by omega);have g2:=a0E n hn 2 (by omega);have q0:=λo=>(HT.out.alloc o).a n 0 hn (by omega);have q1:=λo=>(HT.out.alloc o).a n 1 hn (by omega);have q2:=λo=>(HT.out.alloc o).a n 2 hn (by omega);generalize ht0:(i9 n).getD 0 0=t0 at *;generalize ht1:(i9 n).getD 1 0=t1 at *;generalize ht2:(i9 n).getD 2 0=t2 at *;have Ht0:Hid (_=_):=ht0;have Ht1:Hid (_=_):=ht1;have Ht2:Hid (_=_):=ht2;clear ht0 ht1 ht2 h1 h3 h4;have i0:∀ w,(Instr.index 90 (.agg #[.int .i64 t0,.int .i64 t1,.int .i64 t2]) (.int .i64 0)).run Tryd.prog w=.ok (.int .i64 t0) w:=λ_=>by kernel_rfl
     have i1:∀ w,(Instr.index 90 (.agg #[.int .i64 t0,.int .i64 t1,.int .i64 t2]) (.int .i64 1)).run Tryd.prog w=.ok (.int .i64 t1) w:=λ_=>by kernel_rfl
     have i2:∀ w,(Instr.index 90 (.agg #[.int .i64 t0,.int .i64 t1,.int .i64 t2]) (.int .i64 2)).run Tryd.prog w=.ok (.int .i64 t2) w:=λ_=>by kernel_rfl
     obtain ⟨g01,g02⟩:=g0;obtain ⟨g11,g12⟩:=g1;obtain ⟨g21,g22⟩:=g2
     go_enter Tryd.func11,Tryd.ntmps11
     go_wp2_with fail
     refine (F3 _ _ _).mono ?_;rintro e w1 ⟨rfl,rfl⟩
     go_wp2_with fail
     refine (F3 _ _ _).mono ?_;rintro e w1 ⟨rfl,rfl⟩
     go_wp2_with fail
     go_loopw [45] (λi w'=>∃ k:Nat,k<=3/\i=.int .i64 k/\(1<=k->y9 K t0 a=true)/\(2<=k->y9 K t1 b=true)/\(3<=k->y9 K t2 c=true)/\∃ nq,w'=(w.alloc (.cells #[.int .i64 a,.int .i64 b,.int .i64 c] 33)).drewN nq) (λi _=>3 - (intOf i).toNat)
     case atStart=>exact ⟨0,by omega,rfl,by omega,by omega,by omega,0,rfl⟩
     case round =>
      obtain ⟨k,hk,rfl,f0,f1,f2,nq,rfl⟩:=hrel;obtain rfl|rfl|rfl|rfl:k=0\/k=1\/k=2\/k=3:=by omega
      ·by_cases z:t0=0
       ·have y:y9 K t0 a=true:=by simp [y9,z]
        have z':(t0 != 0)=false:=by simpa using z
        have Hy:Hid (y9 K t0 a=true):=y;clear z y
        go_wp2
        go_quiet (fail)
        go_wp2
        exact ⟨⟨1,by omega,rfl,λ_=>Hy.out,by omega,by omega,_,rfl⟩,by simp [intOf]⟩
       ·have z':(t0 != 0)=true:=by simpa using z
        by_cases y:X0 a (q9 K t0)=true
        ·have Hy:Hid (y9 K t0 a=true):=by unfold y9 Hid;unfold X0 at y;rw [y];simp
         clear z
         go_wp2
         go_quiet ((first|(go_at_call 31;exact F4 (U0 ((HR.out.alloc _).drewN _) t0 g01 g02))|(go_at_call 30;exact F4 (F3 _ _ _))))
         go_wp2
         exact ⟨⟨1,by omega,rfl,λ_=>Hy.out,by omega,by omega,_,rfl⟩,by simp [intOf]⟩
        ·have y':X0 a (q9 K t0)=false:=by simpa using y
         have Hy:Hid (y9 K t0 a=false):=by unfold y9 Hid;unfold X0 at y';rw [y'];simpa using z
         clear z y;have E:Hid (o8 K s n a b c=⟨K,0,4⟩):=E4.out (Or.inl Hy.out)
         go_wp2
         go_quiet ((first|(go_at_call 31;exact F4 (U0 ((HR.out.alloc _).drewN _) t0 g01 g02))|(go_at_call 30;exact F4 (F3 _ _ _))))
         go_wp2
         go_ret2
         exact Ends.mk E (((HR.out.alloc _).drewN _).drewN _) ((((Keeps.refl w).alloc _).drewN _).drewN _)
      ·by_cases z:t1=0
       ·have y:y9 K t1 b=true:=by simp [y9,z]
        have z':(t1 != 0)=false:=by simpa using z
        have Hy:Hid (y9 K t1 b=true):=y;clear z y
        go_wp2
        go_quiet (fail)
        go_wp2
        exact ⟨⟨2,by omega,rfl,λ_=>f0 (by omega),λ_=>Hy.out,by omega,_,rfl⟩,by simp [intOf]⟩
       ·have z':(t1 != 0)=true:=by simpa using z
        by_cases y:X0 b (q9 K t1)=true
        ·have Hy:Hid (y9 K t1 b=true):=by unfold y9 Hid;unfold X0 at y;rw [y];simp
         clear z
         go_wp2
         go_quiet ((first|(go_at_call 31;exact F4 (U0 ((HR.out.alloc _).drewN _) t1 g11 g12))|(go_at_call 30;exact F4 (F3 _ _ _))))
         go_wp2
         exact ⟨⟨2,by omega,rfl,λ_=>f0 (by omega),λ_=>Hy.out,by omega,_,rfl⟩,by simp [intOf]⟩
        ·have y':X0 b (q9 K t1)=false:=by simpa using y
         have Hy:Hid (y9 K t1 b=false):=by unfold y9 Hid;unfold X0 at y';rw [y'];simpa using z
         clear z y;have E:Hid (o8 K s n a b c=⟨K,0,4⟩):=E4.out (Or.inr (Or.inl Hy.out))
         go_wp2
         go_quiet ((first|(go_at_call 31;exact F4 (U0 ((HR.out.alloc _).drewN _) t1 g11 g12))|(go_at_call 30;exact F4 (F3 _ _ _))))
         go_wp2
         go_ret2
         exact Ends.mk E (((HR.out.alloc _).drewN _).drewN _) ((((Keeps.refl w).alloc _).drewN _).drewN _)
      ·by_cases z:t2=0
       ·have y:y9 K t2 c=true:=by simp [y9,z]
        have z':(t2 != 0)=false:=by simpa using z
        have Hy:Hid (y9 K t2 c=true):=y;clear z y
        go_wp2
        go_quiet (fail)
        go_wp2
        exact ⟨⟨3,by omega,rfl,λ_=>f0 (by omega),λ_=>f1 (by omega),λ_=>Hy.out,_,rfl⟩,by simp [intOf]⟩
       ·have z':(t2 != 0)=true:=by simpa using z
        by_cases y:X0 c (q9 K t2)=true
        ·have Hy:Hid (y9 K t2 c=true):=by unfold y9 Hid;unfold X0 at y;rw [y];simp
         clear z
         go_wp2
         go_quiet ((first|(go_at_call 31;exact F4 (U0 ((HR.out.alloc _).drewN _) t2 g21 g22))|(go_at_call 30;exact F4 (F3 _ _ _))))
         go_wp2
         exact ⟨⟨3,by omega,rfl,λ_=>f0 (by omega),λ_=>f1 (by omega),λ_=>Hy.out,_,rfl⟩,by simp [intOf]⟩
        ·have y':X0 c (q9 K t2)=false:=by simpa using y
         have Hy:Hid (y9 K t2 c=false):=by unfold y9 Hid;unfold X0 at y';rw [y'];simpa using z
         clear z y;have E:Hid (o8 K s n a b c=⟨K,0,4⟩):=E4.out (Or.inr (Or.inr Hy.out))
         go_wp2
         go_quiet ((first|(go_at_call 31;exact F4 (U0 ((HR.out.alloc _).drewN _) t2 g21 g22))|(go_at_call 30;exact F4 (F3 _ _ _))))
         go_wp2
         go_ret2
         exact Ends.mk E (((HR.out.alloc _).drewN _).drewN _) ((((Keeps.refl w).alloc _).drewN _).drewN _)
      ·have E:=E0.out ⟨f0 (by omega),f1 (by omega),f2 (by omega)⟩;have D:=Hdo.out s n rfl rfl hs hn (by rw [Ht0.out,Ht1.out,Ht2.out];exact ⟨f0 (by omega),f1 (by omega),f2 (by omega)⟩);have HE:Hid _:=E;have HD:Hid _:=D;clear E D
       go_wp2_with fail
       refine (HD.out _ ((HR.out.alloc _).drewN _)).mono ?_;rintro e w1 ⟨rfl,R1,q1⟩
       go_wp2
       go_ret2
       rw [HE.out];exact ⟨rfl,R1,(((Keeps.refl w).alloc _).drewN _).trans q1⟩
    ·have e4:(K.S s 0 != 2)=true:=by simpa using h4
     have E:Hid (o8 K s n a b c=⟨K,0,3⟩):=by unfold o8 Hid;rw [if_neg (by omega),if_pos (Or.inr (by simpa using h4))]
     clear h4 h1 h3
     go_enter Tryd.func11,Tryd.ntmps11
     go_wp2_with fail
     refine (F3 _ _ _).mono ?_;rintro e w1 ⟨rfl,rfl⟩
     go_wp2_with fail
     refine (F3 _ _ _).mono ?_;rintro e w1 ⟨rfl,rfl⟩
     go_wp2
     go_ret2
     exact Ends.mk E (HR.out.alloc _) ((Keeps.refl w).alloc _)
   ·have e3:X0 slot K.nS=false:=by unfold X0;simp;omega
    have E:Hid (o8 K slot n a b c=⟨K,0,3⟩):=by unfold o8 Hid;rw [if_neg (by omega),if_pos (Or.inl h3)]
    clear h1 h3
    go_enter Tryd.func11,Tryd.ntmps11
    go_wp2_with fail
    refine (F3 _ _ _).mono ?_;rintro e w1 ⟨rfl,rfl⟩
    go_wp2_with fail
    refine (F3 _ _ _).mono ?_;rintro e w1 ⟨rfl,rfl⟩
    go_wp2
    go_ret2
    exact Ends.mk E (HR.out.alloc _) ((Keeps.refl w).alloc _)
 ·have e1:X0 call 20=false:=by unfold X0;simp;omega
  have E:Hid (o8 K slot call a b c=⟨K,0,2⟩):=by unfold o8 Hid;rw [if_pos (Or.inl h1)]
  clear h1
  go_enter Tryd.func11,Tryd.ntmps11
  go_wp2_with fail
  refine (F3 _ _ _).mono ?_;rintro e w1 ⟨rfl,rfl⟩
  go_wp2
  go_ret2
  exact Ends.mk E (HR.out.alloc _) ((Keeps.refl w).alloc _)
end
end Go.Proofs.YtcgabodkegcpgaaDoor
namespace Go.Proofs.YtcgabodkegcpgaaDoor
open Go.ChangeShapes Go.WideShapes Go.ChangeAt Go.RowKit
theorem c0k:Tryd.prog.globalNamed "burrow/kernel.calls" = some 0:=by kernel_rfl
theorem c0l:(Tryd.prog.globals[0]?).map (·.type)=some 93:=by kernel_rfl
theorem a9q:Tryd.prog.cellsOf 92=4:=by kernel_rfl
theorem b3c:Tryd.prog.cellsOf 4=1:=by kernel_rfl
theorem a9r:Tryd.prog.cellsOf 90=3:=by kernel_rfl
theorem b0V:Tryd.prog.cellsOf 89=1:=by kernel_rfl
def b5y {H:Type}(i:Nat):DataW H:=.agg [.lit (.bool (there i)),.agg [.lit (.int .i64 ((i9 i).getD 0 0)),.lit (.int .i64 ((i9 i).getD 1 0)),.lit (.int .i64 ((i9 i).getD 2 0))]]
theorem b3d {H:Type}:(Rows.laid_burrow_kernel_calls:DataW H)=.agg ((List.range 20).map b5y):=rfl
theorem b3e {H:Type}{enc:TypeId × Value->H}{w:World}{base:Nat}{sp:Nat->Bool}{held:Bool}{fuel:Nat}{cs:List Value}{b:Bool}{x y z:Int}{p:List MemPlace}
  (h:DataW.trod enc Tryd.prog w base sp held fuel 92 cs=some (.agg [.lit (.bool b),.agg [.lit (.int .i64 x),.lit (.int .i64 y),.lit (.int .i64 z)]],p)) :
  cs=[.bool b,.int .i64 x,.int .i64 y,.int .i64 z]:=by
 obtain ⟨y0,y1,n,he,hl,h0,h1⟩:=trod_struct2 Tryd.underlying92 h;rw [a9q] at hl
 match cs,hl with
 | [c0,c1,c2,c3],_ =>
  obtain ⟨b',hb1,hb2⟩:=DataW.trod_bool Tryd.underlying4 h0;obtain ⟨xs,m,hm,hx,hxl,hxn,hxi⟩:=DataW.trod_array Tryd.underlying90 h1;have e0:=hxi 0 (by omega);have e1:=hxi 1 (by omega);have e2:=hxi 2 (by omega)
  match xs,hxn with
  | [d0,d1,d2],_ =>
   obtain ⟨i0,a0,a0',_⟩:=DataW.trod_int Tryd.underlying89 e0;obtain ⟨i1,a1,a1',_⟩:=DataW.trod_int Tryd.underlying89 e1;obtain ⟨i2,a2,a2',_⟩:=DataW.trod_int Tryd.underlying89 e2;subst hb2;subst a0' a1' a2';subst hx;simp only [Prod.mk.injEq,DataW.agg.injEq,List.cons.injEq,DataW.lit.injEq,Lit.bool.injEq,Lit.int.injEq,List.map_cons,List.map_nil,and_true,true_and] at he;rw [b3c] at hb1;rw [b0V,a9r] at a0 a1 a2;simp at hb1 a0 a1 a2;obtain ⟨⟨rfl,rfl,rfl,rfl⟩,_⟩:=he;simp [hb1,a0,a1,a2]
theorem c0m {laid:List (String × DataW Unit)}{W:World}(hl:laid=[("burrow/kernel.calls",Rows.laid_burrow_kernel_calls)])(h:laidMetH Tryd.prog laid W):Tab W:=by
 subst hl;have h':laidMet Tryd.prog [("burrow/kernel.calls",Rows.laid_burrow_kernel_calls)] W:=h;obtain ⟨ps,⟨g',t',cs,fuel,p,q,hg',ht',hvar,hd,_,_⟩,_⟩:=h';obtain rfl:=Option.some.inj (c0k.symm.trans hg');obtain rfl:=Option.some.inj (c0l.symm.trans ht');rw [b3d] at hd;obtain ⟨xs,m,hm,hx,hxl,hxn,hxi⟩:=DataW.trod_array Tryd.underlying93 hd;have hfst:xs.map (·.1)=(List.range 20).map b5y:=by
  have:=congrArg Prod.fst hx;simpa using this.symm
 have row:∀ i,i<20->(cs.toList.drop (i*4)).take 4=[.bool (there i),.int .i64 ((i9 i).getD 0 0),.int .i64 ((i9 i).getD 1 0),.int .i64 ((i9 i).getD 2 0)]:=λi hi=>by
  have e:=hxi i hi;rw [a9q] at e;have hlt:i<xs.length:=by omega
  have hg:(xs.map (·.1))[i]?=some (b5y i):=by rw [hfst,List.getElem?_map,List.getElem?_range hi];rfl
  rw [List.getElem?_map,List.getElem?_eq_getElem hlt] at hg;rw [List.getElem?_eq_getElem hlt] at e;have hx1:xs[i].1=b5y i:=by simpa using hg
  have hx2:xs[i]=(b5y i,xs[i].2):=by rw [← hx1]
  rw [hx2] at e;exact b3e e
 have cell:∀ i j,i<20->j<4->W.cell? ⟨0,i*4+j,none⟩=([.bool (there i),.int .i64 ((i9 i).getD 0 0),.int .i64 ((i9 i).getD 1 0),.int .i64 ((i9 i).getD 2 0)]:List Value)[j]?:=λi j hi hj=>by
  rw [World.var?_cell c0k hvar (i*4+j),← row i hi,List.getElem?_take,if_pos hj,List.getElem?_drop];simp
 refine ⟨λi hi=>?_,λi j hi hj=>?_⟩
 ·exact cell i 0 hi (by omega)
 ·have:=cell i (1+j) hi (by omega);rw [Nat.add_assoc,this];obtain rfl|rfl|rfl:j=0\/j=1\/j=2:=by omega
  all_goals rfl
end Go.Proofs.YtcgabodkegcpgaaDoor
namespace Go.Proofs.YtcgabodkegcpgaaDoor
open Go
theorem b3f (Lk:Looks){p:Pinned}{s:OpenSpec}{c:OpenClaim}(kinds:List LaidKind)(tests:Bool)(har:Bool × String)(lk:Bool)(hc:c.holds p s)(hw:c.wfByText s=true)(htie:c.laidByTextAt Lk p kinds tests)
  (hst:c.start=.entering)(hnb:c.noBlocks=false/\c.again=false)(hm:p.checked.prog.mainIs=some (har.1,har.2.toList))(hn:(!har.1 && har.2.isEmpty && !lk)=false)
  (hl:∀ f fn,p.checked.prog.funcNamed c.func=some f->p.checked.prog.funcs[f]?=some fn->lk=p.checked.prog.looks []/\∀ (j:Nat) t,fn.params[j]?=some t->p.checked.prog.wantsStandIn t=false)
  (hg:true=c.goesBy p.checked.prog) :
  Claim7.holds p (.plain s) { stood:={ row:=c,standIns:=[],harness:=har,looks:=lk },kinds:=[],alts:=[],goes:=true,laidByText:=true,laidKinds:=kinds,laidTests:=tests,laidLooks:=Lk }:=by
 have h6:Claim7.isSixth { stood:={ row:=c,standIns:=[],harness:=har,looks:=lk },kinds:=[] }=false:=by simpa [Claim7.isSixth] using hn
 exact ⟨Claim7.tied_new_at Lk kinds tests (Claim7.new_of_sixth hc har lk hst hnb hm h6 hl) hw,(λD hD=>by cases hD),htie,(λh=>by cases h),hg⟩
end Go.Proofs.YtcgabodkegcpgaaDoor
namespace Go.Proofs.YtcgabodkegcpgaaDoor
open Go.RowKit
end Go.Proofs.YtcgabodkegcpgaaDoor
namespace Go.Proofs.YtcgabodkegcpgaaDoor
open Go.ChangeShapes Go.WideShapes Go.ChangeAt Go.RowKit Go.Deep
theorem a4I:Tryd.prog.cellsOf 3=1:=by kernel_rfl
theorem a8y:Tryd.prog.cellsOf 30=3:=by kernel_rfl
section
variable {H:Type} {enc:TypeId × Value->H} {w:World} {base:Nat} {spare:Nat->Bool} {held:Bool} {fuel:Nat} {cs:List Value} {x:DataW H × List MemPlace}
theorem a4J {c:Value}(h:DataW.trod enc Tryd.prog w base spare held fuel 3 [c]=some x):∃ n,c=.int .i64 n/\-9223372036854775808<=n/\n<9223372036854775808:=by
 obtain ⟨n,hc,_,hw⟩:=DataW.trod_int Tryd.underlying3 h;simp only [List.cons.injEq,and_true] at hc;refine ⟨n,hc,?_⟩;simp only [Lit.wf,Bool.and_eq_true,decide_eq_true_eq] at hw;have e1:IntKind.i64.min=-9223372036854775808:=by decide
 have e2:IntKind.i64.max=9223372036854775807:=by decide
 rw [e1,e2] at hw;omega
theorem b0W {f0 f1 f2:Field}{t:TypeId}(ht:Tryd.prog.underlying t=some (.struct #[f0,f1,f2]))(hc:Tryd.prog.cellsOf t=3)(h0:f0.type=3/\f0.offset=0)(h1:f1.type=3/\f1.offset=1)(h2:f2.type=3/\f2.offset=2)
  (h:DataW.trod enc Tryd.prog w base spare held fuel t cs=some x):∃ a b c,cs=[.int .i64 a,.int .i64 b,.int .i64 c]/\(-9223372036854775808<=a/\a<9223372036854775808)/\(-9223372036854775808<=b/\b<9223372036854775808)/\(-9223372036854775808<=c/\c<9223372036854775808):=by
 obtain ⟨y0,y1,y2,n,_,hl,t0,t1,t2⟩:=trod_struct3 ht h;rw [hc] at hl
 match cs,hl with
 | [c0,c1,c2],_ =>
  rw [h0.1,h0.2,a4I] at t0;rw [h1.1,h1.2,a4I] at t1;rw [h2.1,h2.2,a4I] at t2;simp only [List.drop,List.take] at t0 t1 t2;obtain ⟨a,rfl,ha⟩:=a4J t0;obtain ⟨b,rfl,hb⟩:=a4J t1;obtain ⟨c,rfl,hc⟩:=a4J t2;exact ⟨a,b,c,rfl,ha,hb,hc⟩
theorem a9s (h:DataW.trod enc Tryd.prog w base spare held fuel 30 cs=some x):∃ a b c,cs=[.int .i64 a,.int .i64 b,.int .i64 c]/\(-9223372036854775808<=a/\a<9223372036854775808)/\(-9223372036854775808<=b/\b<9223372036854775808)/\(-9223372036854775808<=c/\c<9223372036854775808) :=
 b0W Tryd.underlying30 a8y ⟨rfl,rfl⟩ ⟨rfl,rfl⟩ ⟨rfl,rfl⟩ h
end
end Go.Proofs.YtcgabodkegcpgaaDoor
namespace Go.Proofs.YtcgabodkegcpgaaDoor
open Go Go.Conc
theorem a5K {H:Type}{enc:TypeId × Value->H}{a:Assume}{C:Checked}{os:Os}{f:FuncId}{fn:Func}{s:OpenSpec}{F:Stop.Interp}{conds:List PathCond}{apart fresh handsOn again:Bool}{laid:List (String × DataW Unit)}
  (own:ownKnob C.prog.godebug=none)(started:os.Started)(hfn:C.prog.funcs[f]?=some fn)
  (witness:∃ (w:World) (tape:Tape) (i:Input),w.os=os/\(w.forCall tape i).Shaped C.prog/\i.vars=[]/\Input.okWide C.prog (w.forCall tape i) .any w.heap.size f i /\
   s.preRow enc C.prog fn conds apart laid (w.forCall tape i).memory i.args/\a.holds C.prog (lone (Frame.enter C.prog f i.args .normal) [] (w.forCall tape i)))
  (runs:∀ (W:World) (base:Nat) (args:Array Value) (ds gs:List (DataW H)) (before:List MemPlace),
   (∀ (j:Nat) t v,fn.params[j]?=some t->args[j]?=some v->Value.okWide C.prog W .any base t v) ->
   DataW.Whole enc C.prog fn.params.toList s.vars apart W args.toList ds gs before ->
   (DataW.weightsEach C.prog (fn.params.toList ++ s.bare.plain.varTypes C.prog) (ds ++ gs)).all (·<=reachBytes)=true ->
   laidMetH C.prog laid W ->
   ∃ M last o w' t',runNT C.prog (M+1) (solo (G (Frame.enter C.prog f args .normal) []) W) #[]=(.ended o w',t')/\runN C.prog M (solo (G (Frame.enter C.prog f args .normal) []) W)=.next last /\
    step C.prog last=.ended o w'/\Conc.Good C.prog (λv W'=>(s.at F).post enc C.prog fn apart fresh handsOn again W args v W') last o w' t') :
  ReturnsInLeavingWide a C os f .any (s.preRow enc C.prog fn conds apart laid) ((s.at F).post enc C.prog fn apart fresh handsOn again):=by
 refine returnsInLeavingWide_of_good own started witness ?_;intro w tape i _ hsh _ hok hpre hholds;obtain ⟨_,_,_,fn',hfn',_,_,_,_,hval⟩:=hok;have e:fn'=fn:=Option.some.inj (hfn'.symm.trans hfn);subst e;obtain ⟨⟨hp,hl⟩,hz⟩:=hpre;obtain ⟨ds,gs,before,hw,hc,hk⟩:=OpenSpec.pre_parts hp;have hw':=DataW.Whole.of_heap (w':=w.forCall tape i) (by rfl) hw;obtain ⟨M,last,o,w',t',h1,h2,h3,h4⟩:=runs (w.forCall tape i) w.heap.size i.args ds gs before hval hw' (hz.weights hw) (hl.of_heap (by rfl));exact ⟨M,last,o,w',t',h1,h2,h3,h4.mono λv hp=>ChangeSpec.post_blind hp⟩
end Go.Proofs.YtcgabodkegcpgaaDoor
namespace Go.Proofs.YtcgabodkegcpgaaDoor
theorem Ker.become_F (K:Ker)(i:Nat)(a b:Int)(j c:Nat)(h:j≠i):(K.become i a b).F j c=K.F j c:=by
 simp [Ker.become,Ker.setF,upd,h]
theorem T7 {K:Ker}(G:Good K)(i c:Nat)(v:Int):Good (K.setF i c v):=⟨G.page,G.wr,G.file,G.duct,G.head,G.cnt,G.rd,G.wt,G.tab⟩
theorem a9t {K:Ker}(G:Good K)(i:Nat)(a b:Int):Good (K.become i a b) :=
 T7 (T7 (T7 (T7 (T7 (T7 G _ _ _) _ _ _) _ _ _) _ _ _) _ _ _) _ _ _
theorem a3F {K:Ker}(G:Good K)(s p:Nat)(f:Int)(b:Bool)(hp:p<4)(hf:f=-1\/(0<=f/\f<K.nF))(hb:b=true->f≠-1):Good (K.setPage s p f b):=by
 refine ⟨?_,?_,?_,G.duct,G.head,G.cnt,G.rd,G.wt,?_⟩
 ·intro i q hi hq;show upd K.S s (3+p*2) f i (3+q*2)=-1\/_
  by_cases e:i=s/\q=p
  ·obtain ⟨rfl,rfl⟩:=e;simp only [Ker.page,Ker.setPage,Ker.setS,Ker.setB,upd_same];exact hf
  ·have e':¬ (i=s/\3+q*2=3+p*2):=by omega
   simp only [Ker.page,Ker.setPage,Ker.setS,Ker.setB,f8 _ _ _ _ _ _ e'];exact G.page i q hi hq
 ·intro i q hi hq
  by_cases e:i=s/\q=p
  ·obtain ⟨rfl,rfl⟩:=e;simp only [Ker.wr,Ker.page,Ker.setPage,Ker.setS,Ker.setB,upd_same];exact hb
  ·have e':¬ (i=s/\3+q*2=3+p*2):=by omega
   have e'':¬ (i=s/\4+q*2=4+p*2):=by omega
   simp only [Ker.wr,Ker.page,Ker.setPage,Ker.setS,Ker.setB,f8 _ _ _ _ _ _ e',f8 _ _ _ _ _ _ e''];exact G.wr i q hi hq
 ·intro i x hi hx;have e':¬ (i=s/\11+x*2=3+p*2):=by omega
  simp only [Ker.file,Ker.setPage,Ker.setS,Ker.setB,f8 _ _ _ _ _ _ e'];exact G.file i x hi hx
 ·intro i hi;have e':¬ (i=s/\0=3+p*2):=by omega
  have e'':¬ (i=s/\2=3+p*2):=by omega
  simp only [Ker.setPage,Ker.setS,Ker.setB,f8 _ _ _ _ _ _ e',f8 _ _ _ _ _ _ e''];exact G.tab i hi
theorem b5z {K:Ker}(G:Good K){s p f:Nat}(hp:p<4)(hf:f<K.nF):Good (a0s K s p f).K:=by
 unfold a0s;split
 ·exact G
 split
 ·exact G
 exact a3F (a9t G f 2 s) s p f true hp (Or.inr ⟨by omega,by show (f:Int)<K.nF;omega⟩) (by omega)
theorem a4K (K:Ker)(d c:Nat)(v:Int)(i k:Nat):(K.setD d c v).D i k=if i=d/\k=c then v else K.D i k:=rfl
theorem a1p {K:Ker}(G:Good K)(d c:Nat)(v:Int)(h:(c=0/\0<=v/\v<K.nF)\/(c=1/\0<=v/\v<4)\/(c=2/\0<=v/\v<=4)\/(c=3/\0<=v/\v<=24)\/(c=4/\0<=v/\v<=24)):Good (K.setD d c v):=by
 refine ⟨G.page,G.wr,?_,?_,?_,?_,?_,?_,G.tab⟩
 ·intro i x hi hx;rw [a4K];rcases G.file i x hi hx with k|⟨k1,k2,k3⟩
  ·exact Or.inl k
  ·refine Or.inr ⟨k1,k2,?_⟩;split
   ·omega
   ·exact k3
 ·intro i hi;rw [a4K];have:=G.duct i hi;split
  ·right;show 0<=v/\v<K.nF;omega
  ·exact this
 ·intro i hi;rw [a4K];have:=G.head i hi;split<;>omega
 ·intro i hi;rw [a4K];have:=G.cnt i hi;split<;>omega
 ·intro i hi;rw [a4K];have:=G.rd i hi;split<;>omega
 ·intro i hi;rw [a4K];have:=G.wt i hi;split<;>omega
theorem a3G {K:Ker}(G:Good K)(s x:Nat)(d:Int)(b:Bool)(hx:x<4)(hd:d=-1\/(0<=d/\d<K.nD/\0<=K.D d.toNat 0)):Good (K.setFile s x d b):=by
 refine ⟨?_,?_,?_,G.duct,G.head,G.cnt,G.rd,G.wt,?_⟩
 ·intro i q hi hq;have e':¬ (i=s/\3+q*2=11+x*2):=by omega
  simp only [Ker.page,Ker.setFile,Ker.setS,Ker.setB,f8 _ _ _ _ _ _ e'];exact G.page i q hi hq
 ·intro i q hi hq;have e':¬ (i=s/\3+q*2=11+x*2):=by omega
  have e'':¬ (i=s/\4+q*2=12+x*2):=by omega
  simp only [Ker.wr,Ker.page,Ker.setFile,Ker.setS,Ker.setB,f8 _ _ _ _ _ _ e',f8 _ _ _ _ _ _ e''];exact G.wr i q hi hq
 ·intro i y hi hy
  by_cases e:i=s/\y=x
  ·obtain ⟨rfl,rfl⟩:=e;simp only [Ker.file,Ker.setFile,Ker.setS,Ker.setB,upd_same];exact hd
  ·have e':¬ (i=s/\11+y*2=11+x*2):=by omega
   simp only [Ker.file,Ker.setFile,Ker.setS,Ker.setB,f8 _ _ _ _ _ _ e'];exact G.file i y hi hy
 ·intro i hi;have e':¬ (i=s/\0=11+x*2):=by omega
  have e'':¬ (i=s/\2=11+x*2):=by omega
  simp only [Ker.setFile,Ker.setS,Ker.setB,f8 _ _ _ _ _ _ e',f8 _ _ _ _ _ _ e''];exact G.tab i hi
theorem a7r {K:Ker}(G:Good K)(s x d:Nat)(b:Bool)(hx:x<4)(hd:d<K.nD)(h0:0<=K.D d 0)(h3:0<=K.D d 3/\K.D d 3<24)(h4:0<=K.D d 4/\K.D d 4<24):Good (K.openFile s x d b):=by
 have G1:Good (K.setFile s x d b):=a3G G s x d b hx (Or.inr ⟨by omega,by omega,by simpa using h0⟩);cases b
 ·exact a1p G1 d 3 (K.D d 3+1) (by omega)
 ·exact a1p G1 d 4 (K.D d 4+1) (by omega)
theorem b0X {K:Ker}(G:Good K)(s p x:Nat)(v:Int):Good (J4 K s p x v).K:=by
 unfold J4;split
 ·exact G
 ·exact T7 G _ _ _
def W5 (nF nS nD:Nat):Ker:={ nF:=nF,nS:=nS,nD:=nD,F:=λ_ c=>if c=1 then -1 else 0,S:=λ_ c=>if c=0\/c=19 then 0 else -1,B:=λ_ _=>false,D:=λ_ c=>if c=0 then -1 else 0 }
def D7 (nF nS nD:Nat):Ker:=(((W5 nF nS nD).become 0 1 0).setS 0 0 2).setS 0 2 0
theorem a9u (nF nS nD:Nat)(hF:2<=nF):Good (D7 nF nS nD):=by
 refine ⟨?_,?_,?_,?_,?_,?_,?_,?_,?_⟩
 ·intro i p hi hp;left;have e':¬ (i=0/\3+p*2=0):=by omega
  have e'':¬ (i=0/\3+p*2=2):=by omega
  have e3:¬ (3+p*2=0\/3+p*2=19):=by omega
  simp only [Ker.page,D7,W5,Ker.become,Ker.setS,Ker.setF,f8 _ _ _ _ _ _ e',f8 _ _ _ _ _ _ e'',if_neg e3]
 ·intro i p hi hp h;cases h
 ·intro i x hi hx;left;have e':¬ (i=0/\11+x*2=0):=by omega
  have e'':¬ (i=0/\11+x*2=2):=by omega
  have e3:¬ (11+x*2=0\/11+x*2=19):=by omega
  simp only [Ker.file,D7,W5,Ker.become,Ker.setS,Ker.setF,f8 _ _ _ _ _ _ e',f8 _ _ _ _ _ _ e'',if_neg e3]
 ·intro d hd;left;rfl
 ·intro d hd;show (0:Int)<=0/\(0:Int)<4;omega
 ·intro d hd;show (0:Int)<=0/\(0:Int)<=4;omega
 ·intro d hd;show (0:Int)<=0/\(0:Int)<=24;omega
 ·intro d hd;show (0:Int)<=0/\(0:Int)<=24;omega
 ·intro i hi h
  by_cases e:i=0
  ·subst e;show 0<=(0:Int)/\(0:Int)<nF;omega
  ·exfalso;apply h;have e':¬ (i=0/\0=0):=by omega
   have e'':¬ (i=0/\0=2):=by omega
   simp only [D7,W5,Ker.become,Ker.setS,Ker.setF,f8 _ _ _ _ _ _ e',f8 _ _ _ _ _ _ e''];rfl
def K9 (p:Nat->Bool):Nat->Nat
 | 0=>0
 | n+1=>K9 p n+if p n then 1 else 0
theorem a3m (p:Nat->Bool):∀ n,K9 p n<=n
 | 0=>Nat.le_refl _
 | n+1=>by have:=a3m p n;unfold K9;split<;>omega
theorem Y7 {p q:Nat->Bool}:∀ n,(∀ j,j<n->p j=q j)->K9 p n=K9 q n
 | 0,_=>rfl
 | n+1,h=>by unfold K9;rw [Y7 n (λj hj=>h j (by omega)),h n (by omega)]
theorem a3H {p q:Nat->Bool}(k:Nat):∀ n,k<n->(∀ j,j<n->j≠k->p j=q j)->K9 q n+(if p k then 1 else 0)=K9 p n+(if q k then 1 else 0)
 | 0,h,_=>by omega
 | n+1,h,e=>by
  unfold K9
  by_cases hk:k=n
  ·subst hk;rw [Y7 k (λj hj=>e j (by omega) (by omega))];omega
  ·have ih:=a3H k n (by omega) (λj hj hne=>e j (by omega) hne);rw [e n (by omega) (λh=>hk h.symm)];omega
theorem a1A {p:Nat->Bool}:∀ n,K9 p n=0->∀ j,j<n->p j=false
 | 0,_,j,hj=>by omega
 | n+1,h,j,hj=>by
  unfold K9 at h
  by_cases e:j=n
  ·subst e;cases hp:p j
   ·rfl
   ·rw [hp] at h;simp at h
  ·exact a1A n (by omega) j (by omega)
def Ker.isEnd (K:Ker)(d:Nat)(b:Bool)(j:Nat):Bool:=K.file (j / 4) (j % 4) == (d:Int) && K.end (j / 4) (j % 4) == b
def Ker.ends (K:Ker)(d:Nat)(b:Bool):Nat:=K9 (K.isEnd d b) (K.nS*4)
structure Inv (K:Ker):Prop where
 good:Good K
 hS:K.nS<=6
 rds:∀ d,d<K.nD->K.D d 3=K.ends d false
 wts:∀ d,d<K.nD->K.D d 4=K.ends d true
theorem a5L {K K':Ker}(hn:K'.nS=K.nS)(h:∀ i x,i<K.nS->x<4->K'.file i x=K.file i x/\K'.end i x=K.end i x)(d:Nat)(b:Bool):K'.ends d b=K.ends d b:=by
 unfold Ker.ends;rw [hn];refine Y7 _ λj hj=>?_;unfold Ker.isEnd;have hi:j / 4<K.nS:=by omega
 have hx:j % 4<4:=by omega
 rw [(h _ _ hi hx).1,(h _ _ hi hx).2]
theorem Inv.of {K K':Ker}(I:Inv K)(G:Good K')(hn:K'.nS=K.nS)(hd:K'.nD=K.nD)(h:∀ i x,i<K.nS->x<4->K'.file i x=K.file i x/\K'.end i x=K.end i x)
  (hD:∀ d,d<K.nD->K'.D d 3=K.D d 3/\K'.D d 4=K.D d 4):Inv K':=by
 refine ⟨G,by rw [hn];exact I.hS,λd hdn=>?_,λd hdn=>?_⟩
 ·rw [hd] at hdn;rw [(hD d hdn).1,I.rds d hdn,a5L hn h]
 ·rw [hd] at hdn;rw [(hD d hdn).2,I.wts d hdn,a5L hn h]
theorem a0q (K:Ker)(s x:Nat)(d:Int)(b:Bool)(i y:Nat)(hy:y<4)(hx:x<4):(K.setFile s x d b).file i y=if i=s/\y=x then d else K.file i y:=by
 show upd K.S s (11+x*2) d i (11+y*2)=_;unfold upd Ker.file
 by_cases e:i=s/\y=x
 ·rw [if_pos e,if_pos (by omega)]
 ·rw [if_neg e,if_neg (by omega)]
theorem a1X (K:Ker)(s x:Nat)(d:Int)(b:Bool)(i y:Nat)(hy:y<4)(hx:x<4):(K.setFile s x d b).end i y=if i=s/\y=x then b else K.end i y:=by
 show upd K.B s (12+x*2) b i (12+y*2)=_;unfold upd Ker.end
 by_cases e:i=s/\y=x
 ·rw [if_pos e,if_pos (by omega)]
 ·rw [if_neg e,if_neg (by omega)]
theorem a1B (K:Ker)(s x:Nat)(d':Int)(b':Bool)(hs:s<K.nS)(hx:x<4)(d:Nat)(b:Bool) :
  (K.setFile s x d' b').ends d b+(if K.file s x=d/\K.end s x=b then 1 else 0)=K.ends d b+(if d'=d/\b'=b then 1 else 0):=by
 have h:=a3H (p:=K.isEnd d b) (q:=(K.setFile s x d' b').isEnd d b) (s*4+x) (K.nS*4) (by omega) (λj hj hne=>by
  unfold Ker.isEnd;have e:¬ (j / 4=s/\j % 4=x):=by omega
  rw [a0q K s x d' b' _ _ (by omega) hx,a1X K s x d' b' _ _ (by omega) hx,if_neg e,if_neg e])
 have q1:(s*4+x) / 4=s:=by omega
 have q2:(s*4+x) % 4=x:=by omega
 have dec:∀ (u v:Int) (f g:Bool),(u == v && f == g)=decide (u=v/\f=g):=λu v f g=>by
  rw [Bool.eq_iff_iff];simp
 have p1:K.isEnd d b (s*4+x)=decide (K.file s x=d/\K.end s x=b):=by
  unfold Ker.isEnd;rw [q1,q2];exact dec _ _ _ _
 have p2:(K.setFile s x d' b').isEnd d b (s*4+x)=decide (d'=d/\b'=b):=by
  unfold Ker.isEnd;rw [q1,q2,a0q K s x d' b' _ _ hx hx,a1X K s x d' b' _ _ hx hx,if_pos ⟨rfl,rfl⟩,if_pos ⟨rfl,rfl⟩];exact dec _ _ _ _
 rw [p1,p2] at h;simp only [decide_eq_true_eq] at h;exact h
theorem Inv.bounds {K:Ker}(I:Inv K){d:Nat}(b:Bool):K.ends d b<=24:=by
 have:=a3m (K.isEnd d b) (K.nS*4);have:=I.hS;unfold Ker.ends;omega
theorem Inv.room {K:Ker}(I:Inv K){s x:Nat}(hs:s<K.nS)(hx:x<4)(hf:K.file s x=-1)(d:Nat)(b:Bool):K.ends d b<24:=by
 have h:=a1B K s x d b hs hx d b;rw [if_neg (by rw [hf];omega),if_pos ⟨rfl,rfl⟩] at h;have:=a3m ((K.setFile s x d b).isEnd d b) (K.nS*4);have e:(K.setFile s x d b).ends d b=K9 ((K.setFile s x d b).isEnd d b) (K.nS*4):=rfl;have:=I.hS;omega
theorem a0X (K:Ker)(d:Nat)(b:Bool)(m:Int)(i:Nat):(K.count d b m).D i 3=(if i=d/\b=false then K.D d 3+m else K.D i 3)/\(K.count d b m).D i 4=(if i=d/\b=true then K.D d 4+m else K.D i 4):=by
 cases b
 ·simp [Ker.count,Ker.setD,upd]
 ·simp [Ker.count,Ker.setD,upd]
theorem O7 (K:Ker)(d:Nat)(b:Bool)(m:Int):(K.count d b m).nF=K.nF/\(K.count d b m).nS=K.nS/\(K.count d b m).nD=K.nD/\(K.count d b m).S=K.S/\(K.count d b m).B=K.B/\(K.count d b m).F=K.F:=by
 cases b<;>exact ⟨rfl,rfl,rfl,rfl,rfl,rfl⟩
theorem a5M (K:Ker)(d:Nat)(b:Bool)(m:Int)(d':Nat)(b':Bool):(K.count d b m).ends d' b'=K.ends d' b':=by
 cases b<;>rfl
theorem a0r {K:Ker}(I:Inv K){s x d:Nat}(b:Bool)(hs:s<K.nS)(hx:x<4)(hd:d<K.nD)(h0:0<=K.D d 0)(hf:K.file s x=-1):Inv (K.openFile s x d b):=by
 have r3:=I.rds d hd;have r4:=I.wts d hd;have b3:=I.room hs hx hf d false;have b4:=I.room hs hx hf d true;have G:=a7r I.good s x d b hx hd h0 (by omega) (by omega);have E:∀ d' b',(K.openFile s x d b).ends d' b'=K.ends d' b'+(if d=d'/\b=b' then 1 else 0):=λd' b'=>by
  unfold Ker.openFile;rw [a5M];have h:=a1B K s x d b hs hx d' b';rw [if_neg (by rw [hf];omega)] at h;have e:((d:Int)=(d':Int)/\b=b')↔(d=d'/\b=b'):=⟨λk=>⟨by omega,k.2⟩,λk=>⟨by omega,k.2⟩⟩;simp only [e] at h;omega
 have sz:=O7 (K.setFile s x d b) d b 1;refine ⟨G,by show ((K.setFile s x d b).count d b 1).nS<=6;rw [sz.2.1];exact I.hS,λd' hd'=>?_,λd' hd'=>?_⟩
 ·have hd2:d'<K.nD:=by have:d'<((K.setFile s x d b).count d b 1).nD:=hd';rw [sz.2.2.1] at this;exact this
  rw [E d' false];show ((K.setFile s x d b).count d b 1).D d' 3=_;rw [(a0X _ d b 1 d').1];have:=I.rds d' hd2;show (if d'=d/\b=false then K.D d 3+1 else K.D d' 3)=_
  by_cases e:d'=d/\b=false
  ·obtain ⟨rfl,rfl⟩:=e;simp;omega
  ·rw [if_neg e,if_neg (by intro h;exact e ⟨h.1.symm,h.2⟩)];omega
 ·have hd2:d'<K.nD:=by have:d'<((K.setFile s x d b).count d b 1).nD:=hd';rw [sz.2.2.1] at this;exact this
  rw [E d' true];show ((K.setFile s x d b).count d b 1).D d' 4=_;rw [(a0X _ d b 1 d').2];have:=I.wts d' hd2;show (if d'=d/\b=true then K.D d 4+1 else K.D d' 4)=_
  by_cases e:d'=d/\b=true
  ·obtain ⟨rfl,rfl⟩:=e;simp;omega
  ·rw [if_neg e,if_neg (by intro h;exact e ⟨h.1.symm,h.2⟩)];omega
end Go.Proofs.YtcgabodkegcpgaaDoor
