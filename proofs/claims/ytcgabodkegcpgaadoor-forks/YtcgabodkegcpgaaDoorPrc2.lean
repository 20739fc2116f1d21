/- What the kernel's calls Spawn, Drop, Dup, Give do (each for every kernel whose numbers are ones). -/
import Derived.Test.YtcgabodkegcpgaaDoorNew1
import Derived.Deep.RegionHeld3
import Derived.Deep.DrawnRows
import Derived.Test.YtcgabodkegcpgaaDoorRul
set_option linter.unusedVariables false
set_option linter.unusedSimpArgs false
set_option maxHeartbeats 20000000
set_option maxRecDepth 100000
namespace Go.Proofs.YtcgabodkegcpgaaDoor
open Go.RowKit
section
variable {bk bf bs bd:Nat} {K:Ker} {w:World}
theorem b5a (R:Rep w bk bf bs bd K){s c f:Nat}(z:Int)(hs:s<K.nS)(hc:c<K.nS)(hf:f<K.nF) :
  Calls Tryd.prog 48 #[.pointer (some ⟨bk,0,none⟩),.int .i64 s,.agg #[.int .i64 c,.int .i64 f,.int .i64 z]] w (Ends bk bf bs bd w (J5 K s c f)):=by
 have HR:Hid (Rep w bk bf bs bd K):=R;have hn:=R.hS;have hm:=R.hF;have k1:=λo=>(HR.out.alloc o).k1;have c0:=λo=>(HR.out.alloc o).sk hc;clear R
 by_cases h1:K.S c 0=0
 ·have e1:(K.S c 0 != 0)=false:=by simpa using h1
  by_cases h2:K.F f 0=0
  ·have e2:(K.F f 0 == 0)=true:=by simpa using h2
   have E:Hid (J5 K s c f=⟨(((K.become f 1 c).setS c 0 1).setS c 1 s).setS c 2 f,0,0⟩):=by unfold J5;simp [h1,h2,Hid]
   clear h1 h2
   go_enter Tryd.func48,Tryd.ntmps48
   go_wp2
   go_quiet (fail)
   go_wp2_with fail
   refine (G4 ((HR.out.alloc _).drewN _) hf).mono ?_;rintro e w1 ⟨rfl,rfl⟩
   go_wp2_with fail
   refine (P1 ((HR.out.alloc _).drewN _) 1 _ hf).mono ?_;rintro e w1 ⟨rfl,R1,q1⟩;have r0:=R1.k1;have r1:=R1.sk hc;have r2:=R1.sp hc;have r3:=R1.st hc;have r4:=R1.zs;have r5:c<(K.become f 1 c).nS:=hc;have n1:=R1.ks;have n2:bs≠bk:=λe=>n1 e.symm;have r6:=R1.hS;have HR1:Hid _:=R1;have Hq1:Hid _:=q1;clear R1 q1;generalize K.become f 1 c=K1 at *
   go_wp2
   go_ret2
   have Ra:=HR1.out.setS (c:=0) (o:=c*20) r5 (by omega) a2g rfl 1;have Rb:=Ra.setS (c:=1) (o:=c*20+1) r5 (by omega) a6d rfl s;have Rc:=Rb.setS (c:=2) (o:=c*20+2) r5 (by omega) a6e rfl f;exact Ends.mk E Rc (((((((Keeps.refl w).alloc _).drewN _).trans Hq1.out).setS _ _).setS _ _).setS _ _)
  ·have e2:(K.F f 0 == 0)=false:=by simpa using h2
   have E:Hid (J5 K s c f=⟨K,0,5⟩):=by unfold J5;simp [h1,h2,Hid]
   clear h1 h2
   go_enter Tryd.func48,Tryd.ntmps48
   go_wp2
   go_quiet (fail)
   go_wp2_with fail
   refine (G4 ((HR.out.alloc _).drewN _) hf).mono ?_;rintro e w1 ⟨rfl,rfl⟩
   go_wp2
   go_ret2
   exact Ends.mk E ((HR.out.alloc _).drewN _) (((Keeps.refl w).alloc _).drewN _)
 ·have e1:(K.S c 0 != 0)=true:=by simpa using h1
  have E:Hid (J5 K s c f=⟨K,0,7⟩):=by unfold J5;simp [h1,Hid]
  clear h1
  go_enter Tryd.func48,Tryd.ntmps48
  go_wp2
  go_quiet (fail)
  go_wp2
  go_ret2
  exact Ends.mk E ((HR.out.alloc _).drewN _) (((Keeps.refl w).alloc _).drewN _)
theorem b7J (R:Rep w bk bf bs bd K)(G:Good K){s c p:Nat}(z:Int)(hs:s<K.nS)(hc:c<K.nS)(hp:p<4) :
  Calls Tryd.prog 53 #[.pointer (some ⟨bk,0,none⟩),.int .i64 s,.agg #[.int .i64 c,.int .i64 p,.int .i64 z]] w (Ends bk bf bs bd w (U8 K s c p)):=by
 have HR:Hid (Rep w bk bf bs bd K):=R;clear R
 by_cases h0:K.still s c=true
 ·by_cases h1:K.page c p=-1
  ·have e1:(K.S c (3+p*2) != -1)=false:=by simpa [Ker.page] using h1
   have E:Hid (U8 K s c p=⟨K,0,6⟩):=by unfold U8;simp [h0,h1,Hid]
   clear h1
   go_enter Tryd.func53,Tryd.ntmps53
   go_wp2
   go_quiet (fail)
   go_wp2_with fail
   refine (G0 ((HR.out.alloc _).drewN _) hc).mono ?_;rintro e w1 ⟨rfl,rfl⟩
   go_wp2_with fail
   refine (s8 ((HR.out.alloc _).drewN _) hc hp).mono ?_;rintro e w1 ⟨rfl,rfl⟩
   go_wp2
   go_ret2
   exact Ends.mk E ((HR.out.alloc _).drewN _) (((Keeps.refl w).alloc _).drewN _)
  ·have e1:(K.S c (3+p*2) != -1)=true:=by simpa [Ker.page] using h1
   obtain ⟨g,hg⟩:∃ g:Nat,K.page c p=g:=by rcases G.page c p hc hp with h|h;exact absurd h h1;exact ⟨(K.page c p).toNat,by omega⟩
   have hl:g<K.nF:=by rcases G.page c p hc hp with h|h;exact absurd h h1;omega
   have E:Hid (U8 K s c p=⟨K.freePage c p,0,0⟩):=by unfold U8;simp [h0,h1,Hid]
   have Hg:Hid (K.page c p=g):=hg;clear h1 hg
   go_enter Tryd.func53,Tryd.ntmps53
   go_wp2
   go_quiet (fail)
   go_wp2_with fail
   refine (G0 ((HR.out.alloc _).drewN _) hc).mono ?_;rintro e w1 ⟨rfl,rfl⟩
   go_wp2_with fail
   refine (s8 ((HR.out.alloc _).drewN _) hc hp).mono ?_;rintro e w1 ⟨rfl,rfl⟩
   go_wp2_with fail
   refine (a4f ((HR.out.alloc _).drewN _) hc hp Hg.out hl).mono ?_;rintro e w1 ⟨rfl,R1,q1⟩
   go_wp2
   go_ret2
   exact Ends.mk E R1 ((((Keeps.refl w).alloc _).drewN _).trans q1)
 ·have h0':K.still s c=false:=by simpa using h0
  have E:Hid (U8 K s c p=⟨K,0,7⟩):=by unfold U8;simp [h0',Hid]
  clear h0
  go_enter Tryd.func53,Tryd.ntmps53
  go_wp2
  go_quiet (fail)
  go_wp2_with fail
  refine (G0 ((HR.out.alloc _).drewN _) hc).mono ?_;rintro e w1 ⟨rfl,rfl⟩
  go_wp2
  go_ret2
  exact Ends.mk E ((HR.out.alloc _).drewN _) (((Keeps.refl w).alloc _).drewN _)
theorem b9z (R:Rep w bk bf bs bd K)(G:Good K){s x t:Nat}(z:Int)(hs:s<K.nS)(hx:x<4)(ht:t<4) :
  Calls Tryd.prog 57 #[.pointer (some ⟨bk,0,none⟩),.int .i64 s,.agg #[.int .i64 x,.int .i64 t,.int .i64 z]] w (Ends bk bf bs bd w (a2f K s x t)):=by
 have HR:Hid (Rep w bk bf bs bd K):=R;have hn:=R.hS;have k1:=λo=>(HR.out.alloc o).k1;clear R
 by_cases h1:K.file s x=-1
 ·have e1:(K.S s (11+x*2) != -1)=false:=by simpa [Ker.file] using h1
  have E:Hid (a2f K s x t=⟨K,0,8⟩):=by unfold a2f;simp [h1,Hid]
  clear h1
  go_enter Tryd.func57,Tryd.ntmps57
  go_wp2
  go_quiet (fail)
  go_wp2_with fail
  refine (z7 ((HR.out.alloc _).drewN _) hs hx).mono ?_;rintro e w1 ⟨rfl,rfl⟩
  go_wp2
  go_ret2
  exact Ends.mk E ((HR.out.alloc _).drewN _) (((Keeps.refl w).alloc _).drewN _)
 ·have e1:(K.S s (11+x*2) != -1)=true:=by simpa [Ker.file] using h1
  by_cases h2:K.file s t=-1
  ·have e2:(K.S s (11+t*2) != -1)=false:=by simpa [Ker.file] using h2
   obtain ⟨d,hd⟩:∃ d:Nat,K.file s x=d:=by rcases G.file s x hs hx with h|h;exact absurd h h1;exact ⟨(K.file s x).toNat,by omega⟩
   have hdn:d<K.nD:=by rcases G.file s x hs hx with h|h;exact absurd h h1;omega
   have E:Hid (a2f K s x t=⟨K.openFile s t d (K.end s x),0,0⟩):=by unfold a2f;simp [h2,hd,Hid]
   have c1:∀ o,(w.alloc o).cell? ⟨bs,s*20+11+x*2,none⟩=some (.int .i64 d):=λo=>by rw [(HR.out.alloc o).ff hs hx];exact congrArg (λq=>some (Value.int .i64 q)) hd
   have c2:∀ o,(w.alloc o).cell? ⟨bs,s*20+11+x*2+1,none⟩=some (.bool (K.end s x)):=λo=>(HR.out.alloc o).fe hs hx;have h3:=G.rd d hdn;have h4:=G.wt d hdn;have H3:Hid _:=h3;have H4:Hid _:=h4;clear h1 h2 hd h3 h4;generalize K.end s x=b at *
   go_enter Tryd.func57,Tryd.ntmps57
   go_wp2
   go_quiet (fail)
   go_wp2_with fail
   refine (z7 ((HR.out.alloc _).drewN _) hs hx).mono ?_;rintro e w1 ⟨rfl,rfl⟩
   go_wp2_with fail
   refine (z7 ((HR.out.alloc _).drewN _) hs ht).mono ?_;rintro e w1 ⟨rfl,rfl⟩
   go_wp2_with fail
   refine (a0w ((HR.out.alloc _).drewN _) b hs ht hdn H3.out H4.out).mono ?_;rintro e w1 ⟨rfl,R1,q1⟩
   go_wp2
   go_ret2
   exact Ends.mk E R1 ((((Keeps.refl w).alloc _).drewN _).trans q1)
  ·have e2:(K.S s (11+t*2) != -1)=true:=by simpa [Ker.file] using h2
   have E:Hid (a2f K s x t=⟨K,0,8⟩):=by unfold a2f;simp [h2,Hid]
   clear h1 h2
   go_enter Tryd.func57,Tryd.ntmps57
   go_wp2
   go_quiet (fail)
   go_wp2_with fail
   refine (z7 ((HR.out.alloc _).drewN _) hs hx).mono ?_;rintro e w1 ⟨rfl,rfl⟩
   go_wp2_with fail
   refine (z7 ((HR.out.alloc _).drewN _) hs ht).mono ?_;rintro e w1 ⟨rfl,rfl⟩
   go_wp2
   go_ret2
   exact Ends.mk E ((HR.out.alloc _).drewN _) (((Keeps.refl w).alloc _).drewN _)
theorem b7K (R:Rep w bk bf bs bd K)(G:Good K){s c x t:Nat}(hs:s<K.nS)(hc:c<K.nS)(hx:x<4)(ht:t<4) :
  Calls Tryd.prog 50 #[.pointer (some ⟨bk,0,none⟩),.int .i64 s,.agg #[.int .i64 c,.int .i64 x,.int .i64 t]] w (Ends bk bf bs bd w (Q6 K s c x t)):=by
 have HR:Hid (Rep w bk bf bs bd K):=R;have hn:=R.hS;have k1:=λo=>(HR.out.alloc o).k1;clear R
 by_cases h0:K.embryo s c=true
 ·by_cases h1:K.file s x=-1
  ·have e1:(K.S s (11+x*2) != -1)=false:=by simpa [Ker.file] using h1
   have E:Hid (Q6 K s c x t=⟨K,0,8⟩):=by unfold Q6;simp [h0,h1,Hid]
   clear h1
   go_enter Tryd.func50,Tryd.ntmps50
   go_wp2
   go_quiet (fail)
   go_wp2_with fail
   refine (B2 ((HR.out.alloc _).drewN _) hc).mono ?_;rintro e w1 ⟨rfl,rfl⟩
   go_wp2_with fail
   refine (z7 ((HR.out.alloc _).drewN _) hs hx).mono ?_;rintro e w1 ⟨rfl,rfl⟩
   go_wp2
   go_ret2
   exact Ends.mk E ((HR.out.alloc _).drewN _) (((Keeps.refl w).alloc _).drewN _)
  ·have e1:(K.S s (11+x*2) != -1)=true:=by simpa [Ker.file] using h1
   by_cases h2:K.file c t=-1
   ·have e2:(K.S c (11+t*2) != -1)=false:=by simpa [Ker.file] using h2
    obtain ⟨d,hd⟩:∃ d:Nat,K.file s x=d:=by rcases G.file s x hs hx with h|h;exact absurd h h1;exact ⟨(K.file s x).toNat,by omega⟩
    have hdn:d<K.nD:=by rcases G.file s x hs hx with h|h;exact absurd h h1;omega
    have E:Hid (Q6 K s c x t=⟨K.openFile c t d (K.end s x),0,0⟩):=by unfold Q6;simp [h0,h2,hd,Hid]
    have c1:∀ o,(w.alloc o).cell? ⟨bs,s*20+11+x*2,none⟩=some (.int .i64 d):=λo=>by rw [(HR.out.alloc o).ff hs hx];exact congrArg (λq=>some (Value.int .i64 q)) hd
    have c2:∀ o,(w.alloc o).cell? ⟨bs,s*20+11+x*2+1,none⟩=some (.bool (K.end s x)):=λo=>(HR.out.alloc o).fe hs hx;have h3:=G.rd d hdn;have h4:=G.wt d hdn;have H3:Hid _:=h3;have H4:Hid _:=h4;clear h1 h2 hd h3 h4;generalize K.end s x=b at *
    go_enter Tryd.func50,Tryd.ntmps50
    go_wp2
    go_quiet (fail)
    go_wp2_with fail
    refine (B2 ((HR.out.alloc _).drewN _) hc).mono ?_;rintro e w1 ⟨rfl,rfl⟩
    go_wp2_with fail
    refine (z7 ((HR.out.alloc _).drewN _) hs hx).mono ?_;rintro e w1 ⟨rfl,rfl⟩
    go_wp2_with fail
    refine (z7 ((HR.out.alloc _).drewN _) hc ht).mono ?_;rintro e w1 ⟨rfl,rfl⟩
    go_wp2_with fail
    refine (a0w ((HR.out.alloc _).drewN _) b hc ht hdn H3.out H4.out).mono ?_;rintro e w1 ⟨rfl,R1,q1⟩
    go_wp2
    go_ret2
    exact Ends.mk E R1 ((((Keeps.refl w).alloc _).drewN _).trans q1)
   ·have e2:(K.S c (11+t*2) != -1)=true:=by simpa [Ker.file] using h2
    have E:Hid (Q6 K s c x t=⟨K,0,8⟩):=by unfold Q6;simp [h0,h2,Hid]
    clear h1 h2
    go_enter Tryd.func50,Tryd.ntmps50
    go_wp2
    go_quiet (fail)
    go_wp2_with fail
    refine (B2 ((HR.out.alloc _).drewN _) hc).mono ?_;rintro e w1 ⟨rfl,rfl⟩
    go_wp2_with fail
    refine (z7 ((HR.out.alloc _).drewN _) hs hx).mono ?_;rintro e w1 ⟨rfl,rfl⟩
    go_wp2_with fail
    refine (z7 ((HR.out.alloc _).drewN _) hc ht).mono ?_;rintro e w1 ⟨rfl,rfl⟩
    go_wp2
    go_ret2
    exact Ends.mk E ((HR.out.alloc _).drewN _) (((Keeps.refl w).alloc _).drewN _)
 ·have h0':K.embryo s c=false:=by simpa using h0
  have E:Hid (Q6 K s c x t=⟨K,0,7⟩):=by unfold Q6;simp [h0',Hid]
  clear h0
  go_enter Tryd.func50,Tryd.ntmps50
  go_wp2
  go_quiet (fail)
  go_wp2_with fail
  refine (B2 ((HR.out.alloc _).drewN _) hc).mono ?_;rintro e w1 ⟨rfl,rfl⟩
  go_wp2
  go_ret2
  exact Ends.mk E ((HR.out.alloc _).drewN _) (((Keeps.refl w).alloc _).drewN _)
end
attribute [local go_sem ↓] Go.wp_at_zero Go.wp_at_succ
section
variable {bk bf bs bd:Nat} {K:Ker} {w:World}
def Ker.shutOff (K:Ker)(s x d:Nat)(b:Bool):Ker:=(K.setFile s x (-1) false).count d b (-1)
theorem a9a (K:Ker)(s x d:Nat)(hd:K.file s x=d) :
  K.closeFile s x=if (K.shutOff s x d (K.end s x)).D d 3=0/\(K.shutOff s x d (K.end s x)).D d 4=0 then ((K.shutOff s x d (K.end s x)).become ((K.shutOff s x d (K.end s x)).D d 0).toNat 0 (-1)).noDuct d (-1) else K.shutOff s x d (K.end s x):=by
 unfold Ker.closeFile;rw [hd,Int.toNat_natCast];rfl
theorem a7A (K:Ker)(s x d:Nat)(b:Bool):(K.shutOff s x d b).nF=K.nF/\(K.shutOff s x d b).nS=K.nS/\(K.shutOff s x d b).nD=K.nD:=by
 cases b<;>exact ⟨rfl,rfl,rfl⟩
theorem a7B (K:Ker)(s x d:Nat)(b:Bool):(K.shutOff s x d b).D d 0=K.D d 0:=by
 cases b<;>simp [Ker.shutOff,Ker.count,Ker.setFile,Ker.setS,Ker.setB,Ker.setD,upd]
theorem a3i (R:Rep w bk bf bs bd K){s x d h:Nat}(hs:s<K.nS)(hx:x<4)(hd:K.file s x=d)(hdn:d<K.nD)(h3:0<=K.D d 3/\K.D d 3<=24)(h4:0<=K.D d 4/\K.D d 4<=24)(hh:K.D d 0=h)(hhl:h<K.nF) :
  Calls Tryd.prog 74 #[.pointer (some ⟨bk,0,none⟩),.int .i64 s,.int .i64 x] w λe w'=>e=.returned (.tuple #[])/\Rep w' bk bf bs bd (K.closeFile s x)/\Keeps bf bs bd w w':=by
 have E:=a9a K s x d hd;have z1:=a7A K s x d (K.end s x);have z2:=a7B K s x d (K.end s x);have HR:Hid (Rep w bk bf bs bd K):=R;have hn:=R.hS;have hm:=R.hD;have hf:=R.hF;have k1:=R.k1;have k1':=λo=>(HR.out.alloc o).k1;have c1:w.cell? ⟨bs,s*20+11+x*2,none⟩=some (.int .i64 d):=by rw [HR.out.ff hs hx];exact congrArg (λq=>some (Value.int .i64 q)) hd
 have c2:w.cell? ⟨bs,s*20+11+x*2+1,none⟩=some (.bool (K.end s x)):=HR.out.fe hs hx;have c1':∀ o,(w.alloc o).cell? ⟨bs,s*20+11+x*2,none⟩=some (.int .i64 d):=λo=>by rw [(HR.out.alloc o).ff hs hx];exact congrArg (λq=>some (Value.int .i64 q)) hd
 have c2':∀ o,(w.alloc o).cell? ⟨bs,s*20+11+x*2+1,none⟩=some (.bool (K.end s x)):=λo=>(HR.out.alloc o).fe hs hx;have zz:=λo=>(HR.out.alloc o).zs;have n1:bs≠w.heap.size:=Nat.ne_of_lt R.ls;have n2:w.heap.size≠bs:=λe=>n1 e.symm;have n3:w.heap.size≠bf:=λe=>Nat.ne_of_lt R.lf e.symm;have n4:w.heap.size≠bd:=λe=>Nat.ne_of_lt R.ld e.symm;have n5:bk≠w.heap.size:=Nat.ne_of_lt R.lk;have H3:Hid _:=h3;have H4:Hid _:=h4;have Hn:Hid (w.heap.size≠bf/\w.heap.size≠bs/\w.heap.size≠bd):=⟨n3,n2,n4⟩;clear R h3 h4 hd;generalize hb:K.end s x=b at *;clear hb;have HE:Hid _:=E;have Hz1:Hid _:=z1;have Hz2:Hid (_=(h:Int)):=z2.trans hh;clear E z1 z2 hh
 go_enter Tryd.func74,Tryd.ntmps74
 go_wp2_with fail
 refine (a4x (K:=K.setFile s x (-1) false) (((HR.out.alloc _).setS (c:=11+x*2) hs (by omega) (a6f x) (by omega) _).setB (c:=12+x*2) hs (c0y x hx) (by omega) _) b (-1) hdn (by omega) H3.out H4.out).mono ?_;rintro e w2 ⟨rfl,R2,q2⟩;have HR2:Hid (Rep w2 bk bf bs bd (K.shutOff s x d b)):=R2;have b0:w2.cell? ⟨w.heap.size,0,none⟩=some (.int .i64 d):=by
  rw [q2.cell (by simp) Hn.out.1 Hn.out.2.1 Hn.out.2.2,l8 _ _ (Or.inl Hn.out.2.1),l8 _ _ (Or.inl Hn.out.2.1)];exact cell_of_row _ _ 0 _ _ _ (heap_alloc_new w _)
 have Hq2:Hid (Keeps bf bs bd w w2):=((((Keeps.refl w).alloc _).setS _ _).setS _ _).trans q2;have lb:w.heap.size<w2.heap.size:=by have:=q2.size;simp at this;omega
 clear R2 q2 c1 c2 c1' c2' zz k1 k1';obtain ⟨y1,y2,y3⟩:=Hz1.out;have dn1:d<(K.shutOff s x d b).nD:=by rw [y3];exact hdn
 have hF1:h<(K.shutOff s x d b).nF:=by rw [y1];exact hhl
 have D0:(K.shutOff s x d b).D d 0=h:=Hz2.out;have HD0:Hid _:=D0;clear y1 y2 y3 D0 Hz1 Hz2;generalize hK1:K.shutOff s x d b=K1 at *;clear hK1 H3 H4;have r2:=HR2.out.k2;have d0:w2.cell? ⟨bd,d*5,none⟩=some (.int .i64 h):=by rw [HR2.out.d0 dn1,HD0.out]
 have d1:=HR2.out.d1 dn1;have d2:=HR2.out.d2 dn1;have d3:=HR2.out.d3 dn1;have d4:=HR2.out.d4 dn1;have m1:=HR2.out.hD;have lk:w2.heap.size≠bk:=λe=>Nat.ne_of_lt HR2.out.lk e.symm;have ld:w2.heap.size≠bd:=λe=>Nat.ne_of_lt HR2.out.ld e.symm;have lw:w2.heap.size≠w.heap.size:=by omega
 go_wp2_with fail
 go_region_held3 (λw'=>w'.cell? ⟨bk,2,none⟩=some (.slice (some ⟨bd,0,none⟩) K1.nD K1.nD)/\w'.cell? ⟨w.heap.size,0,none⟩=some (.int .i64 d)/\w'.cell? ⟨bd,d*5,none⟩=some (.int .i64 h)/\w'.cell? ⟨bd,d*5+1,none⟩=some (.int .i64 (K1.D d 1))/\w'.cell? ⟨bd,d*5+2,none⟩=some (.int .i64 (K1.D d 2))/\w'.cell? ⟨bd,d*5+3,none⟩=some (.int .i64 (K1.D d 3))/\w'.cell? ⟨bd,d*5+4,none⟩=some (.int .i64 (K1.D d 4))) (go_keep) (fail)
 by_cases a3:K1.D d 3=0
 ·have e3:(K1.D d 3 == 0)=true:=by simpa using a3
  by_cases a4:K1.D d 4=0
  ·have e4:(K1.D d 4 == 0)=true:=by simpa using a4
   have HE2:Hid (K.closeFile s x=(K1.become h 0 (-1)).noDuct d (-1)):=by unfold Hid;rw [HE.out,if_pos ⟨a3,a4⟩,HD0.out,Int.toNat_natCast]
   clear a3 a4 HE
   go_wp2_with fail
   refine (P1 ((HR2.out.alloc _).drew) 0 (-1) hF1).mono ?_;rintro e w3 ⟨rfl,R3,q3⟩;have b3:w3.cell? ⟨w.heap.size,0,none⟩=some (.int .i64 d):=by
    rw [q3.cell (by show w.heap.size<(w2.alloc _).heap.size;simp;omega) Hn.out.1 Hn.out.2.1 Hn.out.2.2];rw [show ∀ o:Obj,(w2.alloc o).drew.cell? ⟨w.heap.size,0,none⟩=w2.cell? ⟨w.heap.size,0,none⟩ from λo=>World.cell?_of_block (w:=w2) (a:=⟨w.heap.size,0,none⟩) (Below.heap_alloc w2 o _ lb)];exact b0
   have Hq3:Hid (Keeps bf bs bd w w3):=((Hq2.out.alloc _).drew).trans q3;have HR3:Hid (Rep w3 bk bf bs bd (K1.become h 0 (-1))):=R3;have dn2:d<(K1.become h 0 (-1)).nD:=dn1;clear R3 q3 d0 d1 d2 d3 d4 r2 b0;generalize K1.become h 0 (-1)=K2 at *;have r2:=HR3.out.k2;have d0:=HR3.out.d0 dn2;have d1:=HR3.out.d1 dn2;have d2:=HR3.out.d2 dn2;have d3:=HR3.out.d3 dn2;have d4:=HR3.out.d4 dn2;have zd:=HR3.out.zd;have m2:=HR3.out.hD;have kd:=HR3.out.kd;have dk:bd≠bk:=λe=>kd e.symm;have wd:bd≠w.heap.size:=λe=>Hn.out.2.2 e.symm
   go_wp2_with fail
   go_region_held3 (λw'=>w'.cell? ⟨bk,2,none⟩=some (.slice (some ⟨bd,0,none⟩) K2.nD K2.nD)/\w'.cell? ⟨w.heap.size,0,none⟩=some (.int .i64 d)) (go_keep) (fail)
   go_wp2
   go_end0
   refine ⟨rfl,?_,((((((Hq3.out.setD _ _).setD _ _).setD _ _).setD _ _).setD _ _).drew)⟩;rw [HE2.out];exact (HR3.out.noDuct dn2 (-1)).drew
  ·have e4:(K1.D d 4 == 0)=false:=by simpa using a4
   have HE2:Hid (K.closeFile s x=K1):=by unfold Hid;rw [HE.out,if_neg (λh=>a4 h.2)]
   clear a3 a4 HE
   go_wp2
   go_end0
   refine ⟨rfl,?_,(Hq2.out.alloc _).drew⟩;rw [HE2.out];exact (HR2.out.alloc _).drew
 ·have e3:(K1.D d 3 == 0)=false:=by simpa using a3
  have HE2:Hid (K.closeFile s x=K1):=by unfold Hid;rw [HE.out,if_neg (λh=>a3 h.1)]
  clear a3 HE
  go_wp2
  go_end0
  refine ⟨rfl,?_,(Hq2.out.alloc _).drew⟩;rw [HE2.out];exact (HR2.out.alloc _).drew
end
section
variable {bk bf bs bd:Nat} {K:Ker} {w:World}
theorem b5b (R:Rep w bk bf bs bd K)(G:Good K){s x:Nat}(y z:Int)(hs:s<K.nS)(hx:x<4) :
  Calls Tryd.prog 58 #[.pointer (some ⟨bk,0,none⟩),.int .i64 s,.agg #[.int .i64 x,.int .i64 y,.int .i64 z]] w (Ends bk bf bs bd w (S7 K s x)):=by
 have HR:Hid (Rep w bk bf bs bd K):=R;clear R
 by_cases h1:K.file s x=-1
 ·have e1:(K.S s (11+x*2) != -1)=false:=by simpa [Ker.file] using h1
  have E:Hid (S7 K s x=⟨K,0,8⟩):=by unfold S7;simp [h1,Hid]
  clear h1
  go_enter Tryd.func58,Tryd.ntmps58
  go_wp2_with fail
  refine (z7 (HR.out.alloc _) hs hx).mono ?_;rintro e w1 ⟨rfl,rfl⟩
  go_wp2
  go_ret2
  exact Ends.mk E (HR.out.alloc _) ((Keeps.refl w).alloc _)
 ·have e1:(K.S s (11+x*2) != -1)=true:=by simpa [Ker.file] using h1
  have hF:=G.file s x hs hx;obtain ⟨d,hd⟩:∃ d:Nat,K.file s x=d:=⟨(K.file s x).toNat,by omega⟩;have hdn:d<K.nD:=by omega
  rw [hd,Int.toNat_natCast] at hF;obtain ⟨h,hh⟩:∃ h:Nat,K.D d 0=h:=⟨(K.D d 0).toNat,by omega⟩;have hhl:h<K.nF:=by rcases G.duct d hdn with k|k<;>omega
  have E:Hid (S7 K s x=⟨K.closeFile s x,0,0⟩):=by unfold S7;simp [h1,Hid]
  have HC:Hid (K.file s x=d/\K.D d 0=h):=⟨hd,hh⟩;have H3:Hid _:=G.rd d hdn;have H4:Hid _:=G.wt d hdn;clear h1 hF hd hh
  go_enter Tryd.func58,Tryd.ntmps58
  go_wp2_with fail
  refine (z7 (HR.out.alloc _) hs hx).mono ?_;rintro e w1 ⟨rfl,rfl⟩
  go_wp2_with fail
  refine (a3i (HR.out.alloc _) hs hx HC.out.1 hdn H3.out H4.out HC.out.2 hhl).mono ?_;rintro e w1 ⟨rfl,R1,q1⟩
  go_wp2
  go_ret2
  exact Ends.mk E R1 (((Keeps.refl w).alloc _).trans q1)
theorem b7L (R:Rep w bk bf bs bd K)(G:Good K){s c x:Nat}(z:Int)(hs:s<K.nS)(hc:c<K.nS)(hx:x<4) :
  Calls Tryd.prog 54 #[.pointer (some ⟨bk,0,none⟩),.int .i64 s,.agg #[.int .i64 c,.int .i64 x,.int .i64 z]] w (Ends bk bf bs bd w (U9 K s c x)):=by
 have HR:Hid (Rep w bk bf bs bd K):=R;clear R
 by_cases h0:K.still s c=true
 ·by_cases h1:K.file c x=-1
  ·have e1:(K.S c (11+x*2) != -1)=false:=by simpa [Ker.file] using h1
   have E:Hid (U9 K s c x=⟨K,0,8⟩):=by unfold U9;simp [h0,h1,Hid]
   clear h1
   go_enter Tryd.func54,Tryd.ntmps54
   go_wp2
   go_quiet (fail)
   go_wp2_with fail
   refine (G0 ((HR.out.alloc _).drewN _) hc).mono ?_;rintro e w1 ⟨rfl,rfl⟩
   go_wp2_with fail
   refine (z7 ((HR.out.alloc _).drewN _) hc hx).mono ?_;rintro e w1 ⟨rfl,rfl⟩
   go_wp2
   go_ret2
   exact Ends.mk E ((HR.out.alloc _).drewN _) (((Keeps.refl w).alloc _).drewN _)
  ·have e1:(K.S c (11+x*2) != -1)=true:=by simpa [Ker.file] using h1
   have hF:=G.file c x hc hx;obtain ⟨d,hd⟩:∃ d:Nat,K.file c x=d:=⟨(K.file c x).toNat,by omega⟩;have hdn:d<K.nD:=by omega
   rw [hd,Int.toNat_natCast] at hF;obtain ⟨h,hh⟩:∃ h:Nat,K.D d 0=h:=⟨(K.D d 0).toNat,by omega⟩;have hhl:h<K.nF:=by rcases G.duct d hdn with k|k<;>omega
   have E:Hid (U9 K s c x=⟨K.closeFile c x,0,0⟩):=by unfold U9;simp [h0,h1,Hid]
   have HC:Hid (K.file c x=d/\K.D d 0=h):=⟨hd,hh⟩;have H3:Hid _:=G.rd d hdn;have H4:Hid _:=G.wt d hdn;clear h1 hF hd hh
   go_enter Tryd.func54,Tryd.ntmps54
   go_wp2
   go_quiet (fail)
   go_wp2_with fail
   refine (G0 ((HR.out.alloc _).drewN _) hc).mono ?_;rintro e w1 ⟨rfl,rfl⟩
   go_wp2_with fail
   refine (z7 ((HR.out.alloc _).drewN _) hc hx).mono ?_;rintro e w1 ⟨rfl,rfl⟩
   go_wp2_with fail
   refine (a3i ((HR.out.alloc _).drewN _) hc hx HC.out.1 hdn H3.out H4.out HC.out.2 hhl).mono ?_;rintro e w1 ⟨rfl,R1,q1⟩
   go_wp2
   go_ret2
   exact Ends.mk E R1 ((((Keeps.refl w).alloc _).drewN _).trans q1)
 ·have h0':K.still s c=false:=by simpa using h0
  have E:Hid (U9 K s c x=⟨K,0,7⟩):=by unfold U9;simp [h0',Hid]
  clear h0
  go_enter Tryd.func54,Tryd.ntmps54
  go_wp2
  go_quiet (fail)
  go_wp2_with fail
  refine (G0 ((HR.out.alloc _).drewN _) hc).mono ?_;rintro e w1 ⟨rfl,rfl⟩
  go_wp2
  go_ret2
  exact Ends.mk E ((HR.out.alloc _).drewN _) (((Keeps.refl w).alloc _).drewN _)
end
section
variable {bk bf bs bd:Nat} {K:Ker} {w:World}
theorem a1m (K:Ker)(s:Nat):∀ n,(K.orphans s n).nF=K.nF/\(K.orphans s n).nS=K.nS/\(K.orphans s n).nD=K.nD
 | 0=>⟨rfl,rfl,rfl⟩
 | n+1=>by
  unfold Ker.orphans;split
  ·exact a1m K s n
  ·exact a1m K s n
theorem b7M (R:Rep w bk bf bs bd K){s:Nat}(a y z:Int)(hs:s<K.nS) :
  Calls Tryd.prog 52 #[.pointer (some ⟨bk,0,none⟩),.int .i64 s,.agg #[.int .i64 a,.int .i64 y,.int .i64 z]] w (Ends bk bf bs bd w (a0b K s a)):=by
 have HR:Hid (Rep w bk bf bs bd K):=R;have hn:=R.hS
 by_cases h0:s=0
 ·subst h0;have E:Hid (a0b K 0 a=⟨K,0,7⟩):=by unfold a0b;simp [Hid]
  clear R
  go_enter Tryd.func52,Tryd.ntmps52
  go_wp2
  go_ret2
  exact Ends.mk E (HR.out.alloc _) ((Keeps.refl w).alloc _)
 ·have E:Hid (a0b K s a=⟨((K.setS s 0 3).setS s 19 a).orphans s K.nS,0,0⟩):=by unfold a0b;simp [h0,Hid]
  have e0:((s:Int) == 0)=false:=by rw [beq_eq_false_iff_ne];omega
  have k1:=λo=>(HR.out.alloc o).k1;have c0:=λo=>(HR.out.alloc o).sk hs;have c1:=λo=>(HR.out.alloc o).sc hs;have z0:=λo=>(HR.out.alloc o).zs;have n1:=R.ks;have n2:bs≠bk:=λe=>n1 e.symm;have n3:bs≠w.heap.size:=Nat.ne_of_lt R.ls;have n4:w.heap.size≠bs:=λe=>n3 e.symm;clear R h0
  go_enter Tryd.func52,Tryd.ntmps52
  go_wp2
  go_region
  all_goals
   go_wp2
   go_loopw [32] (λi w'=>∃ k:Nat,k<=K.nS/\i=.int .i64 k/\Rep w' bk bf bs bd (((K.setS s 0 3).setS s 19 a).orphans s k)/\Keeps bf bs bd w w') (λi _=>K.nS - (intOf i).toNat)
   case atStart =>
    exact ⟨0,by omega,rfl,(((HR.out.alloc _).setS (c:=0) hs (by omega) a2g rfl 3).setS (c:=19) hs (by omega) a7T rfl a).drew,((((Keeps.refl w).alloc _).setS _ _).setS _ _).drew⟩
   case round =>
    obtain ⟨k,hk,rfl,R1,q1⟩:=hrel;have HR1:Hid _:=R1;have Hq1:Hid _:=q1;have sz:=a1m ((K.setS s 0 3).setS s 19 a) s k;have sz1:(((K.setS s 0 3).setS s 19 a).orphans s k).nS=K.nS:=sz.2.1;have Hsz:Hid _:=sz1
    by_cases hlt:k<K.nS
    ·have hk1:k<(((K.setS s 0 3).setS s 19 a).orphans s k).nS:=by rw [sz1];exact hlt
     have p0:=R1.k1;have p1:=R1.sp hk1;have p2:=R1.zs;have HO:Hid (((K.setS s 0 3).setS s 19 a).orphans s (k+1)=if (((K.setS s 0 3).setS s 19 a).orphans s k).S k 1=s then (((K.setS s 0 3).setS s 19 a).orphans s k).setS k 1 0 else ((K.setS s 0 3).setS s 19 a).orphans s k):=rfl;clear R1 q1 sz sz1;generalize hK1:((K.setS s 0 3).setS s 19 a).orphans s k=K1 at *;clear hK1
     by_cases h2:K1.S k 1=s
     ·have e2:(K1.S k 1 == (s:Int))=true:=by simpa using h2
      have HO2:Hid (((K.setS s 0 3).setS s 19 a).orphans s (k+1)=K1.setS k 1 0):=by unfold Hid;rw [HO.out,if_pos h2]
      have m1:K1.nS<=6:=by rw [Hsz.out];exact hn
      clear h2
      go_wp2_with fail
      refine (P0 HR1.out s hk1).mono ?_;rintro e w2 ⟨rfl,rfl⟩
      go_wp2
      refine ⟨⟨k+1,by omega,by go_num,?_,Hq1.out.setS _ _⟩,by simp [intOf];omega⟩;rw [HO2.out];exact HR1.out.setS (c:=1) hk1 (by omega) a6d rfl 0
     ·have e2:(K1.S k 1 == (s:Int))=false:=by simpa using h2
      have HO2:Hid (((K.setS s 0 3).setS s 19 a).orphans s (k+1)=K1):=by unfold Hid;rw [HO.out,if_neg h2]
      clear h2
      go_wp2_with fail
      refine (P0 HR1.out s hk1).mono ?_;rintro e w2 ⟨rfl,rfl⟩
      go_wp2
      refine ⟨⟨k+1,by omega,by go_num,?_,Hq1.out⟩,by simp [intOf];omega⟩;rw [HO2.out];exact HR1.out
    ·obtain rfl:k=K.nS:=by omega
     clear R1 q1 sz sz1
     go_wp2
     go_ret2
     exact Ends.mk E HR1.out Hq1.out
end
attribute [local go_sem ↓] Go.wp_at_zero Go.wp_at_succ
section
variable {bk bf bs bd:Nat} {K:Ker} {w:World}
theorem Rep.copyWords (R:Rep w bk bf bs bd K){g h:Nat}(hg:g<K.nF) :
  Rep ((((w.setCell ⟨bf,g*6+2,none⟩ (.int .i64 (K.F h 2))).setCell ⟨bf,g*6+2+1,none⟩ (.int .i64 (K.F h 3))).setCell ⟨bf,g*6+2+2,none⟩ (.int .i64 (K.F h 4))).setCell ⟨bf,g*6+2+3,none⟩ (.int .i64 (K.F h 5))) bk bf bs bd (K.copyWords g h):=by
 have Ra:=R.setF (c:=2) (o:=g*6+2) hg (by omega) rfl (K.F h 2);have ha:g<(K.setF g 2 (K.F h 2)).nF:=hg;have Rb:=Ra.setF (c:=3) (o:=g*6+2+1) ha (by omega) (by omega) (K.F h 3);have hb:g<((K.setF g 2 (K.F h 2)).setF g 3 (K.F h 3)).nF:=ha;have Rc:=Rb.setF (c:=4) (o:=g*6+2+2) hb (by omega) (by omega) (K.F h 4);have hc:g<(((K.setF g 2 (K.F h 2)).setF g 3 (K.F h 3)).setF g 4 (K.F h 4)).nF:=hb;exact Rc.setF (c:=5) (o:=g*6+2+3) hc (by omega) (by omega) (K.F h 5)
theorem b7N (R:Rep w bk bf bs bd K)(G:Good K){s c p f:Nat}(hs:s<K.nS)(hc:c<K.nS)(hp:p<4)(hf:f<K.nF) :
  Calls Tryd.prog 49 #[.pointer (some ⟨bk,0,none⟩),.int .i64 s,.agg #[.int .i64 c,.int .i64 p,.int .i64 f]] w (Ends bk bf bs bd w (M9 K s c p f)):=by
 have HR:Hid (Rep w bk bf bs bd K):=R;have hn:=R.hS;have hm:=R.hF;clear R
 by_cases h0:K.embryo s c=true
 ·by_cases h1:K.page s p=-1
  ·have e1:(K.S s (3+p*2) != -1)=false:=by simpa [Ker.page] using h1
   have E:Hid (M9 K s c p f=⟨K,0,6⟩):=by unfold M9;simp [h0,h1,Hid]
   clear h1
   go_enter Tryd.func49,Tryd.ntmps49
   go_wp2
   go_quiet (fail)
   go_wp2_with fail
   refine (B2 ((HR.out.alloc _).drewN _) hc).mono ?_;rintro e w1 ⟨rfl,rfl⟩
   go_wp2_with fail
   refine (s8 ((HR.out.alloc _).drewN _) hs hp).mono ?_;rintro e w1 ⟨rfl,rfl⟩
   go_wp2
   go_ret2
   exact Ends.mk E ((HR.out.alloc _).drewN _) (((Keeps.refl w).alloc _).drewN _)
  ·have e1:(K.S s (3+p*2) != -1)=true:=by simpa [Ker.page] using h1
   by_cases h2:K.page c p=-1
   ·have e2:(K.S c (3+p*2) != -1)=false:=by simpa [Ker.page] using h2
    by_cases h3:K.F f 0=0
    ·have e3:(K.F f 0 == 0)=true:=by simpa using h3
     obtain ⟨g,hg⟩:∃ g:Nat,K.page s p=g:=by rcases G.page s p hs hp with h|h;exact absurd h h1;exact ⟨(K.page s p).toNat,by omega⟩
     have hl:g<K.nF:=by rcases G.page s p hs hp with h|h;exact absurd h h1;omega
     have hsc:s≠c:=by rintro rfl;exact h1 h2
     have E:Hid (M9 K s c p f=⟨((K.become f 2 c).setPage c p f (K.wr s p)).copyWords f g,0,0⟩):=by unfold M9;simp [h0,h2,h3,hg,Hid]
     have Hg:Hid (K.S s (3+p*2)=g):=hg;have Hsc:Hid (s≠c):=hsc;clear h1 h2 h3 hg hsc
     go_enter Tryd.func49,Tryd.ntmps49
     go_wp2
     go_quiet (fail)
     go_wp2_with fail
     refine (B2 ((HR.out.alloc _).drewN _) hc).mono ?_;rintro e w1 ⟨rfl,rfl⟩
     go_wp2_with fail
     refine (s8 ((HR.out.alloc _).drewN _) hs hp).mono ?_;rintro e w1 ⟨rfl,rfl⟩
     go_wp2_with fail
     refine (s8 ((HR.out.alloc _).drewN _) hc hp).mono ?_;rintro e w1 ⟨rfl,rfl⟩
     go_wp2_with fail
     refine (G4 ((HR.out.alloc _).drewN _) hf).mono ?_;rintro e w1 ⟨rfl,rfl⟩
     go_wp2_with fail
     refine (P1 ((HR.out.alloc _).drewN _) 2 _ hf).mono ?_;rintro e w1 ⟨rfl,R1,q1⟩;have HR1:Hid (Rep w1 bk bf bs bd (K.become f 2 c)):=R1;have Hq1:Hid (Keeps bf bs bd w w1):=(((Keeps.refl w).alloc _).drewN _).trans q1;have t1:c<(K.become f 2 c).nS:=hc;have t2:s<(K.become f 2 c).nS:=hs;have t3:f<(K.become f 2 c).nF:=hf;have t4:g<(K.become f 2 c).nF:=hl;have t5:(K.become f 2 c).S s (3+p*2)=g:=Hg.out;have t6:K.wr s p=(K.become f 2 c).B s (4+p*2):=rfl;have Ht5:Hid _:=t5;have HE:Hid (M9 K s c p f=⟨((K.become f 2 c).setPage c p f ((K.become f 2 c).B s (4+p*2))).copyWords f g,0,0⟩):=E;clear R1 q1 t5 t6 E;generalize K.become f 2 c=K1 at *;have r0:=HR1.out.k1;have r1:=HR1.out.pf t1 hp;have r2:=HR1.out.pw t1 hp;have r3:=HR1.out.zs;have r4:=HR1.out.hS;have n1:=HR1.out.ks;have n2:bs≠bk:=λe=>n1 e.symm;have i1:(0:Int)<=(c:Int):=by omega
     have i2:(c:Int)<(K1.nS:Int):=by omega
     have i3:(0:Int)<=(p:Int):=by omega
     have i4:(p:Int)<4:=by omega
     go_wp2_with fail
     go_region_held3 (λw'=>w'.cell? ⟨bk,1,none⟩=some (.slice (some ⟨bs,0,none⟩) K1.nS K1.nS)) (go_keep) (first|(go_at_call 68;refine (M7 HR1.out.drew t2 hp).mono ?_;rintro e w2 ⟨rfl,rfl⟩))
     have HR2:Hid (Rep _ bk bf bs bd (K1.setPage c p f (K1.B s (4+p*2)))):=((HR1.out.setS (c:=3+p*2) (o:=c*20+3+p*2) t1 (by omega) (a3U p) (by omega) f).setB (c:=4+p*2) (o:=c*20+3+p*2+1) t1 (b6j p hp) (by omega) (K1.B s (4+p*2)));have Hq2:Hid (Keeps bf bs bd w _):=((Hq1.out.setS (c*20+3+p*2) (.int .i64 f)).setS (c*20+3+p*2+1) (.bool (K1.B s (4+p*2))));have u1:c<(K1.setPage c p f (K1.B s (4+p*2))).nS:=t1;have u2:s<(K1.setPage c p f (K1.B s (4+p*2))).nS:=t2;have u3:f<(K1.setPage c p f (K1.B s (4+p*2))).nF:=t3;have u4:g<(K1.setPage c p f (K1.B s (4+p*2))).nF:=t4;have u5:(K1.setPage c p f (K1.B s (4+p*2))).S c (3+p*2)=f:=upd_same _ _ _ _;have u6:(K1.setPage c p f (K1.B s (4+p*2))).S s (3+p*2)=g:=(f8 K1.S c (3+p*2) f s (3+p*2) (by have:=Hsc.out;omega)).trans Ht5.out;have Hu5:Hid _:=u5;have Hu6:Hid _:=u6;clear u5 u6 r0 r1 r2
     go_wp2_with fail
     refine (a0z HR2.out.drew u1 hp Hu5.out u3).mono ?_;rintro e w2 ⟨rfl,nq1,rfl⟩
     go_wp2_with fail
     refine (a0z (HR2.out.drewN _) u2 hp Hu6.out u4).mono ?_;rintro e w2 ⟨rfl,nq2,rfl⟩;have v0:=HR2.out.f g 2 u4 (by omega);have v1:=HR2.out.f g 3 u4 (by omega);have v2:=HR2.out.f g 4 u4 (by omega);have v3:=HR2.out.f g 5 u4 (by omega);have x0:=HR2.out.f f 2 u3 (by omega);have x1:=HR2.out.f f 3 u3 (by omega);have x2:=HR2.out.f f 4 u3 (by omega);have x3:=HR2.out.f f 5 u3 (by omega);have zf:=HR2.out.zf;have HRc:Hid _:=HR2.out.copyWords (g:=f) (h:=g) u3;have Hqc:Hid (Keeps bf bs bd w _):=(((Hq2.out.setF (f*6+2) (.int .i64 ((K1.setPage c p f (K1.B s (4+p*2))).F g 2))).setF (f*6+2+1) (.int .i64 ((K1.setPage c p f (K1.B s (4+p*2))).F g 3))).setF (f*6+2+2) (.int .i64 ((K1.setPage c p f (K1.B s (4+p*2))).F g 4))).setF (f*6+2+3) (.int .i64 ((K1.setPage c p f (K1.B s (4+p*2))).F g 5));generalize hW:((w1.setCell ⟨bs,c*20+3+p*2,none⟩ (.int .i64 f)).setCell ⟨bs,c*20+3+p*2+1,none⟩ (.bool (K1.B s (4+p*2))))=W at *;clear hW HR1 Hq1 HR2 Hq2
     go_wp2
     go_ret2
     exact Ends.mk HE (HRc.out.drewN _) (Hqc.out.drewN _)
    ·have e3:(K.F f 0 == 0)=false:=by simpa using h3
     have E:Hid (M9 K s c p f=⟨K,0,5⟩):=by unfold M9;simp [h0,h1,h2,h3,Hid]
     clear h1 h2 h3
     go_enter Tryd.func49,Tryd.ntmps49
     go_wp2
     go_quiet (fail)
     go_wp2_with fail
     refine (B2 ((HR.out.alloc _).drewN _) hc).mono ?_;rintro e w1 ⟨rfl,rfl⟩
     go_wp2_with fail
     refine (s8 ((HR.out.alloc _).drewN _) hs hp).mono ?_;rintro e w1 ⟨rfl,rfl⟩
     go_wp2_with fail
     refine (s8 ((HR.out.alloc _).drewN _) hc hp).mono ?_;rintro e w1 ⟨rfl,rfl⟩
     go_wp2_with fail
     refine (G4 ((HR.out.alloc _).drewN _) hf).mono ?_;rintro e w1 ⟨rfl,rfl⟩
     go_wp2
     go_ret2
     exact Ends.mk E ((HR.out.alloc _).drewN _) (((Keeps.refl w).alloc _).drewN _)
   ·have e2:(K.S c (3+p*2) != -1)=true:=by simpa [Ker.page] using h2
    have E:Hid (M9 K s c p f=⟨K,0,6⟩):=by unfold M9;simp [h0,h2,Hid]
    clear h1 h2
    go_enter Tryd.func49,Tryd.ntmps49
    go_wp2
    go_quiet (fail)
    go_wp2_with fail
    refine (B2 ((HR.out.alloc _).drewN _) hc).mono ?_;rintro e w1 ⟨rfl,rfl⟩
    go_wp2_with fail
    refine (s8 ((HR.out.alloc _).drewN _) hs hp).mono ?_;rintro e w1 ⟨rfl,rfl⟩
    go_wp2_with fail
    refine (s8 ((HR.out.alloc _).drewN _) hc hp).mono ?_;rintro e w1 ⟨rfl,rfl⟩
    go_wp2
    go_ret2
    exact Ends.mk E ((HR.out.alloc _).drewN _) (((Keeps.refl w).alloc _).drewN _)
 ·have h0':K.embryo s c=false:=by simpa using h0
  have E:Hid (M9 K s c p f=⟨K,0,7⟩):=by unfold M9;simp [h0',Hid]
  clear h0
  go_enter Tryd.func49,Tryd.ntmps49
  go_wp2
  go_quiet (fail)
  go_wp2_with fail
  refine (B2 ((HR.out.alloc _).drewN _) hc).mono ?_;rintro e w1 ⟨rfl,rfl⟩
  go_wp2
  go_ret2
  exact Ends.mk E ((HR.out.alloc _).drewN _) (((Keeps.refl w).alloc _).drewN _)
end
end Go.Proofs.YtcgabodkegcpgaaDoor
