/- What the kernel's functions of pipes do: countEnd, openFile, Pipe. -/
import Derived.Test.YtcgabodkegcpgaaDoorKer
import Derived.Deep.RegionHeld3
import Derived.Deep.DrawnRows
import Derived.Deep.OwnRows
import Derived.Deep.MidRow
set_option linter.unusedVariables false
set_option linter.unusedSimpArgs false
set_option maxHeartbeats 20000000
set_option maxRecDepth 100000
namespace Go.Proofs.YtcgabodkegcpgaaDoor
open Go.RowKit
section
variable {bk bf bs bd:Nat} {K:Ker} {w:World}
theorem Rep.d0 (R:Rep w bk bf bs bd K){i:Nat}(hi:i<K.nD):w.cell? ⟨bd,i*5,none⟩=some (.int .i64 (K.D i 0)):=R.d i 0 hi (by omega)
theorem Rep.d1 (R:Rep w bk bf bs bd K){i:Nat}(hi:i<K.nD):w.cell? ⟨bd,i*5+1,none⟩=some (.int .i64 (K.D i 1)):=R.d i 1 hi (by omega)
theorem Rep.d2 (R:Rep w bk bf bs bd K){i:Nat}(hi:i<K.nD):w.cell? ⟨bd,i*5+2,none⟩=some (.int .i64 (K.D i 2)):=R.d i 2 hi (by omega)
theorem Rep.d3 (R:Rep w bk bf bs bd K){i:Nat}(hi:i<K.nD):w.cell? ⟨bd,i*5+3,none⟩=some (.int .i64 (K.D i 3)):=R.d i 3 hi (by omega)
theorem Rep.d4 (R:Rep w bk bf bs bd K){i:Nat}(hi:i<K.nD):w.cell? ⟨bd,i*5+4,none⟩=some (.int .i64 (K.D i 4)):=R.d i 4 hi (by omega)
theorem Rep.noDuct (R:Rep w bk bf bs bd K){d:Nat}(hd:d<K.nD)(f:Int) :
  Rep (((((w.setCell ⟨bd,d*5,none⟩ (.int .i64 f)).setCell ⟨bd,d*5+1,none⟩ (.int .i64 0)).setCell ⟨bd,d*5+2,none⟩ (.int .i64 0)).setCell ⟨bd,d*5+3,none⟩ (.int .i64 0)).setCell ⟨bd,d*5+4,none⟩ (.int .i64 0)) bk bf bs bd (K.noDuct d f):=by
 have Ra:=R.setD (c:=0) (o:=d*5) hd (by omega) rfl f
 have ha:d<(K.setD d 0 f).nD:=hd
 have Rb:=Ra.setD (c:=1) (o:=d*5+1) ha (by omega) rfl 0
 have hb:d<((K.setD d 0 f).setD d 1 0).nD:=ha
 have Rc:=Rb.setD (c:=2) (o:=d*5+2) hb (by omega) rfl 0
 have hc:d<(((K.setD d 0 f).setD d 1 0).setD d 2 0).nD:=hb
 have Rd:=Rc.setD (c:=3) (o:=d*5+3) hc (by omega) rfl 0
 have he:d<((((K.setD d 0 f).setD d 1 0).setD d 2 0).setD d 3 0).nD:=hc
 exact Rd.setD (c:=4) (o:=d*5+4) he (by omega) rfl 0
theorem countEnd_rep (R:Rep w bk bf bs bd K){d:Nat}(b:Bool)(m:Int)(hd:d<K.nD)(hm:-1≤m∧m≤1)(h3:0≤K.D d 3∧K.D d 3≤24)(h4:0≤K.D d 4∧K.D d 4≤24) :
  Calls Tryd.prog 77 #[.pointer (some ⟨bk,0,none⟩),.agg #[.int .i64 d,.bool b],.int .i64 m] w fun e w'=>e=.returned (.tuple #[])∧Rep w' bk bf bs bd (K.count d b m)∧Keeps bf bs bd w w':=by
 have HR:Hid (Rep w bk bf bs bd K):=R
 have hn:=R.hD
 have k2:=fun o=>(HR.out.alloc o).k2
 have c3:=fun o=>(HR.out.alloc o).d3 hd
 have c4:=fun o=>(HR.out.alloc o).d4 hd
 have z:=fun o=>(HR.out.alloc o).zd
 clear R
 obtain ⟨hm1,hm2⟩:=hm
 obtain ⟨h31,h32⟩:=h3
 obtain ⟨h41,h42⟩:=h4
 cases b
 ·go_enter Tryd.func77,Tryd.ntmps77
  go_wp2
  go_region
  all_goals
   go_wp2
   go_end0
   exact ⟨rfl,(HR.out.alloc _).drew.setD hd (by omega) rfl _,((Keeps.refl w).alloc _).drew.setD _ _⟩
 ·go_enter Tryd.func77,Tryd.ntmps77
  go_wp2
  go_region
  all_goals
   go_wp2
   go_end0
   exact ⟨rfl,(HR.out.alloc _).drew.setD hd (by omega) rfl _,((Keeps.refl w).alloc _).drew.setD _ _⟩
theorem openFile_rep (R:Rep w bk bf bs bd K){s x d:Nat}(b:Bool)(hs:s<K.nS)(hx:x<4)(hd:d<K.nD)(h3:0≤K.D d 3∧K.D d 3≤24)(h4:0≤K.D d 4∧K.D d 4≤24) :
  Calls Tryd.prog 71 #[.pointer (some ⟨bk,0,none⟩),.int .i64 s,.int .i64 x,.agg #[.int .i64 d,.bool b]] w fun e w'=>e=.returned (.tuple #[])∧Rep w' bk bf bs bd (K.openFile s x d b)∧Keeps bf bs bd w w':=by
 have HR:Hid (Rep w bk bf bs bd K):=R
 have hn:=R.hS
 have k1:=fun o=>(HR.out.alloc o).k1
 have c3:=fun o=>(HR.out.alloc o).ff hs hx
 have c4:=fun o=>(HR.out.alloc o).fe hs hx
 have z:=fun o=>(HR.out.alloc o).zs
 have ne:bs≠w.heap.size:=Nat.ne_of_lt R.ls
 have ne':w.heap.size≠bs:=fun e=>ne e.symm
 have H3:=h3
 have H4:=h4
 clear R
 go_enter Tryd.func71,Tryd.ntmps71
 go_wp2
 go_region
 all_goals
  go_wp2_with fail
  refine (countEnd_rep (K:=K.setFile s x d b) (((HR.out.alloc _).setS (c:=11+x*2) hs (by omega) (not_isBf x) (by omega) _).setB (c:=12+x*2) hs (isBf x hx) (by omega) _).drew b 1 hd (by omega) H3 H4).mono ?_
  rintro e w1 ⟨rfl,R1,q1⟩
  go_wp2
  go_end0
  exact ⟨rfl,R1,((((Keeps.refl w).alloc _).setS _ _).setS _ _).drew.trans q1⟩
theorem isFile_at (R:Rep w bk bf bs bd K){i p:Nat}{q:Int}(hi:i<K.nS)(hq:q=p)(hp:p<4) :
  Calls Tryd.prog 70 #[.pointer (some ⟨bk,0,none⟩),.int .i64 i,.int .i64 q] w fun e w'=>e=.returned (.bool (K.S i (11+p*2) != -1))∧w'=w:=by
 subst hq;exact isFile_rep R hi hp
theorem openFile_at (R:Rep w bk bf bs bd K){s x d:Nat}{q:Int}(b:Bool)(hs:s<K.nS)(hq:q=x)(hx:x<4)(hd:d<K.nD)(h3:0≤K.D d 3∧K.D d 3≤24)(h4:0≤K.D d 4∧K.D d 4≤24) :
  Calls Tryd.prog 71 #[.pointer (some ⟨bk,0,none⟩),.int .i64 s,.int .i64 q,.agg #[.int .i64 d,.bool b]] w fun e w'=>e=.returned (.tuple #[])∧Rep w' bk bf bs bd (K.openFile s x d b)∧Keeps bf bs bd w w':=by
 subst hq;exact openFile_rep R b hs hx hd h3 h4
theorem noDuct_bounds (K:Ker)(n:Nat)(f:Int):(0≤(K.noDuct n f).D n 3∧(K.noDuct n f).D n 3≤24)∧(0≤(K.noDuct n f).D n 4∧(K.noDuct n f).D n 4≤24):=by
 simp [Ker.noDuct,Ker.setD,upd]
theorem noDuct_bounds2 (K:Ker)(n:Nat)(f:Int)(s x:Nat):(0≤((K.noDuct n f).openFile s x n false).D n 3∧((K.noDuct n f).openFile s x n false).D n 3≤24)∧(0≤((K.noDuct n f).openFile s x n false).D n 4∧((K.noDuct n f).openFile s x n false).D n 4≤24):=by
 simp [Ker.noDuct,Ker.openFile,Ker.count,Ker.setFile,Ker.setS,Ker.setB,Ker.setD,upd]
theorem pipe_rep (R:Rep w bk bf bs bd K)(G:Good K){s n f x:Nat}(hs:s<K.nS)(hn:n<K.nD)(hf:f<K.nF)(hx:x<4) :
  Calls Tryd.prog 56 #[.pointer (some ⟨bk,0,none⟩),.int .i64 s,.agg #[.int .i64 n,.int .i64 f,.int .i64 x]] w (Ends bk bf bs bd w (kPipe K s n f x)):=by
 have HR:Hid (Rep w bk bf bs bd K):=R
 have m1:=R.hF;have m2:=R.hS;have m3:=R.hD
 have k2:=fun o=>(HR.out.alloc o).k2
 have c0:=fun o=>(HR.out.alloc o).d0 hn
 clear R
 by_cases h1:K.D n 0=-1
 ·have e1:(K.D n 0 != -1)=false:=by simpa using h1
  by_cases h2:K.F f 0=0
  ·have e2:(K.F f 0 == 0)=true:=by simpa using h2
   by_cases h3:x=3
   ·subst h3
    have E:Hid (kPipe K s n f 3=⟨K,0,8⟩):=by unfold kPipe;simp [h1,h2,Hid]
    clear h1 h2
    go_enter Tryd.func56,Tryd.ntmps56
    go_wp2
    go_quiet (fail)
    go_wp2_with fail
    refine (isFree_rep ((HR.out.alloc _).drewN _) hf).mono ?_
    rintro e w1 ⟨rfl,rfl⟩
    go_wp2
    go_ret2
    exact Ends.mk E ((HR.out.alloc _).drewN _) (((Keeps.refl w).alloc _).drewN _)
   ·have e3:((x:Int)+1 == 4)=false:=by rw [beq_eq_false_iff_ne];omega
    by_cases h4:K.file s x=-1
    ·have e4:(K.S s (11+x*2) != -1)=false:=by simpa [Ker.file] using h4
     by_cases h5:K.file s (x+1)=-1
     ·have e5:(K.S s (11+(x+1)*2) != -1)=false:=by simpa [Ker.file] using h5
      have E:Hid (kPipe K s n f x=⟨(((K.become f 3 (-1)).noDuct n f).openFile s x n false).openFile s (x+1) n true,0,0⟩):=by unfold kPipe;simp [h1,h2,h3,h4,h5,Hid]
      clear h1 h2 h4 h5
      go_enter Tryd.func56,Tryd.ntmps56
      go_wp2
      go_quiet (fail)
      go_wp2_with fail
      refine (isFree_rep ((HR.out.alloc _).drewN _) hf).mono ?_
      rintro e w1 ⟨rfl,rfl⟩
      go_wp2_with fail
      refine (isFile_rep ((HR.out.alloc _).drewN _) hs hx).mono ?_
      rintro e w1 ⟨rfl,rfl⟩
      go_wp2_with fail
      refine (isFile_at (p:=x+1) ((HR.out.alloc _).drewN _) hs (by omega) (by omega)).mono ?_
      rintro e w1 ⟨rfl,rfl⟩
      go_wp2_with fail
      refine (become_rep ((HR.out.alloc _).drewN _) _ _ hf).mono ?_
      rintro e w1 ⟨rfl,R1,q1⟩
      have r0:=R1.k2
      have r1:=R1.d0 hn
      have r2:=R1.d1 hn
      have r3:=R1.d2 hn
      have r4:=R1.d3 hn
      have r5:=R1.d4 hn
      have r6:=R1.zd
      have r7:n<(K.become f 3 (-1)).nD:=hn
      have r8:(K.become f 3 (-1)).nD≤4:=m3
      have r9:s<(K.become f 3 (-1)).nS:=hs
      generalize K.become f 3 (-1)=K1 at *
      have t1:n<(K1.noDuct n f).nD:=r7
      have t2:s<(K1.noDuct n f).nS:=r9
      have T1:=noDuct_bounds K1 n f
      have T2:=noDuct_bounds2 K1 n f s x
      have R2:=R1.noDuct r7 f
      have HR2:Hid _:=R2
      clear R2
      have t3:n<((K1.noDuct n f).openFile s x n false).nD:=t1
      have t4:s<((K1.noDuct n f).openFile s x n false).nS:=t2
      have HT1:Hid _:=T1
      have HT2:Hid _:=T2
      clear T1 T2
      have HK1:Hid _:=q1
      have HR1:Hid _:=R1
      clear q1 R1
      go_wp2_with fail
      refine (openFile_rep HR2.out false t2 hx t1 HT1.out.1 HT1.out.2).mono ?_
      rintro e w2 ⟨rfl,R3,q3⟩
      have HR3:Hid _:=R3
      have HK3:Hid _:=q3
      clear R3 q3
      go_wp2_with fail
      refine (openFile_at (x:=x+1) HR3.out true t4 (by omega) (by omega) t3 HT2.out.1 HT2.out.2).mono ?_
      rintro e w3 ⟨rfl,R4,q4⟩
      have HR4:Hid _:=R4
      have HK4:Hid _:=q4
      clear R4 q4
      go_wp2
      go_ret2
      exact Ends.mk E HR4.out (((((((((((Keeps.refl w).alloc _).drewN _).trans HK1.out).setD _ _).setD _ _).setD _ _).setD _ _).setD _ _).trans HK3.out).trans HK4.out)
     ·have e5:(K.S s (11+(x+1)*2) != -1)=true:=by simpa [Ker.file] using h5
      have E:Hid (kPipe K s n f x=⟨K,0,8⟩):=by unfold kPipe;simp [h1,h2,h3,h4,h5,Hid]
      clear h1 h2 h4 h5
      go_enter Tryd.func56,Tryd.ntmps56
      go_wp2
      go_quiet (fail)
      go_wp2_with fail
      refine (isFree_rep ((HR.out.alloc _).drewN _) hf).mono ?_
      rintro e w1 ⟨rfl,rfl⟩
      go_wp2_with fail
      refine (isFile_rep ((HR.out.alloc _).drewN _) hs hx).mono ?_
      rintro e w1 ⟨rfl,rfl⟩
      go_wp2_with fail
      refine (isFile_at (p:=x+1) ((HR.out.alloc _).drewN _) hs (by omega) (by omega)).mono ?_
      rintro e w1 ⟨rfl,rfl⟩
      go_wp2
      go_ret2
      exact Ends.mk E ((HR.out.alloc _).drewN _) (((Keeps.refl w).alloc _).drewN _)
    ·have e4:(K.S s (11+x*2) != -1)=true:=by simpa [Ker.file] using h4
     have E:Hid (kPipe K s n f x=⟨K,0,8⟩):=by unfold kPipe;simp [h1,h2,h3,h4,Hid]
     clear h1 h2 h4
     go_enter Tryd.func56,Tryd.ntmps56
     go_wp2
     go_quiet (fail)
     go_wp2_with fail
     refine (isFree_rep ((HR.out.alloc _).drewN _) hf).mono ?_
     rintro e w1 ⟨rfl,rfl⟩
     go_wp2_with fail
     refine (isFile_rep ((HR.out.alloc _).drewN _) hs hx).mono ?_
     rintro e w1 ⟨rfl,rfl⟩
     go_wp2
     go_ret2
     exact Ends.mk E ((HR.out.alloc _).drewN _) (((Keeps.refl w).alloc _).drewN _)
  ·have e2:(K.F f 0 == 0)=false:=by simpa using h2
   have E:Hid (kPipe K s n f x=⟨K,0,5⟩):=by unfold kPipe;simp [h1,h2,Hid]
   clear h1 h2
   go_enter Tryd.func56,Tryd.ntmps56
   go_wp2
   go_quiet (fail)
   go_wp2_with fail
   refine (isFree_rep ((HR.out.alloc _).drewN _) hf).mono ?_
   rintro e w1 ⟨rfl,rfl⟩
   go_wp2
   go_ret2
   exact Ends.mk E ((HR.out.alloc _).drewN _) (((Keeps.refl w).alloc _).drewN _)
 ·have e1:(K.D n 0 != -1)=true:=by simpa using h1
  have E:Hid (kPipe K s n f x=⟨K,0,9⟩):=by unfold kPipe;simp [h1,Hid]
  clear h1
  go_enter Tryd.func56,Tryd.ntmps56
  go_wp2
  go_quiet (fail)
  go_wp2
  go_ret2
  exact Ends.mk E ((HR.out.alloc _).drewN _) (((Keeps.refl w).alloc _).drewN _)
end
attribute [local go_sem ↓] Go.wp_at_zero Go.wp_at_succ
section
variable {bk bf bs bd:Nat} {K:Ker} {w:World}
theorem keep_same {W:World}{a b:Addr}{v:Value}(h:W.cell? a=some v):(W.setCell b v).cell? a=some v:=by
 by_cases e:a=b
 ·subst e;exact World.cell?_setCell_same W _ v h
 ·rw [World.cell?_setCell_other W b a v (fun h=>e h.symm)];exact h
theorem write_ok (R:Rep w bk bf bs bd K){s x p j d g h c q r:Nat}(hs:s<K.nS)(hx:x<4)(hp:p<4)(hj:j<4)
  (Hd:Hid (K.S s (11+x*2)=d))(hd:d<K.nD)(he:K.B s (12+x*2)=true)(Hg:Hid (K.S s (3+p*2)=g))(hg:g<K.nF)
  (Hr:Hid (K.D d 0=h))(hh:h<K.nF)(Hq:Hid (K.D d 1=q))(hq:q<4)(Hc:Hid (K.D d 2=c))(hc:c<4)(H3:(K.D d 3 == 0)=false)(Hm:Hid (r=(q+c) % 4)) :
  Calls Tryd.prog 59 #[.pointer (some ⟨bk,0,none⟩),.int .i64 s,.agg #[.int .i64 x,.int .i64 p,.int .i64 j]] w
   (Ends bk bf bs bd w ⟨(K.setF h (2+r) (K.F g (2+j))).setD d 2 (c+1),0,0⟩):=by
 have HR:Hid (Rep w bk bf bs bd K):=R
 have m1:=R.hF;have m2:=R.hS;have m3:=R.hD
 have k0:=fun o o'=>((HR.out.alloc o).alloc o').k0
 have k1:=fun o=>(HR.out.alloc o).k1
 have k2:=fun o o'=>((HR.out.alloc o).alloc o').k2
 have c1:∀ o,(w.alloc o).cell? ⟨bs,s*20+11+x*2,none⟩=some (.int .i64 d):=fun o=>by rw [(HR.out.alloc o).ff hs hx,Hd.out]
 have c2:∀ o,(w.alloc o).cell? ⟨bs,s*20+11+x*2+1,none⟩=some (.bool true):=fun o=>by rw [(HR.out.alloc o).fe hs hx,he]
 have c3:∀ o o',((w.alloc o).alloc o').cell? ⟨bd,d*5,none⟩=some (.int .i64 h):=fun o o'=>by rw [((HR.out.alloc o).alloc o').d0 hd,Hr.out]
 have c4:∀ o o',((w.alloc o).alloc o').cell? ⟨bd,d*5+1,none⟩=some (.int .i64 q):=fun o o'=>by rw [((HR.out.alloc o).alloc o').d1 hd,Hq.out]
 have c5:∀ o o',((w.alloc o).alloc o').cell? ⟨bd,d*5+2,none⟩=some (.int .i64 c):=fun o o'=>by rw [((HR.out.alloc o).alloc o').d2 hd,Hc.out]
 have c6:=fun o o'=>((HR.out.alloc o).alloc o').d3 hd
 have c7:=fun o o'=>((HR.out.alloc o).alloc o').fw hg hj
 have c8:=fun o o'=>((HR.out.alloc o).alloc o').fw (j:=r) hh (by have:=Hm.out;omega)
 have z1:=fun o o'=>((HR.out.alloc o).alloc o').zf
 have z2:=fun o o'=>((HR.out.alloc o).alloc o').zd
 have n1:=R.fd
 have n2:=R.kf
 have n3:bf≠bk:=fun e=>n2 e.symm
 have n4:bd≠bf:=fun e=>n1 e.symm
 clear R
 have b1:(0:Int)≤(j:Int):=by omega
 have b2:(j:Int)<4:=by omega
 have b3:(0:Int)≤(h:Int):=by omega
 have b4:(h:Int)<(K.nF:Int):=by omega
 have b5:(0:Int)≤(r:Int):=by omega
 have b6:(r:Int)<4:=by have:=Hm.out;omega
 have a1:IntKind.i64.wrap ((q:Int)+(c:Int))=(q:Int)+(c:Int):=IntWalk.i64_in _ (by omega)
 have a2:((q:Int)+(c:Int)).tmod 4=(r:Int):=by rw [Int.tmod_eq_emod_of_nonneg (by omega)];have:=Hm.out;omega
 have a3:((q:Int)+(c:Int)) % 4=(r:Int):=by have:=Hm.out;omega
 have e1:((d:Int) == -1)=false:=by rw [beq_eq_false_iff_ne];omega
 have e2:((c:Int) == 4)=false:=by rw [beq_eq_false_iff_ne];omega
 have e3:(K.S s (3+p*2) != -1)=true:=by rw [Hg.out,bne_iff_ne];omega
 go_enter Tryd.func59,Tryd.ntmps59
 go_wp2
 go_quiet (fail)
 go_wp2_with fail
 refine (hasFrame_rep (((HR.out.alloc _).alloc _).drewN _) hs hp).mono ?_
 rintro e w1 ⟨rfl,rfl⟩
 go_wp2
 go_quiet (fail)
 go_wp2_with fail
 go_region_held3 (fun w'=>w'.cell? ⟨bk,0,none⟩=some (.slice (some ⟨bf,0,none⟩) K.nF K.nF)∧w'.cell? ⟨bd,d*5,none⟩=some (.int .i64 h)∧w'.cell? ⟨bd,d*5+1,none⟩=some (.int .i64 q)∧w'.cell? ⟨bd,d*5+2,none⟩=some (.int .i64 c)∧w'.cell? ⟨bf,g*6+2+j,none⟩=some (.int .i64 (K.F g (2+j)))) ((repeat' apply And.intro)<;>(first|(go_keep;done)|(refine keep_same ?_;go_keep)))
  (first|(go_at_call 69;refine (words_rep (((HR.out.alloc _).alloc _).drewN _) hs hp Hg.out hg).mono ?_;rintro e w1 ⟨rfl,nq',rfl⟩))
 all_goals go_wp2
 all_goals
  go_ret2
  exact Ends.mk (show Hid _ from rfl) (((((HR.out.alloc _).alloc _).drewN _).setF hh (by have:=Hm.out;omega) (by omega) _).setD hd (by omega) (by omega) _) ((((((Keeps.refl w).alloc _).alloc _).drewN _).setF _ _).setD _ _)
theorem write_e1 (R:Rep w bk bf bs bd K){s x p j:Nat}(hs:s<K.nS)(hx:x<4)(Hd:Hid (K.S s (11+x*2)=-1)) :
  Calls Tryd.prog 59 #[.pointer (some ⟨bk,0,none⟩),.int .i64 s,.agg #[.int .i64 x,.int .i64 p,.int .i64 j]] w (Ends bk bf bs bd w ⟨K,0,8⟩):=by
 have HR:Hid (Rep w bk bf bs bd K):=R
 have m2:=R.hS
 have k1:=fun o=>(HR.out.alloc o).k1
 have c1:∀ o,(w.alloc o).cell? ⟨bs,s*20+11+x*2,none⟩=some (.int .i64 (-1)):=fun o=>by rw [(HR.out.alloc o).ff hs hx,Hd.out]
 have c2:=fun o=>(HR.out.alloc o).fe hs hx
 clear R
 go_enter Tryd.func59,Tryd.ntmps59
 go_wp2
 go_quiet (fail)
 go_wp2
 go_ret2
 exact Ends.mk (show Hid _ from rfl) (((HR.out.alloc _).alloc _).drewN _) ((((Keeps.refl w).alloc _).alloc _).drewN _)
theorem write_e2 (R:Rep w bk bf bs bd K){s x p j d:Nat}(hs:s<K.nS)(hx:x<4)(Hd:Hid (K.S s (11+x*2)=d))(he:K.B s (12+x*2)=false) :
  Calls Tryd.prog 59 #[.pointer (some ⟨bk,0,none⟩),.int .i64 s,.agg #[.int .i64 x,.int .i64 p,.int .i64 j]] w (Ends bk bf bs bd w ⟨K,0,8⟩):=by
 have HR:Hid (Rep w bk bf bs bd K):=R
 have m2:=R.hS
 have k1:=fun o=>(HR.out.alloc o).k1
 have c1:∀ o,(w.alloc o).cell? ⟨bs,s*20+11+x*2,none⟩=some (.int .i64 d):=fun o=>by rw [(HR.out.alloc o).ff hs hx,Hd.out]
 have c2:∀ o,(w.alloc o).cell? ⟨bs,s*20+11+x*2+1,none⟩=some (.bool false):=fun o=>by rw [(HR.out.alloc o).fe hs hx,he]
 have e1:((d:Int) == -1)=false:=by rw [beq_eq_false_iff_ne];omega
 clear R
 go_enter Tryd.func59,Tryd.ntmps59
 go_wp2
 go_quiet (fail)
 go_wp2
 go_ret2
 exact Ends.mk (show Hid _ from rfl) (((HR.out.alloc _).alloc _).drewN _) ((((Keeps.refl w).alloc _).alloc _).drewN _)
theorem write_e3 (R:Rep w bk bf bs bd K){s x p j d:Nat}(hs:s<K.nS)(hx:x<4)(hp:p<4)(Hd:Hid (K.S s (11+x*2)=d))(he:K.B s (12+x*2)=true)(Hg:Hid (K.S s (3+p*2)=-1)) :
  Calls Tryd.prog 59 #[.pointer (some ⟨bk,0,none⟩),.int .i64 s,.agg #[.int .i64 x,.int .i64 p,.int .i64 j]] w (Ends bk bf bs bd w ⟨K,0,6⟩):=by
 have HR:Hid (Rep w bk bf bs bd K):=R
 have m2:=R.hS
 have k1:=fun o=>(HR.out.alloc o).k1
 have c1:∀ o,(w.alloc o).cell? ⟨bs,s*20+11+x*2,none⟩=some (.int .i64 d):=fun o=>by rw [(HR.out.alloc o).ff hs hx,Hd.out]
 have c2:∀ o,(w.alloc o).cell? ⟨bs,s*20+11+x*2+1,none⟩=some (.bool true):=fun o=>by rw [(HR.out.alloc o).fe hs hx,he]
 have e1:((d:Int) == -1)=false:=by rw [beq_eq_false_iff_ne];omega
 have e3:(K.S s (3+p*2) != -1)=false:=by rw [Hg.out];rfl
 clear R
 go_enter Tryd.func59,Tryd.ntmps59
 go_wp2
 go_quiet (fail)
 go_wp2_with fail
 refine (hasFrame_rep (((HR.out.alloc _).alloc _).drewN _) hs hp).mono ?_
 rintro e w1 ⟨rfl,rfl⟩
 go_wp2
 go_ret2
 exact Ends.mk (show Hid _ from rfl) (((HR.out.alloc _).alloc _).drewN _) ((((Keeps.refl w).alloc _).alloc _).drewN _)
theorem write_e4 (R:Rep w bk bf bs bd K){s x p j d:Nat}(er:Int)(hs:s<K.nS)(hx:x<4)(hp:p<4)(Hd:Hid (K.S s (11+x*2)=d))(hd:d<K.nD)(he:K.B s (12+x*2)=true)(Hg:Hid (K.S s (3+p*2)≠-1))
  (hq:(Hid (K.D d 3=0)∧Hid (er=13))∨(Hid (K.D d 3≠0)∧Hid (K.D d 2=4)∧Hid (er=11))) :
  Calls Tryd.prog 59 #[.pointer (some ⟨bk,0,none⟩),.int .i64 s,.agg #[.int .i64 x,.int .i64 p,.int .i64 j]] w (Ends bk bf bs bd w ⟨K,0,er⟩):=by
 have HR:Hid (Rep w bk bf bs bd K):=R
 have m2:=R.hS;have m3:=R.hD
 have k1:=fun o=>(HR.out.alloc o).k1
 have k2:=fun o o'=>((HR.out.alloc o).alloc o').k2
 have c1:∀ o,(w.alloc o).cell? ⟨bs,s*20+11+x*2,none⟩=some (.int .i64 d):=fun o=>by rw [(HR.out.alloc o).ff hs hx,Hd.out]
 have c2:∀ o,(w.alloc o).cell? ⟨bs,s*20+11+x*2+1,none⟩=some (.bool true):=fun o=>by rw [(HR.out.alloc o).fe hs hx,he]
 have c5:=fun o o'=>((HR.out.alloc o).alloc o').d2 hd
 have c6:=fun o o'=>((HR.out.alloc o).alloc o').d3 hd
 have e1:((d:Int) == -1)=false:=by rw [beq_eq_false_iff_ne];omega
 have e3:(K.S s (3+p*2) != -1)=true:=by rw [bne_iff_ne];exact Hg.out
 clear R
 rcases hq with ⟨h1,h2⟩|⟨h1,h3,h2⟩
 ·have e4:(K.D d 3 == 0)=true:=by rw [h1.out];rfl
  go_enter Tryd.func59,Tryd.ntmps59
  go_wp2
  go_quiet (fail)
  go_wp2_with fail
  refine (hasFrame_rep (((HR.out.alloc _).alloc _).drewN _) hs hp).mono ?_
  rintro e w1 ⟨rfl,rfl⟩
  go_wp2
  go_quiet (fail)
  go_wp2
  go_ret2
  rw [h2.out]
  exact Ends.mk (show Hid _ from rfl) (((HR.out.alloc _).alloc _).drewN _) ((((Keeps.refl w).alloc _).alloc _).drewN _)
 ·have e4:(K.D d 3 == 0)=false:=by rw [beq_eq_false_iff_ne];exact h1.out
  have e5:(K.D d 2 == 4)=true:=by rw [h3.out];rfl
  go_enter Tryd.func59,Tryd.ntmps59
  go_wp2
  go_quiet (fail)
  go_wp2_with fail
  refine (hasFrame_rep (((HR.out.alloc _).alloc _).drewN _) hs hp).mono ?_
  rintro e w1 ⟨rfl,rfl⟩
  go_wp2
  go_quiet (fail)
  go_wp2
  go_ret2
  rw [h2.out]
  exact Ends.mk (show Hid _ from rfl) (((HR.out.alloc _).alloc _).drewN _) ((((Keeps.refl w).alloc _).alloc _).drewN _)
theorem write_rep (R:Rep w bk bf bs bd K)(G:Good K){s x p j:Nat}(hs:s<K.nS)(hx:x<4)(hp:p<4)(hj:j<4) :
  Calls Tryd.prog 59 #[.pointer (some ⟨bk,0,none⟩),.int .i64 s,.agg #[.int .i64 x,.int .i64 p,.int .i64 j]] w (Ends bk bf bs bd w (kWrite K s x p j)):=by
 unfold kWrite
 rcases G.file s x hs hx with h1|⟨h1,h2,h3⟩
 ·rw [if_pos (Or.inl h1)];exact write_e1 R hs hx h1
 obtain ⟨d,hd⟩:∃ d:Nat,K.file s x=d:=⟨(K.file s x).toNat,by omega⟩
 have hdn:d<K.nD:=by omega
 rw [hd] at h3 ⊢
 simp only [Int.toNat_natCast] at h3 ⊢
 by_cases h4:K.end s x=true
 ·rw [if_neg (by rw [h4];simp)]
  by_cases h5:K.page s p=-1
  ·rw [if_pos h5];exact write_e3 R hs hx hp hd h4 h5
  rw [if_neg h5]
  by_cases h6:K.D d 3=0
  ·rw [if_pos h6];exact write_e4 R 13 hs hx hp hd hdn h4 h5 (Or.inl ⟨h6,rfl⟩)
  rw [if_neg h6]
  by_cases h7:K.D d 2=4
  ·rw [if_pos h7];exact write_e4 R 11 hs hx hp hd hdn h4 h5 (Or.inr ⟨h6,h7,rfl⟩)
  rw [if_neg h7]
  have h8:=G.head d hdn
  have h9:=G.cnt d hdn
  obtain ⟨g,hg⟩:∃ g:Nat,K.page s p=g:=by rcases G.page s p hs hp with h|h;exact absurd h h5;exact ⟨(K.page s p).toNat,by omega⟩
  have hgl:g<K.nF:=by rcases G.page s p hs hp with h|h;exact absurd h h5;omega
  obtain ⟨h,hh⟩:∃ h:Nat,K.D d 0=h:=⟨(K.D d 0).toNat,by omega⟩
  have hhl:h<K.nF:=by rcases G.duct d hdn with k|k<;>omega
  obtain ⟨q,hq⟩:∃ q:Nat,K.D d 1=q:=⟨(K.D d 1).toNat,by omega⟩
  obtain ⟨c,hc⟩:∃ c:Nat,K.D d 2=c:=⟨(K.D d 2).toNat,by omega⟩
  have:=write_ok (r:=(q+c) % 4) R hs hx hp hj hd hdn h4 hg hgl hh hhl hq (by omega) hc (by omega) (by rw [beq_eq_false_iff_ne];exact h6) rfl
  rw [hg,hh,hq,hc]
  have e:(((q:Int)+(c:Int)) % 4).toNat=(q+c) % 4:=by omega
  simp only [Int.toNat_natCast,e]
  exact this
 ·rw [if_pos (Or.inr (by simpa using h4))];exact write_e2 R hs hx hd (by simpa [Ker.end] using h4)
end
attribute [local go_sem ↓] Go.wp_at_zero Go.wp_at_succ
section
variable {bk bf bs bd:Nat} {K:Ker} {w:World}
theorem read_ok (R:Rep w bk bf bs bd K){s x p j d g h c q r:Nat}(hs:s<K.nS)(hx:x<4)(hp:p<4)(hj:j<4)
  (Hd:Hid (K.S s (11+x*2)=d))(hd:d<K.nD)(he:K.B s (12+x*2)=false)(hw:K.B s (4+p*2)=true)(Hg:Hid (K.S s (3+p*2)=g))(hg:g<K.nF)
  (Hr:Hid (K.D d 0=h))(hh:h<K.nF)(Hq:Hid (K.D d 1=q))(hq:q<4)(Hc:Hid (K.D d 2=(c+1:Nat)))(hc:c<4)(Hm:Hid (r=(q+1) % 4)) :
  Calls Tryd.prog 60 #[.pointer (some ⟨bk,0,none⟩),.int .i64 s,.agg #[.int .i64 x,.int .i64 p,.int .i64 j]] w
   (Ends bk bf bs bd w ⟨((K.setF g (2+j) (K.F h (2+q))).setD d 1 r).setD d 2 c,0,0⟩):=by
 have HR:Hid (Rep w bk bf bs bd K):=R
 have m1:=R.hF;have m2:=R.hS;have m3:=R.hD
 have k0:=fun o o'=>((HR.out.alloc o).alloc o').k0
 have k1:=fun o=>(HR.out.alloc o).k1
 have k2:=fun o o'=>((HR.out.alloc o).alloc o').k2
 have c1:∀ o,(w.alloc o).cell? ⟨bs,s*20+11+x*2,none⟩=some (.int .i64 d):=fun o=>by rw [(HR.out.alloc o).ff hs hx,Hd.out]
 have c2:∀ o,(w.alloc o).cell? ⟨bs,s*20+11+x*2+1,none⟩=some (.bool false):=fun o=>by rw [(HR.out.alloc o).fe hs hx,he]
 have c3:∀ o o',((w.alloc o).alloc o').cell? ⟨bd,d*5,none⟩=some (.int .i64 h):=fun o o'=>by rw [((HR.out.alloc o).alloc o').d0 hd,Hr.out]
 have c4:∀ o o',((w.alloc o).alloc o').cell? ⟨bd,d*5+1,none⟩=some (.int .i64 q):=fun o o'=>by rw [((HR.out.alloc o).alloc o').d1 hd,Hq.out]
 have c5:∀ o o',((w.alloc o).alloc o').cell? ⟨bd,d*5+2,none⟩=some (.int .i64 (c+1:Int)):=fun o o'=>by rw [((HR.out.alloc o).alloc o').d2 hd,Hc.out];rfl
 have c7:=fun o o'=>((HR.out.alloc o).alloc o').fw hg hj
 have c8:=fun o o'=>((HR.out.alloc o).alloc o').fw (j:=q) hh hq
 have z1:=fun o o'=>((HR.out.alloc o).alloc o').zf
 have z2:=fun o o'=>((HR.out.alloc o).alloc o').zd
 have n1:=R.fd
 have n2:=R.kf
 have n3:bf≠bk:=fun e=>n2 e.symm
 have n4:bd≠bf:=fun e=>n1 e.symm
 clear R
 have b1:(0:Int)≤(j:Int):=by omega
 have b2:(j:Int)<4:=by omega
 have b3:(0:Int)≤(h:Int):=by omega
 have b4:(h:Int)<(K.nF:Int):=by omega
 have b5:(0:Int)≤(q:Int):=by omega
 have b6:(q:Int)<4:=by omega
 have a3:((q:Int)+1) % 4=(r:Int):=by have:=Hm.out;omega
 have e1:((d:Int) == -1)=false:=by rw [beq_eq_false_iff_ne];omega
 have e2:((c:Int)+1 == 0)=false:=by rw [beq_eq_false_iff_ne];omega
 go_enter Tryd.func60,Tryd.ntmps60
 go_wp2
 go_quiet (fail)
 go_wp2_with fail
 refine (mayWrite_rep (((HR.out.alloc _).alloc _).drewN _) hs hp).mono ?_
 rintro e w1 ⟨rfl,rfl⟩
 go_wp2
 go_quiet (fail)
 go_wp2_with fail
 go_region_held3 (fun w'=>w'.cell? ⟨bk,0,none⟩=some (.slice (some ⟨bf,0,none⟩) K.nF K.nF)∧w'.cell? ⟨bd,d*5,none⟩=some (.int .i64 h)∧w'.cell? ⟨bd,d*5+1,none⟩=some (.int .i64 q)∧w'.cell? ⟨bf,h*6+2+q,none⟩=some (.int .i64 (K.F h (2+q)))) ((repeat' apply And.intro)<;>(first|(go_keep;done)|(refine keep_same ?_;go_keep)))
  (first|(go_at_call 69;refine (words_rep (((HR.out.alloc _).alloc _).drewN _) hs hp Hg.out hg).mono ?_;rintro e w1 ⟨rfl,nq',rfl⟩))
 all_goals go_wp2
 all_goals
  go_ret2
  exact Ends.mk (show Hid _ from rfl) ((((((HR.out.alloc _).alloc _).drewN _).setF hg (by omega) (by omega) _).setD hd (by omega) (by omega) _).setD hd (by omega) (by omega) _) (((((((Keeps.refl w).alloc _).alloc _).drewN _).setF _ _).setD _ _).setD _ _)
theorem read_e1 (R:Rep w bk bf bs bd K){s x p j:Nat}(hs:s<K.nS)(hx:x<4)(Hd:Hid (K.S s (11+x*2)=-1)) :
  Calls Tryd.prog 60 #[.pointer (some ⟨bk,0,none⟩),.int .i64 s,.agg #[.int .i64 x,.int .i64 p,.int .i64 j]] w (Ends bk bf bs bd w ⟨K,0,8⟩):=by
 have HR:Hid (Rep w bk bf bs bd K):=R
 have m2:=R.hS
 have k1:=fun o=>(HR.out.alloc o).k1
 have c1:∀ o,(w.alloc o).cell? ⟨bs,s*20+11+x*2,none⟩=some (.int .i64 (-1)):=fun o=>by rw [(HR.out.alloc o).ff hs hx,Hd.out]
 have c2:=fun o=>(HR.out.alloc o).fe hs hx
 clear R
 go_enter Tryd.func60,Tryd.ntmps60
 go_wp2
 go_quiet (fail)
 go_wp2
 go_ret2
 exact Ends.mk (show Hid _ from rfl) (((HR.out.alloc _).alloc _).drewN _) ((((Keeps.refl w).alloc _).alloc _).drewN _)
theorem read_e2 (R:Rep w bk bf bs bd K){s x p j d:Nat}(hs:s<K.nS)(hx:x<4)(Hd:Hid (K.S s (11+x*2)=d))(he:K.B s (12+x*2)=true) :
  Calls Tryd.prog 60 #[.pointer (some ⟨bk,0,none⟩),.int .i64 s,.agg #[.int .i64 x,.int .i64 p,.int .i64 j]] w (Ends bk bf bs bd w ⟨K,0,8⟩):=by
 have HR:Hid (Rep w bk bf bs bd K):=R
 have m2:=R.hS
 have k1:=fun o=>(HR.out.alloc o).k1
 have c1:∀ o,(w.alloc o).cell? ⟨bs,s*20+11+x*2,none⟩=some (.int .i64 d):=fun o=>by rw [(HR.out.alloc o).ff hs hx,Hd.out]
 have c2:∀ o,(w.alloc o).cell? ⟨bs,s*20+11+x*2+1,none⟩=some (.bool true):=fun o=>by rw [(HR.out.alloc o).fe hs hx,he]
 have e1:((d:Int) == -1)=false:=by rw [beq_eq_false_iff_ne];omega
 clear R
 go_enter Tryd.func60,Tryd.ntmps60
 go_wp2
 go_quiet (fail)
 go_wp2
 go_ret2
 exact Ends.mk (show Hid _ from rfl) (((HR.out.alloc _).alloc _).drewN _) ((((Keeps.refl w).alloc _).alloc _).drewN _)
theorem read_e3 (R:Rep w bk bf bs bd K){s x p j d:Nat}(hs:s<K.nS)(hx:x<4)(hp:p<4)(Hd:Hid (K.S s (11+x*2)=d))(he:K.B s (12+x*2)=false)(hw:K.B s (4+p*2)=false) :
  Calls Tryd.prog 60 #[.pointer (some ⟨bk,0,none⟩),.int .i64 s,.agg #[.int .i64 x,.int .i64 p,.int .i64 j]] w (Ends bk bf bs bd w ⟨K,0,6⟩):=by
 have HR:Hid (Rep w bk bf bs bd K):=R
 have m2:=R.hS
 have k1:=fun o=>(HR.out.alloc o).k1
 have c1:∀ o,(w.alloc o).cell? ⟨bs,s*20+11+x*2,none⟩=some (.int .i64 d):=fun o=>by rw [(HR.out.alloc o).ff hs hx,Hd.out]
 have c2:∀ o,(w.alloc o).cell? ⟨bs,s*20+11+x*2+1,none⟩=some (.bool false):=fun o=>by rw [(HR.out.alloc o).fe hs hx,he]
 have e1:((d:Int) == -1)=false:=by rw [beq_eq_false_iff_ne];omega
 clear R
 go_enter Tryd.func60,Tryd.ntmps60
 go_wp2
 go_quiet (fail)
 go_wp2_with fail
 refine (mayWrite_rep (((HR.out.alloc _).alloc _).drewN _) hs hp).mono ?_
 rintro e w1 ⟨rfl,rfl⟩
 go_wp2
 go_ret2
 exact Ends.mk (show Hid _ from rfl) (((HR.out.alloc _).alloc _).drewN _) ((((Keeps.refl w).alloc _).alloc _).drewN _)
theorem read_e4 (R:Rep w bk bf bs bd K){s x p j d:Nat}(er:Int)(hs:s<K.nS)(hx:x<4)(hp:p<4)(Hd:Hid (K.S s (11+x*2)=d))(hd:d<K.nD)(he:K.B s (12+x*2)=false)(hw:K.B s (4+p*2)=true)(Hc:Hid (K.D d 2=0))
  (hq:(Hid (K.D d 4=0)∧Hid (er=12))∨(Hid (K.D d 4≠0)∧Hid (er=11))) :
  Calls Tryd.prog 60 #[.pointer (some ⟨bk,0,none⟩),.int .i64 s,.agg #[.int .i64 x,.int .i64 p,.int .i64 j]] w (Ends bk bf bs bd w ⟨K,0,er⟩):=by
 have HR:Hid (Rep w bk bf bs bd K):=R
 have m2:=R.hS;have m3:=R.hD
 have k1:=fun o=>(HR.out.alloc o).k1
 have k2:=fun o o'=>((HR.out.alloc o).alloc o').k2
 have c1:∀ o,(w.alloc o).cell? ⟨bs,s*20+11+x*2,none⟩=some (.int .i64 d):=fun o=>by rw [(HR.out.alloc o).ff hs hx,Hd.out]
 have c2:∀ o,(w.alloc o).cell? ⟨bs,s*20+11+x*2+1,none⟩=some (.bool false):=fun o=>by rw [(HR.out.alloc o).fe hs hx,he]
 have c5:∀ o o',((w.alloc o).alloc o').cell? ⟨bd,d*5+2,none⟩=some (.int .i64 0):=fun o o'=>by rw [((HR.out.alloc o).alloc o').d2 hd,Hc.out]
 have c6:=fun o o'=>((HR.out.alloc o).alloc o').d4 hd
 have e1:((d:Int) == -1)=false:=by rw [beq_eq_false_iff_ne];omega
 clear R
 rcases hq with ⟨h1,h2⟩|⟨h1,h2⟩
 ·have e4:(K.D d 4 == 0)=true:=by rw [h1.out];rfl
  go_enter Tryd.func60,Tryd.ntmps60
  go_wp2
  go_quiet (fail)
  go_wp2_with fail
  refine (mayWrite_rep (((HR.out.alloc _).alloc _).drewN _) hs hp).mono ?_
  rintro e w1 ⟨rfl,rfl⟩
  go_wp2
  go_quiet (fail)
  go_wp2
  go_ret2
  rw [h2.out]
  exact Ends.mk (show Hid _ from rfl) (((HR.out.alloc _).alloc _).drewN _) ((((Keeps.refl w).alloc _).alloc _).drewN _)
 ·have e4:(K.D d 4 == 0)=false:=by rw [beq_eq_false_iff_ne];exact h1.out
  go_enter Tryd.func60,Tryd.ntmps60
  go_wp2
  go_quiet (fail)
  go_wp2_with fail
  refine (mayWrite_rep (((HR.out.alloc _).alloc _).drewN _) hs hp).mono ?_
  rintro e w1 ⟨rfl,rfl⟩
  go_wp2
  go_quiet (fail)
  go_wp2
  go_ret2
  rw [h2.out]
  exact Ends.mk (show Hid _ from rfl) (((HR.out.alloc _).alloc _).drewN _) ((((Keeps.refl w).alloc _).alloc _).drewN _)
theorem read_rep (R:Rep w bk bf bs bd K)(G:Good K){s x p j:Nat}(hs:s<K.nS)(hx:x<4)(hp:p<4)(hj:j<4) :
  Calls Tryd.prog 60 #[.pointer (some ⟨bk,0,none⟩),.int .i64 s,.agg #[.int .i64 x,.int .i64 p,.int .i64 j]] w (Ends bk bf bs bd w (kRead K s x p j)):=by
 unfold kRead
 rcases G.file s x hs hx with h1|⟨h1,h2,h3⟩
 ·rw [if_pos (Or.inl h1)];exact read_e1 R hs hx h1
 obtain ⟨d,hd⟩:∃ d:Nat,K.file s x=d:=⟨(K.file s x).toNat,by omega⟩
 have hdn:d<K.nD:=by omega
 rw [hd] at h3 ⊢
 simp only [Int.toNat_natCast] at h3 ⊢
 by_cases h4:K.end s x=true
 ·rw [if_pos (Or.inr h4)];exact read_e2 R hs hx hd h4
 have h4':K.end s x=false:=by simpa using h4
 rw [if_neg (by rw [h4'];simp)]
 by_cases h5:K.wr s p=true
 ·rw [if_neg (by rw [h5];simp)]
  have h8:=G.head d hdn
  have h9:=G.cnt d hdn
  by_cases h6:K.D d 2=0
  ·by_cases h7:K.D d 4=0
   ·rw [if_pos ⟨h6,h7⟩];exact read_e4 R 12 hs hx hp hd hdn h4' h5 h6 (Or.inl ⟨h7,rfl⟩)
   ·rw [if_neg (fun h=>h7 h.2),if_pos h6];exact read_e4 R 11 hs hx hp hd hdn h4' h5 h6 (Or.inr ⟨h7,rfl⟩)
  ·rw [if_neg (fun h=>h6 h.1),if_neg h6]
   have h10:=G.wr s p hs hp h5
   obtain ⟨g,hg⟩:∃ g:Nat,K.page s p=g:=by rcases G.page s p hs hp with h|h;exact absurd h h10;exact ⟨(K.page s p).toNat,by omega⟩
   have hgl:g<K.nF:=by rcases G.page s p hs hp with h|h;exact absurd h h10;omega
   obtain ⟨h,hh⟩:∃ h:Nat,K.D d 0=h:=⟨(K.D d 0).toNat,by omega⟩
   have hhl:h<K.nF:=by rcases G.duct d hdn with k|k<;>omega
   obtain ⟨q,hq⟩:∃ q:Nat,K.D d 1=q:=⟨(K.D d 1).toNat,by omega⟩
   obtain ⟨c,hc⟩:∃ c:Nat,K.D d 2=(c+1:Nat):=⟨(K.D d 2 - 1).toNat,by omega⟩
   have:=read_ok (r:=(q+1) % 4) R hs hx hp hj hd hdn h4' h5 hg hgl hh hhl hq (by omega) hc (by omega) rfl
   rw [hg,hh,hq,hc]
   have e:((q:Int)+1) % 4=((q+1) % 4:Nat):=by omega
   have e':((c+1:Nat):Int) - 1=c:=by omega
   simp only [Int.toNat_natCast,e,e']
   exact this
 ·have h5':K.wr s p=false:=by simpa using h5
  rw [if_pos h5'];exact read_e3 R hs hx hp hd h4' h5'
end
section
variable {bk bf bs bd:Nat} {K:Ker} {w:World} {s:Nat}
theorem do_map (R:Rep w bk bf bs bd K){a b:Nat}(c:Int)(hs:s<K.nS)(ha:a<4)(hb:b<K.nF) :
  Calls Tryd.prog 32 #[.pointer (some ⟨bk,0,none⟩),.int .i64 s,.int .i64 2,.agg #[.int .i64 a,.int .i64 b,.int .i64 c]] w (Ends bk bf bs bd w (kMap K s a b)):=by
 have HR:Hid (Rep w bk bf bs bd K):=R
 clear R
 go_enter Tryd.func32,Tryd.ntmps32
 go_wp2_with fail
 refine (map_rep (HR.out.alloc _) c hs ha hb).mono ?_
 rintro e w1 ⟨rfl,R1,q1⟩
 go_wp2
 go_ret2
 exact ⟨rfl,R1,((Keeps.refl w).alloc _).trans q1⟩
theorem do_pipe (R:Rep w bk bf bs bd K)(G:Good K){a b c:Nat}(hs:s<K.nS)(ha:a<K.nD)(hb:b<K.nF)(hc:c<4) :
  Calls Tryd.prog 32 #[.pointer (some ⟨bk,0,none⟩),.int .i64 s,.int .i64 13,.agg #[.int .i64 a,.int .i64 b,.int .i64 c]] w (Ends bk bf bs bd w (kPipe K s a b c)):=by
 have HR:Hid (Rep w bk bf bs bd K):=R
 clear R
 go_enter Tryd.func32,Tryd.ntmps32
 go_wp2_with fail
 refine (pipe_rep (HR.out.alloc _) G hs ha hb hc).mono ?_
 rintro e w1 ⟨rfl,R1,q1⟩
 go_wp2
 go_ret2
 exact ⟨rfl,R1,((Keeps.refl w).alloc _).trans q1⟩
theorem do_write (R:Rep w bk bf bs bd K)(G:Good K){a b c:Nat}(hs:s<K.nS)(ha:a<4)(hb:b<4)(hc:c<4) :
  Calls Tryd.prog 32 #[.pointer (some ⟨bk,0,none⟩),.int .i64 s,.int .i64 16,.agg #[.int .i64 a,.int .i64 b,.int .i64 c]] w (Ends bk bf bs bd w (kWrite K s a b c)):=by
 have HR:Hid (Rep w bk bf bs bd K):=R
 clear R
 go_enter Tryd.func32,Tryd.ntmps32
 go_wp2_with fail
 refine (write_rep (HR.out.alloc _) G hs ha hb hc).mono ?_
 rintro e w1 ⟨rfl,R1,q1⟩
 go_wp2
 go_ret2
 exact ⟨rfl,R1,((Keeps.refl w).alloc _).trans q1⟩
theorem do_read (R:Rep w bk bf bs bd K)(G:Good K){a b c:Nat}(hs:s<K.nS)(ha:a<4)(hb:b<4)(hc:c<4) :
  Calls Tryd.prog 32 #[.pointer (some ⟨bk,0,none⟩),.int .i64 s,.int .i64 17,.agg #[.int .i64 a,.int .i64 b,.int .i64 c]] w (Ends bk bf bs bd w (kRead K s a b c)):=by
 have HR:Hid (Rep w bk bf bs bd K):=R
 clear R
 go_enter Tryd.func32,Tryd.ntmps32
 go_wp2_with fail
 refine (read_rep (HR.out.alloc _) G hs ha hb hc).mono ?_
 rintro e w1 ⟨rfl,R1,q1⟩
 go_wp2
 go_ret2
 exact ⟨rfl,R1,((Keeps.refl w).alloc _).trans q1⟩
theorem do_load (R:Rep w bk bf bs bd K)(G:Good K){a b:Nat}(c:Int)(hs:s<K.nS)(ha:a<4)(hb:b<4) :
  Calls Tryd.prog 32 #[.pointer (some ⟨bk,0,none⟩),.int .i64 s,.int .i64 18,.agg #[.int .i64 a,.int .i64 b,.int .i64 c]] w (Ends bk bf bs bd w (kLoad K s a b)):=by
 have HR:Hid (Rep w bk bf bs bd K):=R
 clear R
 go_enter Tryd.func32,Tryd.ntmps32
 go_wp2_with fail
 refine (load_rep (HR.out.alloc _) G c hs ha hb).mono ?_
 rintro e w1 ⟨rfl,R1,q1⟩
 go_wp2
 go_ret2
 exact ⟨rfl,R1,((Keeps.refl w).alloc _).trans q1⟩
theorem do_store (R:Rep w bk bf bs bd K)(G:Good K){a b:Nat}(c:Int)(hs:s<K.nS)(ha:a<4)(hb:b<4) :
  Calls Tryd.prog 32 #[.pointer (some ⟨bk,0,none⟩),.int .i64 s,.int .i64 19,.agg #[.int .i64 a,.int .i64 b,.int .i64 c]] w (Ends bk bf bs bd w (kStore K s a b c)):=by
 have HR:Hid (Rep w bk bf bs bd K):=R
 clear R
 go_enter Tryd.func32,Tryd.ntmps32
 go_wp2_with fail
 refine (store_rep (HR.out.alloc _) G c hs ha hb).mono ?_
 rintro e w1 ⟨rfl,R1,q1⟩
 go_wp2
 go_ret2
 exact ⟨rfl,R1,((Keeps.refl w).alloc _).trans q1⟩
end
theorem rowIs_setCells {b t n:Nat}:∀ (vs:List Value) (o:Nat) {w:World} {f:Nat→Value} (h:w.rowIs b t n f),(w.setCells b o vs).rowIs b t n (fun j=>if o≤j∧j<o+vs.length then vs.getD (j - o) (.bool false) else f j)
 | [],o,w,f,h=>by
  show w.rowIs b t n _
  refine h.congr fun j hj=>?_
  rw [if_neg (by simp)]
 | v::r,o,w,f,h=>by
  show ((w.setCell ⟨b,o,none⟩ v).setCells b (o+1) r).rowIs b t n _
  refine (rowIs_setCells r (o+1) (h.set o v)).congr fun j hj=>?_
  by_cases e:j=o
  ·subst e
   rw [if_neg (by omega)]
   simp
  ·by_cases e2:o+1≤j∧j<o+1+r.length
   ·rw [if_pos e2,if_pos (by simp;omega)]
    obtain ⟨m,hm⟩:∃ m,j=o+1+m:=⟨j - (o+1),by omega⟩
    subst hm
    rw [show o+1+m - (o+1)=m by omega,show o+1+m - o=m+1 by omega]
    rfl
   ·rw [if_neg e2,if_neg e,if_neg (by simp only [List.length_cons];omega)]
theorem size_setCells {b:Nat}:∀ (vs:List Value) (o:Nat) (w:World),(w.setCells b o vs).heap.size=w.heap.size
 | [],_,_=>rfl
 | v::r,o,w=>by show ((w.setCell ⟨b,o,none⟩ v).setCells b (o+1) r).heap.size=_;rw [size_setCells r];exact size_setCell _ _ _
theorem below_setCells {B b:Nat}{a:World}(hb:B≤b):∀ (vs:List Value) (o:Nat) {w:World} (h:Below B a w),Below B a (w.setCells b o vs)
 | [],_,_,h=>h
 | v::r,o,w,h=>below_setCells hb r (o+1) (h.setCell hb v)
theorem heap_setCells {b k:Nat}(hk:k≠b):∀ (vs:List Value) (o:Nat) (w:World),(w.setCells b o vs).heap[k]?=w.heap[k]?
 | [],_,_=>rfl
 | v::r,o,w=>by show ((w.setCell ⟨b,o,none⟩ v).setCells b (o+1) r).heap[k]?=_;rw [heap_setCells hk r];exact Below.heap_setCell _ _ _ _ hk
theorem rowIs_there {w:World}{b t n:Nat}{f:Nat→Value}(h:w.rowIs b t n f){o m:Nat}(hm:o+m≤n):w.there b o m:=fun j hj =>
 ⟨by rw [h.cell (by omega)];rfl,h.frozen _⟩
theorem rowIs_range {w:World}{b t n:Nat}{f:Nat→Value}(h:w.rowIs b t n f){o m:Nat}(hm:o+m≤n):w.rangeAt b o ((List.range m).map fun j=>f (o+j)):=fun j v hv=>by
 have hj:j<m:=by have:=(List.getElem?_eq_some_iff.1 hv).1;simpa using this
 rw [List.getElem?_map,List.getElem?_range hj] at hv
 rw [h.cell (by omega)]
 exact hv
theorem rowIs_new (w:World)(c:Array Value)(t:TypeId):(w.alloc (.cells c t)).rowIs w.heap.size t c.size (fun j=>c.getD j (.bool false)) :=
 World.rowIs_alloc w c t _ (fun i hi=>by simp [hi])
theorem rowIs_new2 (w:World)(o:Obj)(c:Array Value)(t:TypeId):((w.alloc o).alloc (.cells c t)).rowIs (w.heap.size+1) t c.size (fun j=>c.getD j (.bool false)):=by
 have h:=rowIs_new (w.alloc o) c t
 have e:(w.alloc o).heap.size=w.heap.size+1:=by simp
 rw [e] at h
 exact h
theorem results_cell_range {P:Program}{fn:Func}{p:Tmp}{ty:TypeId}(h:fn.results=#[.cell p ty])(tmps:Array Value)(w:World)(b:Nat)(cs:List Value)(d:TypeDesc)
  (hp:tmps.getD p undef=.pointer (some ⟨b,0,none⟩))(hc:w.rangeAt b 0 cs)(hu:P.underlying ty=some d)(hd:d.isRow=true)(hi:(P.info? ty).map (·.size)=some cs.length) :
  (results fn tmps).run P w=.ok (.agg cs.toArray) w:=by
 have hp':tmps[p]?.getD undef=.pointer (some ⟨b,0,none⟩):=by simpa using hp
 simp [results,h,hp',asAddr,run_loadVar_mid w b 0 ty cs d hc hu hd hi]
end Go.Proofs.YtcgabodkegcpgaaDoor
