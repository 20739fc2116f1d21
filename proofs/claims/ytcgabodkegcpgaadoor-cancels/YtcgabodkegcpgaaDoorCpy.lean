/- What the kernel's call Copy does (for every kernel whose numbers are ones). -/
import Derived.Test.YtcgabodkegcpgaaDoorPrc
import Derived.Deep.RegionHeld3
import Derived.Deep.DrawnRows
import Derived.Test.YtcgabodkegcpgaaDoorNew1
namespace Go.Proofs.YtcgabodkegcpgaaDoor
open Go.RowKit
set_option linter.unusedVariables false
set_option maxHeartbeats 4000000
attribute [local go_sem ↓] Go.wp_at_zero Go.wp_at_succ
section
variable {bk bf bs bd:Nat} {K:Ker} {w:World}
theorem Rep.copyWords (R:Rep w bk bf bs bd K){g h:Nat}(hg:g<K.nF) :
  Rep ((((w.setCell ⟨bf,g*6+2,none⟩ (.int .i64 (K.F h 2))).setCell ⟨bf,g*6+2+1,none⟩ (.int .i64 (K.F h 3))).setCell ⟨bf,g*6+2+2,none⟩ (.int .i64 (K.F h 4))).setCell ⟨bf,g*6+2+3,none⟩ (.int .i64 (K.F h 5))) bk bf bs bd (K.copyWords g h):=by
 have Ra:=R.setF (c:=2) (o:=g*6+2) hg (by omega) rfl (K.F h 2)
 have ha:g<(K.setF g 2 (K.F h 2)).nF:=hg
 have Rb:=Ra.setF (c:=3) (o:=g*6+2+1) ha (by omega) (by omega) (K.F h 3)
 have hb:g<((K.setF g 2 (K.F h 2)).setF g 3 (K.F h 3)).nF:=ha
 have Rc:=Rb.setF (c:=4) (o:=g*6+2+2) hb (by omega) (by omega) (K.F h 4)
 have hc:g<(((K.setF g 2 (K.F h 2)).setF g 3 (K.F h 3)).setF g 4 (K.F h 4)).nF:=hb
 exact Rc.setF (c:=5) (o:=g*6+2+3) hc (by omega) (by omega) (K.F h 5)
theorem copy_rep (R:Rep w bk bf bs bd K)(G:Good K){s c p f:Nat}(hs:s<K.nS)(hc:c<K.nS)(hp:p<4)(hf:f<K.nF) :
  Calls Tryd.prog 49 #[.pointer (some ⟨bk,0,none⟩),.int .i64 s,.agg #[.int .i64 c,.int .i64 p,.int .i64 f]] w (Ends bk bf bs bd w (kCopy K s c p f)):=by
 have HR:Hid (Rep w bk bf bs bd K):=R
 have hn:=R.hS;have hm:=R.hF
 clear R
 by_cases h0:K.embryo s c=true
 ·by_cases h1:K.page s p=-1
  ·have e1:(K.S s (3+p*2) != -1)=false:=by simpa [Ker.page] using h1
   have E:Hid (kCopy K s c p f=⟨K,0,6⟩):=by unfold kCopy;simp [h0,h1,Hid]
   clear h1
   go_enter Tryd.func49,Tryd.ntmps49
   go_wp2
   go_quiet (fail)
   go_wp2_with fail
   refine (isEmbryoOf_rep ((HR.out.alloc _).drewN _) hc).mono ?_
   rintro e w1 ⟨rfl,rfl⟩
   go_wp2_with fail
   refine (hasFrame_rep ((HR.out.alloc _).drewN _) hs hp).mono ?_
   rintro e w1 ⟨rfl,rfl⟩
   go_wp2
   go_ret2
   exact Ends.mk E ((HR.out.alloc _).drewN _) (((Keeps.refl w).alloc _).drewN _)
  ·have e1:(K.S s (3+p*2) != -1)=true:=by simpa [Ker.page] using h1
   by_cases h2:K.page c p=-1
   ·have e2:(K.S c (3+p*2) != -1)=false:=by simpa [Ker.page] using h2
    by_cases h3:K.F f 0=0
    ·have e3:(K.F f 0 == 0)=true:=by simpa using h3
     obtain ⟨g,hg⟩:∃ g:Nat,K.page s p=g:=by rcases G.page s p hs hp with h|h;exact absurd h h1;exact ⟨(K.page s p).toNat,by omega⟩
     have hl:g<K.nF:=by rcases G.page s p hs hp with h|h;exact absurd h h1;omega
     have hsc:s≠c:=by rintro rfl;exact h1 h2
     have E:Hid (kCopy K s c p f=⟨((K.become f 2 c).setPage c p f (K.wr s p)).copyWords f g,0,0⟩):=by unfold kCopy;simp [h0,h2,h3,hg,Hid]
     have Hg:Hid (K.S s (3+p*2)=g):=hg
     have Hsc:Hid (s≠c):=hsc
     clear h1 h2 h3 hg hsc
     go_enter Tryd.func49,Tryd.ntmps49
     go_wp2
     go_quiet (fail)
     go_wp2_with fail
     refine (isEmbryoOf_rep ((HR.out.alloc _).drewN _) hc).mono ?_
     rintro e w1 ⟨rfl,rfl⟩
     go_wp2_with fail
     refine (hasFrame_rep ((HR.out.alloc _).drewN _) hs hp).mono ?_
     rintro e w1 ⟨rfl,rfl⟩
     go_wp2_with fail
     refine (hasFrame_rep ((HR.out.alloc _).drewN _) hc hp).mono ?_
     rintro e w1 ⟨rfl,rfl⟩
     go_wp2_with fail
     refine (isFree_rep ((HR.out.alloc _).drewN _) hf).mono ?_
     rintro e w1 ⟨rfl,rfl⟩
     go_wp2_with fail
     refine (become_rep ((HR.out.alloc _).drewN _) 2 _ hf).mono ?_
     rintro e w1 ⟨rfl,R1,q1⟩
     have HR1:Hid (Rep w1 bk bf bs bd (K.become f 2 c)):=R1
     have Hq1:Hid (Keeps bf bs bd w w1):=(((Keeps.refl w).alloc _).drewN _).trans q1
     have t1:c<(K.become f 2 c).nS:=hc
     have t2:s<(K.become f 2 c).nS:=hs
     have t3:f<(K.become f 2 c).nF:=hf
     have t4:g<(K.become f 2 c).nF:=hl
     have t5:(K.become f 2 c).S s (3+p*2)=g:=Hg.out
     have t6:K.wr s p=(K.become f 2 c).B s (4+p*2):=rfl
     have Ht5:Hid _:=t5
     have HE:Hid (kCopy K s c p f=⟨((K.become f 2 c).setPage c p f ((K.become f 2 c).B s (4+p*2))).copyWords f g,0,0⟩):=E
     clear R1 q1 t5 t6 E
     generalize K.become f 2 c=K1 at *
     have r0:=HR1.out.k1
     have r1:=HR1.out.pf t1 hp
     have r2:=HR1.out.pw t1 hp
     have r3:=HR1.out.zs
     have r4:=HR1.out.hS
     have n1:=HR1.out.ks
     have n2:bs≠bk:=fun e=>n1 e.symm
     have i1:(0:Int)≤(c:Int):=by omega
     have i2:(c:Int)<(K1.nS:Int):=by omega
     have i3:(0:Int)≤(p:Int):=by omega
     have i4:(p:Int)<4:=by omega
     go_wp2_with fail
     go_region_held3 (fun w'=>w'.cell? ⟨bk,1,none⟩=some (.slice (some ⟨bs,0,none⟩) K1.nS K1.nS)) (go_keep) (first|(go_at_call 68;refine (mayWrite_rep HR1.out.drew t2 hp).mono ?_;rintro e w2 ⟨rfl,rfl⟩))
     have HR2:Hid (Rep _ bk bf bs bd (K1.setPage c p f (K1.B s (4+p*2)))):=((HR1.out.setS (c:=3+p*2) (o:=c*20+3+p*2) t1 (by omega) (not_isBp p) (by omega) f).setB (c:=4+p*2) (o:=c*20+3+p*2+1) t1 (isBp p hp) (by omega) (K1.B s (4+p*2)))
     have Hq2:Hid (Keeps bf bs bd w _):=((Hq1.out.setS (c*20+3+p*2) (.int .i64 f)).setS (c*20+3+p*2+1) (.bool (K1.B s (4+p*2))))
     have u1:c<(K1.setPage c p f (K1.B s (4+p*2))).nS:=t1
     have u2:s<(K1.setPage c p f (K1.B s (4+p*2))).nS:=t2
     have u3:f<(K1.setPage c p f (K1.B s (4+p*2))).nF:=t3
     have u4:g<(K1.setPage c p f (K1.B s (4+p*2))).nF:=t4
     have u5:(K1.setPage c p f (K1.B s (4+p*2))).S c (3+p*2)=f:=upd_same _ _ _ _
     have u6:(K1.setPage c p f (K1.B s (4+p*2))).S s (3+p*2)=g:=(upd_other K1.S c (3+p*2) f s (3+p*2) (by have:=Hsc.out;omega)).trans Ht5.out
     have Hu5:Hid _:=u5
     have Hu6:Hid _:=u6
     clear u5 u6 r0 r1 r2
     go_wp2_with fail
     refine (words_rep HR2.out.drew u1 hp Hu5.out u3).mono ?_
     rintro e w2 ⟨rfl,nq1,rfl⟩
     go_wp2_with fail
     refine (words_rep (HR2.out.drewN _) u2 hp Hu6.out u4).mono ?_
     rintro e w2 ⟨rfl,nq2,rfl⟩
     have v0:=HR2.out.f g 2 u4 (by omega)
     have v1:=HR2.out.f g 3 u4 (by omega)
     have v2:=HR2.out.f g 4 u4 (by omega)
     have v3:=HR2.out.f g 5 u4 (by omega)
     have x0:=HR2.out.f f 2 u3 (by omega)
     have x1:=HR2.out.f f 3 u3 (by omega)
     have x2:=HR2.out.f f 4 u3 (by omega)
     have x3:=HR2.out.f f 5 u3 (by omega)
     have zf:=HR2.out.zf
     have HRc:Hid _:=HR2.out.copyWords (g:=f) (h:=g) u3
     have Hqc:Hid (Keeps bf bs bd w _):=(((Hq2.out.setF (f*6+2) (.int .i64 ((K1.setPage c p f (K1.B s (4+p*2))).F g 2))).setF (f*6+2+1) (.int .i64 ((K1.setPage c p f (K1.B s (4+p*2))).F g 3))).setF (f*6+2+2) (.int .i64 ((K1.setPage c p f (K1.B s (4+p*2))).F g 4))).setF (f*6+2+3) (.int .i64 ((K1.setPage c p f (K1.B s (4+p*2))).F g 5))
     generalize hW:((w1.setCell ⟨bs,c*20+3+p*2,none⟩ (.int .i64 f)).setCell ⟨bs,c*20+3+p*2+1,none⟩ (.bool (K1.B s (4+p*2))))=W at *
     clear hW HR1 Hq1 HR2 Hq2
     go_wp2
     go_ret2
     exact Ends.mk HE (HRc.out.drewN _) (Hqc.out.drewN _)
    ·have e3:(K.F f 0 == 0)=false:=by simpa using h3
     have E:Hid (kCopy K s c p f=⟨K,0,5⟩):=by unfold kCopy;simp [h0,h1,h2,h3,Hid]
     clear h1 h2 h3
     go_enter Tryd.func49,Tryd.ntmps49
     go_wp2
     go_quiet (fail)
     go_wp2_with fail
     refine (isEmbryoOf_rep ((HR.out.alloc _).drewN _) hc).mono ?_
     rintro e w1 ⟨rfl,rfl⟩
     go_wp2_with fail
     refine (hasFrame_rep ((HR.out.alloc _).drewN _) hs hp).mono ?_
     rintro e w1 ⟨rfl,rfl⟩
     go_wp2_with fail
     refine (hasFrame_rep ((HR.out.alloc _).drewN _) hc hp).mono ?_
     rintro e w1 ⟨rfl,rfl⟩
     go_wp2_with fail
     refine (isFree_rep ((HR.out.alloc _).drewN _) hf).mono ?_
     rintro e w1 ⟨rfl,rfl⟩
     go_wp2
     go_ret2
     exact Ends.mk E ((HR.out.alloc _).drewN _) (((Keeps.refl w).alloc _).drewN _)
   ·have e2:(K.S c (3+p*2) != -1)=true:=by simpa [Ker.page] using h2
    have E:Hid (kCopy K s c p f=⟨K,0,6⟩):=by unfold kCopy;simp [h0,h2,Hid]
    clear h1 h2
    go_enter Tryd.func49,Tryd.ntmps49
    go_wp2
    go_quiet (fail)
    go_wp2_with fail
    refine (isEmbryoOf_rep ((HR.out.alloc _).drewN _) hc).mono ?_
    rintro e w1 ⟨rfl,rfl⟩
    go_wp2_with fail
    refine (hasFrame_rep ((HR.out.alloc _).drewN _) hs hp).mono ?_
    rintro e w1 ⟨rfl,rfl⟩
    go_wp2_with fail
    refine (hasFrame_rep ((HR.out.alloc _).drewN _) hc hp).mono ?_
    rintro e w1 ⟨rfl,rfl⟩
    go_wp2
    go_ret2
    exact Ends.mk E ((HR.out.alloc _).drewN _) (((Keeps.refl w).alloc _).drewN _)
 ·have h0':K.embryo s c=false:=by simpa using h0
  have E:Hid (kCopy K s c p f=⟨K,0,7⟩):=by unfold kCopy;simp [h0',Hid]
  clear h0
  go_enter Tryd.func49,Tryd.ntmps49
  go_wp2
  go_quiet (fail)
  go_wp2_with fail
  refine (isEmbryoOf_rep ((HR.out.alloc _).drewN _) hc).mono ?_
  rintro e w1 ⟨rfl,rfl⟩
  go_wp2
  go_ret2
  exact Ends.mk E ((HR.out.alloc _).drewN _) (((Keeps.refl w).alloc _).drewN _)
end
attribute [local go_sem ↓] Go.wp_at_zero Go.wp_at_succ
section
variable {bk bf bs bd:Nat} {K:Ker} {w:World}
theorem Rep.noSlot (R:Rep w bk bf bs bd K){c:Nat}(hc:c<K.nS):Rep (w.setCells bs (c*20) noneCells) bk bf bs bd (K.noSlot c):=by
 have th:∀ j,j<noneCells.length→(w.cell? ⟨bs,c*20+j,none⟩).isSome=true:=fun j hj=>by
  rw [noneCells_len] at hj
  by_cases hb:isB j
  ·rw [R.b c j hc hb];rfl
  ·rw [R.s c j hc hj hb];rfl
 have ot:∀ b o,b≠bs→(w.setCells bs (c*20) noneCells).cell? ⟨b,o,none⟩=w.cell? ⟨b,o,none⟩:=fun b o hb=>World.cell?_setCells_out bs noneCells (c*20) w ⟨b,o,none⟩ (fun h=>absurd h hb)
 have os:∀ i j,i≠c→j<20→(w.setCells bs (c*20) noneCells).cell? ⟨bs,i*20+j,none⟩=w.cell? ⟨bs,i*20+j,none⟩:=fun i j hi hj=>World.cell?_setCells_out bs noneCells (c*20) w ⟨bs,i*20+j,none⟩ (fun _ _=>by rw [noneCells_len];show i*20+j<c*20∨c*20+20≤i*20+j;omega)
 have ins:∀ j (hj:j<20),(w.setCells bs (c*20) noneCells).cell? ⟨bs,c*20+j,none⟩=some (noneCells[j]'(by rw [noneCells_len];exact hj)):=fun j hj=>World.cell?_setCells_in bs noneCells (c*20) w th j (by rw [noneCells_len];exact hj)
 refine ⟨by rw [ot _ _ R.ks];exact R.k0,by rw [ot _ _ R.ks];exact R.k1,by rw [ot _ _ R.ks];exact R.k2,fun i j hi hj=>by rw [ot _ _ R.fs];exact R.f i j hi hj,?_,?_,fun i j hi hj=>by rw [ot _ _ (fun e=>R.sd e.symm)];exact R.d i j hi hj,fun o=>by rw [World.frozen?_setCells];exact R.zf o,fun o=>by rw [World.frozen?_setCells];exact R.zs o,fun o=>by rw [World.frozen?_setCells];exact R.zd o,by rw [size_setCells];exact R.lk,by rw [size_setCells];exact R.lf,by rw [size_setCells];exact R.ls,by rw [size_setCells];exact R.ld,R.kf,R.ks,R.kd,R.fs,R.fd,R.sd,R.hF,R.hS,R.hD⟩
 ·intro i j hi hj hb
  by_cases e:i=c
  ·subst e
   rw [ins j hj]
   show some _=some (Value.int .i64 (if i=i then (if j=0∨j=19 then 0 else -1) else K.S i j))
   rw [if_pos rfl]
   obtain rfl|rfl|rfl|rfl|rfl|rfl|rfl|rfl|rfl|rfl|rfl|rfl:j=0∨j=1∨j=2∨j=3∨j=5∨j=7∨j=9∨j=11∨j=13∨j=15∨j=17∨j=19:=by unfold isB at hb;omega
   all_goals rfl
  ·rw [os i j e hj,R.s i j hi hj hb]
   show _=some (Value.int .i64 (if i=c then (if j=0∨j=19 then 0 else -1) else K.S i j))
   rw [if_neg e]
 ·intro i j hi hb
  have hj:j<20:=by unfold isB at hb;omega
  by_cases e:i=c
  ·subst e
   rw [ins j hj]
   show some _=some (Value.bool (if i=i then false else K.B i j))
   rw [if_pos rfl]
   obtain rfl|rfl|rfl|rfl|rfl|rfl|rfl|rfl:j=4∨j=6∨j=8∨j=10∨j=12∨j=14∨j=16∨j=18:=by unfold isB at hb;omega
   all_goals rfl
  ·rw [os i j e hj,R.b i j hi hb]
   show _=some (Value.bool (if i=c then false else K.B i j))
   rw [if_neg e]
theorem Keeps.setCells {a:World}(h:Keeps bf bs bd a w):∀ (vs:List Value) (o:Nat),Keeps bf bs bd a (w.setCells bs o vs):=fun vs=>by
 induction vs generalizing w with
 | nil=>intro o;exact h
 | cons v r ih=>intro o;exact ih (h.setS o v) (o+1)
theorem reap_page (K:Ker)(s c:Nat)(h0:K.still s c=true)(p:Nat)(hp:p<4)(h:K.page c p≠-1):kReap K s c=⟨K,0,6⟩:=by
 unfold kReap
 rw [if_neg (by simp [h0]),if_pos]
 obtain rfl|rfl|rfl|rfl:p=0∨p=1∨p=2∨p=3:=by omega
 ·exact Or.inl h
 ·exact Or.inr (Or.inl h)
 ·exact Or.inr (Or.inr (Or.inl h))
 ·exact Or.inr (Or.inr (Or.inr h))
theorem reap_file (K:Ker)(s c:Nat)(h0:K.still s c=true)(hp:∀ p,p<4→K.page c p=-1)(x:Nat)(hx:x<4)(h:K.file c x≠-1):kReap K s c=⟨K,0,8⟩:=by
 unfold kReap
 rw [if_neg (by simp [h0]),if_neg (by simp [hp 0 (by omega),hp 1 (by omega),hp 2 (by omega),hp 3 (by omega)]),if_pos]
 obtain rfl|rfl|rfl|rfl:x=0∨x=1∨x=2∨x=3:=by omega
 ·exact Or.inl h
 ·exact Or.inr (Or.inl h)
 ·exact Or.inr (Or.inr (Or.inl h))
 ·exact Or.inr (Or.inr (Or.inr h))
theorem reap_done (K:Ker)(s c:Nat)(h0:K.still s c=true)(hp:∀ p,p<4→K.page c p=-1)(hx:∀ x,x<4→K.file c x=-1):kReap K s c=⟨(K.become (K.S c 2).toNat 0 (-1)).noSlot c,K.S c 19,0⟩:=by
 unfold kReap
 rw [if_neg (by simp [h0]),if_neg (by simp [hp 0 (by omega),hp 1 (by omega),hp 2 (by omega),hp 3 (by omega)]),if_neg (by simp [hx 0 (by omega),hx 1 (by omega),hx 2 (by omega),hx 3 (by omega)])]
theorem Rep.there (R:Rep w bk bf bs bd K){c:Nat}(hc:c<K.nS):w.there bs (c*20) 20:=fun j hj=>by
 refine ⟨?_,R.zs _⟩
 by_cases hb:isB j
 ·rw [R.b c j hc hb];rfl
 ·rw [R.s c j hc hj hb];rfl
theorem Rep.belowed {w':World}(R:Rep w bk bf bs bd K)(b:Below w.heap.size w w'):Rep w' bk bf bs bd K:=R.same b.size (fun k h1 _=>b.block k h1)
theorem store_cells {P:Program}{w:World}{b o:Nat}{cs:List Value}(ht:w.there b o cs.length)(h1:∀ v∈cs,v.oneCell'=true):Sem.run P (storeCells ⟨b,o,none⟩ cs) w=.ok () (w.setCells b o cs):=by
 have:=run_storeCells_cells (P:=P) b o cs 0 w (fun j hj=>by simpa using (ht j hj).1) (fun j hj=>by simpa using (ht j hj).2) h1
 simpa using this
set_option maxRecDepth 100000 in
theorem reap_rep (R:Rep w bk bf bs bd K)(G:Good K){s c:Nat}(y z:Int)(hs:s<K.nS)(hc:c<K.nS) :
  Calls Tryd.prog 55 #[.pointer (some ⟨bk,0,none⟩),.int .i64 s,.agg #[.int .i64 c,.int .i64 y,.int .i64 z]] w (Ends bk bf bs bd w (kReap K s c)):=by
 have HR:Hid (Rep w bk bf bs bd K):=R
 have hn:=R.hS;have hm:=R.hF
 clear R
 by_cases h0:K.still s c=true
 ·have hk0:K.S c 0≠0:=by intro h;unfold Ker.still at h0;rw [h] at h0;simp at h0
  obtain ⟨t,ht⟩:∃ t:Nat,K.S c 2=t:=⟨(K.S c 2).toNat,by have:=G.tab c hc hk0;omega⟩
  have htl:t<K.nF:=by have:=G.tab c hc hk0;omega
  have Ht:Hid (K.S c 2=t):=ht
  clear hk0 ht
  go_enter Tryd.func55,Tryd.ntmps55
  go_wp2_with fail
  refine (isStillOf_rep (HR.out.alloc _) hc).mono ?_
  rintro e w1 ⟨rfl,rfl⟩
  go_wp2
  go_loop [19] (fun i=>∃ k:Nat,k≤4∧i=.int .i64 k∧∀ p,p<k→K.page c p=-1) (fun i=>4 - (intOf i).toNat)
  case atStart=>exact ⟨0,by omega,rfl,fun p hp=>by omega⟩
  case round =>
   obtain ⟨k,hk,rfl,hpg⟩:=hrel
   have Hp:Hid (∀ p,p<k→K.page c p=-1):=hpg
   clear hpg
   by_cases hlt:k<4
   ·by_cases h1:K.page c k=-1
    ·have e1:(K.S c (3+k*2) != -1)=false:=by simpa [Ker.page] using h1
     have Hk:Hid (K.page c k=-1):=h1
     clear h1
     go_wp2_with fail
     refine (hasFrame_rep (HR.out.alloc _) hc hlt).mono ?_
     rintro e w1 ⟨rfl,rfl⟩
     go_wp2
     exact ⟨⟨k+1,by omega,by go_num,fun p hp=>by by_cases e:p=k;rw [e];exact Hk.out;exact Hp.out p (by omega)⟩,by simp [intOf];omega⟩
    ·have e1:(K.S c (3+k*2) != -1)=true:=by simpa [Ker.page] using h1
     have E:Hid (kReap K s c=⟨K,0,6⟩):=reap_page K s c h0 k hlt h1
     clear h1
     go_wp2_with fail
     refine (hasFrame_rep (HR.out.alloc _) hc hlt).mono ?_
     rintro e w1 ⟨rfl,rfl⟩
     go_wp2
     go_ret2
     exact Ends.mk E (HR.out.alloc _) ((Keeps.refl w).alloc _)
   ·obtain rfl:k=4:=by omega
    go_wp2
    go_loop [27] (fun i=>∃ k:Nat,k≤4∧i=.int .i64 k∧∀ x,x<k→K.file c x=-1) (fun i=>4 - (intOf i).toNat)
    case atStart=>exact ⟨0,by omega,rfl,fun p hp=>by omega⟩
    case round =>
     obtain ⟨k,hk,rfl,hfl⟩:=hrel
     have Hf:Hid (∀ x,x<k→K.file c x=-1):=hfl
     clear hfl
     by_cases hlt:k<4
     ·by_cases h1:K.file c k=-1
      ·have e1:(K.S c (11+k*2) != -1)=false:=by simpa [Ker.file] using h1
       have Hk:Hid (K.file c k=-1):=h1
       clear h1
       go_wp2_with fail
       refine (isFile_rep (HR.out.alloc _) hc hlt).mono ?_
       rintro e w1 ⟨rfl,rfl⟩
       go_wp2
       exact ⟨⟨k+1,by omega,by go_num,fun p hp=>by by_cases e:p=k;rw [e];exact Hk.out;exact Hf.out p (by omega)⟩,by simp [intOf];omega⟩
      ·have e1:(K.S c (11+k*2) != -1)=true:=by simpa [Ker.file] using h1
       have E:Hid (kReap K s c=⟨K,0,8⟩):=reap_file K s c h0 Hp.out k hlt h1
       clear h1
       go_wp2_with fail
       refine (isFile_rep (HR.out.alloc _) hc hlt).mono ?_
       rintro e w1 ⟨rfl,rfl⟩
       go_wp2
       go_ret2
       exact Ends.mk E (HR.out.alloc _) ((Keeps.refl w).alloc _)
     ·obtain rfl:k=4:=by omega
      have E:Hid (kReap K s c=⟨(K.become t 0 (-1)).noSlot c,K.S c 19,0⟩):=by unfold Hid;rw [reap_done K s c h0 Hp.out Hf.out,Ht.out,Int.toNat_natCast]
      have k1:=fun o=>(HR.out.alloc o).k1
      have c1:=fun o=>(HR.out.alloc o).sc hc
      have c2:∀ o,(w.alloc o).cell? ⟨bs,c*20+2,none⟩=some (.int .i64 t):=fun o=>by rw [(HR.out.alloc o).st hc,Ht.out]
      go_wp2_with fail
      refine (become_rep (HR.out.alloc _) 0 (-1) htl).mono ?_
      rintro e w2 ⟨rfl,R2,q2⟩
      have HR2:Hid (Rep w2 bk bf bs bd (K.become t 0 (-1))):=R2
      have Hq2:Hid (Keeps bf bs bd w w2):=((Keeps.refl w).alloc _).trans q2
      have hc2:c<(K.become t 0 (-1)).nS:=hc
      clear R2 q2 k1 c1 c2
      generalize K.become t 0 (-1)=K2 at *
      have r1:=HR2.out.k1
      have r2:=HR2.out.hS
      have i1:(0:Int)≤(c:Int):=by omega
      have i2:(c:Int)<(K2.nS:Int):=by omega
      obtain ⟨cs,hcs⟩:∃ cs,cs=noneCells:=⟨_,rfl⟩
      have hl:Hid (cs.length=20):=by unfold Hid;rw [hcs];exact noneCells_len
      have hi2:Hid ((Tryd.prog.info? 55).map (·.size)=some cs.toArray.size):=by unfold Hid;rw [hcs,List.size_toArray,noneCells_len];kernel_rfl
      have h1a:Hid (∀ v∈cs,v.oneCell'=true):=by unfold Hid;rw [hcs];exact fun v hv=>Array.all_eq_true_iff_forall_mem.1 noneCells_one v (by simpa using hv)
      have n1:=HR2.out.ks
      have n2:bs≠bk:=fun e=>n1 e.symm
      have CE:Hid (∀ w,Calls Tryd.prog 27 #[] w fun e w'=>e=.returned (.agg cs.toArray)∧Below w.heap.size w w'):=by unfold Hid;rw [hcs];exact emptySlot_any
      have HN:Hid (∀ w3,Rep w3 bk bf bs bd K2→Rep (w3.setCells bs (c*20) cs) bk bf bs bd (K2.noSlot c)):=by unfold Hid;rw [hcs];exact fun w3 R3=>R3.noSlot hc2
      clear hcs
      have hc3:c<(K2.noSlot c).nS:=hc2
      go_wp2_with fail
      go_region_held3 (fun w'=>w'.cell? ⟨bk,1,none⟩=some (.slice (some ⟨bs,0,none⟩) K2.nS K2.nS)) (go_keep) (first|(go_at_call 27;refine (CE.out _).mono ?_;rintro e w3 ⟨rfl,b3⟩;have HR3:Hid (Rep w3 bk bf bs bd K2):=HR2.out.drew.belowed b3;have Hq3:Hid (Keeps bf bs bd w w3):=Hq2.out.drew.trans ⟨b3.os,b3.tape,b3.output,b3.size,fun k h1 _ _ _=>b3.block k h1⟩;have t4:=HR3.out.k1;have t6:(w3.setCells bs (c*20) cs).cell? ⟨bk,1,none⟩=some (.slice (some ⟨bs,0,none⟩) K2.nS K2.nS):=(HN.out w3 HR3.out).k1;have st:=store_cells (P:=Tryd.prog) (w:=w3) (b:=bs) (o:=c*20) (cs:=cs) (by rw [hl.out];exact HR3.out.there hc2) h1a.out;clear b3))
      go_wp2
      go_ret2
      exact Ends.mk E (HN.out _ HR3.out) (Hq3.out.setCells cs (c*20))
 ·have h0':K.still s c=false:=by simpa using h0
  have E:Hid (kReap K s c=⟨K,0,7⟩):=by unfold kReap;simp [h0',Hid]
  clear h0
  go_enter Tryd.func55,Tryd.ntmps55
  go_wp2_with fail
  refine (isStillOf_rep (HR.out.alloc _) hc).mono ?_
  rintro e w1 ⟨rfl,rfl⟩
  go_wp2
  go_ret2
  exact Ends.mk E (HR.out.alloc _) ((Keeps.refl w).alloc _)
end
section
variable {bk bf bs bd:Nat} {K:Ker} {w:World} {s:Nat}
set_option maxRecDepth 100000 in
theorem do_yield (R:Rep w bk bf bs bd K)(a b c:Int) :
  Calls Tryd.prog 32 #[.pointer (some ⟨bk,0,none⟩),.int .i64 s,.int .i64 1,.agg #[.int .i64 a,.int .i64 b,.int .i64 c]] w (Ends bk bf bs bd w ⟨K,0,0⟩):=by
 have HR:Hid (Rep w bk bf bs bd K):=R
 clear R
 go_enter Tryd.func32,Tryd.ntmps32
 go_wp2
 go_ret2
 exact Ends.mk (show Hid _ from rfl) (HR.out.alloc _) ((Keeps.refl w).alloc _)
set_option maxRecDepth 100000 in
theorem do_none (R:Rep w bk bf bs bd K)(a b c:Int) :
  Calls Tryd.prog 32 #[.pointer (some ⟨bk,0,none⟩),.int .i64 s,.int .i64 0,.agg #[.int .i64 a,.int .i64 b,.int .i64 c]] w (Ends bk bf bs bd w ⟨K,0,2⟩):=by
 have HR:Hid (Rep w bk bf bs bd K):=R
 clear R
 go_enter Tryd.func32,Tryd.ntmps32
 go_wp2
 go_ret2
 exact Ends.mk (show Hid _ from rfl) (HR.out.alloc _) ((Keeps.refl w).alloc _)
theorem do_unmap (R:Rep w bk bf bs bd K)(G:Good K){a:Nat}(b c:Int)(hs:s<K.nS)(ha:a<4) :
  Calls Tryd.prog 32 #[.pointer (some ⟨bk,0,none⟩),.int .i64 s,.int .i64 3,.agg #[.int .i64 a,.int .i64 b,.int .i64 c]] w (Ends bk bf bs bd w (kUnmap K s a)):=by
 have HR:Hid (Rep w bk bf bs bd K):=R
 clear R
 go_enter Tryd.func32,Tryd.ntmps32
 go_wp2_with fail
 refine (unmap_rep (HR.out.alloc _) G b c hs ha).mono ?_
 rintro e w1 ⟨rfl,R1,q1⟩
 go_wp2
 go_ret2
 exact ⟨rfl,R1,((Keeps.refl w).alloc _).trans q1⟩
theorem do_protect (R:Rep w bk bf bs bd K){a:Nat}(b c:Int)(hs:s<K.nS)(ha:a<4) :
  Calls Tryd.prog 32 #[.pointer (some ⟨bk,0,none⟩),.int .i64 s,.int .i64 4,.agg #[.int .i64 a,.int .i64 b,.int .i64 c]] w (Ends bk bf bs bd w (kProtect K s a b)):=by
 have HR:Hid (Rep w bk bf bs bd K):=R
 clear R
 go_enter Tryd.func32,Tryd.ntmps32
 go_wp2_with fail
 refine (protect_rep (HR.out.alloc _) b c hs ha).mono ?_
 rintro e w1 ⟨rfl,R1,q1⟩
 go_wp2
 go_ret2
 exact ⟨rfl,R1,((Keeps.refl w).alloc _).trans q1⟩
theorem do_spawn (R:Rep w bk bf bs bd K){a b:Nat}(c:Int)(hs:s<K.nS)(ha:a<K.nS)(hb:b<K.nF) :
  Calls Tryd.prog 32 #[.pointer (some ⟨bk,0,none⟩),.int .i64 s,.int .i64 5,.agg #[.int .i64 a,.int .i64 b,.int .i64 c]] w (Ends bk bf bs bd w (kSpawn K s a b)):=by
 have HR:Hid (Rep w bk bf bs bd K):=R
 clear R
 go_enter Tryd.func32,Tryd.ntmps32
 go_wp2_with fail
 refine (spawn_rep (HR.out.alloc _) c hs ha hb).mono ?_
 rintro e w1 ⟨rfl,R1,q1⟩
 go_wp2
 go_ret2
 exact ⟨rfl,R1,((Keeps.refl w).alloc _).trans q1⟩
theorem do_copy (R:Rep w bk bf bs bd K)(G:Good K){a b c:Nat}(hs:s<K.nS)(ha:a<K.nS)(hb:b<4)(hc:c<K.nF) :
  Calls Tryd.prog 32 #[.pointer (some ⟨bk,0,none⟩),.int .i64 s,.int .i64 6,.agg #[.int .i64 a,.int .i64 b,.int .i64 c]] w (Ends bk bf bs bd w (kCopy K s a b c)):=by
 have HR:Hid (Rep w bk bf bs bd K):=R
 clear R
 go_enter Tryd.func32,Tryd.ntmps32
 go_wp2_with fail
 refine (copy_rep (HR.out.alloc _) G hs ha hb hc).mono ?_
 rintro e w1 ⟨rfl,R1,q1⟩
 go_wp2
 go_ret2
 exact ⟨rfl,R1,((Keeps.refl w).alloc _).trans q1⟩
theorem do_give (R:Rep w bk bf bs bd K)(G:Good K){a b c:Nat}(hs:s<K.nS)(ha:a<K.nS)(hb:b<4)(hc:c<4) :
  Calls Tryd.prog 32 #[.pointer (some ⟨bk,0,none⟩),.int .i64 s,.int .i64 7,.agg #[.int .i64 a,.int .i64 b,.int .i64 c]] w (Ends bk bf bs bd w (kGive K s a b c)):=by
 have HR:Hid (Rep w bk bf bs bd K):=R
 clear R
 go_enter Tryd.func32,Tryd.ntmps32
 go_wp2_with fail
 refine (give_rep (HR.out.alloc _) G hs ha hb hc).mono ?_
 rintro e w1 ⟨rfl,R1,q1⟩
 go_wp2
 go_ret2
 exact ⟨rfl,R1,((Keeps.refl w).alloc _).trans q1⟩
theorem do_start (R:Rep w bk bf bs bd K){a:Nat}(b c:Int)(hs:s<K.nS)(ha:a<K.nS) :
  Calls Tryd.prog 32 #[.pointer (some ⟨bk,0,none⟩),.int .i64 s,.int .i64 8,.agg #[.int .i64 a,.int .i64 b,.int .i64 c]] w (Ends bk bf bs bd w (kStart K s a)):=by
 have HR:Hid (Rep w bk bf bs bd K):=R
 clear R
 go_enter Tryd.func32,Tryd.ntmps32
 go_wp2_with fail
 refine (start_rep (HR.out.alloc _) b c hs ha).mono ?_
 rintro e w1 ⟨rfl,R1,q1⟩
 go_wp2
 go_ret2
 exact ⟨rfl,R1,((Keeps.refl w).alloc _).trans q1⟩
theorem do_exit (R:Rep w bk bf bs bd K)(a b c:Int)(hs:s<K.nS) :
  Calls Tryd.prog 32 #[.pointer (some ⟨bk,0,none⟩),.int .i64 s,.int .i64 9,.agg #[.int .i64 a,.int .i64 b,.int .i64 c]] w (Ends bk bf bs bd w (kExit K s a)):=by
 have HR:Hid (Rep w bk bf bs bd K):=R
 clear R
 go_enter Tryd.func32,Tryd.ntmps32
 go_wp2_with fail
 refine (exit_rep (HR.out.alloc _) a b c hs).mono ?_
 rintro e w1 ⟨rfl,R1,q1⟩
 go_wp2
 go_ret2
 exact ⟨rfl,R1,((Keeps.refl w).alloc _).trans q1⟩
theorem do_drop (R:Rep w bk bf bs bd K)(G:Good K){a b:Nat}(c:Int)(hs:s<K.nS)(ha:a<K.nS)(hb:b<4) :
  Calls Tryd.prog 32 #[.pointer (some ⟨bk,0,none⟩),.int .i64 s,.int .i64 10,.agg #[.int .i64 a,.int .i64 b,.int .i64 c]] w (Ends bk bf bs bd w (kDrop K s a b)):=by
 have HR:Hid (Rep w bk bf bs bd K):=R
 clear R
 go_enter Tryd.func32,Tryd.ntmps32
 go_wp2_with fail
 refine (drop_rep (HR.out.alloc _) G c hs ha hb).mono ?_
 rintro e w1 ⟨rfl,R1,q1⟩
 go_wp2
 go_ret2
 exact ⟨rfl,R1,((Keeps.refl w).alloc _).trans q1⟩
theorem do_shut (R:Rep w bk bf bs bd K)(G:Good K){a b:Nat}(c:Int)(hs:s<K.nS)(ha:a<K.nS)(hb:b<4) :
  Calls Tryd.prog 32 #[.pointer (some ⟨bk,0,none⟩),.int .i64 s,.int .i64 11,.agg #[.int .i64 a,.int .i64 b,.int .i64 c]] w (Ends bk bf bs bd w (kShut K s a b)):=by
 have HR:Hid (Rep w bk bf bs bd K):=R
 clear R
 go_enter Tryd.func32,Tryd.ntmps32
 go_wp2_with fail
 refine (shut_rep (HR.out.alloc _) G c hs ha hb).mono ?_
 rintro e w1 ⟨rfl,R1,q1⟩
 go_wp2
 go_ret2
 exact ⟨rfl,R1,((Keeps.refl w).alloc _).trans q1⟩
theorem do_reap (R:Rep w bk bf bs bd K)(G:Good K){a:Nat}(b c:Int)(hs:s<K.nS)(ha:a<K.nS) :
  Calls Tryd.prog 32 #[.pointer (some ⟨bk,0,none⟩),.int .i64 s,.int .i64 12,.agg #[.int .i64 a,.int .i64 b,.int .i64 c]] w (Ends bk bf bs bd w (kReap K s a)):=by
 have HR:Hid (Rep w bk bf bs bd K):=R
 clear R
 go_enter Tryd.func32,Tryd.ntmps32
 go_wp2_with fail
 refine (reap_rep (HR.out.alloc _) G b c hs ha).mono ?_
 rintro e w1 ⟨rfl,R1,q1⟩
 go_wp2
 go_ret2
 exact ⟨rfl,R1,((Keeps.refl w).alloc _).trans q1⟩
theorem do_dup (R:Rep w bk bf bs bd K)(G:Good K){a b:Nat}(c:Int)(hs:s<K.nS)(ha:a<4)(hb:b<4) :
  Calls Tryd.prog 32 #[.pointer (some ⟨bk,0,none⟩),.int .i64 s,.int .i64 14,.agg #[.int .i64 a,.int .i64 b,.int .i64 c]] w (Ends bk bf bs bd w (kDup K s a b)):=by
 have HR:Hid (Rep w bk bf bs bd K):=R
 clear R
 go_enter Tryd.func32,Tryd.ntmps32
 go_wp2_with fail
 refine (dup_rep (HR.out.alloc _) G c hs ha hb).mono ?_
 rintro e w1 ⟨rfl,R1,q1⟩
 go_wp2
 go_ret2
 exact ⟨rfl,R1,((Keeps.refl w).alloc _).trans q1⟩
theorem do_close (R:Rep w bk bf bs bd K)(G:Good K){a:Nat}(b c:Int)(hs:s<K.nS)(ha:a<4) :
  Calls Tryd.prog 32 #[.pointer (some ⟨bk,0,none⟩),.int .i64 s,.int .i64 15,.agg #[.int .i64 a,.int .i64 b,.int .i64 c]] w (Ends bk bf bs bd w (kClose K s a)):=by
 have HR:Hid (Rep w bk bf bs bd K):=R
 clear R
 go_enter Tryd.func32,Tryd.ntmps32
 go_wp2_with fail
 refine (close_rep (HR.out.alloc _) G b c hs ha).mono ?_
 rintro e w1 ⟨rfl,R1,q1⟩
 go_wp2
 go_ret2
 exact ⟨rfl,R1,((Keeps.refl w).alloc _).trans q1⟩
theorem do_all (R:Rep w bk bf bs bd K)(G:Good K)(slot call a b c:Int)(s n:Nat)(h1:slot=s)(h2:call=n)(hs:s<K.nS)(hn:n<20)
  (hf:fits K ((argKinds n).getD 0 0) a=true∧fits K ((argKinds n).getD 1 0) b=true∧fits K ((argKinds n).getD 2 0) c=true) :
  Calls Tryd.prog 32 #[.pointer (some ⟨bk,0,none⟩),.int .i64 slot,.int .i64 call,.agg #[.int .i64 a,.int .i64 b,.int .i64 c]] w (Ends bk bf bs bd w (kDo K s n a b c)):=by
 by_cases h6:Six call
 ·exact do_six R G slot call a b c h6 s n h1 h2 hs hf
 obtain ⟨f0,f1,f2⟩:=hf
 subst h1
 unfold Six at h6
 obtain rfl|rfl|rfl|rfl|rfl|rfl|rfl|rfl|rfl|rfl|rfl|rfl|rfl|rfl:n=0∨n=1∨n=3∨n=4∨n=5∨n=6∨n=7∨n=8∨n=9∨n=10∨n=11∨n=12∨n=14∨n=15:=by omega
 all_goals subst h2
 ·exact do_none R a b c
 ·exact do_yield R a b c
 ·obtain ⟨a',rfl,ha⟩:=fits_is (t:=4) f0 (by decide)
  exact do_unmap R G b c hs (by have h4:howMany K 4=4:=rfl;omega)
 ·obtain ⟨a',rfl,ha⟩:=fits_is (t:=4) f0 (by decide)
  exact do_protect R b c hs (by have h4:howMany K 4=4:=rfl;omega)
 ·obtain ⟨a',rfl,ha⟩:=fits_is (t:=2) f0 (by decide)
  obtain ⟨b',rfl,hb⟩:=fits_is (t:=1) f1 (by decide)
  exact do_spawn R c hs (by have h4:howMany K 2=K.nS:=rfl;omega) (by have h4:howMany K 1=K.nF:=rfl;omega)
 ·obtain ⟨a',rfl,ha⟩:=fits_is (t:=2) f0 (by decide)
  obtain ⟨b',rfl,hb⟩:=fits_is (t:=4) f1 (by decide)
  obtain ⟨c',rfl,hc⟩:=fits_is (t:=1) f2 (by decide)
  exact do_copy R G hs (by have h4:howMany K 2=K.nS:=rfl;omega) (by have h4:howMany K 4=4:=rfl;omega) (by have h4:howMany K 1=K.nF:=rfl;omega)
 ·obtain ⟨a',rfl,ha⟩:=fits_is (t:=2) f0 (by decide)
  obtain ⟨b',rfl,hb⟩:=fits_is (t:=5) f1 (by decide)
  obtain ⟨c',rfl,hc⟩:=fits_is (t:=5) f2 (by decide)
  exact do_give R G hs (by have h4:howMany K 2=K.nS:=rfl;omega) (by have h4:howMany K 5=4:=rfl;omega) (by have h4:howMany K 5=4:=rfl;omega)
 ·obtain ⟨a',rfl,ha⟩:=fits_is (t:=2) f0 (by decide)
  exact do_start R b c hs (by have h4:howMany K 2=K.nS:=rfl;omega)
 ·exact do_exit R a b c hs
 ·obtain ⟨a',rfl,ha⟩:=fits_is (t:=2) f0 (by decide)
  obtain ⟨b',rfl,hb⟩:=fits_is (t:=4) f1 (by decide)
  exact do_drop R G c hs (by have h4:howMany K 2=K.nS:=rfl;omega) (by have h4:howMany K 4=4:=rfl;omega)
 ·obtain ⟨a',rfl,ha⟩:=fits_is (t:=2) f0 (by decide)
  obtain ⟨b',rfl,hb⟩:=fits_is (t:=5) f1 (by decide)
  exact do_shut R G c hs (by have h4:howMany K 2=K.nS:=rfl;omega) (by have h4:howMany K 5=4:=rfl;omega)
 ·obtain ⟨a',rfl,ha⟩:=fits_is (t:=2) f0 (by decide)
  exact do_reap R G b c hs (by have h4:howMany K 2=K.nS:=rfl;omega)
 ·obtain ⟨a',rfl,ha⟩:=fits_is (t:=5) f0 (by decide)
  obtain ⟨b',rfl,hb⟩:=fits_is (t:=5) f1 (by decide)
  exact do_dup R G c hs (by have h4:howMany K 5=4:=rfl;omega) (by have h4:howMany K 5=4:=rfl;omega)
 ·obtain ⟨a',rfl,ha⟩:=fits_is (t:=5) f0 (by decide)
  exact do_close R G b c hs (by have h4:howMany K 5=4:=rfl;omega)
theorem call_all (R:Rep w bk bf bs bd K)(T:Tab w)(G:Good K)(slot call a b c:Int) :
  Calls Tryd.prog 11 #[.pointer (some ⟨bk,0,none⟩),.int .i64 slot,.int .i64 call,.agg #[.int .i64 a,.int .i64 b,.int .i64 c]] w (Ends bk bf bs bd w (kCall K slot call a b c)) :=
 call_rep R T slot call a b c (fun s n h1 h2 hs hn hf w1 R1=>do_all R1 G slot call a b c s n h1 h2 hs hn hf)
end
end Go.Proofs.YtcgabodkegcpgaaDoor
namespace Go.Proofs.YtcgabodkegcpgaaDoor
set_option linter.unusedVariables false
set_option maxHeartbeats 4000000
def countTo (p:Nat→Bool):Nat→Nat
 | 0=>0
 | n+1=>countTo p n+if p n then 1 else 0
theorem countTo_le (p:Nat→Bool):∀ n,countTo p n≤n
 | 0=>Nat.le_refl _
 | n+1=>by have:=countTo_le p n;unfold countTo;split<;>omega
theorem countTo_congr {p q:Nat→Bool}:∀ n,(∀ j,j<n→p j=q j)→countTo p n=countTo q n
 | 0,_=>rfl
 | n+1,h=>by unfold countTo;rw [countTo_congr n (fun j hj=>h j (by omega)),h n (by omega)]
theorem countTo_turn {p q:Nat→Bool}(k:Nat):∀ n,k<n→(∀ j,j<n→j≠k→p j=q j)→countTo q n+(if p k then 1 else 0)=countTo p n+(if q k then 1 else 0)
 | 0,h,_=>by omega
 | n+1,h,e=>by
  unfold countTo
  by_cases hk:k=n
  ·subst hk
   rw [countTo_congr k (fun j hj=>e j (by omega) (by omega))]
   omega
  ·have ih:=countTo_turn k n (by omega) (fun j hj hne=>e j (by omega) hne)
   rw [e n (by omega) (fun h=>hk h.symm)]
   omega
theorem countTo_zero {p:Nat→Bool}:∀ n,countTo p n=0→∀ j,j<n→p j=false
 | 0,_,j,hj=>by omega
 | n+1,h,j,hj=>by
  unfold countTo at h
  by_cases e:j=n
  ·subst e
   cases hp:p j
   ·rfl
   ·rw [hp] at h;simp at h
  ·exact countTo_zero n (by omega) j (by omega)
def Ker.isEnd (K:Ker)(d:Nat)(b:Bool)(j:Nat):Bool:=K.file (j / 4) (j % 4) == (d:Int) && K.end (j / 4) (j % 4) == b
def Ker.ends (K:Ker)(d:Nat)(b:Bool):Nat:=countTo (K.isEnd d b) (K.nS*4)
structure Inv (K:Ker):Prop where
 good:Good K
 hS:K.nS≤6
 rds:∀ d,d<K.nD→K.D d 3=K.ends d false
 wts:∀ d,d<K.nD→K.D d 4=K.ends d true
theorem ends_congr {K K':Ker}(hn:K'.nS=K.nS)(h:∀ i x,i<K.nS→x<4→K'.file i x=K.file i x∧K'.end i x=K.end i x)(d:Nat)(b:Bool):K'.ends d b=K.ends d b:=by
 unfold Ker.ends
 rw [hn]
 refine countTo_congr _ fun j hj=>?_
 unfold Ker.isEnd
 have hi:j / 4<K.nS:=by omega
 have hx:j % 4<4:=by omega
 rw [(h _ _ hi hx).1,(h _ _ hi hx).2]
theorem Inv.of {K K':Ker}(I:Inv K)(G:Good K')(hn:K'.nS=K.nS)(hd:K'.nD=K.nD)(h:∀ i x,i<K.nS→x<4→K'.file i x=K.file i x∧K'.end i x=K.end i x)
  (hD:∀ d,d<K.nD→K'.D d 3=K.D d 3∧K'.D d 4=K.D d 4):Inv K':=by
 refine ⟨G,by rw [hn];exact I.hS,fun d hdn=>?_,fun d hdn=>?_⟩
 ·rw [hd] at hdn;rw [(hD d hdn).1,I.rds d hdn,ends_congr hn h]
 ·rw [hd] at hdn;rw [(hD d hdn).2,I.wts d hdn,ends_congr hn h]
theorem setFile_file (K:Ker)(s x:Nat)(d:Int)(b:Bool)(i y:Nat)(hy:y<4)(hx:x<4):(K.setFile s x d b).file i y=if i=s∧y=x then d else K.file i y:=by
 show upd K.S s (11+x*2) d i (11+y*2)=_
 unfold upd Ker.file
 by_cases e:i=s∧y=x
 ·rw [if_pos e,if_pos (by omega)]
 ·rw [if_neg e,if_neg (by omega)]
theorem setFile_end (K:Ker)(s x:Nat)(d:Int)(b:Bool)(i y:Nat)(hy:y<4)(hx:x<4):(K.setFile s x d b).end i y=if i=s∧y=x then b else K.end i y:=by
 show upd K.B s (12+x*2) b i (12+y*2)=_
 unfold upd Ker.end
 by_cases e:i=s∧y=x
 ·rw [if_pos e,if_pos (by omega)]
 ·rw [if_neg e,if_neg (by omega)]
theorem ends_setFile (K:Ker)(s x:Nat)(d':Int)(b':Bool)(hs:s<K.nS)(hx:x<4)(d:Nat)(b:Bool) :
  (K.setFile s x d' b').ends d b+(if K.file s x=d∧K.end s x=b then 1 else 0)=K.ends d b+(if d'=d∧b'=b then 1 else 0):=by
 have h:=countTo_turn (p:=K.isEnd d b) (q:=(K.setFile s x d' b').isEnd d b) (s*4+x) (K.nS*4) (by omega) (fun j hj hne=>by
  unfold Ker.isEnd
  have e:¬ (j / 4=s∧j % 4=x):=by omega
  rw [setFile_file K s x d' b' _ _ (by omega) hx,setFile_end K s x d' b' _ _ (by omega) hx,if_neg e,if_neg e])
 have q1:(s*4+x) / 4=s:=by omega
 have q2:(s*4+x) % 4=x:=by omega
 have dec:∀ (u v:Int) (f g:Bool),(u == v && f == g)=decide (u=v∧f=g):=fun u v f g=>by
  rw [Bool.eq_iff_iff];simp
 have p1:K.isEnd d b (s*4+x)=decide (K.file s x=d∧K.end s x=b):=by
  unfold Ker.isEnd;rw [q1,q2];exact dec _ _ _ _
 have p2:(K.setFile s x d' b').isEnd d b (s*4+x)=decide (d'=d∧b'=b):=by
  unfold Ker.isEnd;rw [q1,q2,setFile_file K s x d' b' _ _ hx hx,setFile_end K s x d' b' _ _ hx hx,if_pos ⟨rfl,rfl⟩,if_pos ⟨rfl,rfl⟩];exact dec _ _ _ _
 rw [p1,p2] at h
 simp only [decide_eq_true_eq] at h
 exact h
theorem Inv.bounds {K:Ker}(I:Inv K){d:Nat}(b:Bool):K.ends d b≤24:=by
 have:=countTo_le (K.isEnd d b) (K.nS*4)
 have:=I.hS
 unfold Ker.ends;omega
theorem Inv.room {K:Ker}(I:Inv K){s x:Nat}(hs:s<K.nS)(hx:x<4)(hf:K.file s x=-1)(d:Nat)(b:Bool):K.ends d b<24:=by
 have h:=ends_setFile K s x d b hs hx d b
 rw [if_neg (by rw [hf];omega),if_pos ⟨rfl,rfl⟩] at h
 have:=countTo_le ((K.setFile s x d b).isEnd d b) (K.nS*4)
 have e:(K.setFile s x d b).ends d b=countTo ((K.setFile s x d b).isEnd d b) (K.nS*4):=rfl
 have:=I.hS
 omega
theorem count_D (K:Ker)(d:Nat)(b:Bool)(m:Int)(i:Nat):(K.count d b m).D i 3=(if i=d∧b=false then K.D d 3+m else K.D i 3)∧(K.count d b m).D i 4=(if i=d∧b=true then K.D d 4+m else K.D i 4):=by
 cases b
 ·simp [Ker.count,Ker.setD,upd]
 ·simp [Ker.count,Ker.setD,upd]
theorem count_sizes (K:Ker)(d:Nat)(b:Bool)(m:Int):(K.count d b m).nF=K.nF∧(K.count d b m).nS=K.nS∧(K.count d b m).nD=K.nD∧(K.count d b m).S=K.S∧(K.count d b m).B=K.B∧(K.count d b m).F=K.F:=by
 cases b<;>exact ⟨rfl,rfl,rfl,rfl,rfl,rfl⟩
theorem ends_count (K:Ker)(d:Nat)(b:Bool)(m:Int)(d':Nat)(b':Bool):(K.count d b m).ends d' b'=K.ends d' b':=by
 cases b<;>rfl
theorem inv_openFile {K:Ker}(I:Inv K){s x d:Nat}(b:Bool)(hs:s<K.nS)(hx:x<4)(hd:d<K.nD)(h0:0≤K.D d 0)(hf:K.file s x=-1):Inv (K.openFile s x d b):=by
 have r3:=I.rds d hd
 have r4:=I.wts d hd
 have b3:=I.room hs hx hf d false
 have b4:=I.room hs hx hf d true
 have G:=good_openFile I.good s x d b hx hd h0 (by omega) (by omega)
 have E:∀ d' b',(K.openFile s x d b).ends d' b'=K.ends d' b'+(if d=d'∧b=b' then 1 else 0):=fun d' b'=>by
  unfold Ker.openFile
  rw [ends_count]
  have h:=ends_setFile K s x d b hs hx d' b'
  rw [if_neg (by rw [hf];omega)] at h
  have e:((d:Int)=(d':Int)∧b=b')↔(d=d'∧b=b'):=⟨fun k=>⟨by omega,k.2⟩,fun k=>⟨by omega,k.2⟩⟩
  simp only [e] at h
  omega
 have sz:=count_sizes (K.setFile s x d b) d b 1
 refine ⟨G,by show ((K.setFile s x d b).count d b 1).nS≤6;rw [sz.2.1];exact I.hS,fun d' hd'=>?_,fun d' hd'=>?_⟩
 ·have hd2:d'<K.nD:=by have:d'<((K.setFile s x d b).count d b 1).nD:=hd';rw [sz.2.2.1] at this;exact this
  rw [E d' false]
  show ((K.setFile s x d b).count d b 1).D d' 3=_
  rw [(count_D _ d b 1 d').1]
  have:=I.rds d' hd2
  show (if d'=d∧b=false then K.D d 3+1 else K.D d' 3)=_
  by_cases e:d'=d∧b=false
  ·obtain ⟨rfl,rfl⟩:=e
   simp;omega
  ·rw [if_neg e,if_neg (by intro h;exact e ⟨h.1.symm,h.2⟩)];omega
 ·have hd2:d'<K.nD:=by have:d'<((K.setFile s x d b).count d b 1).nD:=hd';rw [sz.2.2.1] at this;exact this
  rw [E d' true]
  show ((K.setFile s x d b).count d b 1).D d' 4=_
  rw [(count_D _ d b 1 d').2]
  have:=I.wts d' hd2
  show (if d'=d∧b=true then K.D d 4+1 else K.D d' 4)=_
  by_cases e:d'=d∧b=true
  ·obtain ⟨rfl,rfl⟩:=e
   simp;omega
  ·rw [if_neg e,if_neg (by intro h;exact e ⟨h.1.symm,h.2⟩)];omega
end Go.Proofs.YtcgabodkegcpgaaDoor
