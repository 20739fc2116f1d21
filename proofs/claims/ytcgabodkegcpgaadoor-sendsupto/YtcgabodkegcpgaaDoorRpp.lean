/- What the kernel's call Reap does (for every kernel whose numbers are ones). -/
import Derived.Test.YtcgabodkegcpgaaDoorNew1
import Derived.Deep.RegionHeld3
import Derived.Deep.DrawnRows
import Derived.Test.YtcgabodkegcpgaaDoorPrc2
set_option linter.unusedVariables false
set_option linter.unusedSimpArgs false
set_option maxHeartbeats 20000000
set_option maxRecDepth 100000
namespace Go.Proofs.YtcgabodkegcpgaaDoor
open Go.RowKit
attribute [local go_sem ↓] Go.wp_at_zero Go.wp_at_succ
section
variable {bk bf bs bd:Nat} {K:Ker} {w:World}
theorem Rep.noSlot (R:Rep w bk bf bs bd K){c:Nat}(hc:c<K.nS):Rep (w.setCells bs (c*20) noneCells) bk bf bs bd (K.noSlot c):=by
 have th:∀ j,j<noneCells.length→(w.cell? ⟨bs,c*20+j,none⟩).isSome=true:=fun j hj=>by
  rw [noneCells_len] at hj
  by_cases hb:isB j
  ·rw [R.b c j hc hb];rfl
  ·rw [R.s c j hc hj hb];rfl
 have ot:∀ b o,b≠bs→(w.setCells bs (c*20) noneCells).cell? ⟨b,o,none⟩=w.cell? ⟨b,o,none⟩:=fun b o hb=>World.cell?_setCells_out bs noneCells (c*20) w ⟨b,o,none⟩ (fun h=>absurd h hb)
 have os:∀ i j,i≠c→j<20→(w.setCells bs (c*20) noneCells).cell? ⟨bs,i*20+j,none⟩=w.cell? ⟨bs,i*20+j,none⟩:=fun i j hi hj=>World.cell?_setCells_out bs noneCells (c*20) w ⟨bs,i*20+j,none⟩ (fun _ _=>by rw [noneCells_len];show i*20+j<c*20∨c*20+20≤i*20+j;omega)
 have ins:∀ j (hj:j<20),(w.setCells bs (c*20) noneCells).cell? ⟨bs,c*20+j,none⟩=some (noneCells[j]'(by rw [noneCells_len];exact hj)):=fun j hj=>World.cell?_setCells_in bs noneCells (c*20) w th j (by rw [noneCells_len];exact hj)
 refine ⟨by rw [ot _ _ R.ks];exact R.k0,by rw [ot _ _ R.ks];exact R.k1,by rw [ot _ _ R.ks];exact R.k2,fun i j hi hj=>by rw [ot _ _ R.fs];exact R.f i j hi hj,?_,?_,fun i j hi hj=>by rw [ot _ _ (fun e=>R.sd e.symm)];exact R.d i j hi hj,fun o=>by rw [World.frozen?_setCells];exact R.zf o,fun o=>by rw [World.frozen?_setCells];exact R.zs o,fun o=>by rw [World.frozen?_setCells];exact R.zd o,by rw [size_setCells];exact R.lk,by rw [size_setCells];exact R.lf,by rw [size_setCells];exact R.ls,by rw [size_setCells];exact R.ld,R.kf,R.ks,R.kd,R.fs,R.fd,R.sd,R.hF,R.hS,R.hD⟩
 ·intro i j hi hj hb
  by_cases e:i=c
  ·subst e
   rw [ins j hj]
   show some _=some (Value.int .i64 (if i=i then (if j=0∨j=19 then 0 else -1) else K.S i j))
   rw [if_pos rfl]
   obtain rfl|rfl|rfl|rfl|rfl|rfl|rfl|rfl|rfl|rfl|rfl|rfl:j=0∨j=1∨j=2∨j=3∨j=5∨j=7∨j=9∨j=11∨j=13∨j=15∨j=17∨j=19:=by unfold isB at hb;omega
   all_goals rfl
  ·rw [os i j e hj,R.s i j hi hj hb]
   show _=some (Value.int .i64 (if i=c then (if j=0∨j=19 then 0 else -1) else K.S i j))
   rw [if_neg e]
 ·intro i j hi hb
  have hj:j<20:=by unfold isB at hb;omega
  by_cases e:i=c
  ·subst e
   rw [ins j hj]
   show some _=some (Value.bool (if i=i then false else K.B i j))
   rw [if_pos rfl]
   obtain rfl|rfl|rfl|rfl|rfl|rfl|rfl|rfl:j=4∨j=6∨j=8∨j=10∨j=12∨j=14∨j=16∨j=18:=by unfold isB at hb;omega
   all_goals rfl
  ·rw [os i j e hj,R.b i j hi hb]
   show _=some (Value.bool (if i=c then false else K.B i j))
   rw [if_neg e]
theorem Keeps.setCells {a:World}(h:Keeps bf bs bd a w):∀ (vs:List Value) (o:Nat),Keeps bf bs bd a (w.setCells bs o vs):=fun vs=>by
 induction vs generalizing w with
 | nil=>intro o;exact h
 | cons v r ih=>intro o;exact ih (h.setS o v) (o+1)
theorem reap_page (K:Ker)(s c:Nat)(h0:K.still s c=true)(p:Nat)(hp:p<4)(h:K.page c p≠-1):kReap K s c=⟨K,0,6⟩:=by
 unfold kReap
 rw [if_neg (by simp [h0]),if_pos]
 obtain rfl|rfl|rfl|rfl:p=0∨p=1∨p=2∨p=3:=by omega
 ·exact Or.inl h
 ·exact Or.inr (Or.inl h)
 ·exact Or.inr (Or.inr (Or.inl h))
 ·exact Or.inr (Or.inr (Or.inr h))
theorem reap_file (K:Ker)(s c:Nat)(h0:K.still s c=true)(hp:∀ p,p<4→K.page c p=-1)(x:Nat)(hx:x<4)(h:K.file c x≠-1):kReap K s c=⟨K,0,8⟩:=by
 unfold kReap
 rw [if_neg (by simp [h0]),if_neg (by simp [hp 0 (by omega),hp 1 (by omega),hp 2 (by omega),hp 3 (by omega)]),if_pos]
 obtain rfl|rfl|rfl|rfl:x=0∨x=1∨x=2∨x=3:=by omega
 ·exact Or.inl h
 ·exact Or.inr (Or.inl h)
 ·exact Or.inr (Or.inr (Or.inl h))
 ·exact Or.inr (Or.inr (Or.inr h))
theorem reap_done (K:Ker)(s c:Nat)(h0:K.still s c=true)(hp:∀ p,p<4→K.page c p=-1)(hx:∀ x,x<4→K.file c x=-1):kReap K s c=⟨(K.become (K.S c 2).toNat 0 (-1)).noSlot c,K.S c 19,0⟩:=by
 unfold kReap
 rw [if_neg (by simp [h0]),if_neg (by simp [hp 0 (by omega),hp 1 (by omega),hp 2 (by omega),hp 3 (by omega)]),if_neg (by simp [hx 0 (by omega),hx 1 (by omega),hx 2 (by omega),hx 3 (by omega)])]
theorem Rep.there (R:Rep w bk bf bs bd K){c:Nat}(hc:c<K.nS):w.there bs (c*20) 20:=fun j hj=>by
 refine ⟨?_,R.zs _⟩
 by_cases hb:isB j
 ·rw [R.b c j hc hb];rfl
 ·rw [R.s c j hc hj hb];rfl
theorem Rep.belowed {w':World}(R:Rep w bk bf bs bd K)(b:Below w.heap.size w w'):Rep w' bk bf bs bd K:=R.same b.size (fun k h1 _=>b.block k h1)
theorem store_cells {P:Program}{w:World}{b o:Nat}{cs:List Value}(ht:w.there b o cs.length)(h1:∀ v∈cs,v.oneCell'=true):Sem.run P (storeCells ⟨b,o,none⟩ cs) w=.ok () (w.setCells b o cs):=by
 have:=run_storeCells_cells (P:=P) b o cs 0 w (fun j hj=>by simpa using (ht j hj).1) (fun j hj=>by simpa using (ht j hj).2) h1
 simpa using this
theorem reap_rep (R:Rep w bk bf bs bd K)(G:Good K){s c:Nat}(y z:Int)(hs:s<K.nS)(hc:c<K.nS) :
  Calls Tryd.prog 55 #[.pointer (some ⟨bk,0,none⟩),.int .i64 s,.agg #[.int .i64 c,.int .i64 y,.int .i64 z]] w (Ends bk bf bs bd w (kReap K s c)):=by
 have HR:Hid (Rep w bk bf bs bd K):=R
 have hn:=R.hS;have hm:=R.hF
 clear R
 by_cases h0:K.still s c=true
 ·have hk0:K.S c 0≠0:=by intro h;unfold Ker.still at h0;rw [h] at h0;simp at h0
  obtain ⟨t,ht⟩:∃ t:Nat,K.S c 2=t:=⟨(K.S c 2).toNat,by have:=G.tab c hc hk0;omega⟩
  have htl:t<K.nF:=by have:=G.tab c hc hk0;omega
  have Ht:Hid (K.S c 2=t):=ht
  clear hk0 ht
  go_enter Tryd.func55,Tryd.ntmps55
  go_wp2_with fail
  refine (isStillOf_rep (HR.out.alloc _) hc).mono ?_
  rintro e w1 ⟨rfl,rfl⟩
  go_wp2
  go_loop [19] (fun i=>∃ k:Nat,k≤4∧i=.int .i64 k∧∀ p,p<k→K.page c p=-1) (fun i=>4 - (intOf i).toNat)
  case atStart=>exact ⟨0,by omega,rfl,fun p hp=>by omega⟩
  case round =>
   obtain ⟨k,hk,rfl,hpg⟩:=hrel
   have Hp:Hid (∀ p,p<k→K.page c p=-1):=hpg
   clear hpg
   by_cases hlt:k<4
   ·by_cases h1:K.page c k=-1
    ·have e1:(K.S c (3+k*2) != -1)=false:=by simpa [Ker.page] using h1
     have Hk:Hid (K.page c k=-1):=h1
     clear h1
     go_wp2_with fail
     refine (hasFrame_rep (HR.out.alloc _) hc hlt).mono ?_
     rintro e w1 ⟨rfl,rfl⟩
     go_wp2
     exact ⟨⟨k+1,by omega,by go_num,fun p hp=>by by_cases e:p=k;rw [e];exact Hk.out;exact Hp.out p (by omega)⟩,by simp [intOf];omega⟩
    ·have e1:(K.S c (3+k*2) != -1)=true:=by simpa [Ker.page] using h1
     have E:Hid (kReap K s c=⟨K,0,6⟩):=reap_page K s c h0 k hlt h1
     clear h1
     go_wp2_with fail
     refine (hasFrame_rep (HR.out.alloc _) hc hlt).mono ?_
     rintro e w1 ⟨rfl,rfl⟩
     go_wp2
     go_ret2
     exact Ends.mk E (HR.out.alloc _) ((Keeps.refl w).alloc _)
   ·obtain rfl:k=4:=by omega
    go_wp2
    go_loop [27] (fun i=>∃ k:Nat,k≤4∧i=.int .i64 k∧∀ x,x<k→K.file c x=-1) (fun i=>4 - (intOf i).toNat)
    case atStart=>exact ⟨0,by omega,rfl,fun p hp=>by omega⟩
    case round =>
     obtain ⟨k,hk,rfl,hfl⟩:=hrel
     have Hf:Hid (∀ x,x<k→K.file c x=-1):=hfl
     clear hfl
     by_cases hlt:k<4
     ·by_cases h1:K.file c k=-1
      ·have e1:(K.S c (11+k*2) != -1)=false:=by simpa [Ker.file] using h1
       have Hk:Hid (K.file c k=-1):=h1
       clear h1
       go_wp2_with fail
       refine (isFile_rep (HR.out.alloc _) hc hlt).mono ?_
       rintro e w1 ⟨rfl,rfl⟩
       go_wp2
       exact ⟨⟨k+1,by omega,by go_num,fun p hp=>by by_cases e:p=k;rw [e];exact Hk.out;exact Hf.out p (by omega)⟩,by simp [intOf];omega⟩
      ·have e1:(K.S c (11+k*2) != -1)=true:=by simpa [Ker.file] using h1
       have E:Hid (kReap K s c=⟨K,0,8⟩):=reap_file K s c h0 Hp.out k hlt h1
       clear h1
       go_wp2_with fail
       refine (isFile_rep (HR.out.alloc _) hc hlt).mono ?_
       rintro e w1 ⟨rfl,rfl⟩
       go_wp2
       go_ret2
       exact Ends.mk E (HR.out.alloc _) ((Keeps.refl w).alloc _)
     ·obtain rfl:k=4:=by omega
      have E:Hid (kReap K s c=⟨(K.become t 0 (-1)).noSlot c,K.S c 19,0⟩):=by unfold Hid;rw [reap_done K s c h0 Hp.out Hf.out,Ht.out,Int.toNat_natCast]
      have k1:=fun o=>(HR.out.alloc o).k1
      have c1:=fun o=>(HR.out.alloc o).sc hc
      have c2:∀ o,(w.alloc o).cell? ⟨bs,c*20+2,none⟩=some (.int .i64 t):=fun o=>by rw [(HR.out.alloc o).st hc,Ht.out]
      go_wp2_with fail
      refine (become_rep (HR.out.alloc _) 0 (-1) htl).mono ?_
      rintro e w2 ⟨rfl,R2,q2⟩
      have HR2:Hid (Rep w2 bk bf bs bd (K.become t 0 (-1))):=R2
      have Hq2:Hid (Keeps bf bs bd w w2):=((Keeps.refl w).alloc _).trans q2
      have hc2:c<(K.become t 0 (-1)).nS:=hc
      clear R2 q2 k1 c1 c2
      generalize K.become t 0 (-1)=K2 at *
      have r1:=HR2.out.k1
      have r2:=HR2.out.hS
      have i1:(0:Int)≤(c:Int):=by omega
      have i2:(c:Int)<(K2.nS:Int):=by omega
      obtain ⟨cs,hcs⟩:∃ cs,cs=noneCells:=⟨_,rfl⟩
      have hl:Hid (cs.length=20):=by unfold Hid;rw [hcs];exact noneCells_len
      have hi2:Hid ((Tryd.prog.info? 55).map (·.size)=some cs.toArray.size):=by unfold Hid;rw [hcs,List.size_toArray,noneCells_len];kernel_rfl
      have h1a:Hid (∀ v∈cs,v.oneCell'=true):=by unfold Hid;rw [hcs];exact fun v hv=>Array.all_eq_true_iff_forall_mem.1 noneCells_one v (by simpa using hv)
      have n1:=HR2.out.ks
      have n2:bs≠bk:=fun e=>n1 e.symm
      have CE:Hid (∀ w,Calls Tryd.prog 27 #[] w fun e w'=>e=.returned (.agg cs.toArray)∧Below w.heap.size w w'):=by unfold Hid;rw [hcs];exact emptySlot_any
      have HN:Hid (∀ w3,Rep w3 bk bf bs bd K2→Rep (w3.setCells bs (c*20) cs) bk bf bs bd (K2.noSlot c)):=by unfold Hid;rw [hcs];exact fun w3 R3=>R3.noSlot hc2
      clear hcs
      have hc3:c<(K2.noSlot c).nS:=hc2
      go_wp2_with fail
      go_region_held3 (fun w'=>w'.cell? ⟨bk,1,none⟩=some (.slice (some ⟨bs,0,none⟩) K2.nS K2.nS)) (go_keep) (first|(go_at_call 27;refine (CE.out _).mono ?_;rintro e w3 ⟨rfl,b3⟩;have HR3:Hid (Rep w3 bk bf bs bd K2):=HR2.out.drew.belowed b3;have Hq3:Hid (Keeps bf bs bd w w3):=Hq2.out.drew.trans ⟨b3.os,b3.tape,b3.output,b3.size,fun k h1 _ _ _=>b3.block k h1⟩;have t4:=HR3.out.k1;have t6:(w3.setCells bs (c*20) cs).cell? ⟨bk,1,none⟩=some (.slice (some ⟨bs,0,none⟩) K2.nS K2.nS):=(HN.out w3 HR3.out).k1;have st:=store_cells (P:=Tryd.prog) (w:=w3) (b:=bs) (o:=c*20) (cs:=cs) (by rw [hl.out];exact HR3.out.there hc2) h1a.out;clear b3))
      go_wp2
      go_ret2
      exact Ends.mk E (HN.out _ HR3.out) (Hq3.out.setCells cs (c*20))
 ·have h0':K.still s c=false:=by simpa using h0
  have E:Hid (kReap K s c=⟨K,0,7⟩):=by unfold kReap;simp [h0',Hid]
  clear h0
  go_enter Tryd.func55,Tryd.ntmps55
  go_wp2_with fail
  refine (isStillOf_rep (HR.out.alloc _) hc).mono ?_
  rintro e w1 ⟨rfl,rfl⟩
  go_wp2
  go_ret2
  exact Ends.mk E (HR.out.alloc _) ((Keeps.refl w).alloc _)
end
section
variable {bk bf bs bd:Nat} {K:Ker} {w:World} {s:Nat}
theorem do_yield (R:Rep w bk bf bs bd K)(a b c:Int) :
  Calls Tryd.prog 32 #[.pointer (some ⟨bk,0,none⟩),.int .i64 s,.int .i64 1,.agg #[.int .i64 a,.int .i64 b,.int .i64 c]] w (Ends bk bf bs bd w ⟨K,0,0⟩):=by
 have HR:Hid (Rep w bk bf bs bd K):=R
 clear R
 go_enter Tryd.func32,Tryd.ntmps32
 go_wp2
 go_ret2
 exact Ends.mk (show Hid _ from rfl) (HR.out.alloc _) ((Keeps.refl w).alloc _)
theorem do_none (R:Rep w bk bf bs bd K)(a b c:Int) :
  Calls Tryd.prog 32 #[.pointer (some ⟨bk,0,none⟩),.int .i64 s,.int .i64 0,.agg #[.int .i64 a,.int .i64 b,.int .i64 c]] w (Ends bk bf bs bd w ⟨K,0,2⟩):=by
 have HR:Hid (Rep w bk bf bs bd K):=R
 clear R
 go_enter Tryd.func32,Tryd.ntmps32
 go_wp2
 go_ret2
 exact Ends.mk (show Hid _ from rfl) (HR.out.alloc _) ((Keeps.refl w).alloc _)
theorem do_unmap (R:Rep w bk bf bs bd K)(G:Good K){a:Nat}(b c:Int)(hs:s<K.nS)(ha:a<4) :
  Calls Tryd.prog 32 #[.pointer (some ⟨bk,0,none⟩),.int .i64 s,.int .i64 3,.agg #[.int .i64 a,.int .i64 b,.int .i64 c]] w (Ends bk bf bs bd w (kUnmap K s a)):=by
 have HR:Hid (Rep w bk bf bs bd K):=R
 clear R
 go_enter Tryd.func32,Tryd.ntmps32
 go_wp2_with fail
 refine (unmap_rep (HR.out.alloc _) G b c hs ha).mono ?_
 rintro e w1 ⟨rfl,R1,q1⟩
 go_wp2
 go_ret2
 exact ⟨rfl,R1,((Keeps.refl w).alloc _).trans q1⟩
theorem do_protect (R:Rep w bk bf bs bd K){a:Nat}(b c:Int)(hs:s<K.nS)(ha:a<4) :
  Calls Tryd.prog 32 #[.pointer (some ⟨bk,0,none⟩),.int .i64 s,.int .i64 4,.agg #[.int .i64 a,.int .i64 b,.int .i64 c]] w (Ends bk bf bs bd w (kProtect K s a b)):=by
 have HR:Hid (Rep w bk bf bs bd K):=R
 clear R
 go_enter Tryd.func32,Tryd.ntmps32
 go_wp2_with fail
 refine (protect_rep (HR.out.alloc _) b c hs ha).mono ?_
 rintro e w1 ⟨rfl,R1,q1⟩
 go_wp2
 go_ret2
 exact ⟨rfl,R1,((Keeps.refl w).alloc _).trans q1⟩
theorem do_spawn (R:Rep w bk bf bs bd K){a b:Nat}(c:Int)(hs:s<K.nS)(ha:a<K.nS)(hb:b<K.nF) :
  Calls Tryd.prog 32 #[.pointer (some ⟨bk,0,none⟩),.int .i64 s,.int .i64 5,.agg #[.int .i64 a,.int .i64 b,.int .i64 c]] w (Ends bk bf bs bd w (kSpawn K s a b)):=by
 have HR:Hid (Rep w bk bf bs bd K):=R
 clear R
 go_enter Tryd.func32,Tryd.ntmps32
 go_wp2_with fail
 refine (spawn_rep (HR.out.alloc _) c hs ha hb).mono ?_
 rintro e w1 ⟨rfl,R1,q1⟩
 go_wp2
 go_ret2
 exact ⟨rfl,R1,((Keeps.refl w).alloc _).trans q1⟩
theorem do_copy (R:Rep w bk bf bs bd K)(G:Good K){a b c:Nat}(hs:s<K.nS)(ha:a<K.nS)(hb:b<4)(hc:c<K.nF) :
  Calls Tryd.prog 32 #[.pointer (some ⟨bk,0,none⟩),.int .i64 s,.int .i64 6,.agg #[.int .i64 a,.int .i64 b,.int .i64 c]] w (Ends bk bf bs bd w (kCopy K s a b c)):=by
 have HR:Hid (Rep w bk bf bs bd K):=R
 clear R
 go_enter Tryd.func32,Tryd.ntmps32
 go_wp2_with fail
 refine (copy_rep (HR.out.alloc _) G hs ha hb hc).mono ?_
 rintro e w1 ⟨rfl,R1,q1⟩
 go_wp2
 go_ret2
 exact ⟨rfl,R1,((Keeps.refl w).alloc _).trans q1⟩
theorem do_give (R:Rep w bk bf bs bd K)(G:Good K){a b c:Nat}(hs:s<K.nS)(ha:a<K.nS)(hb:b<4)(hc:c<4) :
  Calls Tryd.prog 32 #[.pointer (some ⟨bk,0,none⟩),.int .i64 s,.int .i64 7,.agg #[.int .i64 a,.int .i64 b,.int .i64 c]] w (Ends bk bf bs bd w (kGive K s a b c)):=by
 have HR:Hid (Rep w bk bf bs bd K):=R
 clear R
 go_enter Tryd.func32,Tryd.ntmps32
 go_wp2_with fail
 refine (give_rep (HR.out.alloc _) G hs ha hb hc).mono ?_
 rintro e w1 ⟨rfl,R1,q1⟩
 go_wp2
 go_ret2
 exact ⟨rfl,R1,((Keeps.refl w).alloc _).trans q1⟩
theorem do_start (R:Rep w bk bf bs bd K){a:Nat}(b c:Int)(hs:s<K.nS)(ha:a<K.nS) :
  Calls Tryd.prog 32 #[.pointer (some ⟨bk,0,none⟩),.int .i64 s,.int .i64 8,.agg #[.int .i64 a,.int .i64 b,.int .i64 c]] w (Ends bk bf bs bd w (kStart K s a)):=by
 have HR:Hid (Rep w bk bf bs bd K):=R
 clear R
 go_enter Tryd.func32,Tryd.ntmps32
 go_wp2_with fail
 refine (start_rep (HR.out.alloc _) b c hs ha).mono ?_
 rintro e w1 ⟨rfl,R1,q1⟩
 go_wp2
 go_ret2
 exact ⟨rfl,R1,((Keeps.refl w).alloc _).trans q1⟩
theorem do_exit (R:Rep w bk bf bs bd K)(a b c:Int)(hs:s<K.nS) :
  Calls Tryd.prog 32 #[.pointer (some ⟨bk,0,none⟩),.int .i64 s,.int .i64 9,.agg #[.int .i64 a,.int .i64 b,.int .i64 c]] w (Ends bk bf bs bd w (kExit K s a)):=by
 have HR:Hid (Rep w bk bf bs bd K):=R
 clear R
 go_enter Tryd.func32,Tryd.ntmps32
 go_wp2_with fail
 refine (exit_rep (HR.out.alloc _) a b c hs).mono ?_
 rintro e w1 ⟨rfl,R1,q1⟩
 go_wp2
 go_ret2
 exact ⟨rfl,R1,((Keeps.refl w).alloc _).trans q1⟩
theorem do_drop (R:Rep w bk bf bs bd K)(G:Good K){a b:Nat}(c:Int)(hs:s<K.nS)(ha:a<K.nS)(hb:b<4) :
  Calls Tryd.prog 32 #[.pointer (some ⟨bk,0,none⟩),.int .i64 s,.int .i64 10,.agg #[.int .i64 a,.int .i64 b,.int .i64 c]] w (Ends bk bf bs bd w (kDrop K s a b)):=by
 have HR:Hid (Rep w bk bf bs bd K):=R
 clear R
 go_enter Tryd.func32,Tryd.ntmps32
 go_wp2_with fail
 refine (drop_rep (HR.out.alloc _) G c hs ha hb).mono ?_
 rintro e w1 ⟨rfl,R1,q1⟩
 go_wp2
 go_ret2
 exact ⟨rfl,R1,((Keeps.refl w).alloc _).trans q1⟩
theorem do_shut (R:Rep w bk bf bs bd K)(G:Good K){a b:Nat}(c:Int)(hs:s<K.nS)(ha:a<K.nS)(hb:b<4) :
  Calls Tryd.prog 32 #[.pointer (some ⟨bk,0,none⟩),.int .i64 s,.int .i64 11,.agg #[.int .i64 a,.int .i64 b,.int .i64 c]] w (Ends bk bf bs bd w (kShut K s a b)):=by
 have HR:Hid (Rep w bk bf bs bd K):=R
 clear R
 go_enter Tryd.func32,Tryd.ntmps32
 go_wp2_with fail
 refine (shut_rep (HR.out.alloc _) G c hs ha hb).mono ?_
 rintro e w1 ⟨rfl,R1,q1⟩
 go_wp2
 go_ret2
 exact ⟨rfl,R1,((Keeps.refl w).alloc _).trans q1⟩
theorem do_reap (R:Rep w bk bf bs bd K)(G:Good K){a:Nat}(b c:Int)(hs:s<K.nS)(ha:a<K.nS) :
  Calls Tryd.prog 32 #[.pointer (some ⟨bk,0,none⟩),.int .i64 s,.int .i64 12,.agg #[.int .i64 a,.int .i64 b,.int .i64 c]] w (Ends bk bf bs bd w (kReap K s a)):=by
 have HR:Hid (Rep w bk bf bs bd K):=R
 clear R
 go_enter Tryd.func32,Tryd.ntmps32
 go_wp2_with fail
 refine (reap_rep (HR.out.alloc _) G b c hs ha).mono ?_
 rintro e w1 ⟨rfl,R1,q1⟩
 go_wp2
 go_ret2
 exact ⟨rfl,R1,((Keeps.refl w).alloc _).trans q1⟩
theorem do_dup (R:Rep w bk bf bs bd K)(G:Good K){a b:Nat}(c:Int)(hs:s<K.nS)(ha:a<4)(hb:b<4) :
  Calls Tryd.prog 32 #[.pointer (some ⟨bk,0,none⟩),.int .i64 s,.int .i64 14,.agg #[.int .i64 a,.int .i64 b,.int .i64 c]] w (Ends bk bf bs bd w (kDup K s a b)):=by
 have HR:Hid (Rep w bk bf bs bd K):=R
 clear R
 go_enter Tryd.func32,Tryd.ntmps32
 go_wp2_with fail
 refine (dup_rep (HR.out.alloc _) G c hs ha hb).mono ?_
 rintro e w1 ⟨rfl,R1,q1⟩
 go_wp2
 go_ret2
 exact ⟨rfl,R1,((Keeps.refl w).alloc _).trans q1⟩
theorem do_close (R:Rep w bk bf bs bd K)(G:Good K){a:Nat}(b c:Int)(hs:s<K.nS)(ha:a<4) :
  Calls Tryd.prog 32 #[.pointer (some ⟨bk,0,none⟩),.int .i64 s,.int .i64 15,.agg #[.int .i64 a,.int .i64 b,.int .i64 c]] w (Ends bk bf bs bd w (kClose K s a)):=by
 have HR:Hid (Rep w bk bf bs bd K):=R
 clear R
 go_enter Tryd.func32,Tryd.ntmps32
 go_wp2_with fail
 refine (close_rep (HR.out.alloc _) G b c hs ha).mono ?_
 rintro e w1 ⟨rfl,R1,q1⟩
 go_wp2
 go_ret2
 exact ⟨rfl,R1,((Keeps.refl w).alloc _).trans q1⟩
theorem do_all (R:Rep w bk bf bs bd K)(G:Good K)(slot call a b c:Int)(s n:Nat)(h1:slot=s)(h2:call=n)(hs:s<K.nS)(hn:n<20)
  (hf:fits K ((argKinds n).getD 0 0) a=true∧fits K ((argKinds n).getD 1 0) b=true∧fits K ((argKinds n).getD 2 0) c=true) :
  Calls Tryd.prog 32 #[.pointer (some ⟨bk,0,none⟩),.int .i64 slot,.int .i64 call,.agg #[.int .i64 a,.int .i64 b,.int .i64 c]] w (Ends bk bf bs bd w (kDo K s n a b c)):=by
 by_cases h6:Six call
 ·exact do_six R G slot call a b c h6 s n h1 h2 hs hf
 obtain ⟨f0,f1,f2⟩:=hf
 subst h1
 unfold Six at h6
 obtain rfl|rfl|rfl|rfl|rfl|rfl|rfl|rfl|rfl|rfl|rfl|rfl|rfl|rfl:n=0∨n=1∨n=3∨n=4∨n=5∨n=6∨n=7∨n=8∨n=9∨n=10∨n=11∨n=12∨n=14∨n=15:=by omega
 all_goals subst h2
 ·exact do_none R a b c
 ·exact do_yield R a b c
 ·obtain ⟨a',rfl,ha⟩:=fits_is (t:=4) f0 (by decide)
  exact do_unmap R G b c hs (by have h4:howMany K 4=4:=rfl;omega)
 ·obtain ⟨a',rfl,ha⟩:=fits_is (t:=4) f0 (by decide)
  exact do_protect R b c hs (by have h4:howMany K 4=4:=rfl;omega)
 ·obtain ⟨a',rfl,ha⟩:=fits_is (t:=2) f0 (by decide)
  obtain ⟨b',rfl,hb⟩:=fits_is (t:=1) f1 (by decide)
  exact do_spawn R c hs (by have h4:howMany K 2=K.nS:=rfl;omega) (by have h4:howMany K 1=K.nF:=rfl;omega)
 ·obtain ⟨a',rfl,ha⟩:=fits_is (t:=2) f0 (by decide)
  obtain ⟨b',rfl,hb⟩:=fits_is (t:=4) f1 (by decide)
  obtain ⟨c',rfl,hc⟩:=fits_is (t:=1) f2 (by decide)
  exact do_copy R G hs (by have h4:howMany K 2=K.nS:=rfl;omega) (by have h4:howMany K 4=4:=rfl;omega) (by have h4:howMany K 1=K.nF:=rfl;omega)
 ·obtain ⟨a',rfl,ha⟩:=fits_is (t:=2) f0 (by decide)
  obtain ⟨b',rfl,hb⟩:=fits_is (t:=5) f1 (by decide)
  obtain ⟨c',rfl,hc⟩:=fits_is (t:=5) f2 (by decide)
  exact do_give R G hs (by have h4:howMany K 2=K.nS:=rfl;omega) (by have h4:howMany K 5=4:=rfl;omega) (by have h4:howMany K 5=4:=rfl;omega)
 ·obtain ⟨a',rfl,ha⟩:=fits_is (t:=2) f0 (by decide)
  exact do_start R b c hs (by have h4:howMany K 2=K.nS:=rfl;omega)
 ·exact do_exit R a b c hs
 ·obtain ⟨a',rfl,ha⟩:=fits_is (t:=2) f0 (by decide)
  obtain ⟨b',rfl,hb⟩:=fits_is (t:=4) f1 (by decide)
  exact do_drop R G c hs (by have h4:howMany K 2=K.nS:=rfl;omega) (by have h4:howMany K 4=4:=rfl;omega)
 ·obtain ⟨a',rfl,ha⟩:=fits_is (t:=2) f0 (by decide)
  obtain ⟨b',rfl,hb⟩:=fits_is (t:=5) f1 (by decide)
  exact do_shut R G c hs (by have h4:howMany K 2=K.nS:=rfl;omega) (by have h4:howMany K 5=4:=rfl;omega)
 ·obtain ⟨a',rfl,ha⟩:=fits_is (t:=2) f0 (by decide)
  exact do_reap R G b c hs (by have h4:howMany K 2=K.nS:=rfl;omega)
 ·obtain ⟨a',rfl,ha⟩:=fits_is (t:=5) f0 (by decide)
  obtain ⟨b',rfl,hb⟩:=fits_is (t:=5) f1 (by decide)
  exact do_dup R G c hs (by have h4:howMany K 5=4:=rfl;omega) (by have h4:howMany K 5=4:=rfl;omega)
 ·obtain ⟨a',rfl,ha⟩:=fits_is (t:=5) f0 (by decide)
  exact do_close R G b c hs (by have h4:howMany K 5=4:=rfl;omega)
theorem call_all (R:Rep w bk bf bs bd K)(T:Tab w)(G:Good K)(slot call a b c:Int) :
  Calls Tryd.prog 11 #[.pointer (some ⟨bk,0,none⟩),.int .i64 slot,.int .i64 call,.agg #[.int .i64 a,.int .i64 b,.int .i64 c]] w (Ends bk bf bs bd w (kCall K slot call a b c)) :=
 call_rep R T slot call a b c (fun s n h1 h2 hs hn hf w1 R1=>do_all R1 G slot call a b c s n h1 h2 hs hn hf)
end
attribute [local go_sem ↓] Go.wp_at_zero Go.wp_at_succ
theorem run_copy_m {P:Program}(w:World)(dT ty elem:TypeId)(b g n m:Nat)(cs:List Value)(hu:P.underlying dT=some (.slice elem))(hs:(P.info? elem).map (·.size)=some m)(hn:cs.length=n*m)
  (hsrc:∀ j v,cs[j]?=some v→w.cell? ((⟨g,0,none⟩:Addr).add j)=some v)(ht:w.there b 0 cs.length)(h1:∀ v∈cs,v.oneCell'=true) :
  (Builtin.copy_ #[dT,dT] ty #[.slice (some ⟨b,0,none⟩) n n,.slice (some ⟨g,0,none⟩) n n]).run P w=.ok (goInt n) (w.setCells b 0 cs):=by
 have hl:=run_loadCells_list (P:=P) w ⟨g,0,none⟩ cs hsrc
 have hst:=run_storeCells_cells (P:=P) b 0 cs 0 w (fun j hj=>by simpa using (ht j hj).1) (fun j hj=>by simpa using (ht j hj).2) h1
 cases hq:P.info? elem with
 | none=>simp [hq] at hs
 | some i =>
  have hi:i.size=m:=by simpa [hq] using hs
  rw [hn] at hl
  simp only [Nat.add_zero] at hst
  simp [Builtin.copy_,run_underlying hu,Builtin.lenOf,Builtin.firstCells,sizeOf,typeInfo,hq,hi,hl,hst]
theorem wpList_copy_run {P:Program}{w w':World}{ops:Array Oper}{rest:List Oper}{o:Oper}{a:Act}{Q:Exit→Act→World→Prop}(hg:o.guard=none)(s x:Operand)(t:TypeId)
  (hop:o.op=Op.call { callee:=Callee.builtin Builtin.copy,args:=#[s,x],argTypes:=#[t,t] })(v u v':Value)(hs:a.eval s=v)(hx:a.eval x=u)
  (hrun:(Builtin.copy_ #[t,t] o.type #[v,u]).run P w=.ok v' w')(h:wpList P ops Q rest (a.put o.dst v') w'):wpList P ops Q (o::rest) a w:=by
 refine wpList_plain hg fun K hK'=>?_
 unfold Oper.wp
 simp [execOp,hop,resolve,invoke,builtin,hs,hx,hrun,Result.andThen]
 exact hK' _ _ h
def fCell (K:Ker)(j:Nat):Value:=.int .i64 (K.F (j / 6) (j % 6))
def sCell (K:Ker)(j:Nat):Value:=if 4≤j % 20∧j % 20≤18∧(j % 20) % 2=0 then .bool (K.B (j / 20) (j % 20)) else .int .i64 (K.S (j / 20) (j % 20))
def dCell (K:Ker)(j:Nat):Value:=.int .i64 (K.D (j / 5) (j % 5))
section
variable {bk bf bs bd:Nat} {K:Ker} {w:World}
theorem Rep.cellF (R:Rep w bk bf bs bd K){j:Nat}(hj:j<K.nF*6):w.cell? ⟨bf,j,none⟩=some (fCell K j):=by
 have:=R.f (j / 6) (j % 6) (by omega) (by omega)
 rw [show j / 6*6+j % 6=j by omega] at this
 exact this
theorem Rep.cellS (R:Rep w bk bf bs bd K){j:Nat}(hj:j<K.nS*20):w.cell? ⟨bs,j,none⟩=some (sCell K j):=by
 unfold sCell
 split
 ·have:=R.b (j / 20) (j % 20) (by omega) (by assumption)
  rw [show j / 20*20+j % 20=j by omega] at this
  exact this
 ·have:=R.s (j / 20) (j % 20) (by omega) (by omega) (by assumption)
  rw [show j / 20*20+j % 20=j by omega] at this
  exact this
theorem Rep.cellD (R:Rep w bk bf bs bd K){j:Nat}(hj:j<K.nD*5):w.cell? ⟨bd,j,none⟩=some (dCell K j):=by
 have:=R.d (j / 5) (j % 5) (by omega) (by omega)
 rw [show j / 5*5+j % 5=j by omega] at this
 exact this
end
theorem copiedFrame_any (g n:Nat)(hn:n≤32)(f:Nat→Value)(w:World)(hg:g<w.heap.size)(hc:∀ j,j<n*6→w.cell? ⟨g,j,none⟩=some (f j))(h1:∀ j,(f j).oneCell'=true) :
  Calls Tryd.prog 34 #[.slice (some ⟨g,0,none⟩) n n] w fun e w'=>e=.returned (.slice (some ⟨w.heap.size,0,none⟩) n n)∧Below w.heap.size w w'∧w'.heap.size=w.heap.size+1∧w'.rowIs w.heap.size 75 (n*6) f:=by
 obtain ⟨C,hC,hmk⟩:=makeFrame n hn w
 have hrow:=rowIs_new w C 75
 rw [hC] at hrow
 have hcp:∀ ty,(Builtin.copy_ #[41,41] ty #[.slice (some ⟨w.heap.size,0,none⟩) n n,.slice (some ⟨g,0,none⟩) n n]).run Tryd.prog (w.alloc (.cells C 75))=.ok (goInt n) ((w.alloc (.cells C 75)).setCells w.heap.size 0 ((List.range (n*6)).map f)) :=
  fun ty=>run_copy_m _ _ _ 75 _ _ n 6 _ Tryd.underlying41 (by kernel_rfl) (by simp) (fun j v hv=>by
   have hj:j<n*6:=by have:=(List.getElem?_eq_some_iff.1 hv).1;simpa using this
   rw [Addr.add_mid,Nat.zero_add,World.cell?_of_block (w:=w) (a:=⟨g,j,none⟩) (Below.heap_alloc _ _ _ hg),hc j hj,← hv,List.getElem?_map,List.getElem?_range hj];rfl) (by simpa using rowIs_there hrow (by omega)) (fun v hv=>by simp at hv;obtain ⟨j,_,rfl⟩:=hv;exact h1 j)
 have Hcp:Hid (∀ ty,_):=hcp
 have Hrow:Hid _:=hrow
 clear hcp hC hrow hc h1
 go_enter Tryd.func34,Tryd.ntmps34
 go_wp2_with (refine wpList_copy_run rfl _ _ 41 rfl (.slice (some ⟨w.heap.size,0,none⟩) n n) (.slice (some ⟨g,0,none⟩) n n) (goInt n) rfl rfl (Hcp.out _) ?_)
 go_ret
 refine ⟨rfl,below_setCells (Nat.le_refl _) _ _ ((Below.refl _ _).alloc (Nat.le_refl _) _),by rw [size_setCells];simp,(rowIs_setCells _ 0 Hrow.out).congr fun j hj=>?_⟩
 rw [if_pos (by simp;exact hj),Nat.sub_zero,List.getD_eq_getElem?_getD,List.getElem?_map,List.getElem?_range hj]
 rfl
theorem copiedSlot_any (g n:Nat)(hn:n≤32)(f:Nat→Value)(w:World)(hg:g<w.heap.size)(hc:∀ j,j<n*20→w.cell? ⟨g,j,none⟩=some (f j))(h1:∀ j,(f j).oneCell'=true) :
  Calls Tryd.prog 35 #[.slice (some ⟨g,0,none⟩) n n] w fun e w'=>e=.returned (.slice (some ⟨w.heap.size,0,none⟩) n n)∧Below w.heap.size w w'∧w'.heap.size=w.heap.size+1∧w'.rowIs w.heap.size 55 (n*20) f:=by
 obtain ⟨C,hC,hmk⟩:=makeSlot n hn w
 have hrow:=rowIs_new w C 55
 rw [hC] at hrow
 have hcp:∀ ty,(Builtin.copy_ #[42,42] ty #[.slice (some ⟨w.heap.size,0,none⟩) n n,.slice (some ⟨g,0,none⟩) n n]).run Tryd.prog (w.alloc (.cells C 55))=.ok (goInt n) ((w.alloc (.cells C 55)).setCells w.heap.size 0 ((List.range (n*20)).map f)) :=
  fun ty=>run_copy_m _ _ _ 55 _ _ n 20 _ Tryd.underlying42 (by kernel_rfl) (by simp) (fun j v hv=>by
   have hj:j<n*20:=by have:=(List.getElem?_eq_some_iff.1 hv).1;simpa using this
   rw [Addr.add_mid,Nat.zero_add,World.cell?_of_block (w:=w) (a:=⟨g,j,none⟩) (Below.heap_alloc _ _ _ hg),hc j hj,← hv,List.getElem?_map,List.getElem?_range hj];rfl) (by simpa using rowIs_there hrow (by omega)) (fun v hv=>by simp at hv;obtain ⟨j,_,rfl⟩:=hv;exact h1 j)
 have Hcp:Hid (∀ ty,_):=hcp
 have Hrow:Hid _:=hrow
 clear hcp hC hrow hc h1
 go_enter Tryd.func35,Tryd.ntmps35
 go_wp2_with (refine wpList_copy_run rfl _ _ 42 rfl (.slice (some ⟨w.heap.size,0,none⟩) n n) (.slice (some ⟨g,0,none⟩) n n) (goInt n) rfl rfl (Hcp.out _) ?_)
 go_ret
 refine ⟨rfl,below_setCells (Nat.le_refl _) _ _ ((Below.refl _ _).alloc (Nat.le_refl _) _),by rw [size_setCells];simp,(rowIs_setCells _ 0 Hrow.out).congr fun j hj=>?_⟩
 rw [if_pos (by simp;exact hj),Nat.sub_zero,List.getD_eq_getElem?_getD,List.getElem?_map,List.getElem?_range hj]
 rfl
theorem copiedDuct_any (g n:Nat)(hn:n≤32)(f:Nat→Value)(w:World)(hg:g<w.heap.size)(hc:∀ j,j<n*5→w.cell? ⟨g,j,none⟩=some (f j))(h1:∀ j,(f j).oneCell'=true) :
  Calls Tryd.prog 36 #[.slice (some ⟨g,0,none⟩) n n] w fun e w'=>e=.returned (.slice (some ⟨w.heap.size,0,none⟩) n n)∧Below w.heap.size w w'∧w'.heap.size=w.heap.size+1∧w'.rowIs w.heap.size 84 (n*5) f:=by
 obtain ⟨C,hC,hmk⟩:=makeDuct n hn w
 have hrow:=rowIs_new w C 84
 rw [hC] at hrow
 have hcp:∀ ty,(Builtin.copy_ #[43,43] ty #[.slice (some ⟨w.heap.size,0,none⟩) n n,.slice (some ⟨g,0,none⟩) n n]).run Tryd.prog (w.alloc (.cells C 84))=.ok (goInt n) ((w.alloc (.cells C 84)).setCells w.heap.size 0 ((List.range (n*5)).map f)) :=
  fun ty=>run_copy_m _ _ _ 84 _ _ n 5 _ Tryd.underlying43 (by kernel_rfl) (by simp) (fun j v hv=>by
   have hj:j<n*5:=by have:=(List.getElem?_eq_some_iff.1 hv).1;simpa using this
   rw [Addr.add_mid,Nat.zero_add,World.cell?_of_block (w:=w) (a:=⟨g,j,none⟩) (Below.heap_alloc _ _ _ hg),hc j hj,← hv,List.getElem?_map,List.getElem?_range hj];rfl) (by simpa using rowIs_there hrow (by omega)) (fun v hv=>by simp at hv;obtain ⟨j,_,rfl⟩:=hv;exact h1 j)
 have Hcp:Hid (∀ ty,_):=hcp
 have Hrow:Hid _:=hrow
 clear hcp hC hrow hc h1
 go_enter Tryd.func36,Tryd.ntmps36
 go_wp2_with (refine wpList_copy_run rfl _ _ 43 rfl (.slice (some ⟨w.heap.size,0,none⟩) n n) (.slice (some ⟨g,0,none⟩) n n) (goInt n) rfl rfl (Hcp.out _) ?_)
 go_ret
 refine ⟨rfl,below_setCells (Nat.le_refl _) _ _ ((Below.refl _ _).alloc (Nat.le_refl _) _),by rw [size_setCells];simp,(rowIs_setCells _ 0 Hrow.out).congr fun j hj=>?_⟩
 rw [if_pos (by simp;exact hj),Nat.sub_zero,List.getD_eq_getElem?_getD,List.getElem?_map,List.getElem?_range hj]
 rfl
attribute [local go_sem ↓] Go.wp_at_zero Go.wp_at_succ
structure Snap (w:World) (gF gS gD:Nat) (K:Ker):Prop where
 f:w.rowIs gF 75 (K.nF*6) (fCell K)
 s:w.rowIs gS 55 (K.nS*20) (sCell K)
 d:w.rowIs gD 84 (K.nD*5) (dCell K)
theorem Snap.same {w w':World}{gF gS gD:Nat}{K:Ker}(S:Snap w gF gS gD K)(h:∀ k,k=gF∨k=gS∨k=gD→w'.heap[k]?=w.heap[k]?):Snap w' gF gS gD K :=
 ⟨S.f.of_block (h _ (by simp)),S.s.of_block (h _ (by simp)),S.d.of_block (h _ (by simp))⟩
theorem one_f (K:Ker)(j:Nat):(fCell K j).oneCell'=true:=rfl
theorem one_d (K:Ker)(j:Nat):(dCell K j).oneCell'=true:=rfl
theorem one_s (K:Ker)(j:Nat):(sCell K j).oneCell'=true:=by unfold sCell;split<;>rfl
theorem res_block {w w1 w2 w3:World}{C:Array Value}{t:TypeId}(b1:Below (w.alloc (.cells C t)).drew.heap.size (w.alloc (.cells C t)).drew w1)(b2:Below w1.heap.size w1 w2)(b3:Below w2.heap.size w2 w3) :
  (∀ i,w3.cell? ⟨w.heap.size,i,none⟩=C[i]?)∧(∀ i,w3.frozen? ⟨w.heap.size,i,none⟩=false):=by
 have l0:w.heap.size<(w.alloc (.cells C t)).drew.heap.size:=by show w.heap.size<(w.alloc (.cells C t)).heap.size;simp
 have l1:=Nat.lt_of_lt_of_le l0 b1.size
 have l2:=Nat.lt_of_lt_of_le l1 b2.size
 have e:w3.heap[w.heap.size]?=(w.alloc (.cells C t)).heap[w.heap.size]?:=(b3.block _ l2).trans ((b2.block _ l1).trans (b1.block _ l0))
 exact ⟨fun i=>(World.cell?_of_block (w:=w.alloc (.cells C t)) (a:=⟨w.heap.size,i,none⟩) e).trans (World.cell?_alloc_at _ _ _ _ rfl),fun i=>(World.frozen?_of_block (w:=w.alloc (.cells C t)) (a:=⟨w.heap.size,i,none⟩) e).trans (World.frozen?_alloc_at _ _ _ _ rfl)⟩
def stVal (K:Ker)(gF gS gD:Nat):Value:=.agg #[.slice (some ⟨gF,0,none⟩) K.nF K.nF,.slice (some ⟨gS,0,none⟩) K.nS K.nS,.slice (some ⟨gD,0,none⟩) K.nD K.nD]
def stCells (K:Ker)(g:Nat):List Value:=[.slice (some ⟨g+1,0,none⟩) K.nF K.nF,.slice (some ⟨g+1+1,0,none⟩) K.nS K.nS,.slice (some ⟨g+1+1+1,0,none⟩) K.nD K.nD]
theorem res_there {w3:World}{g:Nat}{K:Ker}{n:Nat}(yc:∀ i,w3.cell? ⟨g,i,none⟩=(#[Value.slice none 0 0,Value.slice none 0 0,Value.slice none 0 0]:Array Value)[i]?)(yf:∀ i,w3.frozen? ⟨g,i,none⟩=false):w3.there g 0 (stCells K n).length:=fun j hj=>by
 have hj':j<3:=hj
 refine ⟨?_,?_⟩
 ·rw [yc];match j,hj' with|0,_=>rfl|1,_=>rfl|2,_=>rfl
 ·exact yf _
theorem res_done {w w1 w2 w3:World}{K:Ker}{C:Array Value}{t:TypeId}(b1:Below (w.alloc (.cells C t)).drew.heap.size (w.alloc (.cells C t)).drew w1)(b2:Below w1.heap.size w1 w2)(b3:Below w2.heap.size w2 w3)
  (z1:w1.heap.size=(w.alloc (.cells C t)).drew.heap.size+1)(z2:w2.heap.size=w1.heap.size+1)(r1:w1.rowIs (w.alloc (.cells C t)).drew.heap.size 75 (K.nF*6) (fCell K))(r2:w2.rowIs w1.heap.size 55 (K.nS*20) (sCell K))(r3:w3.rowIs w2.heap.size 84 (K.nD*5) (dCell K)) :
  ∃ gF gS gD,Ending.returned (.agg (stCells K w.heap.size).toArray)=.returned (stVal K gF gS gD)∧Below w.heap.size w (w3.setCells w.heap.size 0 (stCells K w.heap.size))∧Snap (w3.setCells w.heap.size 0 (stCells K w.heap.size)) gF gS gD K∧w.heap.size≤gF∧w.heap.size≤gS∧w.heap.size≤gD:=by
 have l0:(w.alloc (.cells C t)).drew.heap.size=w.heap.size+1:=by show (w.alloc (.cells C t)).heap.size=_;simp
 rw [l0] at z1 r1
 rw [z1] at z2 r2
 rw [z2] at r3
 refine ⟨w.heap.size+1,w.heap.size+1+1,w.heap.size+1+1+1,rfl,below_setCells (Nat.le_refl _) _ _ ?_,?_,by omega,by omega,by omega⟩
 ·have a0:Below w.heap.size w (w.alloc (.cells C t)):=(Below.refl _ _).alloc (Nat.le_refl _) _
  refine ⟨?_,?_,?_,?_,fun k hk=>?_⟩
  ·rw [b3.os,b2.os,b1.os];exact a0.os
  ·rw [b3.tape,b2.tape,b1.tape];exact a0.tape
  ·rw [b3.output,b2.output,b1.output];exact a0.output
  ·have:=b3.size;omega
  ·exact (b3.block k (by omega)).trans ((b2.block k (by omega)).trans ((b1.block k (by omega)).trans (a0.block k hk)))
 ·refine Snap.same (w:=w3) ⟨(r1.of_block (b2.block _ (by omega))).of_block (b3.block _ (by omega)),r2.of_block (b3.block _ (by omega)),r3⟩ ?_
  rintro k (rfl|rfl|rfl)<;>exact heap_setCells (by omega) _ _ _
section
variable {bk bf bs bd:Nat} {K:Ker} {w:World}
theorem state_rep (R:Rep w bk bf bs bd K) :
  Calls Tryd.prog 13 #[.pointer (some ⟨bk,0,none⟩)] w fun e w'=>∃ gF gS gD,e=.returned (stVal K gF gS gD)∧Below w.heap.size w w'∧Snap w' gF gS gD K∧w.heap.size≤gF∧w.heap.size≤gS∧w.heap.size≤gD:=by
 have HR:Hid (Rep w bk bf bs bd K):=R
 have k0:=fun o=>(HR.out.alloc o).k0
 have k1:=fun o=>(HR.out.alloc o).k1
 have k2:=fun o=>(HR.out.alloc o).k2
 have HF:Hid (K.nF≤32∧K.nS≤6∧K.nD≤4):=⟨R.hF,R.hS,R.hD⟩
 have ek:w.heap.size≠bk:=World.new_ne w ⟨bk,0,none⟩ R.k0
 have ek':bk≠w.heap.size:=Ne.symm ek
 clear R
 go_enter Tryd.func13,Tryd.ntmps13
 go_wp2_with fail
 go_region_held3 (fun w'=>w'.cell? ⟨bk,0,none⟩=some (.slice (some ⟨bf,0,none⟩) K.nF K.nF)∧w'.cell? ⟨bk,1,none⟩=some (.slice (some ⟨bs,0,none⟩) K.nS K.nS)∧w'.cell? ⟨bk,2,none⟩=some (.slice (some ⟨bd,0,none⟩) K.nD K.nD)) ((repeat' apply And.intro)<;>(first|assumption|(go_keep;done)))
  (first|(go_at_call 34;refine (copiedFrame_any bf K.nF HF.out.1 (fCell K) _ (HR.out.alloc _).drew.lf (fun j hj=>(HR.out.alloc _).drew.cellF hj) (one_f K)).mono ?_;rintro e w1 ⟨rfl,b1,z1,r1⟩;have HR1:Hid (Rep w1 bk bf bs bd K):=(HR.out.alloc _).drew.same b1.size (fun k h1 _=>b1.block k h1);have u0:=HR1.out.k0;have u1:=HR1.out.k1;have u2:=HR1.out.k2)|(go_at_call 35;refine (copiedSlot_any bs K.nS (by have:=HF.out;omega) (sCell K) _ HR1.out.ls (fun j hj=>HR1.out.cellS hj) (one_s K)).mono ?_;rintro e w2 ⟨rfl,b2,z2,r2⟩;have HR2:Hid (Rep w2 bk bf bs bd K):=HR1.out.same b2.size (fun k h1 _=>b2.block k h1);have v0:=HR2.out.k0;have v1:=HR2.out.k1;have v2:=HR2.out.k2)|(go_at_call 36;refine (copiedDuct_any bd K.nD (by have:=HF.out;omega) (dCell K) _ HR2.out.ld (fun j hj=>HR2.out.cellD hj) (one_d K)).mono ?_;rintro e w3 ⟨rfl,b3,z3,r3⟩;have HR3:Hid (Rep w3 bk bf bs bd K):=HR2.out.same b3.size (fun k h1 _=>b3.block k h1);have x0:=HR3.out.k0;have x1:=HR3.out.k1;have x2:=HR3.out.k2;have yc:=(res_block b1 b2 b3).1;have yf:=(res_block b1 b2 b3).2;have y0:w3.cell? ⟨w.heap.size,0,none⟩=some (.slice none 0 0):=yc 0;have y1:w3.cell? ⟨w.heap.size,1,none⟩=some (.slice none 0 0):=yc 1;have y2:w3.cell? ⟨w.heap.size,2,none⟩=some (.slice none 0 0):=yc 2;have f0:=yf 0;have f1:=yf 1;have f2:=yf 2;have HT:Hid (w3.there w.heap.size 0 (stCells K w.heap.size).length):=res_there yc yf))
 rename_i Q1 K1 hK hH
 refine hK _ _ ?_
 subst Q1
 refine wp_ret ?_
 show bodyPost _ _ _ _ _ (w3.setCells w.heap.size 0 (stCells K w.heap.size))
 refine bodyPost_ret (v:=.agg (stCells K w.heap.size).toArray) (results_cell_range Tryd.results13 _ (w3.setCells w.heap.size 0 (stCells K w.heap.size)) w.heap.size (stCells K w.heap.size) _ rfl (World.rangeAt_setCells_same w3 w.heap.size 0 _ HT.out) Tryd.underlying45 rfl (by kernel_rfl)) rfl ?_
 exact res_done b1 b2 b3 z1 z2 r1 r2 r3
end
end Go.Proofs.YtcgabodkegcpgaaDoor
