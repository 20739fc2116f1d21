/- What the kernel's call Reap does (for every kernel whose numbers are ones). -/
import Derived.Test.YtcgabodkegcpgaaDoorNew1
import Derived.Deep.RegionHeld3
import Derived.Deep.DrawnRows
import Derived.Test.YtcgabodkegcpgaaDoorPrc2
import Derived.Test.YtcgabodkegcpgaaDoorNea
import Derived.Test.YtcgabodkegcpgaaDoorMut
import Derived.Test.YtcgabodkegcpgaaDoorRul
import Derived.Test.YtcgabodkegcpgaaDoorInv3
set_option linter.unusedVariables false
set_option linter.unusedSimpArgs false
set_option maxHeartbeats 20000000
set_option maxRecDepth 100000
namespace Go.Proofs.YtcgabodkegcpgaaDoor
open Go.RowKit
attribute [local go_sem ↓] Go.wp_at_zero Go.wp_at_succ
section
variable {bk bf bs bd:Nat} {K:Ker} {w:World}
theorem Rep.noSlot (R:Rep w bk bf bs bd K){c:Nat}(hc:c<K.nS):Rep (w.setCells bs (c*20) X6) bk bf bs bd (K.noSlot c):=by
 have th:∀ j,j<X6.length->(w.cell? ⟨bs,c*20+j,none⟩).isSome=true:=λj hj=>by
  rw [J7] at hj
  by_cases hb:isB j
  ·rw [R.b c j hc hb];rfl
  ·rw [R.s c j hc hj hb];rfl
 have ot:∀ b o,b≠bs->(w.setCells bs (c*20) X6).cell? ⟨b,o,none⟩=w.cell? ⟨b,o,none⟩:=λb o hb=>World.cell?_setCells_out bs X6 (c*20) w ⟨b,o,none⟩ (λh=>absurd h hb);have os:∀ i j,i≠c->j<20->(w.setCells bs (c*20) X6).cell? ⟨bs,i*20+j,none⟩=w.cell? ⟨bs,i*20+j,none⟩:=λi j hi hj=>World.cell?_setCells_out bs X6 (c*20) w ⟨bs,i*20+j,none⟩ (λ_ _=>by rw [J7];show i*20+j<c*20\/c*20+20<=i*20+j;omega);have ins:∀ j (hj:j<20),(w.setCells bs (c*20) X6).cell? ⟨bs,c*20+j,none⟩=some (X6[j]'(by rw [J7];exact hj)):=λj hj=>World.cell?_setCells_in bs X6 (c*20) w th j (by rw [J7];exact hj);refine ⟨by rw [ot _ _ R.ks];exact R.k0,by rw [ot _ _ R.ks];exact R.k1,by rw [ot _ _ R.ks];exact R.k2,λi j hi hj=>by rw [ot _ _ R.fs];exact R.f i j hi hj,?_,?_,λi j hi hj=>by rw [ot _ _ (λe=>R.sd e.symm)];exact R.d i j hi hj,λo=>by rw [World.frozen?_setCells];exact R.zf o,λo=>by rw [World.frozen?_setCells];exact R.zs o,λo=>by rw [World.frozen?_setCells];exact R.zd o,by rw [u9];exact R.lk,by rw [u9];exact R.lf,by rw [u9];exact R.ls,by rw [u9];exact R.ld,R.kf,R.ks,R.kd,R.fs,R.fd,R.sd,R.hF,R.hS,R.hD⟩
 ·intro i j hi hj hb
  by_cases e:i=c
  ·subst e;rw [ins j hj];show some _=some (Value.int .i64 (if i=i then (if j=0\/j=19 then 0 else -1) else K.S i j));rw [if_pos rfl];obtain rfl|rfl|rfl|rfl|rfl|rfl|rfl|rfl|rfl|rfl|rfl|rfl:j=0\/j=1\/j=2\/j=3\/j=5\/j=7\/j=9\/j=11\/j=13\/j=15\/j=17\/j=19:=by unfold isB at hb;omega
   all_goals rfl
  ·rw [os i j e hj,R.s i j hi hj hb];show _=some (Value.int .i64 (if i=c then (if j=0\/j=19 then 0 else -1) else K.S i j));rw [if_neg e]
 ·intro i j hi hb;have hj:j<20:=by unfold isB at hb;omega
  by_cases e:i=c
  ·subst e;rw [ins j hj];show some _=some (Value.bool (if i=i then false else K.B i j));rw [if_pos rfl];obtain rfl|rfl|rfl|rfl|rfl|rfl|rfl|rfl:j=4\/j=6\/j=8\/j=10\/j=12\/j=14\/j=16\/j=18:=by unfold isB at hb;omega
   all_goals rfl
  ·rw [os i j e hj,R.b i j hi hb];show _=some (Value.bool (if i=c then false else K.B i j));rw [if_neg e]
theorem Keeps.setCells {a:World}(h:Keeps bf bs bd a w):∀ (vs:List Value) (o:Nat),Keeps bf bs bd a (w.setCells bs o vs):=λvs=>by
 induction vs generalizing w with
 | nil=>intro o;exact h
 | cons v r ih=>intro o;exact ih (h.setS o v) (o+1)
theorem b5c (K:Ker)(s c:Nat)(h0:K.still s c=true)(p:Nat)(hp:p<4)(h:K.page c p≠-1):O5 K s c=⟨K,0,6⟩:=by
 unfold O5;rw [if_neg (by simp [h0]),if_pos];obtain rfl|rfl|rfl|rfl:p=0\/p=1\/p=2\/p=3:=by omega
 ·exact Or.inl h
 ·exact Or.inr (Or.inl h)
 ·exact Or.inr (Or.inr (Or.inl h))
 ·exact Or.inr (Or.inr (Or.inr h))
theorem b5d (K:Ker)(s c:Nat)(h0:K.still s c=true)(hp:∀ p,p<4->K.page c p=-1)(x:Nat)(hx:x<4)(h:K.file c x≠-1):O5 K s c=⟨K,0,8⟩:=by
 unfold O5;rw [if_neg (by simp [h0]),if_neg (by simp [hp 0 (by omega),hp 1 (by omega),hp 2 (by omega),hp 3 (by omega)]),if_pos];obtain rfl|rfl|rfl|rfl:x=0\/x=1\/x=2\/x=3:=by omega
 ·exact Or.inl h
 ·exact Or.inr (Or.inl h)
 ·exact Or.inr (Or.inr (Or.inl h))
 ·exact Or.inr (Or.inr (Or.inr h))
theorem b5e (K:Ker)(s c:Nat)(h0:K.still s c=true)(hp:∀ p,p<4->K.page c p=-1)(hx:∀ x,x<4->K.file c x=-1):O5 K s c=⟨(K.become (K.S c 2).toNat 0 (-1)).noSlot c,K.S c 19,0⟩:=by
 unfold O5;rw [if_neg (by simp [h0]),if_neg (by simp [hp 0 (by omega),hp 1 (by omega),hp 2 (by omega),hp 3 (by omega)]),if_neg (by simp [hx 0 (by omega),hx 1 (by omega),hx 2 (by omega),hx 3 (by omega)])]
theorem Rep.there (R:Rep w bk bf bs bd K){c:Nat}(hc:c<K.nS):w.there bs (c*20) 20:=λj hj=>by
 refine ⟨?_,R.zs _⟩
 by_cases hb:isB j
 ·rw [R.b c j hc hb];rfl
 ·rw [R.s c j hc hj hb];rfl
theorem Rep.belowed {w':World}(R:Rep w bk bf bs bd K)(b:Below w.heap.size w w'):Rep w' bk bf bs bd K:=R.same b.size (λk h1 _=>b.block k h1)
theorem b0H {P:Program}{w:World}{b o:Nat}{cs:List Value}(ht:w.there b o cs.length)(h1:∀ v∈cs,v.oneCell'=true):Sem.run P (storeCells ⟨b,o,none⟩ cs) w=.ok () (w.setCells b o cs):=by
 have:=run_storeCells_cells (P:=P) b o cs 0 w (λj hj=>by simpa using (ht j hj).1) (λj hj=>by simpa using (ht j hj).2) h1;simpa using this
theorem b7O (R:Rep w bk bf bs bd K)(G:Good K){s c:Nat}(y z:Int)(hs:s<K.nS)(hc:c<K.nS) :
  Calls Tryd.prog 55 #[.pointer (some ⟨bk,0,none⟩),.int .i64 s,.agg #[.int .i64 c,.int .i64 y,.int .i64 z]] w (Ends bk bf bs bd w (O5 K s c)):=by
 have HR:Hid (Rep w bk bf bs bd K):=R;have hn:=R.hS;have hm:=R.hF;clear R
 by_cases h0:K.still s c=true
 ·have hk0:K.S c 0≠0:=by intro h;unfold Ker.still at h0;rw [h] at h0;simp at h0
  obtain ⟨t,ht⟩:∃ t:Nat,K.S c 2=t:=⟨(K.S c 2).toNat,by have:=G.tab c hc hk0;omega⟩;have htl:t<K.nF:=by have:=G.tab c hc hk0;omega
  have Ht:Hid (K.S c 2=t):=ht;clear hk0 ht
  go_enter Tryd.func55,Tryd.ntmps55
  go_wp2_with fail
  refine (G0 (HR.out.alloc _) hc).mono ?_;rintro e w1 ⟨rfl,rfl⟩
  go_wp2
  go_loop [19] (λi=>∃ k:Nat,k<=4/\i=.int .i64 k/\∀ p,p<k->K.page c p=-1) (λi=>4 - (intOf i).toNat)
  case atStart=>exact ⟨0,by omega,rfl,λp hp=>by omega⟩
  case round =>
   obtain ⟨k,hk,rfl,hpg⟩:=hrel;have Hp:Hid (∀ p,p<k->K.page c p=-1):=hpg;clear hpg
   by_cases hlt:k<4
   ·by_cases h1:K.page c k=-1
    ·have e1:(K.S c (3+k*2) != -1)=false:=by simpa [Ker.page] using h1
     have Hk:Hid (K.page c k=-1):=h1;clear h1
     go_wp2_with fail
     refine (s8 (HR.out.alloc _) hc hlt).mono ?_;rintro e w1 ⟨rfl,rfl⟩
     go_wp2
     exact ⟨⟨k+1,by omega,by go_num,λp hp=>by by_cases e:p=k;rw [e];exact Hk.out;exact Hp.out p (by omega)⟩,by simp [intOf];omega⟩
    ·have e1:(K.S c (3+k*2) != -1)=true:=by simpa [Ker.page] using h1
     have E:Hid (O5 K s c=⟨K,0,6⟩):=b5c K s c h0 k hlt h1;clear h1
     go_wp2_with fail
     refine (s8 (HR.out.alloc _) hc hlt).mono ?_;rintro e w1 ⟨rfl,rfl⟩
     go_wp2
     go_ret2
     exact Ends.mk E (HR.out.alloc _) ((Keeps.refl w).alloc _)
   ·obtain rfl:k=4:=by omega
    go_wp2
    go_loop [27] (λi=>∃ k:Nat,k<=4/\i=.int .i64 k/\∀ x,x<k->K.file c x=-1) (λi=>4 - (intOf i).toNat)
    case atStart=>exact ⟨0,by omega,rfl,λp hp=>by omega⟩
    case round =>
     obtain ⟨k,hk,rfl,hfl⟩:=hrel;have Hf:Hid (∀ x,x<k->K.file c x=-1):=hfl;clear hfl
     by_cases hlt:k<4
     ·by_cases h1:K.file c k=-1
      ·have e1:(K.S c (11+k*2) != -1)=false:=by simpa [Ker.file] using h1
       have Hk:Hid (K.file c k=-1):=h1;clear h1
       go_wp2_with fail
       refine (z7 (HR.out.alloc _) hc hlt).mono ?_;rintro e w1 ⟨rfl,rfl⟩
       go_wp2
       exact ⟨⟨k+1,by omega,by go_num,λp hp=>by by_cases e:p=k;rw [e];exact Hk.out;exact Hf.out p (by omega)⟩,by simp [intOf];omega⟩
      ·have e1:(K.S c (11+k*2) != -1)=true:=by simpa [Ker.file] using h1
       have E:Hid (O5 K s c=⟨K,0,8⟩):=b5d K s c h0 Hp.out k hlt h1;clear h1
       go_wp2_with fail
       refine (z7 (HR.out.alloc _) hc hlt).mono ?_;rintro e w1 ⟨rfl,rfl⟩
       go_wp2
       go_ret2
       exact Ends.mk E (HR.out.alloc _) ((Keeps.refl w).alloc _)
     ·obtain rfl:k=4:=by omega
      have E:Hid (O5 K s c=⟨(K.become t 0 (-1)).noSlot c,K.S c 19,0⟩):=by unfold Hid;rw [b5e K s c h0 Hp.out Hf.out,Ht.out,Int.toNat_natCast]
      have k1:=λo=>(HR.out.alloc o).k1;have c1:=λo=>(HR.out.alloc o).sc hc;have c2:∀ o,(w.alloc o).cell? ⟨bs,c*20+2,none⟩=some (.int .i64 t):=λo=>by rw [(HR.out.alloc o).st hc,Ht.out]
      go_wp2_with fail
      refine (P1 (HR.out.alloc _) 0 (-1) htl).mono ?_;rintro e w2 ⟨rfl,R2,q2⟩;have HR2:Hid (Rep w2 bk bf bs bd (K.become t 0 (-1))):=R2;have Hq2:Hid (Keeps bf bs bd w w2):=((Keeps.refl w).alloc _).trans q2;have hc2:c<(K.become t 0 (-1)).nS:=hc;clear R2 q2 k1 c1 c2;generalize K.become t 0 (-1)=K2 at *;have r1:=HR2.out.k1;have r2:=HR2.out.hS;have i1:(0:Int)<=(c:Int):=by omega
      have i2:(c:Int)<(K2.nS:Int):=by omega
      obtain ⟨cs,hcs⟩:∃ cs,cs=X6:=⟨_,rfl⟩;have hl:Hid (cs.length=20):=by unfold Hid;rw [hcs];exact J7
      have hi2:Hid ((Tryd.prog.info? 55).map (·.size)=some cs.toArray.size):=by unfold Hid;rw [hcs,List.size_toArray,J7];kernel_rfl
      have h1a:Hid (∀ v∈cs,v.oneCell'=true):=by unfold Hid;rw [hcs];exact λv hv=>Array.all_eq_true_iff_forall_mem.1 a3c v (by simpa using hv)
      have n1:=HR2.out.ks;have n2:bs≠bk:=λe=>n1 e.symm;have CE:Hid (∀ w,Calls Tryd.prog 27 #[] w λe w'=>e=.returned (.agg cs.toArray)/\Below w.heap.size w w'):=by unfold Hid;rw [hcs];exact a3d
      have HN:Hid (∀ w3,Rep w3 bk bf bs bd K2->Rep (w3.setCells bs (c*20) cs) bk bf bs bd (K2.noSlot c)):=by unfold Hid;rw [hcs];exact λw3 R3=>R3.noSlot hc2
      clear hcs;have hc3:c<(K2.noSlot c).nS:=hc2
      go_wp2_with fail
      go_region_held3 (λw'=>w'.cell? ⟨bk,1,none⟩=some (.slice (some ⟨bs,0,none⟩) K2.nS K2.nS)) (go_keep) (first|(go_at_call 27;refine (CE.out _).mono ?_;rintro e w3 ⟨rfl,b3⟩;have HR3:Hid (Rep w3 bk bf bs bd K2):=HR2.out.drew.belowed b3;have Hq3:Hid (Keeps bf bs bd w w3):=Hq2.out.drew.trans ⟨b3.os,b3.tape,b3.output,b3.size,λk h1 _ _ _=>b3.block k h1⟩;have t4:=HR3.out.k1;have t6:(w3.setCells bs (c*20) cs).cell? ⟨bk,1,none⟩=some (.slice (some ⟨bs,0,none⟩) K2.nS K2.nS):=(HN.out w3 HR3.out).k1;have st:=b0H (P:=Tryd.prog) (w:=w3) (b:=bs) (o:=c*20) (cs:=cs) (by rw [hl.out];exact HR3.out.there hc2) h1a.out;clear b3))
      go_wp2
      go_ret2
      exact Ends.mk E (HN.out _ HR3.out) (Hq3.out.setCells cs (c*20))
 ·have h0':K.still s c=false:=by simpa using h0
  have E:Hid (O5 K s c=⟨K,0,7⟩):=by unfold O5;simp [h0',Hid]
  clear h0
  go_enter Tryd.func55,Tryd.ntmps55
  go_wp2_with fail
  refine (G0 (HR.out.alloc _) hc).mono ?_;rintro e w1 ⟨rfl,rfl⟩
  go_wp2
  go_ret2
  exact Ends.mk E (HR.out.alloc _) ((Keeps.refl w).alloc _)
end
section
variable {bk bf bs bd:Nat} {K:Ker} {w:World} {s:Nat}
theorem b7P (R:Rep w bk bf bs bd K)(a b c:Int) :
  Calls Tryd.prog 32 #[.pointer (some ⟨bk,0,none⟩),.int .i64 s,.int .i64 1,.agg #[.int .i64 a,.int .i64 b,.int .i64 c]] w (Ends bk bf bs bd w ⟨K,0,0⟩):=by
 have HR:Hid (Rep w bk bf bs bd K):=R;clear R
 go_enter Tryd.func32,Tryd.ntmps32
 go_wp2
 go_ret2
 exact Ends.mk (show Hid _ from rfl) (HR.out.alloc _) ((Keeps.refl w).alloc _)
theorem b9A (R:Rep w bk bf bs bd K)(a b c:Int) :
  Calls Tryd.prog 32 #[.pointer (some ⟨bk,0,none⟩),.int .i64 s,.int .i64 0,.agg #[.int .i64 a,.int .i64 b,.int .i64 c]] w (Ends bk bf bs bd w ⟨K,0,2⟩):=by
 have HR:Hid (Rep w bk bf bs bd K):=R;clear R
 go_enter Tryd.func32,Tryd.ntmps32
 go_wp2
 go_ret2
 exact Ends.mk (show Hid _ from rfl) (HR.out.alloc _) ((Keeps.refl w).alloc _)
theorem b7Q (R:Rep w bk bf bs bd K)(G:Good K){a:Nat}(b c:Int)(hs:s<K.nS)(ha:a<4) :
  Calls Tryd.prog 32 #[.pointer (some ⟨bk,0,none⟩),.int .i64 s,.int .i64 3,.agg #[.int .i64 a,.int .i64 b,.int .i64 c]] w (Ends bk bf bs bd w (S6 K s a)):=by
 have HR:Hid (Rep w bk bf bs bd K):=R;clear R
 go_enter Tryd.func32,Tryd.ntmps32
 go_wp2_with fail
 refine (b4f (HR.out.alloc _) G b c hs ha).mono ?_;rintro e w1 ⟨rfl,R1,q1⟩
 go_wp2
 go_ret2
 exact ⟨rfl,R1,((Keeps.refl w).alloc _).trans q1⟩
theorem b2i (R:Rep w bk bf bs bd K){a:Nat}(b c:Int)(hs:s<K.nS)(ha:a<4) :
  Calls Tryd.prog 32 #[.pointer (some ⟨bk,0,none⟩),.int .i64 s,.int .i64 4,.agg #[.int .i64 a,.int .i64 b,.int .i64 c]] w (Ends bk bf bs bd w (D8 K s a b)):=by
 have HR:Hid (Rep w bk bf bs bd K):=R;clear R
 go_enter Tryd.func32,Tryd.ntmps32
 go_wp2_with fail
 refine (b0j (HR.out.alloc _) b c hs ha).mono ?_;rintro e w1 ⟨rfl,R1,q1⟩
 go_wp2
 go_ret2
 exact ⟨rfl,R1,((Keeps.refl w).alloc _).trans q1⟩
theorem b7R (R:Rep w bk bf bs bd K){a b:Nat}(c:Int)(hs:s<K.nS)(ha:a<K.nS)(hb:b<K.nF) :
  Calls Tryd.prog 32 #[.pointer (some ⟨bk,0,none⟩),.int .i64 s,.int .i64 5,.agg #[.int .i64 a,.int .i64 b,.int .i64 c]] w (Ends bk bf bs bd w (J5 K s a b)):=by
 have HR:Hid (Rep w bk bf bs bd K):=R;clear R
 go_enter Tryd.func32,Tryd.ntmps32
 go_wp2_with fail
 refine (b5a (HR.out.alloc _) c hs ha hb).mono ?_;rintro e w1 ⟨rfl,R1,q1⟩
 go_wp2
 go_ret2
 exact ⟨rfl,R1,((Keeps.refl w).alloc _).trans q1⟩
theorem b9B (R:Rep w bk bf bs bd K)(G:Good K){a b c:Nat}(hs:s<K.nS)(ha:a<K.nS)(hb:b<4)(hc:c<K.nF) :
  Calls Tryd.prog 32 #[.pointer (some ⟨bk,0,none⟩),.int .i64 s,.int .i64 6,.agg #[.int .i64 a,.int .i64 b,.int .i64 c]] w (Ends bk bf bs bd w (M9 K s a b c)):=by
 have HR:Hid (Rep w bk bf bs bd K):=R;clear R
 go_enter Tryd.func32,Tryd.ntmps32
 go_wp2_with fail
 refine (b7N (HR.out.alloc _) G hs ha hb hc).mono ?_;rintro e w1 ⟨rfl,R1,q1⟩
 go_wp2
 go_ret2
 exact ⟨rfl,R1,((Keeps.refl w).alloc _).trans q1⟩
theorem b9C (R:Rep w bk bf bs bd K)(G:Good K){a b c:Nat}(hs:s<K.nS)(ha:a<K.nS)(hb:b<4)(hc:c<4) :
  Calls Tryd.prog 32 #[.pointer (some ⟨bk,0,none⟩),.int .i64 s,.int .i64 7,.agg #[.int .i64 a,.int .i64 b,.int .i64 c]] w (Ends bk bf bs bd w (Q6 K s a b c)):=by
 have HR:Hid (Rep w bk bf bs bd K):=R;clear R
 go_enter Tryd.func32,Tryd.ntmps32
 go_wp2_with fail
 refine (b7K (HR.out.alloc _) G hs ha hb hc).mono ?_;rintro e w1 ⟨rfl,R1,q1⟩
 go_wp2
 go_ret2
 exact ⟨rfl,R1,((Keeps.refl w).alloc _).trans q1⟩
theorem b7S (R:Rep w bk bf bs bd K){a:Nat}(b c:Int)(hs:s<K.nS)(ha:a<K.nS) :
  Calls Tryd.prog 32 #[.pointer (some ⟨bk,0,none⟩),.int .i64 s,.int .i64 8,.agg #[.int .i64 a,.int .i64 b,.int .i64 c]] w (Ends bk bf bs bd w (O9 K s a)):=by
 have HR:Hid (Rep w bk bf bs bd K):=R;clear R
 go_enter Tryd.func32,Tryd.ntmps32
 go_wp2_with fail
 refine (b4g (HR.out.alloc _) b c hs ha).mono ?_;rintro e w1 ⟨rfl,R1,q1⟩
 go_wp2
 go_ret2
 exact ⟨rfl,R1,((Keeps.refl w).alloc _).trans q1⟩
theorem b9D (R:Rep w bk bf bs bd K)(a b c:Int)(hs:s<K.nS) :
  Calls Tryd.prog 32 #[.pointer (some ⟨bk,0,none⟩),.int .i64 s,.int .i64 9,.agg #[.int .i64 a,.int .i64 b,.int .i64 c]] w (Ends bk bf bs bd w (a0b K s a)):=by
 have HR:Hid (Rep w bk bf bs bd K):=R;clear R
 go_enter Tryd.func32,Tryd.ntmps32
 go_wp2_with fail
 refine (b7M (HR.out.alloc _) a b c hs).mono ?_;rintro e w1 ⟨rfl,R1,q1⟩
 go_wp2
 go_ret2
 exact ⟨rfl,R1,((Keeps.refl w).alloc _).trans q1⟩
theorem b9E (R:Rep w bk bf bs bd K)(G:Good K){a b:Nat}(c:Int)(hs:s<K.nS)(ha:a<K.nS)(hb:b<4) :
  Calls Tryd.prog 32 #[.pointer (some ⟨bk,0,none⟩),.int .i64 s,.int .i64 10,.agg #[.int .i64 a,.int .i64 b,.int .i64 c]] w (Ends bk bf bs bd w (U8 K s a b)):=by
 have HR:Hid (Rep w bk bf bs bd K):=R;clear R
 go_enter Tryd.func32,Tryd.ntmps32
 go_wp2_with fail
 refine (b7J (HR.out.alloc _) G c hs ha hb).mono ?_;rintro e w1 ⟨rfl,R1,q1⟩
 go_wp2
 go_ret2
 exact ⟨rfl,R1,((Keeps.refl w).alloc _).trans q1⟩
theorem b9F (R:Rep w bk bf bs bd K)(G:Good K){a b:Nat}(c:Int)(hs:s<K.nS)(ha:a<K.nS)(hb:b<4) :
  Calls Tryd.prog 32 #[.pointer (some ⟨bk,0,none⟩),.int .i64 s,.int .i64 11,.agg #[.int .i64 a,.int .i64 b,.int .i64 c]] w (Ends bk bf bs bd w (U9 K s a b)):=by
 have HR:Hid (Rep w bk bf bs bd K):=R;clear R
 go_enter Tryd.func32,Tryd.ntmps32
 go_wp2_with fail
 refine (b7L (HR.out.alloc _) G c hs ha hb).mono ?_;rintro e w1 ⟨rfl,R1,q1⟩
 go_wp2
 go_ret2
 exact ⟨rfl,R1,((Keeps.refl w).alloc _).trans q1⟩
theorem b9G (R:Rep w bk bf bs bd K)(G:Good K){a:Nat}(b c:Int)(hs:s<K.nS)(ha:a<K.nS) :
  Calls Tryd.prog 32 #[.pointer (some ⟨bk,0,none⟩),.int .i64 s,.int .i64 12,.agg #[.int .i64 a,.int .i64 b,.int .i64 c]] w (Ends bk bf bs bd w (O5 K s a)):=by
 have HR:Hid (Rep w bk bf bs bd K):=R;clear R
 go_enter Tryd.func32,Tryd.ntmps32
 go_wp2_with fail
 refine (b7O (HR.out.alloc _) G b c hs ha).mono ?_;rintro e w1 ⟨rfl,R1,q1⟩
 go_wp2
 go_ret2
 exact ⟨rfl,R1,((Keeps.refl w).alloc _).trans q1⟩
theorem c0R (R:Rep w bk bf bs bd K)(G:Good K){a b:Nat}(c:Int)(hs:s<K.nS)(ha:a<4)(hb:b<4) :
  Calls Tryd.prog 32 #[.pointer (some ⟨bk,0,none⟩),.int .i64 s,.int .i64 14,.agg #[.int .i64 a,.int .i64 b,.int .i64 c]] w (Ends bk bf bs bd w (a2f K s a b)):=by
 have HR:Hid (Rep w bk bf bs bd K):=R;clear R
 go_enter Tryd.func32,Tryd.ntmps32
 go_wp2_with fail
 refine (b9z (HR.out.alloc _) G c hs ha hb).mono ?_;rintro e w1 ⟨rfl,R1,q1⟩
 go_wp2
 go_ret2
 exact ⟨rfl,R1,((Keeps.refl w).alloc _).trans q1⟩
theorem b7T (R:Rep w bk bf bs bd K)(G:Good K){a:Nat}(b c:Int)(hs:s<K.nS)(ha:a<4) :
  Calls Tryd.prog 32 #[.pointer (some ⟨bk,0,none⟩),.int .i64 s,.int .i64 15,.agg #[.int .i64 a,.int .i64 b,.int .i64 c]] w (Ends bk bf bs bd w (S7 K s a)):=by
 have HR:Hid (Rep w bk bf bs bd K):=R;clear R
 go_enter Tryd.func32,Tryd.ntmps32
 go_wp2_with fail
 refine (b5b (HR.out.alloc _) G b c hs ha).mono ?_;rintro e w1 ⟨rfl,R1,q1⟩
 go_wp2
 go_ret2
 exact ⟨rfl,R1,((Keeps.refl w).alloc _).trans q1⟩
theorem c0S (R:Rep w bk bf bs bd K)(G:Good K)(slot call a b c:Int)(s n:Nat)(h1:slot=s)(h2:call=n)(hs:s<K.nS)(hn:n<20)
  (hf:y9 K ((i9 n).getD 0 0) a=true/\y9 K ((i9 n).getD 1 0) b=true/\y9 K ((i9 n).getD 2 0) c=true) :
  Calls Tryd.prog 32 #[.pointer (some ⟨bk,0,none⟩),.int .i64 slot,.int .i64 call,.agg #[.int .i64 a,.int .i64 b,.int .i64 c]] w (Ends bk bf bs bd w (kDo K s n a b c)):=by
 by_cases h6:Six call
 ·exact b6O R G slot call a b c h6 s n h1 h2 hs hf
 obtain ⟨f0,f1,f2⟩:=hf;subst h1;unfold Six at h6;obtain rfl|rfl|rfl|rfl|rfl|rfl|rfl|rfl|rfl|rfl|rfl|rfl|rfl|rfl:n=0\/n=1\/n=3\/n=4\/n=5\/n=6\/n=7\/n=8\/n=9\/n=10\/n=11\/n=12\/n=14\/n=15:=by omega
 all_goals subst h2
 ·exact b9A R a b c
 ·exact b7P R a b c
 ·obtain ⟨a',rfl,ha⟩:=v7 (t:=4) f0 (by decide);exact b7Q R G b c hs (by have h4:q9 K 4=4:=rfl;omega)
 ·obtain ⟨a',rfl,ha⟩:=v7 (t:=4) f0 (by decide);exact b2i R b c hs (by have h4:q9 K 4=4:=rfl;omega)
 ·obtain ⟨a',rfl,ha⟩:=v7 (t:=2) f0 (by decide);obtain ⟨b',rfl,hb⟩:=v7 (t:=1) f1 (by decide);exact b7R R c hs (by have h4:q9 K 2=K.nS:=rfl;omega) (by have h4:q9 K 1=K.nF:=rfl;omega)
 ·obtain ⟨a',rfl,ha⟩:=v7 (t:=2) f0 (by decide);obtain ⟨b',rfl,hb⟩:=v7 (t:=4) f1 (by decide);obtain ⟨c',rfl,hc⟩:=v7 (t:=1) f2 (by decide);exact b9B R G hs (by have h4:q9 K 2=K.nS:=rfl;omega) (by have h4:q9 K 4=4:=rfl;omega) (by have h4:q9 K 1=K.nF:=rfl;omega)
 ·obtain ⟨a',rfl,ha⟩:=v7 (t:=2) f0 (by decide);obtain ⟨b',rfl,hb⟩:=v7 (t:=5) f1 (by decide);obtain ⟨c',rfl,hc⟩:=v7 (t:=5) f2 (by decide);exact b9C R G hs (by have h4:q9 K 2=K.nS:=rfl;omega) (by have h4:q9 K 5=4:=rfl;omega) (by have h4:q9 K 5=4:=rfl;omega)
 ·obtain ⟨a',rfl,ha⟩:=v7 (t:=2) f0 (by decide);exact b7S R b c hs (by have h4:q9 K 2=K.nS:=rfl;omega)
 ·exact b9D R a b c hs
 ·obtain ⟨a',rfl,ha⟩:=v7 (t:=2) f0 (by decide);obtain ⟨b',rfl,hb⟩:=v7 (t:=4) f1 (by decide);exact b9E R G c hs (by have h4:q9 K 2=K.nS:=rfl;omega) (by have h4:q9 K 4=4:=rfl;omega)
 ·obtain ⟨a',rfl,ha⟩:=v7 (t:=2) f0 (by decide);obtain ⟨b',rfl,hb⟩:=v7 (t:=5) f1 (by decide);exact b9F R G c hs (by have h4:q9 K 2=K.nS:=rfl;omega) (by have h4:q9 K 5=4:=rfl;omega)
 ·obtain ⟨a',rfl,ha⟩:=v7 (t:=2) f0 (by decide);exact b9G R G b c hs (by have h4:q9 K 2=K.nS:=rfl;omega)
 ·obtain ⟨a',rfl,ha⟩:=v7 (t:=5) f0 (by decide);obtain ⟨b',rfl,hb⟩:=v7 (t:=5) f1 (by decide);exact c0R R G c hs (by have h4:q9 K 5=4:=rfl;omega) (by have h4:q9 K 5=4:=rfl;omega)
 ·obtain ⟨a',rfl,ha⟩:=v7 (t:=5) f0 (by decide);exact b7T R G b c hs (by have h4:q9 K 5=4:=rfl;omega)
theorem b0I (R:Rep w bk bf bs bd K)(T:Tab w)(G:Good K)(slot call a b c:Int) :
  Calls Tryd.prog 11 #[.pointer (some ⟨bk,0,none⟩),.int .i64 slot,.int .i64 call,.agg #[.int .i64 a,.int .i64 b,.int .i64 c]] w (Ends bk bf bs bd w (o8 K slot call a b c)) :=
 a9p R T slot call a b c (λs n h1 h2 hs hn hf w1 R1=>c0S R1 G slot call a b c s n h1 h2 hs hn hf)
end
attribute [local go_sem ↓] Go.wp_at_zero Go.wp_at_succ
theorem a3E {P:Program}(w:World)(dT ty elem:TypeId)(b g n m:Nat)(cs:List Value)(hu:P.underlying dT=some (.slice elem))(hs:(P.info? elem).map (·.size)=some m)(hn:cs.length=n*m)
  (hsrc:∀ j v,cs[j]?=some v->w.cell? ((⟨g,0,none⟩:Addr).add j)=some v)(ht:w.there b 0 cs.length)(h1:∀ v∈cs,v.oneCell'=true) :
  (Builtin.copy_ #[dT,dT] ty #[.slice (some ⟨b,0,none⟩) n n,.slice (some ⟨g,0,none⟩) n n]).run P w=.ok (goInt n) (w.setCells b 0 cs):=by
 have hl:=run_loadCells_list (P:=P) w ⟨g,0,none⟩ cs hsrc;have hst:=run_storeCells_cells (P:=P) b 0 cs 0 w (λj hj=>by simpa using (ht j hj).1) (λj hj=>by simpa using (ht j hj).2) h1
 cases hq:P.info? elem with
 | none=>simp [hq] at hs
 | some i =>
  have hi:i.size=m:=by simpa [hq] using hs
  rw [hn] at hl;simp only [Nat.add_zero] at hst;simp [Builtin.copy_,run_underlying hu,Builtin.lenOf,Builtin.firstCells,sizeOf,typeInfo,hq,hi,hl,hst]
theorem R8 {P:Program}{w w':World}{ops:Array Oper}{rest:List Oper}{o:Oper}{a:Act}{Q:Exit->Act->World->Prop}(hg:o.guard=none)(s x:Operand)(t:TypeId)
  (hop:o.op=Op.call { callee:=Callee.builtin Builtin.copy,args:=#[s,x],argTypes:=#[t,t] })(v u v':Value)(hs:a.eval s=v)(hx:a.eval x=u)
  (hrun:(Builtin.copy_ #[t,t] o.type #[v,u]).run P w=.ok v' w')(h:wpList P ops Q rest (a.put o.dst v') w'):wpList P ops Q (o::rest) a w:=by
 refine wpList_plain hg λK hK'=>?_;unfold Oper.wp;simp [execOp,hop,resolve,invoke,builtin,hs,hx,hrun,Result.andThen];exact hK' _ _ h
def C8 (K:Ker)(j:Nat):Value:=.int .i64 (K.F (j / 6) (j % 6))
def o0 (K:Ker)(j:Nat):Value:=if 4<=j % 20/\j % 20<=18/\(j % 20) % 2=0 then .bool (K.B (j / 20) (j % 20)) else .int .i64 (K.S (j / 20) (j % 20))
def a1z (K:Ker)(j:Nat):Value:=.int .i64 (K.D (j / 5) (j % 5))
section
variable {bk bf bs bd:Nat} {K:Ker} {w:World}
theorem Rep.cellF (R:Rep w bk bf bs bd K){j:Nat}(hj:j<K.nF*6):w.cell? ⟨bf,j,none⟩=some (C8 K j):=by
 have:=R.f (j / 6) (j % 6) (by omega) (by omega);rw [show j / 6*6+j % 6=j by omega] at this;exact this
theorem Rep.cellS (R:Rep w bk bf bs bd K){j:Nat}(hj:j<K.nS*20):w.cell? ⟨bs,j,none⟩=some (o0 K j):=by
 unfold o0;split
 ·have:=R.b (j / 20) (j % 20) (by omega) (by assumption);rw [show j / 20*20+j % 20=j by omega] at this;exact this
 ·have:=R.s (j / 20) (j % 20) (by omega) (by omega) (by assumption);rw [show j / 20*20+j % 20=j by omega] at this;exact this
theorem Rep.cellD (R:Rep w bk bf bs bd K){j:Nat}(hj:j<K.nD*5):w.cell? ⟨bd,j,none⟩=some (a1z K j):=by
 have:=R.d (j / 5) (j % 5) (by omega) (by omega);rw [show j / 5*5+j % 5=j by omega] at this;exact this
end
theorem a5x (g n:Nat)(hn:n<=32)(f:Nat->Value)(w:World)(hg:g<w.heap.size)(hc:∀ j,j<n*6->w.cell? ⟨g,j,none⟩=some (f j))(h1:∀ j,(f j).oneCell'=true) :
  Calls Tryd.prog 34 #[.slice (some ⟨g,0,none⟩) n n] w λe w'=>e=.returned (.slice (some ⟨w.heap.size,0,none⟩) n n)/\Below w.heap.size w w'/\w'.heap.size=w.heap.size+1/\w'.rowIs w.heap.size 75 (n*6) f:=by
 obtain ⟨C,hC,hmk⟩:=a8a n hn w;have hrow:=U5 w C 75;rw [hC] at hrow;have hcp:∀ ty,(Builtin.copy_ #[41,41] ty #[.slice (some ⟨w.heap.size,0,none⟩) n n,.slice (some ⟨g,0,none⟩) n n]).run Tryd.prog (w.alloc (.cells C 75))=.ok (goInt n) ((w.alloc (.cells C 75)).setCells w.heap.size 0 ((List.range (n*6)).map f)) :=
  λty=>a3E _ _ _ 75 _ _ n 6 _ Tryd.underlying41 (by kernel_rfl) (by simp) (λj v hv=>by
   have hj:j<n*6:=by have:=(List.getElem?_eq_some_iff.1 hv).1;simpa using this
   rw [Addr.add_mid,Nat.zero_add,World.cell?_of_block (w:=w) (a:=⟨g,j,none⟩) (Below.heap_alloc _ _ _ hg),hc j hj,← hv,List.getElem?_map,List.getElem?_range hj];rfl) (by simpa using B5 hrow (by omega)) (λv hv=>by simp at hv;obtain ⟨j,_,rfl⟩:=hv;exact h1 j)
 have Hcp:Hid (∀ ty,_):=hcp;have Hrow:Hid _:=hrow;clear hcp hC hrow hc h1
 go_enter Tryd.func34,Tryd.ntmps34
 go_wp2_with (refine R8 rfl _ _ 41 rfl (.slice (some ⟨w.heap.size,0,none⟩) n n) (.slice (some ⟨g,0,none⟩) n n) (goInt n) rfl rfl (Hcp.out _) ?_)
 go_ret
 refine ⟨rfl,A0 (Nat.le_refl _) _ _ ((Below.refl _ _).alloc (Nat.le_refl _) _),by rw [u9];simp,(B8 _ 0 Hrow.out).congr λj hj=>?_⟩;rw [if_pos (by simp;exact hj),Nat.sub_zero,List.getD_eq_getElem?_getD,List.getElem?_map,List.getElem?_range hj];rfl
theorem a6X (g n:Nat)(hn:n<=32)(f:Nat->Value)(w:World)(hg:g<w.heap.size)(hc:∀ j,j<n*20->w.cell? ⟨g,j,none⟩=some (f j))(h1:∀ j,(f j).oneCell'=true) :
  Calls Tryd.prog 35 #[.slice (some ⟨g,0,none⟩) n n] w λe w'=>e=.returned (.slice (some ⟨w.heap.size,0,none⟩) n n)/\Below w.heap.size w w'/\w'.heap.size=w.heap.size+1/\w'.rowIs w.heap.size 55 (n*20) f:=by
 obtain ⟨C,hC,hmk⟩:=b0h n hn w;have hrow:=U5 w C 55;rw [hC] at hrow;have hcp:∀ ty,(Builtin.copy_ #[42,42] ty #[.slice (some ⟨w.heap.size,0,none⟩) n n,.slice (some ⟨g,0,none⟩) n n]).run Tryd.prog (w.alloc (.cells C 55))=.ok (goInt n) ((w.alloc (.cells C 55)).setCells w.heap.size 0 ((List.range (n*20)).map f)) :=
  λty=>a3E _ _ _ 55 _ _ n 20 _ Tryd.underlying42 (by kernel_rfl) (by simp) (λj v hv=>by
   have hj:j<n*20:=by have:=(List.getElem?_eq_some_iff.1 hv).1;simpa using this
   rw [Addr.add_mid,Nat.zero_add,World.cell?_of_block (w:=w) (a:=⟨g,j,none⟩) (Below.heap_alloc _ _ _ hg),hc j hj,← hv,List.getElem?_map,List.getElem?_range hj];rfl) (by simpa using B5 hrow (by omega)) (λv hv=>by simp at hv;obtain ⟨j,_,rfl⟩:=hv;exact h1 j)
 have Hcp:Hid (∀ ty,_):=hcp;have Hrow:Hid _:=hrow;clear hcp hC hrow hc h1
 go_enter Tryd.func35,Tryd.ntmps35
 go_wp2_with (refine R8 rfl _ _ 42 rfl (.slice (some ⟨w.heap.size,0,none⟩) n n) (.slice (some ⟨g,0,none⟩) n n) (goInt n) rfl rfl (Hcp.out _) ?_)
 go_ret
 refine ⟨rfl,A0 (Nat.le_refl _) _ _ ((Below.refl _ _).alloc (Nat.le_refl _) _),by rw [u9];simp,(B8 _ 0 Hrow.out).congr λj hj=>?_⟩;rw [if_pos (by simp;exact hj),Nat.sub_zero,List.getD_eq_getElem?_getD,List.getElem?_map,List.getElem?_range hj];rfl
theorem a6Y (g n:Nat)(hn:n<=32)(f:Nat->Value)(w:World)(hg:g<w.heap.size)(hc:∀ j,j<n*5->w.cell? ⟨g,j,none⟩=some (f j))(h1:∀ j,(f j).oneCell'=true) :
  Calls Tryd.prog 36 #[.slice (some ⟨g,0,none⟩) n n] w λe w'=>e=.returned (.slice (some ⟨w.heap.size,0,none⟩) n n)/\Below w.heap.size w w'/\w'.heap.size=w.heap.size+1/\w'.rowIs w.heap.size 84 (n*5) f:=by
 obtain ⟨C,hC,hmk⟩:=b0i n hn w;have hrow:=U5 w C 84;rw [hC] at hrow;have hcp:∀ ty,(Builtin.copy_ #[43,43] ty #[.slice (some ⟨w.heap.size,0,none⟩) n n,.slice (some ⟨g,0,none⟩) n n]).run Tryd.prog (w.alloc (.cells C 84))=.ok (goInt n) ((w.alloc (.cells C 84)).setCells w.heap.size 0 ((List.range (n*5)).map f)) :=
  λty=>a3E _ _ _ 84 _ _ n 5 _ Tryd.underlying43 (by kernel_rfl) (by simp) (λj v hv=>by
   have hj:j<n*5:=by have:=(List.getElem?_eq_some_iff.1 hv).1;simpa using this
   rw [Addr.add_mid,Nat.zero_add,World.cell?_of_block (w:=w) (a:=⟨g,j,none⟩) (Below.heap_alloc _ _ _ hg),hc j hj,← hv,List.getElem?_map,List.getElem?_range hj];rfl) (by simpa using B5 hrow (by omega)) (λv hv=>by simp at hv;obtain ⟨j,_,rfl⟩:=hv;exact h1 j)
 have Hcp:Hid (∀ ty,_):=hcp;have Hrow:Hid _:=hrow;clear hcp hC hrow hc h1
 go_enter Tryd.func36,Tryd.ntmps36
 go_wp2_with (refine R8 rfl _ _ 43 rfl (.slice (some ⟨w.heap.size,0,none⟩) n n) (.slice (some ⟨g,0,none⟩) n n) (goInt n) rfl rfl (Hcp.out _) ?_)
 go_ret
 refine ⟨rfl,A0 (Nat.le_refl _) _ _ ((Below.refl _ _).alloc (Nat.le_refl _) _),by rw [u9];simp,(B8 _ 0 Hrow.out).congr λj hj=>?_⟩;rw [if_pos (by simp;exact hj),Nat.sub_zero,List.getD_eq_getElem?_getD,List.getElem?_map,List.getElem?_range hj];rfl
attribute [local go_sem ↓] Go.wp_at_zero Go.wp_at_succ
structure Snap (w:World) (gF gS gD:Nat) (K:Ker):Prop where
 f:w.rowIs gF 75 (K.nF*6) (C8 K)
 s:w.rowIs gS 55 (K.nS*20) (o0 K)
 d:w.rowIs gD 84 (K.nD*5) (a1z K)
theorem Snap.same {w w':World}{gF gS gD:Nat}{K:Ker}(S:Snap w gF gS gD K)(h:∀ k,k=gF\/k=gS\/k=gD->w'.heap[k]?=w.heap[k]?):Snap w' gF gS gD K :=
 ⟨S.f.of_block (h _ (by simp)),S.s.of_block (h _ (by simp)),S.d.of_block (h _ (by simp))⟩
theorem c1T (K:Ker)(j:Nat):(C8 K j).oneCell'=true:=rfl
theorem c1U (K:Ker)(j:Nat):(a1z K j).oneCell'=true:=rfl
theorem c0f (K:Ker)(j:Nat):(o0 K j).oneCell'=true:=by unfold o0;split<;>rfl
theorem a8p {w w1 w2 w3:World}{C:Array Value}{t:TypeId}(b1:Below (w.alloc (.cells C t)).drew.heap.size (w.alloc (.cells C t)).drew w1)(b2:Below w1.heap.size w1 w2)(b3:Below w2.heap.size w2 w3) :
  (∀ i,w3.cell? ⟨w.heap.size,i,none⟩=C[i]?)/\(∀ i,w3.frozen? ⟨w.heap.size,i,none⟩=false):=by
 have l0:w.heap.size<(w.alloc (.cells C t)).drew.heap.size:=by show w.heap.size<(w.alloc (.cells C t)).heap.size;simp
 have l1:=Nat.lt_of_lt_of_le l0 b1.size;have l2:=Nat.lt_of_lt_of_le l1 b2.size;have e:w3.heap[w.heap.size]?=(w.alloc (.cells C t)).heap[w.heap.size]?:=(b3.block _ l2).trans ((b2.block _ l1).trans (b1.block _ l0));exact ⟨λi=>(World.cell?_of_block (w:=w.alloc (.cells C t)) (a:=⟨w.heap.size,i,none⟩) e).trans (World.cell?_alloc_at _ _ _ _ rfl),λi=>(World.frozen?_of_block (w:=w.alloc (.cells C t)) (a:=⟨w.heap.size,i,none⟩) e).trans (World.frozen?_alloc_at _ _ _ _ rfl)⟩
def A4 (K:Ker)(gF gS gD:Nat):Value:=.agg #[.slice (some ⟨gF,0,none⟩) K.nF K.nF,.slice (some ⟨gS,0,none⟩) K.nS K.nS,.slice (some ⟨gD,0,none⟩) K.nD K.nD]
def a0v (K:Ker)(g:Nat):List Value:=[.slice (some ⟨g+1,0,none⟩) K.nF K.nF,.slice (some ⟨g+1+1,0,none⟩) K.nS K.nS,.slice (some ⟨g+1+1+1,0,none⟩) K.nD K.nD]
theorem b5f {w3:World}{g:Nat}{K:Ker}{n:Nat}(yc:∀ i,w3.cell? ⟨g,i,none⟩=(#[Value.slice none 0 0,Value.slice none 0 0,Value.slice none 0 0]:Array Value)[i]?)(yf:∀ i,w3.frozen? ⟨g,i,none⟩=false):w3.there g 0 (a0v K n).length:=λj hj=>by
 have hj':j<3:=hj;refine ⟨?_,?_⟩
 ·rw [yc];match j,hj' with|0,_=>rfl|1,_=>rfl|2,_=>rfl
 ·exact yf _
theorem b7U {w w1 w2 w3:World}{K:Ker}{C:Array Value}{t:TypeId}(b1:Below (w.alloc (.cells C t)).drew.heap.size (w.alloc (.cells C t)).drew w1)(b2:Below w1.heap.size w1 w2)(b3:Below w2.heap.size w2 w3)
  (z1:w1.heap.size=(w.alloc (.cells C t)).drew.heap.size+1)(z2:w2.heap.size=w1.heap.size+1)(r1:w1.rowIs (w.alloc (.cells C t)).drew.heap.size 75 (K.nF*6) (C8 K))(r2:w2.rowIs w1.heap.size 55 (K.nS*20) (o0 K))(r3:w3.rowIs w2.heap.size 84 (K.nD*5) (a1z K)) :
  ∃ gF gS gD,Ending.returned (.agg (a0v K w.heap.size).toArray)=.returned (A4 K gF gS gD)/\Below w.heap.size w (w3.setCells w.heap.size 0 (a0v K w.heap.size))/\Snap (w3.setCells w.heap.size 0 (a0v K w.heap.size)) gF gS gD K/\w.heap.size<=gF/\w.heap.size<=gS/\w.heap.size<=gD:=by
 have l0:(w.alloc (.cells C t)).drew.heap.size=w.heap.size+1:=by show (w.alloc (.cells C t)).heap.size=_;simp
 rw [l0] at z1 r1;rw [z1] at z2 r2;rw [z2] at r3;refine ⟨w.heap.size+1,w.heap.size+1+1,w.heap.size+1+1+1,rfl,A0 (Nat.le_refl _) _ _ ?_,?_,by omega,by omega,by omega⟩
 ·have a0:Below w.heap.size w (w.alloc (.cells C t)):=(Below.refl _ _).alloc (Nat.le_refl _) _;refine ⟨?_,?_,?_,?_,λk hk=>?_⟩
  ·rw [b3.os,b2.os,b1.os];exact a0.os
  ·rw [b3.tape,b2.tape,b1.tape];exact a0.tape
  ·rw [b3.output,b2.output,b1.output];exact a0.output
  ·have:=b3.size;omega
  ·exact (b3.block k (by omega)).trans ((b2.block k (by omega)).trans ((b1.block k (by omega)).trans (a0.block k hk)))
 ·refine Snap.same (w:=w3) ⟨(r1.of_block (b2.block _ (by omega))).of_block (b3.block _ (by omega)),r2.of_block (b3.block _ (by omega)),r3⟩ ?_;rintro k (rfl|rfl|rfl)<;>exact E7 (by omega) _ _ _
section
variable {bk bf bs bd:Nat} {K:Ker} {w:World}
theorem a8q (R:Rep w bk bf bs bd K) :
  Calls Tryd.prog 13 #[.pointer (some ⟨bk,0,none⟩)] w λe w'=>∃ gF gS gD,e=.returned (A4 K gF gS gD)/\Below w.heap.size w w'/\Snap w' gF gS gD K/\w.heap.size<=gF/\w.heap.size<=gS/\w.heap.size<=gD:=by
 have HR:Hid (Rep w bk bf bs bd K):=R;have k0:=λo=>(HR.out.alloc o).k0;have k1:=λo=>(HR.out.alloc o).k1;have k2:=λo=>(HR.out.alloc o).k2;have HF:Hid (K.nF<=32/\K.nS<=6/\K.nD<=4):=⟨R.hF,R.hS,R.hD⟩;have ek:w.heap.size≠bk:=World.new_ne w ⟨bk,0,none⟩ R.k0;have ek':bk≠w.heap.size:=Ne.symm ek;clear R
 go_enter Tryd.func13,Tryd.ntmps13
 go_wp2_with fail
 go_region_held3 (λw'=>w'.cell? ⟨bk,0,none⟩=some (.slice (some ⟨bf,0,none⟩) K.nF K.nF)/\w'.cell? ⟨bk,1,none⟩=some (.slice (some ⟨bs,0,none⟩) K.nS K.nS)/\w'.cell? ⟨bk,2,none⟩=some (.slice (some ⟨bd,0,none⟩) K.nD K.nD)) ((repeat' apply And.intro)<;>(first|assumption|(go_keep;done)))
  (first|(go_at_call 34;refine (a5x bf K.nF HF.out.1 (C8 K) _ (HR.out.alloc _).drew.lf (λj hj=>(HR.out.alloc _).drew.cellF hj) (c1T K)).mono ?_;rintro e w1 ⟨rfl,b1,z1,r1⟩;have HR1:Hid (Rep w1 bk bf bs bd K):=(HR.out.alloc _).drew.same b1.size (λk h1 _=>b1.block k h1);have u0:=HR1.out.k0;have u1:=HR1.out.k1;have u2:=HR1.out.k2)|(go_at_call 35;refine (a6X bs K.nS (by have:=HF.out;omega) (o0 K) _ HR1.out.ls (λj hj=>HR1.out.cellS hj) (c0f K)).mono ?_;rintro e w2 ⟨rfl,b2,z2,r2⟩;have HR2:Hid (Rep w2 bk bf bs bd K):=HR1.out.same b2.size (λk h1 _=>b2.block k h1);have v0:=HR2.out.k0;have v1:=HR2.out.k1;have v2:=HR2.out.k2)|(go_at_call 36;refine (a6Y bd K.nD (by have:=HF.out;omega) (a1z K) _ HR2.out.ld (λj hj=>HR2.out.cellD hj) (c1U K)).mono ?_;rintro e w3 ⟨rfl,b3,z3,r3⟩;have HR3:Hid (Rep w3 bk bf bs bd K):=HR2.out.same b3.size (λk h1 _=>b3.block k h1);have x0:=HR3.out.k0;have x1:=HR3.out.k1;have x2:=HR3.out.k2;have yc:=(a8p b1 b2 b3).1;have yf:=(a8p b1 b2 b3).2;have y0:w3.cell? ⟨w.heap.size,0,none⟩=some (.slice none 0 0):=yc 0;have y1:w3.cell? ⟨w.heap.size,1,none⟩=some (.slice none 0 0):=yc 1;have y2:w3.cell? ⟨w.heap.size,2,none⟩=some (.slice none 0 0):=yc 2;have f0:=yf 0;have f1:=yf 1;have f2:=yf 2;have HT:Hid (w3.there w.heap.size 0 (a0v K w.heap.size).length):=b5f yc yf))
 rename_i Q1 K1 hK hH;refine hK _ _ ?_;subst Q1;refine wp_ret ?_;show bodyPost _ _ _ _ _ (w3.setCells w.heap.size 0 (a0v K w.heap.size));refine bodyPost_ret (v:=.agg (a0v K w.heap.size).toArray) (T5 Tryd.results13 _ (w3.setCells w.heap.size 0 (a0v K w.heap.size)) w.heap.size (a0v K w.heap.size) _ rfl (World.rangeAt_setCells_same w3 w.heap.size 0 _ HT.out) Tryd.underlying45 rfl (by kernel_rfl)) rfl ?_;exact b7U b1 b2 b3 z1 z2 r1 r2 r3
end
end Go.Proofs.YtcgabodkegcpgaaDoor
namespace Go.Proofs.YtcgabodkegcpgaaDoor
open Go.Conc (G)
open Br (OpD KO SO SP sfO Lk Fit Must DL Liv Clear)
structure Ctx where
 o:OpD
 slot:Int
 kd:Int
 A:Int
 B:Int
 bk:Nat
 bf:Nat
 bs:Nat
 bd:Nat
structure Env (C:Ctx) (l:List OpD) (K:Ker) (w:World):Prop where
 rep:Rep w C.bk C.bf C.bs C.bd K
 tab:Tab w
 inv:Invb K
 fit:Fit (sfO l) w
 ko:KO l w
 ap:∀ o∈l,o.bo≠C.bk/\o.bo≠C.bf/\o.bo≠C.bs/\o.bo≠C.bd/\o.bo≠0
theorem a0C {sft:Nat->Nat}{v w:World}(h:Lk sft v w){a:Addr}(hz:sft a.block=0):v.frozen? a=w.frozen? a:=by
 simp only [World.frozen?,h.heap,hz]
 cases w.heap[a.block]? with
 | none=>rfl
 | some o=>cases o<;>rfl
theorem a9b {sft:Nat->Nat}{v w:World}{bk bf bs bd:Nat}{K:Ker}(h:Lk sft v w)(hf:sft bf=0)(hs:sft bs=0)(hd:sft bd=0)(R:Rep w bk bf bs bd K):Rep v bk bf bs bd K :=
 ⟨by rw [h.cell];exact R.k0,by rw [h.cell];exact R.k1,by rw [h.cell];exact R.k2,λi c h1 h2=>by rw [h.cell];exact R.f i c h1 h2,λi c h1 h2 h3=>by rw [h.cell];exact R.s i c h1 h2 h3,λi c h1 h2=>by rw [h.cell];exact R.b i c h1 h2,
  λi c h1 h2=>by rw [h.cell];exact R.d i c h1 h2,λo=>by rw [a0C h hf];exact R.zf o,λo=>by rw [a0C h hs];exact R.zs o,λo=>by rw [a0C h hd];exact R.zd o,
  by rw [h.size];exact R.lk,by rw [h.size];exact R.lf,by rw [h.size];exact R.ls,by rw [h.size];exact R.ld,R.kf,R.ks,R.kd,R.fs,R.fd,R.sd,R.hF,R.hS,R.hD⟩
theorem a6Z {sft:Nat->Nat}{v w:World}{bk bf bs bd:Nat}{K:Ker}(h:Lk sft v w)(hf:sft bf=0)(hs:sft bs=0)(hd:sft bd=0)(R:Rep v bk bf bs bd K):Rep w bk bf bs bd K :=
 ⟨by rw [← h.cell];exact R.k0,by rw [← h.cell];exact R.k1,by rw [← h.cell];exact R.k2,λi c h1 h2=>by rw [← h.cell];exact R.f i c h1 h2,λi c h1 h2 h3=>by rw [← h.cell];exact R.s i c h1 h2 h3,λi c h1 h2=>by rw [← h.cell];exact R.b i c h1 h2,
  λi c h1 h2=>by rw [← h.cell];exact R.d i c h1 h2,λo=>by rw [← a0C h hf];exact R.zf o,λo=>by rw [← a0C h hs];exact R.zs o,λo=>by rw [← a0C h hd];exact R.zd o,
  by rw [← h.size];exact R.lk,by rw [← h.size];exact R.lf,by rw [← h.size];exact R.ls,by rw [← h.size];exact R.ld,R.kf,R.ks,R.kd,R.fs,R.fd,R.sd,R.hF,R.hS,R.hD⟩
theorem b2j {sft:Nat->Nat}{v w:World}(h:Lk sft v w)(T:Tab w):Tab v:=⟨λi hi=>by rw [h.cell];exact T.t i hi,λi j hi hj=>by rw [h.cell];exact T.a i j hi hj⟩
theorem H7 {sft:Nat->Nat}{v v' w w':World}(hK:Br.Kept sft w w')(h:Lk sft v w)(h':Lk sft v' w'){k:Nat}(e:v'.heap[k]?=v.heap[k]?):w'.heap[k]?=w.heap[k]?:=by
 rw [h.heap,h'.heap] at e
 cases hw:w.heap[k]? with
 | none =>
  rw [hw] at e
  cases hw':w'.heap[k]? with
  | none=>rfl
  | some o=>rw [hw'] at e;cases e
 | some o =>
  obtain ⟨o',ho',hs⟩:=hK.same k o hw;rw [hw,ho'] at e;rw [ho']
  cases o with
  | cells c t f =>
   obtain ⟨c',rfl,_,_⟩:=hs;simp only [Option.map_some,Br.fz,Option.some.injEq,Obj.cells.injEq] at e;obtain ⟨rfl,_⟩:=e;rfl
  | _=>(have hs:o'=_:=hs;rw [hs])
structure Alike (C:Ctx) (w w':World):Prop where
 size:w.heap.size<=w'.heap.size
 block:∀ k,k<w.heap.size->k≠C.bf->k≠C.bs->k≠C.bd->w'.heap[k]?=w.heap[k]?
theorem Alike.refl (C:Ctx)(w:World):Alike C w w:=⟨Nat.le_refl _,λ_ _ _ _ _=>rfl⟩
theorem Alike.trans {C:Ctx}{a b c:World}(h:Alike C a b)(k:Alike C b c):Alike C a c:=⟨Nat.le_trans h.size k.size,λi hi h1 h2 h3=>(k.block i (Nat.lt_of_lt_of_le hi h.size) h1 h2 h3).trans (h.block i hi h1 h2 h3)⟩
theorem Env.zero {C:Ctx}{l:List OpD}{K:Ker}{w:World}(E:Env C l K w):sfO l C.bf=0/\sfO l C.bs=0/\sfO l C.bd=0 :=
 ⟨Br.G6 λo ho=>(E.ap o ho).2.1,Br.G6 λo ho=>(E.ap o ho).2.2.1,Br.G6 λo ho=>(E.ap o ho).2.2.2.1⟩
theorem b7V {C:Ctx}{l:List OpD}{w w':World}(h:KO l w)(ap:∀ o∈l,o.bo≠C.bk/\o.bo≠C.bf/\o.bo≠C.bs/\o.bo≠C.bd/\o.bo≠0)(A:Alike C w w'):KO l w':=by
 intro o ho;obtain ⟨c,t,h0,h1⟩:=h o ho;obtain ⟨_,a1,a2,a3,_⟩:=ap o ho;exact ⟨c,t,by rw [A.block _ (Br.KO.lt h ho) a1 a2 a3];exact h0,h1⟩
theorem b2k {C:Ctx}{l:List OpD}{K:Ker}{w:World}(E:Env C l K w)(h0:0≠C.bf/\0≠C.bs/\0≠C.bd)(main:Bool)(slot num a b c:Int)(fr:Frame)(cs:List Frame) :
  Must Tryd.prog main (DL true (sfO l)) (λg w'=>g=G (fr.finish (.tuple #[.int .i64 (o8 K slot num a b c).n,.int .i64 (o8 K slot num a b c).e])) cs/\Env C l (o8 K slot num a b c).K w'/\Alike C w w')
   (G (Frame.enter Tryd.prog 11 #[.pointer (some ⟨C.bk,0,none⟩),.int .i64 slot,.int .i64 num,.agg #[.int .i64 a,.int .i64 b,.int .i64 c]] .normal) (fr::cs)) w:=by
 obtain ⟨z1,z2,z3⟩:=E.zero;have key:=λv (hv:Lk (sfO l) v w)=>b0I (a9b hv z1 z2 z3 E.rep) (b2j hv E.tab) E.inv.good slot num a b c
 refine (Br.S8 Br.a3j (by kernel_rfl) E.fit main (Q:=λx v'=>x=.tuple #[.int .i64 (o8 K slot num a b c).n,.int .i64 (o8 K slot num a b c).e]/\Rep v' C.bk C.bf C.bs C.bd (o8 K slot num a b c).K/\∃ v,Lk (sfO l) v w/\Keeps C.bf C.bs C.bd v v')
  (λv hv=>(key v hv).mono λe v' he=>by
   obtain ⟨rfl,h1,h2⟩:=he
   exact ⟨rfl,h1,v,hv,h2⟩) fr cs).keep.mono (λ_ _ _ h=>h) ?_
 rintro g w' ⟨⟨x,v',rfl,hl',rfl,hR,v,hl,hk⟩,hkp⟩;have A:Alike C w w':=⟨by rw [← hl.size,← hl'.size];exact hk.size,λk hk' h1 h2 h3=>H7 hkp hl hl' (hk.block k (by rw [hl.size];exact hk') h1 h2 h3)⟩;exact ⟨rfl,⟨a6Z hl' z1 z2 z3 hR,E.tab.same (A.block 0 E.tab.lt h0.1 h0.2.1 h0.2.2),a0A E.inv _ _ _ _ _,hl'.fit,b7V E.ko E.ap A,E.ap⟩,A⟩
end Go.Proofs.YtcgabodkegcpgaaDoor
