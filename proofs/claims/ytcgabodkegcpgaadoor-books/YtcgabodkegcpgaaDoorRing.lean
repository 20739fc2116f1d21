/- What the kernel's calls Write and Read do (for every kernel whose numbers are ones). -/
import Derived.Test.YtcgabodkegcpgaaDoorLiv
import Derived.Deep.RegionHeld3
import Derived.Deep.DrawnRows
import Derived.Test.YtcgabodkegcpgaaDoorKer
import Derived.Deep.OwnRows
import Derived.Deep.MidRow
import Derived.Test.YtcgabodkegcpgaaDoorCall
import Derived.Handy
namespace Go.Proofs.YtcgabodkegcpgaaDoor
open Go.RowKit
set_option linter.unusedVariables false
set_option maxHeartbeats 20000000
attribute [local go_sem ↓] Go.wp_at_zero Go.wp_at_succ
section
variable {bk bf bs bd:Nat} {K:Ker} {w:World}
theorem keep_same {W:World}{a b:Addr}{v:Value}(h:W.cell? a=some v):(W.setCell b v).cell? a=some v:=by
 by_cases e:a=b
 ·subst e;exact World.cell?_setCell_same W _ v h
 ·rw [World.cell?_setCell_other W b a v (fun h=>e h.symm)];exact h
theorem write_ok (R:Rep w bk bf bs bd K){s x p j d g h c q r:Nat}(hs:s<K.nS)(hx:x<4)(hp:p<4)(hj:j<4)
  (Hd:Hid (K.S s (11+x*2)=d))(hd:d<K.nD)(he:K.B s (12+x*2)=true)(Hg:Hid (K.S s (3+p*2)=g))(hg:g<K.nF)
  (Hr:Hid (K.D d 0=h))(hh:h<K.nF)(Hq:Hid (K.D d 1=q))(hq:q<4)(Hc:Hid (K.D d 2=c))(hc:c<4)(H3:(K.D d 3 == 0)=false)(Hm:Hid (r=(q+c) % 4)) :
  Calls Tryd.prog 59 #[.pointer (some ⟨bk,0,none⟩),.int .i64 s,.agg #[.int .i64 x,.int .i64 p,.int .i64 j]] w
   (Ends bk bf bs bd w ⟨(K.setF h (2+r) (K.F g (2+j))).setD d 2 (c+1),0,0⟩):=by
 have HR:Hid (Rep w bk bf bs bd K):=R
 have m1:=R.hF;have m2:=R.hS;have m3:=R.hD
 have k0:=fun o o'=>((HR.out.alloc o).alloc o').k0
 have k1:=fun o=>(HR.out.alloc o).k1
 have k2:=fun o o'=>((HR.out.alloc o).alloc o').k2
 have c1:∀ o,(w.alloc o).cell? ⟨bs,s*20+11+x*2,none⟩=some (.int .i64 d):=fun o=>by rw [(HR.out.alloc o).ff hs hx,Hd.out]
 have c2:∀ o,(w.alloc o).cell? ⟨bs,s*20+11+x*2+1,none⟩=some (.bool true):=fun o=>by rw [(HR.out.alloc o).fe hs hx,he]
 have c3:∀ o o',((w.alloc o).alloc o').cell? ⟨bd,d*5,none⟩=some (.int .i64 h):=fun o o'=>by rw [((HR.out.alloc o).alloc o').d0 hd,Hr.out]
 have c4:∀ o o',((w.alloc o).alloc o').cell? ⟨bd,d*5+1,none⟩=some (.int .i64 q):=fun o o'=>by rw [((HR.out.alloc o).alloc o').d1 hd,Hq.out]
 have c5:∀ o o',((w.alloc o).alloc o').cell? ⟨bd,d*5+2,none⟩=some (.int .i64 c):=fun o o'=>by rw [((HR.out.alloc o).alloc o').d2 hd,Hc.out]
 have c6:=fun o o'=>((HR.out.alloc o).alloc o').d3 hd
 have c7:=fun o o'=>((HR.out.alloc o).alloc o').fw hg hj
 have c8:=fun o o'=>((HR.out.alloc o).alloc o').fw (j:=r) hh (by have:=Hm.out;omega)
 have z1:=fun o o'=>((HR.out.alloc o).alloc o').zf
 have z2:=fun o o'=>((HR.out.alloc o).alloc o').zd
 have n1:=R.fd
 have n2:=R.kf
 have n3:bf≠bk:=fun e=>n2 e.symm
 have n4:bd≠bf:=fun e=>n1 e.symm
 clear R
 have b1:(0:Int)≤(j:Int):=by omega
 have b2:(j:Int)<4:=by omega
 have b3:(0:Int)≤(h:Int):=by omega
 have b4:(h:Int)<(K.nF:Int):=by omega
 have b5:(0:Int)≤(r:Int):=by omega
 have b6:(r:Int)<4:=by have:=Hm.out;omega
 have a1:IntKind.i64.wrap ((q:Int)+(c:Int))=(q:Int)+(c:Int):=IntWalk.i64_in _ (by omega)
 have a2:((q:Int)+(c:Int)).tmod 4=(r:Int):=by rw [Int.tmod_eq_emod_of_nonneg (by omega)];have:=Hm.out;omega
 have a3:((q:Int)+(c:Int)) % 4=(r:Int):=by have:=Hm.out;omega
 have e1:((d:Int) == -1)=false:=by rw [beq_eq_false_iff_ne];omega
 have e2:((c:Int) == 4)=false:=by rw [beq_eq_false_iff_ne];omega
 have e3:(K.S s (3+p*2) != -1)=true:=by rw [Hg.out,bne_iff_ne];omega
 go_enter Tryd.func59,Tryd.ntmps59
 go_wp2
 go_quiet (fail)
 go_wp2_with fail
 refine (hasFrame_rep (((HR.out.alloc _).alloc _).drewN _) hs hp).mono ?_
 rintro e w1 ⟨rfl,rfl⟩
 go_wp2
 go_quiet (fail)
 go_wp2_with fail
 go_region_held3 (fun w'=>w'.cell? ⟨bk,0,none⟩=some (.slice (some ⟨bf,0,none⟩) K.nF K.nF)∧w'.cell? ⟨bd,d*5,none⟩=some (.int .i64 h)∧w'.cell? ⟨bd,d*5+1,none⟩=some (.int .i64 q)∧w'.cell? ⟨bd,d*5+2,none⟩=some (.int .i64 c)∧w'.cell? ⟨bf,g*6+2+j,none⟩=some (.int .i64 (K.F g (2+j)))) ((repeat' apply And.intro)<;>(first|(go_keep;done)|(refine keep_same ?_;go_keep)))
  (first|(go_at_call 69;refine (words_rep (((HR.out.alloc _).alloc _).drewN _) hs hp Hg.out hg).mono ?_;rintro e w1 ⟨rfl,nq',rfl⟩))
 all_goals go_wp2
 all_goals
  go_ret2
  exact Ends.mk (show Hid _ from rfl) (((((HR.out.alloc _).alloc _).drewN _).setF hh (by have:=Hm.out;omega) (by omega) _).setD hd (by omega) (by omega) _) ((((((Keeps.refl w).alloc _).alloc _).drewN _).setF _ _).setD _ _)
theorem write_e1 (R:Rep w bk bf bs bd K){s x p j:Nat}(hs:s<K.nS)(hx:x<4)(Hd:Hid (K.S s (11+x*2)=-1)) :
  Calls Tryd.prog 59 #[.pointer (some ⟨bk,0,none⟩),.int .i64 s,.agg #[.int .i64 x,.int .i64 p,.int .i64 j]] w (Ends bk bf bs bd w ⟨K,0,8⟩):=by
 have HR:Hid (Rep w bk bf bs bd K):=R
 have m2:=R.hS
 have k1:=fun o=>(HR.out.alloc o).k1
 have c1:∀ o,(w.alloc o).cell? ⟨bs,s*20+11+x*2,none⟩=some (.int .i64 (-1)):=fun o=>by rw [(HR.out.alloc o).ff hs hx,Hd.out]
 have c2:=fun o=>(HR.out.alloc o).fe hs hx
 clear R
 go_enter Tryd.func59,Tryd.ntmps59
 go_wp2
 go_quiet (fail)
 go_wp2
 go_ret2
 exact Ends.mk (show Hid _ from rfl) (((HR.out.alloc _).alloc _).drewN _) ((((Keeps.refl w).alloc _).alloc _).drewN _)
theorem write_e2 (R:Rep w bk bf bs bd K){s x p j d:Nat}(hs:s<K.nS)(hx:x<4)(Hd:Hid (K.S s (11+x*2)=d))(he:K.B s (12+x*2)=false) :
  Calls Tryd.prog 59 #[.pointer (some ⟨bk,0,none⟩),.int .i64 s,.agg #[.int .i64 x,.int .i64 p,.int .i64 j]] w (Ends bk bf bs bd w ⟨K,0,8⟩):=by
 have HR:Hid (Rep w bk bf bs bd K):=R
 have m2:=R.hS
 have k1:=fun o=>(HR.out.alloc o).k1
 have c1:∀ o,(w.alloc o).cell? ⟨bs,s*20+11+x*2,none⟩=some (.int .i64 d):=fun o=>by rw [(HR.out.alloc o).ff hs hx,Hd.out]
 have c2:∀ o,(w.alloc o).cell? ⟨bs,s*20+11+x*2+1,none⟩=some (.bool false):=fun o=>by rw [(HR.out.alloc o).fe hs hx,he]
 have e1:((d:Int) == -1)=false:=by rw [beq_eq_false_iff_ne];omega
 clear R
 go_enter Tryd.func59,Tryd.ntmps59
 go_wp2
 go_quiet (fail)
 go_wp2
 go_ret2
 exact Ends.mk (show Hid _ from rfl) (((HR.out.alloc _).alloc _).drewN _) ((((Keeps.refl w).alloc _).alloc _).drewN _)
theorem write_e3 (R:Rep w bk bf bs bd K){s x p j d:Nat}(hs:s<K.nS)(hx:x<4)(hp:p<4)(Hd:Hid (K.S s (11+x*2)=d))(he:K.B s (12+x*2)=true)(Hg:Hid (K.S s (3+p*2)=-1)) :
  Calls Tryd.prog 59 #[.pointer (some ⟨bk,0,none⟩),.int .i64 s,.agg #[.int .i64 x,.int .i64 p,.int .i64 j]] w (Ends bk bf bs bd w ⟨K,0,6⟩):=by
 have HR:Hid (Rep w bk bf bs bd K):=R
 have m2:=R.hS
 have k1:=fun o=>(HR.out.alloc o).k1
 have c1:∀ o,(w.alloc o).cell? ⟨bs,s*20+11+x*2,none⟩=some (.int .i64 d):=fun o=>by rw [(HR.out.alloc o).ff hs hx,Hd.out]
 have c2:∀ o,(w.alloc o).cell? ⟨bs,s*20+11+x*2+1,none⟩=some (.bool true):=fun o=>by rw [(HR.out.alloc o).fe hs hx,he]
 have e1:((d:Int) == -1)=false:=by rw [beq_eq_false_iff_ne];omega
 have e3:(K.S s (3+p*2) != -1)=false:=by rw [Hg.out];rfl
 clear R
 go_enter Tryd.func59,Tryd.ntmps59
 go_wp2
 go_quiet (fail)
 go_wp2_with fail
 refine (hasFrame_rep (((HR.out.alloc _).alloc _).drewN _) hs hp).mono ?_
 rintro e w1 ⟨rfl,rfl⟩
 go_wp2
 go_ret2
 exact Ends.mk (show Hid _ from rfl) (((HR.out.alloc _).alloc _).drewN _) ((((Keeps.refl w).alloc _).alloc _).drewN _)
theorem write_e4 (R:Rep w bk bf bs bd K){s x p j d:Nat}(er:Int)(hs:s<K.nS)(hx:x<4)(hp:p<4)(Hd:Hid (K.S s (11+x*2)=d))(hd:d<K.nD)(he:K.B s (12+x*2)=true)(Hg:Hid (K.S s (3+p*2)≠-1))
  (hq:(Hid (K.D d 3=0)∧Hid (er=13))∨(Hid (K.D d 3≠0)∧Hid (K.D d 2=4)∧Hid (er=11))) :
  Calls Tryd.prog 59 #[.pointer (some ⟨bk,0,none⟩),.int .i64 s,.agg #[.int .i64 x,.int .i64 p,.int .i64 j]] w (Ends bk bf bs bd w ⟨K,0,er⟩):=by
 have HR:Hid (Rep w bk bf bs bd K):=R
 have m2:=R.hS;have m3:=R.hD
 have k1:=fun o=>(HR.out.alloc o).k1
 have k2:=fun o o'=>((HR.out.alloc o).alloc o').k2
 have c1:∀ o,(w.alloc o).cell? ⟨bs,s*20+11+x*2,none⟩=some (.int .i64 d):=fun o=>by rw [(HR.out.alloc o).ff hs hx,Hd.out]
 have c2:∀ o,(w.alloc o).cell? ⟨bs,s*20+11+x*2+1,none⟩=some (.bool true):=fun o=>by rw [(HR.out.alloc o).fe hs hx,he]
 have c5:=fun o o'=>((HR.out.alloc o).alloc o').d2 hd
 have c6:=fun o o'=>((HR.out.alloc o).alloc o').d3 hd
 have e1:((d:Int) == -1)=false:=by rw [beq_eq_false_iff_ne];omega
 have e3:(K.S s (3+p*2) != -1)=true:=by rw [bne_iff_ne];exact Hg.out
 clear R
 rcases hq with ⟨h1,h2⟩|⟨h1,h3,h2⟩
 ·have e4:(K.D d 3 == 0)=true:=by rw [h1.out];rfl
  go_enter Tryd.func59,Tryd.ntmps59
  go_wp2
  go_quiet (fail)
  go_wp2_with fail
  refine (hasFrame_rep (((HR.out.alloc _).alloc _).drewN _) hs hp).mono ?_
  rintro e w1 ⟨rfl,rfl⟩
  go_wp2
  go_quiet (fail)
  go_wp2
  go_ret2
  rw [h2.out]
  exact Ends.mk (show Hid _ from rfl) (((HR.out.alloc _).alloc _).drewN _) ((((Keeps.refl w).alloc _).alloc _).drewN _)
 ·have e4:(K.D d 3 == 0)=false:=by rw [beq_eq_false_iff_ne];exact h1.out
  have e5:(K.D d 2 == 4)=true:=by rw [h3.out];rfl
  go_enter Tryd.func59,Tryd.ntmps59
  go_wp2
  go_quiet (fail)
  go_wp2_with fail
  refine (hasFrame_rep (((HR.out.alloc _).alloc _).drewN _) hs hp).mono ?_
  rintro e w1 ⟨rfl,rfl⟩
  go_wp2
  go_quiet (fail)
  go_wp2
  go_ret2
  rw [h2.out]
  exact Ends.mk (show Hid _ from rfl) (((HR.out.alloc _).alloc _).drewN _) ((((Keeps.refl w).alloc _).alloc _).drewN _)
theorem write_rep (R:Rep w bk bf bs bd K)(G:Good K){s x p j:Nat}(hs:s<K.nS)(hx:x<4)(hp:p<4)(hj:j<4) :
  Calls Tryd.prog 59 #[.pointer (some ⟨bk,0,none⟩),.int .i64 s,.agg #[.int .i64 x,.int .i64 p,.int .i64 j]] w (Ends bk bf bs bd w (kWrite K s x p j)):=by
 unfold kWrite
 rcases G.file s x hs hx with h1|⟨h1,h2,h3⟩
 ·rw [if_pos (Or.inl h1)];exact write_e1 R hs hx h1
 obtain ⟨d,hd⟩:∃ d:Nat,K.file s x=d:=⟨(K.file s x).toNat,by omega⟩
 have hdn:d<K.nD:=by omega
 rw [hd] at h3 ⊢
 simp only [Int.toNat_natCast] at h3 ⊢
 by_cases h4:K.end s x=true
 ·rw [if_neg (by rw [h4];simp)]
  by_cases h5:K.page s p=-1
  ·rw [if_pos h5];exact write_e3 R hs hx hp hd h4 h5
  rw [if_neg h5]
  by_cases h6:K.D d 3=0
  ·rw [if_pos h6];exact write_e4 R 13 hs hx hp hd hdn h4 h5 (Or.inl ⟨h6,rfl⟩)
  rw [if_neg h6]
  by_cases h7:K.D d 2=4
  ·rw [if_pos h7];exact write_e4 R 11 hs hx hp hd hdn h4 h5 (Or.inr ⟨h6,h7,rfl⟩)
  rw [if_neg h7]
  have h8:=G.head d hdn
  have h9:=G.cnt d hdn
  obtain ⟨g,hg⟩:∃ g:Nat,K.page s p=g:=by rcases G.page s p hs hp with h|h;exact absurd h h5;exact ⟨(K.page s p).toNat,by omega⟩
  have hgl:g<K.nF:=by rcases G.page s p hs hp with h|h;exact absurd h h5;omega
  obtain ⟨h,hh⟩:∃ h:Nat,K.D d 0=h:=⟨(K.D d 0).toNat,by omega⟩
  have hhl:h<K.nF:=by rcases G.duct d hdn with k|k<;>omega
  obtain ⟨q,hq⟩:∃ q:Nat,K.D d 1=q:=⟨(K.D d 1).toNat,by omega⟩
  obtain ⟨c,hc⟩:∃ c:Nat,K.D d 2=c:=⟨(K.D d 2).toNat,by omega⟩
  have:=write_ok (r:=(q+c) % 4) R hs hx hp hj hd hdn h4 hg hgl hh hhl hq (by omega) hc (by omega) (by rw [beq_eq_false_iff_ne];exact h6) rfl
  rw [hg,hh,hq,hc]
  have e:(((q:Int)+(c:Int)) % 4).toNat=(q+c) % 4:=by omega
  simp only [Int.toNat_natCast,e]
  exact this
 ·rw [if_pos (Or.inr (by simpa using h4))];exact write_e2 R hs hx hd (by simpa [Ker.end] using h4)
end
attribute [local go_sem ↓] Go.wp_at_zero Go.wp_at_succ
section
variable {bk bf bs bd:Nat} {K:Ker} {w:World}
theorem read_ok (R:Rep w bk bf bs bd K){s x p j d g h c q r:Nat}(hs:s<K.nS)(hx:x<4)(hp:p<4)(hj:j<4)
  (Hd:Hid (K.S s (11+x*2)=d))(hd:d<K.nD)(he:K.B s (12+x*2)=false)(hw:K.B s (4+p*2)=true)(Hg:Hid (K.S s (3+p*2)=g))(hg:g<K.nF)
  (Hr:Hid (K.D d 0=h))(hh:h<K.nF)(Hq:Hid (K.D d 1=q))(hq:q<4)(Hc:Hid (K.D d 2=(c+1:Nat)))(hc:c<4)(Hm:Hid (r=(q+1) % 4)) :
  Calls Tryd.prog 60 #[.pointer (some ⟨bk,0,none⟩),.int .i64 s,.agg #[.int .i64 x,.int .i64 p,.int .i64 j]] w
   (Ends bk bf bs bd w ⟨((K.setF g (2+j) (K.F h (2+q))).setD d 1 r).setD d 2 c,0,0⟩):=by
 have HR:Hid (Rep w bk bf bs bd K):=R
 have m1:=R.hF;have m2:=R.hS;have m3:=R.hD
 have k0:=fun o o'=>((HR.out.alloc o).alloc o').k0
 have k1:=fun o=>(HR.out.alloc o).k1
 have k2:=fun o o'=>((HR.out.alloc o).alloc o').k2
 have c1:∀ o,(w.alloc o).cell? ⟨bs,s*20+11+x*2,none⟩=some (.int .i64 d):=fun o=>by rw [(HR.out.alloc o).ff hs hx,Hd.out]
 have c2:∀ o,(w.alloc o).cell? ⟨bs,s*20+11+x*2+1,none⟩=some (.bool false):=fun o=>by rw [(HR.out.alloc o).fe hs hx,he]
 have c3:∀ o o',((w.alloc o).alloc o').cell? ⟨bd,d*5,none⟩=some (.int .i64 h):=fun o o'=>by rw [((HR.out.alloc o).alloc o').d0 hd,Hr.out]
 have c4:∀ o o',((w.alloc o).alloc o').cell? ⟨bd,d*5+1,none⟩=some (.int .i64 q):=fun o o'=>by rw [((HR.out.alloc o).alloc o').d1 hd,Hq.out]
 have c5:∀ o o',((w.alloc o).alloc o').cell? ⟨bd,d*5+2,none⟩=some (.int .i64 (c+1:Int)):=fun o o'=>by rw [((HR.out.alloc o).alloc o').d2 hd,Hc.out];rfl
 have c7:=fun o o'=>((HR.out.alloc o).alloc o').fw hg hj
 have c8:=fun o o'=>((HR.out.alloc o).alloc o').fw (j:=q) hh hq
 have z1:=fun o o'=>((HR.out.alloc o).alloc o').zf
 have z2:=fun o o'=>((HR.out.alloc o).alloc o').zd
 have n1:=R.fd
 have n2:=R.kf
 have n3:bf≠bk:=fun e=>n2 e.symm
 have n4:bd≠bf:=fun e=>n1 e.symm
 clear R
 have b1:(0:Int)≤(j:Int):=by omega
 have b2:(j:Int)<4:=by omega
 have b3:(0:Int)≤(h:Int):=by omega
 have b4:(h:Int)<(K.nF:Int):=by omega
 have b5:(0:Int)≤(q:Int):=by omega
 have b6:(q:Int)<4:=by omega
 have a3:((q:Int)+1) % 4=(r:Int):=by have:=Hm.out;omega
 have e1:((d:Int) == -1)=false:=by rw [beq_eq_false_iff_ne];omega
 have e2:((c:Int)+1 == 0)=false:=by rw [beq_eq_false_iff_ne];omega
 go_enter Tryd.func60,Tryd.ntmps60
 go_wp2
 go_quiet (fail)
 go_wp2_with fail
 refine (mayWrite_rep (((HR.out.alloc _).alloc _).drewN _) hs hp).mono ?_
 rintro e w1 ⟨rfl,rfl⟩
 go_wp2
 go_quiet (fail)
 go_wp2_with fail
 go_region_held3 (fun w'=>w'.cell? ⟨bk,0,none⟩=some (.slice (some ⟨bf,0,none⟩) K.nF K.nF)∧w'.cell? ⟨bd,d*5,none⟩=some (.int .i64 h)∧w'.cell? ⟨bd,d*5+1,none⟩=some (.int .i64 q)∧w'.cell? ⟨bf,h*6+2+q,none⟩=some (.int .i64 (K.F h (2+q)))) ((repeat' apply And.intro)<;>(first|(go_keep;done)|(refine keep_same ?_;go_keep)))
  (first|(go_at_call 69;refine (words_rep (((HR.out.alloc _).alloc _).drewN _) hs hp Hg.out hg).mono ?_;rintro e w1 ⟨rfl,nq',rfl⟩))
 all_goals go_wp2
 all_goals
  go_ret2
  exact Ends.mk (show Hid _ from rfl) ((((((HR.out.alloc _).alloc _).drewN _).setF hg (by omega) (by omega) _).setD hd (by omega) (by omega) _).setD hd (by omega) (by omega) _) (((((((Keeps.refl w).alloc _).alloc _).drewN _).setF _ _).setD _ _).setD _ _)
theorem read_e1 (R:Rep w bk bf bs bd K){s x p j:Nat}(hs:s<K.nS)(hx:x<4)(Hd:Hid (K.S s (11+x*2)=-1)) :
  Calls Tryd.prog 60 #[.pointer (some ⟨bk,0,none⟩),.int .i64 s,.agg #[.int .i64 x,.int .i64 p,.int .i64 j]] w (Ends bk bf bs bd w ⟨K,0,8⟩):=by
 have HR:Hid (Rep w bk bf bs bd K):=R
 have m2:=R.hS
 have k1:=fun o=>(HR.out.alloc o).k1
 have c1:∀ o,(w.alloc o).cell? ⟨bs,s*20+11+x*2,none⟩=some (.int .i64 (-1)):=fun o=>by rw [(HR.out.alloc o).ff hs hx,Hd.out]
 have c2:=fun o=>(HR.out.alloc o).fe hs hx
 clear R
 go_enter Tryd.func60,Tryd.ntmps60
 go_wp2
 go_quiet (fail)
 go_wp2
 go_ret2
 exact Ends.mk (show Hid _ from rfl) (((HR.out.alloc _).alloc _).drewN _) ((((Keeps.refl w).alloc _).alloc _).drewN _)
theorem read_e2 (R:Rep w bk bf bs bd K){s x p j d:Nat}(hs:s<K.nS)(hx:x<4)(Hd:Hid (K.S s (11+x*2)=d))(he:K.B s (12+x*2)=true) :
  Calls Tryd.prog 60 #[.pointer (some ⟨bk,0,none⟩),.int .i64 s,.agg #[.int .i64 x,.int .i64 p,.int .i64 j]] w (Ends bk bf bs bd w ⟨K,0,8⟩):=by
 have HR:Hid (Rep w bk bf bs bd K):=R
 have m2:=R.hS
 have k1:=fun o=>(HR.out.alloc o).k1
 have c1:∀ o,(w.alloc o).cell? ⟨bs,s*20+11+x*2,none⟩=some (.int .i64 d):=fun o=>by rw [(HR.out.alloc o).ff hs hx,Hd.out]
 have c2:∀ o,(w.alloc o).cell? ⟨bs,s*20+11+x*2+1,none⟩=some (.bool true):=fun o=>by rw [(HR.out.alloc o).fe hs hx,he]
 have e1:((d:Int) == -1)=false:=by rw [beq_eq_false_iff_ne];omega
 clear R
 go_enter Tryd.func60,Tryd.ntmps60
 go_wp2
 go_quiet (fail)
 go_wp2
 go_ret2
 exact Ends.mk (show Hid _ from rfl) (((HR.out.alloc _).alloc _).drewN _) ((((Keeps.refl w).alloc _).alloc _).drewN _)
theorem read_e3 (R:Rep w bk bf bs bd K){s x p j d:Nat}(hs:s<K.nS)(hx:x<4)(hp:p<4)(Hd:Hid (K.S s (11+x*2)=d))(he:K.B s (12+x*2)=false)(hw:K.B s (4+p*2)=false) :
  Calls Tryd.prog 60 #[.pointer (some ⟨bk,0,none⟩),.int .i64 s,.agg #[.int .i64 x,.int .i64 p,.int .i64 j]] w (Ends bk bf bs bd w ⟨K,0,6⟩):=by
 have HR:Hid (Rep w bk bf bs bd K):=R
 have m2:=R.hS
 have k1:=fun o=>(HR.out.alloc o).k1
 have c1:∀ o,(w.alloc o).cell? ⟨bs,s*20+11+x*2,none⟩=some (.int .i64 d):=fun o=>by rw [(HR.out.alloc o).ff hs hx,Hd.out]
 have c2:∀ o,(w.alloc o).cell? ⟨bs,s*20+11+x*2+1,none⟩=some (.bool false):=fun o=>by rw [(HR.out.alloc o).fe hs hx,he]
 have e1:((d:Int) == -1)=false:=by rw [beq_eq_false_iff_ne];omega
 clear R
 go_enter Tryd.func60,Tryd.ntmps60
 go_wp2
 go_quiet (fail)
 go_wp2_with fail
 refine (mayWrite_rep (((HR.out.alloc _).alloc _).drewN _) hs hp).mono ?_
 rintro e w1 ⟨rfl,rfl⟩
 go_wp2
 go_ret2
 exact Ends.mk (show Hid _ from rfl) (((HR.out.alloc _).alloc _).drewN _) ((((Keeps.refl w).alloc _).alloc _).drewN _)
theorem read_e4 (R:Rep w bk bf bs bd K){s x p j d:Nat}(er:Int)(hs:s<K.nS)(hx:x<4)(hp:p<4)(Hd:Hid (K.S s (11+x*2)=d))(hd:d<K.nD)(he:K.B s (12+x*2)=false)(hw:K.B s (4+p*2)=true)(Hc:Hid (K.D d 2=0))
  (hq:(Hid (K.D d 4=0)∧Hid (er=12))∨(Hid (K.D d 4≠0)∧Hid (er=11))) :
  Calls Tryd.prog 60 #[.pointer (some ⟨bk,0,none⟩),.int .i64 s,.agg #[.int .i64 x,.int .i64 p,.int .i64 j]] w (Ends bk bf bs bd w ⟨K,0,er⟩):=by
 have HR:Hid (Rep w bk bf bs bd K):=R
 have m2:=R.hS;have m3:=R.hD
 have k1:=fun o=>(HR.out.alloc o).k1
 have k2:=fun o o'=>((HR.out.alloc o).alloc o').k2
 have c1:∀ o,(w.alloc o).cell? ⟨bs,s*20+11+x*2,none⟩=some (.int .i64 d):=fun o=>by rw [(HR.out.alloc o).ff hs hx,Hd.out]
 have c2:∀ o,(w.alloc o).cell? ⟨bs,s*20+11+x*2+1,none⟩=some (.bool false):=fun o=>by rw [(HR.out.alloc o).fe hs hx,he]
 have c5:∀ o o',((w.alloc o).alloc o').cell? ⟨bd,d*5+2,none⟩=some (.int .i64 0):=fun o o'=>by rw [((HR.out.alloc o).alloc o').d2 hd,Hc.out]
 have c6:=fun o o'=>((HR.out.alloc o).alloc o').d4 hd
 have e1:((d:Int) == -1)=false:=by rw [beq_eq_false_iff_ne];omega
 clear R
 rcases hq with ⟨h1,h2⟩|⟨h1,h2⟩
 ·have e4:(K.D d 4 == 0)=true:=by rw [h1.out];rfl
  go_enter Tryd.func60,Tryd.ntmps60
  go_wp2
  go_quiet (fail)
  go_wp2_with fail
  refine (mayWrite_rep (((HR.out.alloc _).alloc _).drewN _) hs hp).mono ?_
  rintro e w1 ⟨rfl,rfl⟩
  go_wp2
  go_quiet (fail)
  go_wp2
  go_ret2
  rw [h2.out]
  exact Ends.mk (show Hid _ from rfl) (((HR.out.alloc _).alloc _).drewN _) ((((Keeps.refl w).alloc _).alloc _).drewN _)
 ·have e4:(K.D d 4 == 0)=false:=by rw [beq_eq_false_iff_ne];exact h1.out
  go_enter Tryd.func60,Tryd.ntmps60
  go_wp2
  go_quiet (fail)
  go_wp2_with fail
  refine (mayWrite_rep (((HR.out.alloc _).alloc _).drewN _) hs hp).mono ?_
  rintro e w1 ⟨rfl,rfl⟩
  go_wp2
  go_quiet (fail)
  go_wp2
  go_ret2
  rw [h2.out]
  exact Ends.mk (show Hid _ from rfl) (((HR.out.alloc _).alloc _).drewN _) ((((Keeps.refl w).alloc _).alloc _).drewN _)
theorem read_rep (R:Rep w bk bf bs bd K)(G:Good K){s x p j:Nat}(hs:s<K.nS)(hx:x<4)(hp:p<4)(hj:j<4) :
  Calls Tryd.prog 60 #[.pointer (some ⟨bk,0,none⟩),.int .i64 s,.agg #[.int .i64 x,.int .i64 p,.int .i64 j]] w (Ends bk bf bs bd w (kRead K s x p j)):=by
 unfold kRead
 rcases G.file s x hs hx with h1|⟨h1,h2,h3⟩
 ·rw [if_pos (Or.inl h1)];exact read_e1 R hs hx h1
 obtain ⟨d,hd⟩:∃ d:Nat,K.file s x=d:=⟨(K.file s x).toNat,by omega⟩
 have hdn:d<K.nD:=by omega
 rw [hd] at h3 ⊢
 simp only [Int.toNat_natCast] at h3 ⊢
 by_cases h4:K.end s x=true
 ·rw [if_pos (Or.inr h4)];exact read_e2 R hs hx hd h4
 have h4':K.end s x=false:=by simpa using h4
 rw [if_neg (by rw [h4'];simp)]
 by_cases h5:K.wr s p=true
 ·rw [if_neg (by rw [h5];simp)]
  have h8:=G.head d hdn
  have h9:=G.cnt d hdn
  by_cases h6:K.D d 2=0
  ·by_cases h7:K.D d 4=0
   ·rw [if_pos ⟨h6,h7⟩];exact read_e4 R 12 hs hx hp hd hdn h4' h5 h6 (Or.inl ⟨h7,rfl⟩)
   ·rw [if_neg (fun h=>h7 h.2),if_pos h6];exact read_e4 R 11 hs hx hp hd hdn h4' h5 h6 (Or.inr ⟨h7,rfl⟩)
  ·rw [if_neg (fun h=>h6 h.1),if_neg h6]
   have h10:=G.wr s p hs hp h5
   obtain ⟨g,hg⟩:∃ g:Nat,K.page s p=g:=by rcases G.page s p hs hp with h|h;exact absurd h h10;exact ⟨(K.page s p).toNat,by omega⟩
   have hgl:g<K.nF:=by rcases G.page s p hs hp with h|h;exact absurd h h10;omega
   obtain ⟨h,hh⟩:∃ h:Nat,K.D d 0=h:=⟨(K.D d 0).toNat,by omega⟩
   have hhl:h<K.nF:=by rcases G.duct d hdn with k|k<;>omega
   obtain ⟨q,hq⟩:∃ q:Nat,K.D d 1=q:=⟨(K.D d 1).toNat,by omega⟩
   obtain ⟨c,hc⟩:∃ c:Nat,K.D d 2=(c+1:Nat):=⟨(K.D d 2 - 1).toNat,by omega⟩
   have:=read_ok (r:=(q+1) % 4) R hs hx hp hj hd hdn h4' h5 hg hgl hh hhl hq (by omega) hc (by omega) rfl
   rw [hg,hh,hq,hc]
   have e:((q:Int)+1) % 4=((q+1) % 4:Nat):=by omega
   have e':((c+1:Nat):Int) - 1=c:=by omega
   simp only [Int.toNat_natCast,e,e']
   exact this
 ·have h5':K.wr s p=false:=by simpa using h5
  rw [if_pos h5'];exact read_e3 R hs hx hp hd h4' h5'
end
section
variable {bk bf bs bd:Nat} {K:Ker} {w:World} {s:Nat}
theorem do_map (R:Rep w bk bf bs bd K){a b:Nat}(c:Int)(hs:s<K.nS)(ha:a<4)(hb:b<K.nF) :
  Calls Tryd.prog 32 #[.pointer (some ⟨bk,0,none⟩),.int .i64 s,.int .i64 2,.agg #[.int .i64 a,.int .i64 b,.int .i64 c]] w (Ends bk bf bs bd w (kMap K s a b)):=by
 have HR:Hid (Rep w bk bf bs bd K):=R
 clear R
 go_enter Tryd.func32,Tryd.ntmps32
 go_wp2_with fail
 refine (map_rep (HR.out.alloc _) c hs ha hb).mono ?_
 rintro e w1 ⟨rfl,R1,q1⟩
 go_wp2
 go_ret2
 exact ⟨rfl,R1,((Keeps.refl w).alloc _).trans q1⟩
theorem do_pipe (R:Rep w bk bf bs bd K)(G:Good K){a b c:Nat}(hs:s<K.nS)(ha:a<K.nD)(hb:b<K.nF)(hc:c<4) :
  Calls Tryd.prog 32 #[.pointer (some ⟨bk,0,none⟩),.int .i64 s,.int .i64 13,.agg #[.int .i64 a,.int .i64 b,.int .i64 c]] w (Ends bk bf bs bd w (kPipe K s a b c)):=by
 have HR:Hid (Rep w bk bf bs bd K):=R
 clear R
 go_enter Tryd.func32,Tryd.ntmps32
 go_wp2_with fail
 refine (pipe_rep (HR.out.alloc _) G hs ha hb hc).mono ?_
 rintro e w1 ⟨rfl,R1,q1⟩
 go_wp2
 go_ret2
 exact ⟨rfl,R1,((Keeps.refl w).alloc _).trans q1⟩
theorem do_write (R:Rep w bk bf bs bd K)(G:Good K){a b c:Nat}(hs:s<K.nS)(ha:a<4)(hb:b<4)(hc:c<4) :
  Calls Tryd.prog 32 #[.pointer (some ⟨bk,0,none⟩),.int .i64 s,.int .i64 16,.agg #[.int .i64 a,.int .i64 b,.int .i64 c]] w (Ends bk bf bs bd w (kWrite K s a b c)):=by
 have HR:Hid (Rep w bk bf bs bd K):=R
 clear R
 go_enter Tryd.func32,Tryd.ntmps32
 go_wp2_with fail
 refine (write_rep (HR.out.alloc _) G hs ha hb hc).mono ?_
 rintro e w1 ⟨rfl,R1,q1⟩
 go_wp2
 go_ret2
 exact ⟨rfl,R1,((Keeps.refl w).alloc _).trans q1⟩
theorem do_read (R:Rep w bk bf bs bd K)(G:Good K){a b c:Nat}(hs:s<K.nS)(ha:a<4)(hb:b<4)(hc:c<4) :
  Calls Tryd.prog 32 #[.pointer (some ⟨bk,0,none⟩),.int .i64 s,.int .i64 17,.agg #[.int .i64 a,.int .i64 b,.int .i64 c]] w (Ends bk bf bs bd w (kRead K s a b c)):=by
 have HR:Hid (Rep w bk bf bs bd K):=R
 clear R
 go_enter Tryd.func32,Tryd.ntmps32
 go_wp2_with fail
 refine (read_rep (HR.out.alloc _) G hs ha hb hc).mono ?_
 rintro e w1 ⟨rfl,R1,q1⟩
 go_wp2
 go_ret2
 exact ⟨rfl,R1,((Keeps.refl w).alloc _).trans q1⟩
theorem do_load (R:Rep w bk bf bs bd K)(G:Good K){a b:Nat}(c:Int)(hs:s<K.nS)(ha:a<4)(hb:b<4) :
  Calls Tryd.prog 32 #[.pointer (some ⟨bk,0,none⟩),.int .i64 s,.int .i64 18,.agg #[.int .i64 a,.int .i64 b,.int .i64 c]] w (Ends bk bf bs bd w (kLoad K s a b)):=by
 have HR:Hid (Rep w bk bf bs bd K):=R
 clear R
 go_enter Tryd.func32,Tryd.ntmps32
 go_wp2_with fail
 refine (load_rep (HR.out.alloc _) G c hs ha hb).mono ?_
 rintro e w1 ⟨rfl,R1,q1⟩
 go_wp2
 go_ret2
 exact ⟨rfl,R1,((Keeps.refl w).alloc _).trans q1⟩
theorem do_store (R:Rep w bk bf bs bd K)(G:Good K){a b:Nat}(c:Int)(hs:s<K.nS)(ha:a<4)(hb:b<4) :
  Calls Tryd.prog 32 #[.pointer (some ⟨bk,0,none⟩),.int .i64 s,.int .i64 19,.agg #[.int .i64 a,.int .i64 b,.int .i64 c]] w (Ends bk bf bs bd w (kStore K s a b c)):=by
 have HR:Hid (Rep w bk bf bs bd K):=R
 clear R
 go_enter Tryd.func32,Tryd.ntmps32
 go_wp2_with fail
 refine (store_rep (HR.out.alloc _) G c hs ha hb).mono ?_
 rintro e w1 ⟨rfl,R1,q1⟩
 go_wp2
 go_ret2
 exact ⟨rfl,R1,((Keeps.refl w).alloc _).trans q1⟩
end
theorem rowIs_setCells {b t n:Nat}:∀ (vs:List Value) (o:Nat) {w:World} {f:Nat→Value} (h:w.rowIs b t n f),(w.setCells b o vs).rowIs b t n (fun j=>if o≤j∧j<o+vs.length then vs.getD (j - o) (.bool false) else f j)
 | [],o,w,f,h=>by
  show w.rowIs b t n _
  refine h.congr fun j hj=>?_
  rw [if_neg (by simp)]
 | v::r,o,w,f,h=>by
  show ((w.setCell ⟨b,o,none⟩ v).setCells b (o+1) r).rowIs b t n _
  refine (rowIs_setCells r (o+1) (h.set o v)).congr fun j hj=>?_
  by_cases e:j=o
  ·subst e
   rw [if_neg (by omega)]
   simp
  ·by_cases e2:o+1≤j∧j<o+1+r.length
   ·rw [if_pos e2,if_pos (by simp;omega)]
    obtain ⟨m,hm⟩:∃ m,j=o+1+m:=⟨j - (o+1),by omega⟩
    subst hm
    rw [show o+1+m - (o+1)=m by omega,show o+1+m - o=m+1 by omega]
    rfl
   ·rw [if_neg e2,if_neg e,if_neg (by simp only [List.length_cons];omega)]
theorem size_setCells {b:Nat}:∀ (vs:List Value) (o:Nat) (w:World),(w.setCells b o vs).heap.size=w.heap.size
 | [],_,_=>rfl
 | v::r,o,w=>by show ((w.setCell ⟨b,o,none⟩ v).setCells b (o+1) r).heap.size=_;rw [size_setCells r];exact size_setCell _ _ _
theorem below_setCells {B b:Nat}{a:World}(hb:B≤b):∀ (vs:List Value) (o:Nat) {w:World} (h:Below B a w),Below B a (w.setCells b o vs)
 | [],_,_,h=>h
 | v::r,o,w,h=>below_setCells hb r (o+1) (h.setCell hb v)
theorem heap_setCells {b k:Nat}(hk:k≠b):∀ (vs:List Value) (o:Nat) (w:World),(w.setCells b o vs).heap[k]?=w.heap[k]?
 | [],_,_=>rfl
 | v::r,o,w=>by show ((w.setCell ⟨b,o,none⟩ v).setCells b (o+1) r).heap[k]?=_;rw [heap_setCells hk r];exact Below.heap_setCell _ _ _ _ hk
theorem rowIs_there {w:World}{b t n:Nat}{f:Nat→Value}(h:w.rowIs b t n f){o m:Nat}(hm:o+m≤n):w.there b o m:=fun j hj =>
 ⟨by rw [h.cell (by omega)];rfl,h.frozen _⟩
theorem rowIs_range {w:World}{b t n:Nat}{f:Nat→Value}(h:w.rowIs b t n f){o m:Nat}(hm:o+m≤n):w.rangeAt b o ((List.range m).map fun j=>f (o+j)):=fun j v hv=>by
 have hj:j<m:=by have:=(List.getElem?_eq_some_iff.1 hv).1;simpa using this
 rw [List.getElem?_map,List.getElem?_range hj] at hv
 rw [h.cell (by omega)]
 exact hv
theorem rowIs_new (w:World)(c:Array Value)(t:TypeId):(w.alloc (.cells c t)).rowIs w.heap.size t c.size (fun j=>c.getD j (.bool false)) :=
 World.rowIs_alloc w c t _ (fun i hi=>by simp [hi])
theorem rowIs_new2 (w:World)(o:Obj)(c:Array Value)(t:TypeId):((w.alloc o).alloc (.cells c t)).rowIs (w.heap.size+1) t c.size (fun j=>c.getD j (.bool false)):=by
 have h:=rowIs_new (w.alloc o) c t
 have e:(w.alloc o).heap.size=w.heap.size+1:=by simp
 rw [e] at h
 exact h
theorem results_cell_range {P:Program}{fn:Func}{p:Tmp}{ty:TypeId}(h:fn.results=#[.cell p ty])(tmps:Array Value)(w:World)(b:Nat)(cs:List Value)(d:TypeDesc)
  (hp:tmps.getD p undef=.pointer (some ⟨b,0,none⟩))(hc:w.rangeAt b 0 cs)(hu:P.underlying ty=some d)(hd:d.isRow=true)(hi:(P.info? ty).map (·.size)=some cs.length) :
  (results fn tmps).run P w=.ok (.agg cs.toArray) w:=by
 have hp':tmps[p]?.getD undef=.pointer (some ⟨b,0,none⟩):=by simpa using hp
 simp [results,h,hp',asAddr,run_loadVar_mid w b 0 ty cs d hc hu hd hi]
def withinB (n a b:Int):Bool:=decide (a≤n) && decide (n≤b)
theorem within_any (n a b:Int)(w:World) :
  Calls Tryd.prog 24 #[.int .i64 n,.int .i64 a,.int .i64 b] w fun e w'=>e=.returned (.bool (withinB n a b))∧w'=w:=by
 by_cases h1:a≤n
 ·by_cases h2:n≤b
  ·have E:Hid (withinB n a b=true):=by unfold Hid withinB;simp [h1,h2]
   go_enter Tryd.func24,Tryd.ntmps24
   go_wp2
   go_ret
   rw [E.out]
   exact ⟨rfl,rfl⟩
  ·have E:Hid (withinB n a b=false):=by unfold Hid withinB;simp;omega
   go_enter Tryd.func24,Tryd.ntmps24
   go_wp2
   go_ret
   rw [E.out]
   exact ⟨rfl,rfl⟩
 ·have E:Hid (withinB n a b=false):=by unfold Hid withinB;simp;omega
  go_enter Tryd.func24,Tryd.ntmps24
  go_wp2
  go_ret
  rw [E.out]
  exact ⟨rfl,rfl⟩
def noneCell (a b j:Nat):Value :=
 if j=1∨j=2 then .int .i64 (-1) else if 3≤j∧j≤10 then (if j % 2=0 then .bool false else if j<3+a*2 then .int .i64 (-1) else .int .i64 0)
 else if 11≤j∧j≤18 then (if j % 2=0 then .bool false else if j<11+b*2 then .int .i64 (-1) else .int .i64 0) else .int .i64 0
theorem noneCell_page (a j:Nat)(ha:a<4):(if j=3+a*2 then .int .i64 (-1) else noneCell a 0 j)=noneCell (a+1) 0 j:=by
 unfold noneCell
 by_cases e:j=3+a*2
 ·rw [if_pos e,if_neg (by omega),if_pos (by omega),if_neg (by omega),if_pos (by omega)]
 ·rw [if_neg e]
  by_cases h1:j=1∨j=2
  ·rw [if_pos h1,if_pos h1]
  rw [if_neg h1,if_neg h1]
  by_cases h2:3≤j∧j≤10
  ·rw [if_pos h2,if_pos h2]
   by_cases h3:j % 2=0
   ·rw [if_pos h3,if_pos h3]
   rw [if_neg h3,if_neg h3]
   by_cases h4:j<3+a*2
   ·rw [if_pos h4,if_pos (by omega)]
   ·rw [if_neg h4,if_neg (by omega)]
  ·rw [if_neg h2,if_neg h2]
theorem noneCell_file (b j:Nat)(hb:b<4):(if j=11+b*2 then .int .i64 (-1) else noneCell 4 b j)=noneCell 4 (b+1) j:=by
 unfold noneCell
 by_cases e:j=11+b*2
 ·rw [if_pos e,if_neg (by omega),if_neg (by omega),if_pos (by omega),if_neg (by omega),if_pos (by omega)]
 ·rw [if_neg e]
  by_cases h1:j=1∨j=2
  ·rw [if_pos h1,if_pos h1]
  rw [if_neg h1,if_neg h1]
  by_cases h2:3≤j∧j≤10
  ·rw [if_pos h2,if_pos h2]
  rw [if_neg h2,if_neg h2]
  by_cases h5:11≤j∧j≤18
  ·rw [if_pos h5,if_pos h5]
   by_cases h3:j % 2=0
   ·rw [if_pos h3,if_pos h3]
   rw [if_neg h3,if_neg h3]
   by_cases h4:j<11+b*2
   ·rw [if_pos h4,if_pos (by omega)]
   ·rw [if_neg h4,if_neg (by omega)]
  ·rw [if_neg h5,if_neg h5]
def noneCells:List Value:=(List.range 20).map (noneCell 4 4)
theorem noneCells_len:noneCells.length=20:=rfl
theorem noneCells_one:noneCells.toArray.all (·.oneCell')=true:=by kernel_rfl
theorem emptySlot_any (w:World) :
  Calls Tryd.prog 27 #[] w fun e w'=>e=.returned (.agg noneCells.toArray)∧Below w.heap.size w w':=by
 go_enter Tryd.func27,Tryd.ntmps27
 go_wp2_with (refine wpList_store_mid rfl 55 _ _ rfl (w.heap.size+1) 0 _ rfl rfl ?_ (by kernel_rfl) (by kernel_rfl) ?_)
 ·exact rowIs_there (rowIs_new2 w _ _ _) (by simp)
 go_loopw [5] (fun i w'=>∃ k:Nat,k≤4∧i=.int .i64 k∧Below w.heap.size w w'∧w'.heap.size=w.heap.size+2∧(∃ f,w'.rowIs w.heap.size 55 20 f)∧w'.rowIs (w.heap.size+1) 55 20 (noneCell k 0)) (fun i _=>4 - (intOf i).toNat)
 case atStart =>
  refine ⟨0,by omega,rfl,?_,?_,?_,?_⟩
  ·exact below_setCells (by omega) _ _ (((Below.refl _ _).alloc (Nat.le_refl _) _).alloc (by simp) _)
  ·rw [size_setCells];simp
  ·refine ⟨_,World.rowIs.of_block (World.rowIs.alloc (rowIs_new w _ _) _) (heap_setCells (by omega) _ _ _)⟩
  ·refine (rowIs_setCells _ 0 (rowIs_new2 w _ _ _)).congr fun j hj=>?_
   have hj':j<20:=hj
   obtain rfl|rfl|rfl|rfl|rfl|rfl|rfl|rfl|rfl|rfl|rfl|rfl|rfl|rfl|rfl|rfl|rfl|rfl|rfl|rfl:j=0∨j=1∨j=2∨j=3∨j=4∨j=5∨j=6∨j=7∨j=8∨j=9∨j=10∨j=11∨j=12∨j=13∨j=14∨j=15∨j=16∨j=17∨j=18∨j=19:=by omega
   all_goals rfl
 case round =>
  obtain ⟨k,hk,rfl,hb,hz,⟨f0,hf0⟩,hr⟩:=hrel
  by_cases hlt:k<4
  ·have c1:=hr.cell (i:=3+k*2) (by omega)
   have c2:=hr.frozen
   have Hb:Hid (Below w.heap.size w wr):=hb
   have Hf:Hid (wr.rowIs w.heap.size 55 20 f0):=hf0
   have Hr:Hid (wr.rowIs (w.heap.size+1) 55 20 (noneCell k 0)):=hr
   have Hz:Hid (wr.heap.size=w.heap.size+2):=hz
   clear hb hf0 hr hz
   go_wp2
   refine ⟨⟨k+1,by omega,by go_num,Hb.out.setCell (by simp) _,by rw [size_setCell];exact Hz.out,⟨f0,Hf.out.setOther (by simp) _⟩,(Hr.out.set _ _).congr fun j hj=>noneCell_page k j hlt⟩,by simp [intOf];omega⟩
  ·obtain rfl:k=4:=by omega
   have Hb:Hid (Below w.heap.size w wr):=hb
   have Hf:Hid (wr.rowIs w.heap.size 55 20 f0):=hf0
   have Hr:Hid (wr.rowIs (w.heap.size+1) 55 20 (noneCell 4 0)):=hr
   have Hz:Hid (wr.heap.size=w.heap.size+2):=hz
   clear hb hf0 hr hz
   go_wp2
   go_loopw [13] (fun i w'=>∃ k:Nat,k≤4∧i=.int .i64 k∧Below w.heap.size w w'∧w'.heap.size=w.heap.size+2∧(∃ f,w'.rowIs w.heap.size 55 20 f)∧w'.rowIs (w.heap.size+1) 55 20 (noneCell 4 k)) (fun i _=>4 - (intOf i).toNat)
   case atStart=>exact ⟨0,by omega,rfl,Hb.out,Hz.out,⟨_,Hf.out⟩,Hr.out⟩
   case round =>
    clear Hb Hf Hr Hz
    obtain ⟨k,hk,rfl,hb,hz,⟨f0,hf0⟩,hr⟩:=hrel
    by_cases hlt:k<4
    ·have c1:=hr.cell (i:=11+k*2) (by omega)
     have c2:=hr.frozen
     have Hb:Hid (Below w.heap.size w wr):=hb
     have Hf:Hid (wr.rowIs w.heap.size 55 20 f0):=hf0
     have Hr:Hid (wr.rowIs (w.heap.size+1) 55 20 (noneCell 4 k)):=hr
     have Hz:Hid (wr.heap.size=w.heap.size+2):=hz
     clear hb hf0 hr hz
     go_wp2
     refine ⟨⟨k+1,by omega,by go_num,Hb.out.setCell (by simp) _,by rw [size_setCell];exact Hz.out,⟨f0,Hf.out.setOther (by simp) _⟩,(Hr.out.set _ _).congr fun j hj=>noneCell_file k j hlt⟩,by simp [intOf];omega⟩
    ·obtain rfl:k=4:=by omega
     have Hb:Hid (Below w.heap.size w wr):=hb
     have Hf:Hid (wr.rowIs w.heap.size 55 20 f0):=hf0
     have Hr:Hid (wr.rowIs (w.heap.size+1) 55 20 (noneCell 4 4)):=hr
     clear hb hf0 hr hz
     obtain ⟨cs,hcs⟩:∃ cs,cs=(List.range 20).map (noneCell 4 4):=⟨_,rfl⟩
     have Hc:Hid (cs=(List.range 20).map (noneCell 4 4)):=hcs
     have hlen:cs.length=20:=by rw [hcs];rfl
     have HL:Hid (wr.rangeAt (w.heap.size+1) 0 cs):=by
      have:=rowIs_range Hr.out (o:=0) (m:=20) (by omega)
      simp only [Nat.zero_add] at this
      unfold Hid;rw [hcs];exact this
     have HT:Hid (wr.there w.heap.size 0 cs.toArray.size):=rowIs_there Hf.out (by simp [hlen])
     have Hi:Hid ((Tryd.prog.info? 55).map (·.size)=some cs.length):=by unfold Hid;rw [hlen];kernel_rfl
     have Hi2:Hid ((Tryd.prog.info? 55).map (·.size)=some cs.toArray.size):=by unfold Hid;rw [List.size_toArray,hlen];kernel_rfl
     have H1:Hid (cs.toArray.all (·.oneCell')=true):=by unfold Hid;rw [hcs];kernel_rfl
     have HL2:Hid ((wr.setCells w.heap.size 0 cs).rangeAt w.heap.size 0 cs):=World.rangeAt_setCells_same wr w.heap.size 0 cs (by rw [hlen];exact rowIs_there Hf.out (by omega))
     clear hcs hlen
     go_wp2_with (first|(refine wpList_load_mid rfl 55 _ rfl (w.heap.size+1) 0 rfl cs _ HL.out Tryd.underlying55 rfl Hi.out ?_)|(refine wpList_store_mid rfl 55 _ _ rfl w.heap.size 0 cs.toArray rfl rfl HT.out Hi2.out H1.out ?_))
     refine bodyPost_ret (v:=.agg cs.toArray) (results_cell_range Tryd.results27 _ _ w.heap.size cs _ rfl HL2.out Tryd.underlying55 rfl Hi.out) rfl ⟨by rw [Hc.out];rfl,below_setCells (Nat.le_refl _) _ _ Hb.out⟩
end Go.Proofs.YtcgabodkegcpgaaDoor
