/- 'uses' answers in how many places a frame is used. No statement of the program is proved here. -/
import Derived.Test.YtcgabodkegcpgaaDoorBwd
import Derived.Test.YtcgabodkegcpgaaDoorOpr
import Derived.Test.YtcgabodkegcpgaaDoorOqd
namespace Go.Proofs.YtcgabodkegcpgaaDoor
open Go.RowKit
set_option linter.unusedVariables false
set_option linter.unusedSimpArgs false
set_option maxHeartbeats 20000000
theorem rowIs_cell {w:World}{b t n:Nat}{f:Nat→Value}(h:w.rowIs b t n f){i:Nat}(hi:i<n):w.cell? ⟨b,i,none⟩=some (f i):=by
 obtain ⟨c,h1,h2,h3⟩:=h
 simp only [World.cell?,h1]
 exact h3 i hi
section
variable {w:World} {gF gS gD:Nat} {K:Ker}
theorem Snap.cf (S:Snap w gF gS gD K){i c:Nat}(hi:i<K.nF)(hc:c<6):w.cell? ⟨gF,i*6+c,none⟩=some (.int .i64 (K.F i c)):=by
 rw [rowIs_cell S.f (by omega)]
 unfold fCell
 rw [show (i*6+c) / 6=i by omega,show (i*6+c) % 6=c by omega]
theorem Snap.cs (S:Snap w gF gS gD K){i c:Nat}(hi:i<K.nS)(hc:c<20)(hb:¬ isB c):w.cell? ⟨gS,i*20+c,none⟩=some (.int .i64 (K.S i c)):=by
 rw [rowIs_cell S.s (by omega)]
 unfold sCell
 rw [show (i*20+c) / 20=i by omega,show (i*20+c) % 20=c by omega,if_neg (by unfold isB at hb;omega)]
theorem Snap.cd (S:Snap w gF gS gD K){i c:Nat}(hi:i<K.nD)(hc:c<5):w.cell? ⟨gD,i*5+c,none⟩=some (.int .i64 (K.D i c)):=by
 rw [rowIs_cell S.d (by omega)]
 unfold dCell
 rw [show (i*5+c) / 5=i by omega,show (i*5+c) % 5=c by omega]
end
structure Says (K:Ker) (f:Nat):Prop where
 t:∀ i,i<K.nS→K.S i 0≠0→K.S i 2=f→K.F f 0=1∧K.F f 1=i
 p:∀ i j,i<K.nS→j<4→K.page i j=f→K.F f 0=2∧K.F f 1=i∧K.S i 0≠0
 d:∀ d,d<K.nD→K.D d 0=f→K.F f 0=3∧K.F f 1=-1
theorem says_of {K:Ker}(I:Invb K)(f:Nat):Says K f :=
  ⟨fun i hi h0 h2=>I.own.what (.tab i) hi f (by show (if K.S i 0=0 then (-1:Int) else K.S i 2)=f;rw [if_neg h0];exact h2),
   fun i j hi hj h=>⟨(I.own.what (.page i j) ⟨hi,hj⟩ f h).1,(I.own.what (.page i j) ⟨hi,hj⟩ f h).2,fun e=>by rw [I.neat.page hi e hj] at h;omega⟩,
   fun d hd h=>I.own.what (.ring d) hd f h⟩
theorem countTo_succ (p:Nat→Bool)(n:Nat):countTo p (n+1)=countTo p n+if p n then 1 else 0:=rfl
structure UseW (w W:World) (K:Ker) (gF gS gD f:Nat):Prop where
 c0:W.cell? ⟨w.heap.size,0,none⟩=some (.slice (some ⟨gF,0,none⟩) K.nF K.nF)
 c1:W.cell? ⟨w.heap.size,1,none⟩=some (.slice (some ⟨gS,0,none⟩) K.nS K.nS)
 c2:W.cell? ⟨w.heap.size,2,none⟩=some (.slice (some ⟨gD,0,none⟩) K.nD K.nD)
 x0:W.cell? ⟨w.heap.size+1,0,none⟩=some (.int .i64 (K.F f 0))
 x1:W.cell? ⟨w.heap.size+1,1,none⟩=some (.int .i64 (K.F f 1))
 bel:Below w.heap.size w W
 snap:Snap W gF gS gD K
theorem there_new2 (w:World)(A:Obj)(c:Array Value)(t:TypeId)(m:Nat)(h:c.size=m):((w.alloc A).alloc (.cells c t)).there (w.heap.size+1) 0 m:=by
 have:=there_new1 (w.alloc A) c t m h
 simpa using this
theorem use_w {w W:World}{K:Ker}{gF gS gD f:Nat}(S:Snap w gF gS gD K)(hf:f<K.nF){t:TypeId}{c:Array Value}{t':TypeId}(h1:W.rangeAt (w.heap.size+1) 0 (cut (fCell K) (f*6) 6))
  (h2:∀ k,k≠w.heap.size+1→W.heap[k]?=((w.alloc (.cells #[.slice (some ⟨gF,0,none⟩) K.nF K.nF,.slice (some ⟨gS,0,none⟩) K.nS K.nS,.slice (some ⟨gD,0,none⟩) K.nD K.nD] t)).alloc (.cells c t')).heap[k]?)
  (h4:∀ B a,Below B a ((w.alloc (.cells #[.slice (some ⟨gF,0,none⟩) K.nF K.nF,.slice (some ⟨gS,0,none⟩) K.nS K.nS,.slice (some ⟨gD,0,none⟩) K.nD K.nD] t)).alloc (.cells c t'))→B≤w.heap.size+1→Below B a W):UseW w W K gF gS gD f:=by
 have q:=h2 w.heap.size (by omega)
 have q':((w.alloc (.cells #[.slice (some ⟨gF,0,none⟩) K.nF K.nF,.slice (some ⟨gS,0,none⟩) K.nS K.nS,.slice (some ⟨gD,0,none⟩) K.nD K.nD] t)).alloc (.cells c t')).heap[w.heap.size]?=some (.cells #[.slice (some ⟨gF,0,none⟩) K.nF K.nF,.slice (some ⟨gS,0,none⟩) K.nS K.nS,.slice (some ⟨gD,0,none⟩) K.nD K.nD] t):=by
  rw [Below.heap_alloc _ _ _ (by simp)]
  exact heap_alloc_new w _
 rw [q'] at q
 have bel:=h4 _ _ (below2 w _ _) (by omega)
 refine ⟨cell_of_obj q 0,cell_of_obj q 1,cell_of_obj q 2,?_,?_,bel,S.same fun k hk=>bel.block k ?_⟩
 ·rw [cut_cell h1 (by omega)];unfold fCell;rw [show (f*6+0) / 6=f by omega,show (f*6+0) % 6=0 by omega]
 ·rw [cut_cell h1 (by omega)];unfold fCell;rw [show (f*6+1) / 6=f by omega,show (f*6+1) % 6=1 by omega]
 ·rcases hk with rfl|rfl|rfl
  ·exact row_lt S.f
  ·exact row_lt S.s
  ·exact row_lt S.d
set_option maxRecDepth 100000 in
theorem uses_any (w:World)(K:Ker)(hF:K.nF≤32)(hS:K.nS≤6)(hD:K.nD≤4)(gF gS gD:Nat)(S1:Snap w gF gS gD K)(f:Nat)(hf:f<K.nF)(hs:Says K f) :
  Calls Tryd.prog 43 #[stVal K gF gS gD,.int .i64 f] w fun e w'=>e=.returned (.tuple #[.int .i64 (K.usesN f),.bool true])∧Below w.heap.size w w':=by
 unfold stVal
 have H1:Hid (Snap w gF gS gD K):=S1
 have HS:Hid (Says K f):=hs
 clear S1 hs
 obtain ⟨cs,hcs⟩:∃ cs,cs=cut (fCell K) (f*6) 6:=⟨_,rfl⟩
 have Hcs:Hid (cs=cut (fCell K) (f*6) 6):=hcs
 have ei:Hid ((Tryd.prog.info? 75).map (·.size)=some cs.length):=by unfold Hid;rw [hcs,cut_len];kernel_rfl
 have ei2:Hid ((Tryd.prog.info? 75).map (·.size)=some cs.toArray.size):=by unfold Hid;rw [List.size_toArray,hcs,cut_len];kernel_rfl
 have o1:Hid (cs.toArray.all (·.oneCell')=true):=by unfold Hid;rw [hcs];simp [cut,Array.all_eq_true,fCell,Value.oneCell']
 have z1:Hid (cs.toArray.size=6):=by unfold Hid;rw [List.size_toArray,hcs,cut_len]
 have LA:Hid (∀ o,(w.alloc o).rangeAt gF (f*6) cs):=fun o=>by
  rw [hcs];exact World.rangeAt_alloc (rowIs_range H1.out.f (o:=f*6) (m:=6) (by omega)) _
 clear hcs
 have b1:(0:Int)≤(f:Int):=by omega
 have b2:(f:Int)<(K.nF:Int):=by omega
 go_enter Tryd.func43,Tryd.ntmps43
 go_wp2_with (first|(refine wpList_load_mid rfl 75 _ rfl gF (f*6) rfl cs _ (LA.out _) Tryd.underlying75 rfl ei.out ?_)|(refine wpList_store_any rfl 75 _ _ rfl _ 0 cs.toArray rfl rfl (by rw [z1.out];exact there_new2 _ _ _ _ _ (by rfl)) ei2.out o1.out ?_;intro W1 f1 f2 f3 f4;have HW:Hid (UseW w W1 K gF gS gD f):=use_w H1.out hf (by rw [← Hcs.out];exact f1) f2 f4;clear f1 f2 f3 f4))
 have y1:=HW.out.c1
 have y2:=HW.out.c2
 have x0:=HW.out.x0
 have x1:=HW.out.x1
 clear b1 b2 LA ei ei2 o1 z1 Hcs
 go_loopw [6,8] (fun n i w'=>∃ k:Nat,k≤K.nS∧i=.int .i64 k∧n=.int .i64 (countTo (K.usedAt f) (k*5))∧W1=w') (fun n i _=>K.nS - (intOf i).toNat)
 case atStart=>exact ⟨0,by omega,rfl,rfl,rfl⟩
 case round =>
  obtain ⟨k,hk,rfl,rfl,rfl⟩:=hrel
  have hcb:=countTo_le (K.usedAt f) (k*5)
  by_cases hlt:k<K.nS
  ·have i1:(0:Int)≤(k:Int):=by omega
   have i2:(k:Int)<(K.nS:Int):=by omega
   have c0:W1.cell? ⟨gS,k*20,none⟩=some (.int .i64 (K.S k 0)):=HW.out.snap.cs hlt (c:=0) (by omega) (by unfold isB;omega)
   have c2:W1.cell? ⟨gS,k*20+2,none⟩=some (.int .i64 (K.S k 2)):=HW.out.snap.cs hlt (c:=2) (by omega) (by unfold isB;omega)
   have e0:=countTo_succ (K.usedAt f) (k*5)
   rw [usedAt_tab] at e0
   have hq:(K.S k 0=0∧countTo (K.usedAt f) (k*5+1)=countTo (K.usedAt f) (k*5))∨(K.S k 0≠0∧K.S k 2≠f∧countTo (K.usedAt f) (k*5+1)=countTo (K.usedAt f) (k*5))∨(K.S k 0≠0∧K.S k 2=f∧K.F f 0=1∧K.F f 1=k∧countTo (K.usedAt f) (k*5+1)=countTo (K.usedAt f) (k*5)+1):=by
    by_cases h0:K.S k 0=0
    ·exact .inl ⟨h0,by rw [e0];simp [h0]⟩
    ·by_cases h2:K.S k 2=f
     ·exact .inr (.inr ⟨h0,h2,(HS.out.t k hlt h0 h2).1,(HS.out.t k hlt h0 h2).2,by rw [e0];simp [h0,h2]⟩)
     ·exact .inr (.inl ⟨h0,h2,by rw [e0];simp [h2]⟩)
   have HQ:Hid (∀ m,m<4→W1.cell? ⟨gS,k*20+3+m*2,none⟩=some (.int .i64 (K.page k m))):=fun m hm=>by
    have:=HW.out.snap.cs hlt (c:=3+m*2) (by omega) (by unfold isB;omega)
    rwa [← Nat.add_assoc] at this
   clear e0
   have key:∃ c:Nat,c≤31∧countTo (K.usedAt f) (k*5+1)=c:=⟨_,by have:=countTo_le (K.usedAt f) (k*5+1);omega,rfl⟩
   obtain ⟨c,hc31,hc⟩:=key
   rw [hc] at hq
   have Hc:Hid (countTo (K.usedAt f) (k*5+1)=c):=hc
   clear hc
   rcases hq with ⟨h0,hn⟩|⟨h0,h2,hn⟩|⟨h0,h2,hx0,hx1,hn⟩
   ·rw [h0] at c0
    go_wp2_with fail
    clear c2
    go_loopw [6,9] (fun n j w'=>∃ m:Nat,m≤4∧j=.int .i64 m∧n=.int .i64 (countTo (K.usedAt f) (k*5+1+m))∧W1=w') (fun n j _=>4 - (intOf j).toNat)
    case atStart=>exact ⟨0,by omega,rfl,by rw [Nat.add_zero,Hc.out,hn]<;>go_num,rfl⟩
    case round =>
     obtain ⟨m,hm,rfl,rfl,rfl⟩:=hrel
     have hcb2:=countTo_le (K.usedAt f) (k*5+1+m)
     by_cases hlt2:m<4
     ·have j1:(0:Int)≤(m:Int):=by omega
      have j2:(m:Int)<4:=by omega
      have cp:=HQ.out m hlt2
      have e1:=countTo_succ (K.usedAt f) (k*5+1+m)
      rw [usedAt_page K f k m hlt2] at e1
      by_cases hp:K.page k m=f
      ·obtain ⟨p0,p1,p2⟩:=HS.out.p k m hlt hlt2 hp
       have E1:Hid (countTo (K.usedAt f) (k*5+1+(m+1))=countTo (K.usedAt f) (k*5+1+m)+1):=by
        unfold Hid;rw [← Nat.add_assoc,e1];simp [hp]
       exact absurd h0 p2
      ·have E1:Hid (countTo (K.usedAt f) (k*5+1+(m+1))=countTo (K.usedAt f) (k*5+1+m)):=by
        unfold Hid;rw [← Nat.add_assoc,e1];simp [hp]
       clear e1
       go_wp2_with fail
       exact ⟨⟨m+1,by omega,by go_num,by rw [E1.out],by trivial⟩,by simp [intOf];omega⟩
     ·obtain rfl:m=4:=by omega
      go_wp2_with fail
      exact ⟨⟨k+1,by omega,by go_num,by rw [show (k+1)*5=k*5+1+4 by omega],by trivial⟩,by simp [intOf];omega⟩
   ·have q0:(K.S k 0 != 0)=true:=by simp [h0]
    go_wp2_with fail
    clear c2
    go_loopw [6,9] (fun n j w'=>∃ m:Nat,m≤4∧j=.int .i64 m∧n=.int .i64 (countTo (K.usedAt f) (k*5+1+m))∧W1=w') (fun n j _=>4 - (intOf j).toNat)
    case atStart=>exact ⟨0,by omega,rfl,by rw [Nat.add_zero,Hc.out,hn]<;>go_num,rfl⟩
    case round =>
     obtain ⟨m,hm,rfl,rfl,rfl⟩:=hrel
     have hcb2:=countTo_le (K.usedAt f) (k*5+1+m)
     by_cases hlt2:m<4
     ·have j1:(0:Int)≤(m:Int):=by omega
      have j2:(m:Int)<4:=by omega
      have cp:=HQ.out m hlt2
      have e1:=countTo_succ (K.usedAt f) (k*5+1+m)
      rw [usedAt_page K f k m hlt2] at e1
      by_cases hp:K.page k m=f
      ·obtain ⟨p0,p1,p2⟩:=HS.out.p k m hlt hlt2 hp
       have E1:Hid (countTo (K.usedAt f) (k*5+1+(m+1))=countTo (K.usedAt f) (k*5+1+m)+1):=by
        unfold Hid;rw [← Nat.add_assoc,e1];simp [hp]
       clear e1
       rw [p0] at x0
       rw [p1] at x1
       rw [hp] at cp
       go_wp2_with fail
       exact ⟨⟨m+1,by omega,by go_num,by rw [E1.out]<;>go_num,by trivial⟩,by simp [intOf];omega⟩
      ·have E1:Hid (countTo (K.usedAt f) (k*5+1+(m+1))=countTo (K.usedAt f) (k*5+1+m)):=by
        unfold Hid;rw [← Nat.add_assoc,e1];simp [hp]
       clear e1
       go_wp2_with fail
       exact ⟨⟨m+1,by omega,by go_num,by rw [E1.out],by trivial⟩,by simp [intOf];omega⟩
     ·obtain rfl:m=4:=by omega
      go_wp2_with fail
      exact ⟨⟨k+1,by omega,by go_num,by rw [show (k+1)*5=k*5+1+4 by omega],by trivial⟩,by simp [intOf];omega⟩
   ·have q0:(K.S k 0 != 0)=true:=by simp [h0]
    have x0':=x0
    have x1':=x1
    rw [hx0] at x0
    rw [hx1] at x1
    rw [h2] at c2
    go_wp2_with fail
    clear c2 x0 x1
    have x0:=x0'
    have x1:=x1'
    clear x0' x1'
    go_loopw [6,9] (fun n j w'=>∃ m:Nat,m≤4∧j=.int .i64 m∧n=.int .i64 (countTo (K.usedAt f) (k*5+1+m))∧W1=w') (fun n j _=>4 - (intOf j).toNat)
    case atStart=>exact ⟨0,by omega,rfl,by rw [Nat.add_zero,Hc.out,hn]<;>go_num,rfl⟩
    case round =>
     obtain ⟨m,hm,rfl,rfl,rfl⟩:=hrel
     have hcb2:=countTo_le (K.usedAt f) (k*5+1+m)
     by_cases hlt2:m<4
     ·have j1:(0:Int)≤(m:Int):=by omega
      have j2:(m:Int)<4:=by omega
      have cp:=HQ.out m hlt2
      have e1:=countTo_succ (K.usedAt f) (k*5+1+m)
      rw [usedAt_page K f k m hlt2] at e1
      by_cases hp:K.page k m=f
      ·obtain ⟨p0,p1,p2⟩:=HS.out.p k m hlt hlt2 hp
       have E1:Hid (countTo (K.usedAt f) (k*5+1+(m+1))=countTo (K.usedAt f) (k*5+1+m)+1):=by
        unfold Hid;rw [← Nat.add_assoc,e1];simp [hp]
       exact absurd (hx0.symm.trans p0) (by decide)
      ·have E1:Hid (countTo (K.usedAt f) (k*5+1+(m+1))=countTo (K.usedAt f) (k*5+1+m)):=by
        unfold Hid;rw [← Nat.add_assoc,e1];simp [hp]
       clear e1
       go_wp2_with fail
       exact ⟨⟨m+1,by omega,by go_num,by rw [E1.out],by trivial⟩,by simp [intOf];omega⟩
     ·obtain rfl:m=4:=by omega
      go_wp2_with fail
      exact ⟨⟨k+1,by omega,by go_num,by rw [show (k+1)*5=k*5+1+4 by omega],by trivial⟩,by simp [intOf];omega⟩
  ·obtain rfl:k=K.nS:=by omega
   go_wp2_with fail
   go_loopw [6,10] (fun n i w'=>∃ m:Nat,m≤K.nD∧i=.int .i64 m∧n=.int .i64 ((countTo (K.usedAt f) (K.nS*5)+countTo (K.ringAt f) m:Nat):Int)∧W1=w') (fun n i _=>K.nD - (intOf i).toNat)
   case atStart=>exact ⟨0,by omega,rfl,rfl,rfl⟩
   case round =>
    obtain ⟨m,hm,rfl,rfl,rfl⟩:=hrel
    have hcb2:=countTo_le (K.ringAt f) m
    by_cases hlt2:m<K.nD
    ·have j1:(0:Int)≤(m:Int):=by omega
     have j2:(m:Int)<(K.nD:Int):=by omega
     have cd:W1.cell? ⟨gD,m*5,none⟩=some (.int .i64 (K.D m 0)):=HW.out.snap.cd hlt2 (c:=0) (by omega)
     have e1:=countTo_succ (K.ringAt f) m
     by_cases hp:K.D m 0=f
     ·obtain ⟨p0,p1⟩:=HS.out.d m hlt2 hp
      have E1:Hid (countTo (K.ringAt f) (m+1)=countTo (K.ringAt f) m+1):=by
       unfold Hid;rw [e1];simp [Ker.ringAt,hp]
      clear e1
      rw [p0] at x0
      rw [p1] at x1
      rw [hp] at cd
      go_wp2_with fail
      exact ⟨⟨m+1,by omega,by go_num,by rw [E1.out]<;>go_num,by trivial⟩,by simp [intOf];omega⟩
     ·have E1:Hid (countTo (K.ringAt f) (m+1)=countTo (K.ringAt f) m):=by
       unfold Hid;rw [e1];simp [Ker.ringAt,hp]
      clear e1
      go_wp2_with fail
      exact ⟨⟨m+1,by omega,by go_num,by rw [E1.out],by trivial⟩,by simp [intOf];omega⟩
    ·obtain rfl:m=K.nD:=by omega
     go_wp2_with fail
     go_ret2
     exact ⟨rfl,HW.out.bel⟩
end Go.Proofs.YtcgabodkegcpgaaDoor
namespace Go.Proofs.YtcgabodkegcpgaaDoor
open Go.Conc Go.RowKit
open Br (X OpD KO SO SP sfO Lk Fit Must DL Liv Clear)
set_option linter.unusedVariables false
set_option linter.unusedSimpArgs false
set_option maxHeartbeats 20000000
def RightLaw:Prop:=∀ (w:World) (K:Ker),Invb K→K.nF≤32→K.nD≤4→∀ gF gS gD,Snap w gF gS gD K →
 Calls Tryd.prog 19 #[stVal K gF gS gD,.agg #[.int .i64 K.nF,.int .i64 K.nS,.int .i64 K.nD]] w fun e w'=>e=.returned (.bool true)∧Below w.heap.size w w'
section
variable {kb:Kb} {l:List OpD} {K:Ker} {L:Nat→Option Lv} {r:Nat} {Inb:Nat→Option Seat} {nG:Nat} {w:World}
theorem must_right (hr:RightLaw)(co:Co kb l K L r Inb nG w){gF gS gD:Nat}(S1:Snap w gF gS gD K)(z1:sfO l gF=0∧sfO l gS=0∧sfO l gD=0)(fr:Frame)(cs:List Frame)(d:Nat) :
  Must Tryd.prog true (DL true (sfO l)) (fun g w'=>∃ x,g=G (fr.finish x) cs∧Grown w w'∧x=.bool true)
   (G (Frame.enter Tryd.prog 19 #[stVal K gF gS gD,.agg #[.int .i64 K.nF,.int .i64 K.nS,.int .i64 K.nD]] .normal) (fr::cs)) (w.at d):=by
 refine must_below co.env.fit co.env.ko true (by kernel_rfl) (R:=fun x _=>x=.bool true) (fun v hv=>?_) (fun x v' w' _ _ h=>h) fr cs
 have s1:Snap (w.at d) gF gS gD K:=S1.same fun _ _=>rfl
 refine (hr v K co.env.inv co.env.rep.hF co.env.rep.hD gF gS gD (snap_to hv s1 z1)).mono ?_
 rintro e v' ⟨rfl,h2⟩
 exact ⟨_,rfl,h2,rfl⟩
end
structure A19 (kb:Kb) (b:Lb) (K:Ker) (cB len cap i:Nat) (sa:Option Addr) (w:World) (listed:Array Bool) (s:Act × World):Prop where
 gr:Grown w s.2
 len_:listed.size=5
 base:Lvs 77 [(1,.slice sa len cap),(2,.pointer (some ⟨cB,0,none⟩)),(5,.bool true),(6,.pointer (some ⟨kb.bk,0,none⟩)),(8,.pointer (some ⟨b.bl,0,none⟩)),(9,.int .i64 i)] s.1
 t0:listed.getD 0 false=true→Lvs 77 [(70,.pointer (some ⟨kb.bk,0,none⟩))] s.1
 t1:listed.getD 1 false=true→∃ gF gS gD,Lvs 77 [(71,stVal K gF gS gD)] s.1∧Snap s.2 gF gS gD K∧w.heap.size≤gF∧w.heap.size≤gS∧w.heap.size≤gD
 t2:listed.getD 2 false=true→Lvs 77 [(72,.agg #[.int .i64 K.nF,.int .i64 K.nS,.int .i64 K.nD])] s.1
 t3:listed.getD 3 false=true→Lvs 77 [(73,.bool true)] s.1
theorem Snap.grown {w w':World}{gF gS gD:Nat}{K:Ker}(S:Snap w gF gS gD K)(g:Grown w w'):Snap w' gF gS gD K:=S.same fun k hk=>g.old k (by
 rcases hk with rfl|rfl|rfl
 ·exact row_lt S.f
 ·exact row_lt S.s
 ·exact row_lt S.d)
theorem getD_set_ne {listed:Array Bool}{i j:Nat}(e:i≠j)(h:(listed.setIfInBounds i true).getD j false=true):listed.getD j false=true:=by
 cases h':listed.getD j false with
 | true=>rfl
 | false=>rw [Br.set_off h' e] at h;cases h
set_option maxRecDepth 100000 in
theorem bk_19 (hr:RightLaw)(kb:Kb)(b:Lb)(n nF nD cB len cap:Nat)(sa:Option Addr)(w0:World)(cs:List Frame)(hcfg:w0.heap[cB]?=some (.cells #[.int .i64 nF,.int .i64 n,.int .i64 nD] 30 (0,0))):Bk19 kb b n nF nD cB len cap sa w0 cs:=by
 intro i l K L r Inb nG w a Stop k co hF hn hD hcB hA hnx
 subst hF hn hD
 have hX:=hcB.trans hcfg
 have lcB:cB<w.heap.size:=(Array.getElem?_eq_some_iff.1 hX).1
 have key:∀ fuel listed (s:Act × World) rest,Br.Ord (bkOps 19) fuel listed rest→A19 kb b K cB len cap i sa w listed s→Liv Tryd.prog true true (sfO l) Stop (G ((base 5).at s.1 (.inRegion (bkOps 19) rest::k)) cs) s.2:=by
  refine ord_anyS (J:=fun (s:Act × World) rest=>Liv Tryd.prog true true (sfO l) Stop (G ((base 5).at s.1 (.inRegion (bkOps 19) rest::k)) cs) s.2) (fun f listed s j rest hj hA _ hgo=>?_) (fun listed s hno hA=>?_)
  ·obtain ⟨a,w1⟩:=s
   have hlt:j<5:=Br.ready_lt hj
   have co1:=co.grown hA.gr
   have hb:=hA.base
   have hz:∀ {j':Nat},(listed.setIfInBounds j' true).size=5:=by intro j';simp [hA.len_]
   have hq:j=0∨j=1∨j=2∨j=3∨j=4:=by omega
   rcases hq with rfl|rfl|rfl|rfl|rfl
   ·refine lv_val (v:=.pointer (some ⟨kb.bk,0,none⟩)) rfl (wanted_none rfl) (by decide) (by kernel_rfl) (fun d=>run_move rfl (hb.get rfl)) ?_
    exact hgo (a.put (some 70) _,w1) ⟨hA.gr,hz,hb.put_ne (by simp),fun _=>(hb.put (d:=70) (by decide) _).sub (fun p hp=>by
      simp only [List.mem_cons,List.not_mem_nil,or_false] at hp
      rcases hp with rfl;rfl),fun h=>(hA.t1 (getD_set_ne (by decide) h)).imp fun gF h=>h.imp fun gS h=>h.imp fun gD h=>⟨h.1.put_ne (by simp),h.2⟩,fun h=>(hA.t2 (getD_set_ne (by decide) h)).put_ne (by simp),fun h=>(hA.t3 (getD_set_ne (by decide) h)).put_ne (by simp)⟩
   ·have e70:=(hA.t0 (Br.ready_after hj rfl (by kernel_rfl))).get (t:=70) rfl
    refine lv_call (vs:=#[.pointer (some ⟨kb.bk,0,none⟩)]) (R:=fun x w'=>∃ gF gS gD,x=stVal K gF gS gD∧Grown w1 w'∧Snap w' gF gS gD K∧w1.heap.size≤gF∧w1.heap.size≤gS∧w1.heap.size≤gD) rfl rfl (by decide) rfl Tryd.func13 rfl rfl (by simp only [List.map_toArray,List.map_cons,List.map_nil,e70]) (fun fr cs d=>(must_mstate co1 fr cs d).mono (fun _ _ _ h=>h) fun g w' ⟨gF,gS,gD,h,h'⟩=>⟨_,h,gF,gS,gD,rfl,h'⟩) ?_
    rintro x w2 ⟨gF,gS,gD,rfl,hG,hS,z1,z2,z3⟩
    have sz:=hA.gr.size
    simp only at sz
    exact hgo (a.put (some 71) _,w2) ⟨hA.gr.trans hG,hz,hb.put_ne (by simp),fun h=>(hA.t0 (getD_set_ne (by decide) h)).put_ne (by simp),fun _=>⟨gF,gS,gD,(hb.put (d:=71) (by decide) _).sub (fun p hp=>by
      simp only [List.mem_cons,List.not_mem_nil,or_false] at hp
      rcases hp with rfl;rfl),hS,by omega,by omega,by omega⟩,fun h=>(hA.t2 (getD_set_ne (by decide) h)).put_ne (by simp),fun h=>(hA.t3 (getD_set_ne (by decide) h)).put_ne (by simp)⟩
   ·have hX1:w1.heap[cB]?=some (.cells #[.int .i64 K.nF,.int .i64 K.nS,.int .i64 K.nD] 30 (0,0)):=(hA.gr.old cB lcB).trans hX
    have c0:∀ d,(w1.at d).cell? ⟨cB,0,none⟩=some (.int .i64 K.nF):=fun d=>by show w1.cell? _=_;simp [World.cell?,hX1]
    have c1:∀ d,(w1.at d).cell? ⟨cB,1,none⟩=some (.int .i64 K.nS):=fun d=>by show w1.cell? _=_;simp [World.cell?,hX1]
    have c2:∀ d,(w1.at d).cell? ⟨cB,2,none⟩=some (.int .i64 K.nD):=fun d=>by show w1.cell? _=_;simp [World.cell?,hX1]
    obtain ⟨o,ho,hop,hd,hg⟩:∃ o,(bkOps 19)[2]?=some o∧o.op=.load 30 (.tmp 2)∧o.dst=some 72∧o.guard=none:=⟨_,rfl,rfl,rfl,rfl⟩
    have e2:=hb.get (t:=2) rfl
    refine lv_val (v:=.agg #[.int .i64 K.nF,.int .i64 K.nS,.int .i64 K.nD]) ho (wanted_none hg) (by decide) (by rw [hop];rfl) (fun d=>by have z0:=c0 d;have z1:=c1 d;have z2:=c2 d;clear c0 c1 c2;unfold execOp;simp only [hop,e2];go_simp;try rfl) ?_
    rw [hd]
    exact hgo (a.put (some 72) _,w1) ⟨hA.gr,hz,hb.put_ne (by simp),fun h=>(hA.t0 (getD_set_ne (by decide) h)).put_ne (by simp),fun h=>(hA.t1 (getD_set_ne (by decide) h)).imp fun gF h=>h.imp fun gS h=>h.imp fun gD h=>⟨h.1.put_ne (by simp),h.2⟩,fun _=>(hb.put (d:=72) (by decide) _).sub (fun p hp=>by
      simp only [List.mem_cons,List.not_mem_nil,or_false] at hp
      rcases hp with rfl;rfl),fun h=>(hA.t3 (getD_set_ne (by decide) h)).put_ne (by simp)⟩
   ·obtain ⟨gF,gS,gD,h71,hS,z1,z2,z3⟩:=hA.t1 (Br.ready_after hj rfl (by kernel_rfl))
    have e71:=h71.get (t:=71) rfl
    have e72:=(hA.t2 (Br.ready_after hj rfl (by kernel_rfl))).get (t:=72) rfl
    have zn:∀ g,w.heap.size≤g→sfO l g=0:=fun g hg=>Br.sfO_zero fun o ho=>by have:=Br.KO.lt co.env.ko ho;omega
    refine lv_call (vs:=#[stVal K gF gS gD,.agg #[.int .i64 K.nF,.int .i64 K.nS,.int .i64 K.nD]]) (R:=fun x w'=>Grown w1 w'∧x=.bool true) rfl rfl (by decide) rfl Tryd.func19 rfl rfl (by simp only [List.map_toArray,List.map_cons,List.map_nil,e71,e72]) (fun fr cs d=>must_right hr co1 hS ⟨zn _ z1,zn _ z2,zn _ z3⟩ fr cs d) ?_
    rintro x w2 ⟨hG,rfl⟩
    exact hgo (a.put (some 73) _,w2) ⟨hA.gr.trans hG,hz,hb.put_ne (by simp),fun h=>(hA.t0 (getD_set_ne (by decide) h)).put_ne (by simp),fun h=>⟨gF,gS,gD,h71.put_ne (by simp),hS.grown hG,z1,z2,z3⟩,fun h=>(hA.t2 (getD_set_ne (by decide) h)).put_ne (by simp),fun _=>(hb.put (d:=73) (by decide) _).sub (fun p hp=>by
      simp only [List.mem_cons,List.not_mem_nil,or_false] at hp
      rcases hp with rfl;rfl)⟩
   ·have h73:=hA.t3 (Br.ready_after hj rfl (by kernel_rfl))
    refine lv_val (v:=.bool true) rfl (wanted_none rfl) (by decide) (by kernel_rfl) (fun d=>run_assign rfl (h73.get rfl)) ?_
    exact hgo (a.put (some 5) _,w1) ⟨hA.gr,hz,(hb.put (d:=5) (by decide) _).sub (fun p hp=>by
      simp only [List.mem_cons,List.not_mem_nil,or_false] at hp
      rcases hp with rfl|rfl|rfl|rfl|rfl|rfl<;>rfl),fun h=>(hA.t0 (getD_set_ne (by decide) h)).put_ne (by simp),fun h=>(hA.t1 (getD_set_ne (by decide) h)).imp fun gF h=>h.imp fun gS h=>h.imp fun gD h=>⟨h.1.put_ne (by simp),h.2⟩,fun h=>(hA.t2 (getD_set_ne (by decide) h)).put_ne (by simp),fun h=>(hA.t3 (getD_set_ne (by decide) h)).put_ne (by simp)⟩
  ·exact Br.liv_region_end (hnx s.1 s.2 hA.gr hA.base)
 refine fun d0=>must_draw (fun t d=>?_) d0
 exact key _ _ (a,w) _ (Br.ord_start (by kernel_rfl) (bkOps 19) t) ⟨Grown.refl trivial,by kernel_rfl,hA,fun h=>(by cases h),fun h=>(by cases h),fun h=>(by cases h),fun h=>(by cases h)⟩ d
end Go.Proofs.YtcgabodkegcpgaaDoor
