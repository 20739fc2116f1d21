/- What the kernel's makers do: within, emptySlot, filled. -/
import Derived.Test.YtcgabodkegcpgaaDoorCall
import Derived.Handy
import Derived.Test.YtcgabodkegcpgaaDoorRul
import Derived.Deep.RegionHeld3
import Derived.Deep.DrawnRows
set_option linter.unusedVariables false
set_option linter.unusedSimpArgs false
set_option maxHeartbeats 20000000
set_option maxRecDepth 100000
namespace Go.Proofs.YtcgabodkegcpgaaDoor
open Go.RowKit
def P7 (n a b:Int):Bool:=decide (a<=n) && decide (n<=b)
theorem a3t (n a b:Int)(w:World) :
  Calls Tryd.prog 24 #[.int .i64 n,.int .i64 a,.int .i64 b] w λe w'=>e=.returned (.bool (P7 n a b))/\w'=w:=by
 by_cases h1:a<=n
 ·by_cases h2:n<=b
  ·have E:Hid (P7 n a b=true):=by unfold Hid P7;simp [h1,h2]
   go_enter Tryd.func24,Tryd.ntmps24
   go_wp2
   go_ret
   rw [E.out];exact ⟨rfl,rfl⟩
  ·have E:Hid (P7 n a b=false):=by unfold Hid P7;simp;omega
   go_enter Tryd.func24,Tryd.ntmps24
   go_wp2
   go_ret
   rw [E.out];exact ⟨rfl,rfl⟩
 ·have E:Hid (P7 n a b=false):=by unfold Hid P7;simp;omega
  go_enter Tryd.func24,Tryd.ntmps24
  go_wp2
  go_ret
  rw [E.out];exact ⟨rfl,rfl⟩
def G7 (a b j:Nat):Value :=
 if j=1\/j=2 then .int .i64 (-1) else if 3<=j/\j<=10 then (if j % 2=0 then .bool false else if j<3+a*2 then .int .i64 (-1) else .int .i64 0)
 else if 11<=j/\j<=18 then (if j % 2=0 then .bool false else if j<11+b*2 then .int .i64 (-1) else .int .i64 0) else .int .i64 0
theorem a7u (a j:Nat)(ha:a<4):(if j=3+a*2 then .int .i64 (-1) else G7 a 0 j)=G7 (a+1) 0 j:=by
 unfold G7
 by_cases e:j=3+a*2
 ·rw [if_pos e,if_neg (by omega),if_pos (by omega),if_neg (by omega),if_pos (by omega)]
 ·rw [if_neg e]
  by_cases h1:j=1\/j=2
  ·rw [if_pos h1,if_pos h1]
  rw [if_neg h1,if_neg h1]
  by_cases h2:3<=j/\j<=10
  ·rw [if_pos h2,if_pos h2]
   by_cases h3:j % 2=0
   ·rw [if_pos h3,if_pos h3]
   rw [if_neg h3,if_neg h3]
   by_cases h4:j<3+a*2
   ·rw [if_pos h4,if_pos (by omega)]
   ·rw [if_neg h4,if_neg (by omega)]
  ·rw [if_neg h2,if_neg h2]
theorem a7v (b j:Nat)(hb:b<4):(if j=11+b*2 then .int .i64 (-1) else G7 4 b j)=G7 4 (b+1) j:=by
 unfold G7
 by_cases e:j=11+b*2
 ·rw [if_pos e,if_neg (by omega),if_neg (by omega),if_pos (by omega),if_neg (by omega),if_pos (by omega)]
 ·rw [if_neg e]
  by_cases h1:j=1\/j=2
  ·rw [if_pos h1,if_pos h1]
  rw [if_neg h1,if_neg h1]
  by_cases h2:3<=j/\j<=10
  ·rw [if_pos h2,if_pos h2]
  rw [if_neg h2,if_neg h2]
  by_cases h5:11<=j/\j<=18
  ·rw [if_pos h5,if_pos h5]
   by_cases h3:j % 2=0
   ·rw [if_pos h3,if_pos h3]
   rw [if_neg h3,if_neg h3]
   by_cases h4:j<11+b*2
   ·rw [if_pos h4,if_pos (by omega)]
   ·rw [if_neg h4,if_neg (by omega)]
  ·rw [if_neg h5,if_neg h5]
def X6:List Value:=(List.range 20).map (G7 4 4)
theorem J7:X6.length=20:=rfl
theorem a3c:X6.toArray.all (·.oneCell')=true:=by kernel_rfl
theorem a3d (w:World) :
  Calls Tryd.prog 27 #[] w λe w'=>e=.returned (.agg X6.toArray)/\Below w.heap.size w w':=by
 go_enter Tryd.func27,Tryd.ntmps27
 go_wp2_with (refine wpList_store_mid rfl 55 _ _ rfl (w.heap.size+1) 0 _ rfl rfl ?_ (by kernel_rfl) (by kernel_rfl) ?_)
 ·exact B5 (Y0 w _ _ _) (by simp)
 go_loopw [5] (λi w'=>∃ k:Nat,k<=4/\i=.int .i64 k/\Below w.heap.size w w'/\w'.heap.size=w.heap.size+2/\(∃ f,w'.rowIs w.heap.size 55 20 f)/\w'.rowIs (w.heap.size+1) 55 20 (G7 k 0)) (λi _=>4 - (intOf i).toNat)
 case atStart =>
  refine ⟨0,by omega,rfl,?_,?_,?_,?_⟩
  ·exact A0 (by omega) _ _ (((Below.refl _ _).alloc (Nat.le_refl _) _).alloc (by simp) _)
  ·rw [u9];simp
  ·refine ⟨_,World.rowIs.of_block (World.rowIs.alloc (U5 w _ _) _) (E7 (by omega) _ _ _)⟩
  ·refine (B8 _ 0 (Y0 w _ _ _)).congr λj hj=>?_;have hj':j<20:=hj;obtain rfl|rfl|rfl|rfl|rfl|rfl|rfl|rfl|rfl|rfl|rfl|rfl|rfl|rfl|rfl|rfl|rfl|rfl|rfl|rfl:j=0\/j=1\/j=2\/j=3\/j=4\/j=5\/j=6\/j=7\/j=8\/j=9\/j=10\/j=11\/j=12\/j=13\/j=14\/j=15\/j=16\/j=17\/j=18\/j=19:=by omega
   all_goals rfl
 case round =>
  obtain ⟨k,hk,rfl,hb,hz,⟨f0,hf0⟩,hr⟩:=hrel
  by_cases hlt:k<4
  ·have c1:=hr.cell (i:=3+k*2) (by omega);have c2:=hr.frozen;have Hb:Hid (Below w.heap.size w wr):=hb;have Hf:Hid (wr.rowIs w.heap.size 55 20 f0):=hf0;have Hr:Hid (wr.rowIs (w.heap.size+1) 55 20 (G7 k 0)):=hr;have Hz:Hid (wr.heap.size=w.heap.size+2):=hz;clear hb hf0 hr hz
   go_wp2
   refine ⟨⟨k+1,by omega,by go_num,Hb.out.setCell (by simp) _,by rw [t9];exact Hz.out,⟨f0,Hf.out.setOther (by simp) _⟩,(Hr.out.set _ _).congr λj hj=>a7u k j hlt⟩,by simp [intOf];omega⟩
  ·obtain rfl:k=4:=by omega
   have Hb:Hid (Below w.heap.size w wr):=hb;have Hf:Hid (wr.rowIs w.heap.size 55 20 f0):=hf0;have Hr:Hid (wr.rowIs (w.heap.size+1) 55 20 (G7 4 0)):=hr;have Hz:Hid (wr.heap.size=w.heap.size+2):=hz;clear hb hf0 hr hz
   go_wp2
   go_loopw [13] (λi w'=>∃ k:Nat,k<=4/\i=.int .i64 k/\Below w.heap.size w w'/\w'.heap.size=w.heap.size+2/\(∃ f,w'.rowIs w.heap.size 55 20 f)/\w'.rowIs (w.heap.size+1) 55 20 (G7 4 k)) (λi _=>4 - (intOf i).toNat)
   case atStart=>exact ⟨0,by omega,rfl,Hb.out,Hz.out,⟨_,Hf.out⟩,Hr.out⟩
   case round =>
    clear Hb Hf Hr Hz;obtain ⟨k,hk,rfl,hb,hz,⟨f0,hf0⟩,hr⟩:=hrel
    by_cases hlt:k<4
    ·have c1:=hr.cell (i:=11+k*2) (by omega);have c2:=hr.frozen;have Hb:Hid (Below w.heap.size w wr):=hb;have Hf:Hid (wr.rowIs w.heap.size 55 20 f0):=hf0;have Hr:Hid (wr.rowIs (w.heap.size+1) 55 20 (G7 4 k)):=hr;have Hz:Hid (wr.heap.size=w.heap.size+2):=hz;clear hb hf0 hr hz
     go_wp2
     refine ⟨⟨k+1,by omega,by go_num,Hb.out.setCell (by simp) _,by rw [t9];exact Hz.out,⟨f0,Hf.out.setOther (by simp) _⟩,(Hr.out.set _ _).congr λj hj=>a7v k j hlt⟩,by simp [intOf];omega⟩
    ·obtain rfl:k=4:=by omega
     have Hb:Hid (Below w.heap.size w wr):=hb;have Hf:Hid (wr.rowIs w.heap.size 55 20 f0):=hf0;have Hr:Hid (wr.rowIs (w.heap.size+1) 55 20 (G7 4 4)):=hr;clear hb hf0 hr hz;obtain ⟨cs,hcs⟩:∃ cs,cs=(List.range 20).map (G7 4 4):=⟨_,rfl⟩;have Hc:Hid (cs=(List.range 20).map (G7 4 4)):=hcs;have hlen:cs.length=20:=by rw [hcs];rfl
     have HL:Hid (wr.rangeAt (w.heap.size+1) 0 cs):=by
      have:=y7 Hr.out (o:=0) (m:=20) (by omega);simp only [Nat.zero_add] at this;unfold Hid;rw [hcs];exact this
     have HT:Hid (wr.there w.heap.size 0 cs.toArray.size):=B5 Hf.out (by simp [hlen]);have Hi:Hid ((Tryd.prog.info? 55).map (·.size)=some cs.length):=by unfold Hid;rw [hlen];kernel_rfl
     have Hi2:Hid ((Tryd.prog.info? 55).map (·.size)=some cs.toArray.size):=by unfold Hid;rw [List.size_toArray,hlen];kernel_rfl
     have H1:Hid (cs.toArray.all (·.oneCell')=true):=by unfold Hid;rw [hcs];kernel_rfl
     have HL2:Hid ((wr.setCells w.heap.size 0 cs).rangeAt w.heap.size 0 cs):=World.rangeAt_setCells_same wr w.heap.size 0 cs (by rw [hlen];exact B5 Hf.out (by omega));clear hcs hlen
     go_wp2_with (first|(refine wpList_load_mid rfl 55 _ rfl (w.heap.size+1) 0 rfl cs _ HL.out Tryd.underlying55 rfl Hi.out ?_)|(refine wpList_store_mid rfl 55 _ _ rfl w.heap.size 0 cs.toArray rfl rfl HT.out Hi2.out H1.out ?_))
     refine bodyPost_ret (v:=.agg cs.toArray) (T5 Tryd.results27 _ _ w.heap.size cs _ rfl HL2.out Tryd.underlying55 rfl Hi.out) rfl ⟨by rw [Hc.out];rfl,A0 (Nat.le_refl _) _ _ Hb.out⟩
theorem P4 {w:World}{b t:Nat}{vs:List Value}(h:w.heap[b]?=some (.cells vs.toArray t (0,0))):w.rangeAt b 0 vs:=λj v hv=>by
 rw [cell_of_row w b (0+j) vs.toArray t (0,0) h];simpa using hv
theorem b4d:(Tryd.prog.info? 75).map (λi=>(i.zero,i.size,i.bytes))=some (some (.agg #[.int .i64 0,.int .i64 0,.int .i64 0,.int .i64 0,.int .i64 0,.int .i64 0]),6,48):=by kernel_rfl
theorem a8a (n:Nat)(hn:n<=32)(w:World):∃ C:Array Value,C.size=n*6/\(Instr.makeSlice 41 (.int .i64 n) (.int .i64 n)).run Tryd.prog w=.ok (.slice (some ⟨w.heap.size,0,none⟩) n n) (w.alloc (.cells C 75)):=by
 have hinfo:=b4d
 cases hq:Tryd.prog.info? 75 with
 | none=>rw [hq] at hinfo;cases hinfo
 | some i =>
  rw [hq] at hinfo;simp only [Option.map_some,Option.some.injEq,Prod.mk.injEq] at hinfo;obtain ⟨hz,hs,hb⟩:=hinfo;have:=run_make (P:=Tryd.prog) w 41 75 i _ Tryd.underlying41 hq hz .i64 .i64 n n (by omega) (by omega) (by rw [hb];omega) (by omega);rw [hs] at this;exact ⟨_,size_madeCells _ _,this⟩
theorem a5w (n:Nat)(hn:n<=32)(vs:List Value)(hlen:vs.length=6)(h1:vs.toArray.all (·.oneCell')=true)(w:World) :
  Calls Tryd.prog 25 #[.int .i64 n,.agg vs.toArray] w λe w'=>e=.returned (.slice (some ⟨w.heap.size+1,0,none⟩) n n)/\Below w.heap.size w w'/\w'.heap.size=w.heap.size+2/\w'.rowIs (w.heap.size+1) 75 (n*6) (λj=>vs.getD (j % 6) (.bool false)):=by
 have Hl:Hid (vs.length=6):=hlen;have Hi:Hid ((Tryd.prog.info? 75).map (·.size)=some vs.length):=by unfold Hid;rw [hlen];kernel_rfl
 have Hi2:Hid ((Tryd.prog.info? 75).map (·.size)=some vs.toArray.size):=by unfold Hid;rw [List.size_toArray,hlen];kernel_rfl
 have H1:Hid (vs.toArray.all (·.oneCell')=true):=h1;obtain ⟨C,hC,hmk⟩:=a8a n hn (w.alloc (.cells vs.toArray 75));have hsz:(w.alloc (.cells vs.toArray 75)).heap.size=w.heap.size+1:=by simp
 rw [hsz] at hmk;have HC:Hid (C.size=n*6):=hC;clear hlen h1 hC hsz
 go_enter Tryd.func25,Tryd.ntmps25
 go_wp2
 go_loopw [11] (λi w'=>∃ k:Nat,k<=n/\i=.int .i64 k/\Below w.heap.size w w'/\w'.heap.size=w.heap.size+2/\w'.heap[w.heap.size]?=some (.cells vs.toArray 75 (0,0))/\∃ f,w'.rowIs (w.heap.size+1) 75 (n*6) f/\∀ j,j<k*6->f j=vs.getD (j % 6) (.bool false)) (λi _=>n - (intOf i).toNat)
 case atStart =>
  refine ⟨0,by omega,rfl,((Below.refl _ _).alloc (Nat.le_refl _) _).alloc (by simp) _,by simp,?_,(λj=>C.getD j (.bool false)),?_,λj hj=>by omega⟩
  ·rw [Below.heap_alloc _ _ _ (by simp)];exact heap_alloc_new w _
  ·have:=Y0 w (.cells vs.toArray 75) C 75;rw [HC.out] at this;exact this
 case round =>
  obtain ⟨k,hk,rfl,hb,hz,hx,f,hr,hf⟩:=hrel;have Hb:Hid (Below w.heap.size w wr):=hb;have Hz:Hid (wr.heap.size=w.heap.size+2):=hz;have Hx:Hid (wr.heap[w.heap.size]?=some (.cells vs.toArray 75 (0,0))):=hx;have Hr:Hid (wr.rowIs (w.heap.size+1) 75 (n*6) f):=hr;have Hf:Hid (∀ j,j<k*6->f j=vs.getD (j % 6) (.bool false)):=hf;clear hb hz hx hr hf
  by_cases hlt:k<n
  ·have HL:Hid (wr.rangeAt w.heap.size 0 vs):=P4 Hx.out;have HT:Hid (wr.there (w.heap.size+1) (k*6) vs.toArray.size):=B5 Hr.out (by rw [List.size_toArray,Hl.out];omega)
   go_wp2_with (first|(refine wpList_load_mid rfl 75 _ rfl w.heap.size 0 rfl vs _ HL.out Tryd.underlying75 rfl Hi.out ?_)|(refine wpList_store_mid rfl 75 _ _ rfl (w.heap.size+1) (k*6) vs.toArray rfl rfl HT.out Hi2.out H1.out ?_))
   refine ⟨⟨k+1,by omega,by go_num,A0 (by omega) _ _ Hb.out,by rw [u9];exact Hz.out,by rw [E7 (by omega)];exact Hx.out,_,B8 _ _ Hr.out,λj hj=>?_⟩,by simp [intOf];omega⟩;have hl:=Hl.out
   by_cases e:k*6<=j/\j<k*6+vs.length
   ·rw [if_pos (by simpa using e),show j - k*6=j % 6 by omega]
   ·rw [if_neg (by simpa using e)];exact Hf.out j (by omega)
  ·obtain rfl:k=n:=by omega
   go_wp2
   go_ret
   exact ⟨rfl,Hb.out,Hz.out,Hr.out.congr λj hj=>Hf.out j hj⟩
theorem b6L:(Tryd.prog.info? 55).map (λi=>(i.zero,i.size,i.bytes))=some (some (.agg #[.int .i64 0,.int .i64 0,.int .i64 0,.int .i64 0,.bool false,.int .i64 0,.bool false,.int .i64 0,.bool false,.int .i64 0,.bool false,.int .i64 0,.bool false,.int .i64 0,.bool false,.int .i64 0,.bool false,.int .i64 0,.bool false,.int .i64 0]),20,160):=by kernel_rfl
theorem b0h (n:Nat)(hn:n<=32)(w:World):∃ C:Array Value,C.size=n*20/\(Instr.makeSlice 42 (.int .i64 n) (.int .i64 n)).run Tryd.prog w=.ok (.slice (some ⟨w.heap.size,0,none⟩) n n) (w.alloc (.cells C 55)):=by
 have hinfo:=b6L
 cases hq:Tryd.prog.info? 55 with
 | none=>rw [hq] at hinfo;cases hinfo
 | some i =>
  rw [hq] at hinfo;simp only [Option.map_some,Option.some.injEq,Prod.mk.injEq] at hinfo;obtain ⟨hz,hs,hb⟩:=hinfo;have:=run_make (P:=Tryd.prog) w 42 55 i _ Tryd.underlying42 hq hz .i64 .i64 n n (by omega) (by omega) (by rw [hb];omega) (by omega);rw [hs] at this;exact ⟨_,size_madeCells _ _,this⟩
theorem a6v (n:Nat)(hn:n<=32)(vs:List Value)(hlen:vs.length=20)(h1:vs.toArray.all (·.oneCell')=true)(w:World) :
  Calls Tryd.prog 26 #[.int .i64 n,.agg vs.toArray] w λe w'=>e=.returned (.slice (some ⟨w.heap.size+1,0,none⟩) n n)/\Below w.heap.size w w'/\w'.heap.size=w.heap.size+2/\w'.rowIs (w.heap.size+1) 55 (n*20) (λj=>vs.getD (j % 20) (.bool false)):=by
 have Hl:Hid (vs.length=20):=hlen;have Hi:Hid ((Tryd.prog.info? 55).map (·.size)=some vs.length):=by unfold Hid;rw [hlen];kernel_rfl
 have Hi2:Hid ((Tryd.prog.info? 55).map (·.size)=some vs.toArray.size):=by unfold Hid;rw [List.size_toArray,hlen];kernel_rfl
 have H1:Hid (vs.toArray.all (·.oneCell')=true):=h1;obtain ⟨C,hC,hmk⟩:=b0h n hn (w.alloc (.cells vs.toArray 55));have hsz:(w.alloc (.cells vs.toArray 55)).heap.size=w.heap.size+1:=by simp
 rw [hsz] at hmk;have HC:Hid (C.size=n*20):=hC;clear hlen h1 hC hsz
 go_enter Tryd.func26,Tryd.ntmps26
 go_wp2
 go_loopw [11] (λi w'=>∃ k:Nat,k<=n/\i=.int .i64 k/\Below w.heap.size w w'/\w'.heap.size=w.heap.size+2/\w'.heap[w.heap.size]?=some (.cells vs.toArray 55 (0,0))/\∃ f,w'.rowIs (w.heap.size+1) 55 (n*20) f/\∀ j,j<k*20->f j=vs.getD (j % 20) (.bool false)) (λi _=>n - (intOf i).toNat)
 case atStart =>
  refine ⟨0,by omega,rfl,((Below.refl _ _).alloc (Nat.le_refl _) _).alloc (by simp) _,by simp,?_,(λj=>C.getD j (.bool false)),?_,λj hj=>by omega⟩
  ·rw [Below.heap_alloc _ _ _ (by simp)];exact heap_alloc_new w _
  ·have:=Y0 w (.cells vs.toArray 55) C 55;rw [HC.out] at this;exact this
 case round =>
  obtain ⟨k,hk,rfl,hb,hz,hx,f,hr,hf⟩:=hrel;have Hb:Hid (Below w.heap.size w wr):=hb;have Hz:Hid (wr.heap.size=w.heap.size+2):=hz;have Hx:Hid (wr.heap[w.heap.size]?=some (.cells vs.toArray 55 (0,0))):=hx;have Hr:Hid (wr.rowIs (w.heap.size+1) 55 (n*20) f):=hr;have Hf:Hid (∀ j,j<k*20->f j=vs.getD (j % 20) (.bool false)):=hf;clear hb hz hx hr hf
  by_cases hlt:k<n
  ·have HL:Hid (wr.rangeAt w.heap.size 0 vs):=P4 Hx.out;have HT:Hid (wr.there (w.heap.size+1) (k*20) vs.toArray.size):=B5 Hr.out (by rw [List.size_toArray,Hl.out];omega)
   go_wp2_with (first|(refine wpList_load_mid rfl 55 _ rfl w.heap.size 0 rfl vs _ HL.out Tryd.underlying55 rfl Hi.out ?_)|(refine wpList_store_mid rfl 55 _ _ rfl (w.heap.size+1) (k*20) vs.toArray rfl rfl HT.out Hi2.out H1.out ?_))
   refine ⟨⟨k+1,by omega,by go_num,A0 (by omega) _ _ Hb.out,by rw [u9];exact Hz.out,by rw [E7 (by omega)];exact Hx.out,_,B8 _ _ Hr.out,λj hj=>?_⟩,by simp [intOf];omega⟩;have hl:=Hl.out
   by_cases e:k*20<=j/\j<k*20+vs.length
   ·rw [if_pos (by simpa using e),show j - k*20=j % 20 by omega]
   ·rw [if_neg (by simpa using e)];exact Hf.out j (by omega)
  ·obtain rfl:k=n:=by omega
   go_wp2
   go_ret
   exact ⟨rfl,Hb.out,Hz.out,Hr.out.congr λj hj=>Hf.out j hj⟩
theorem b6M:(Tryd.prog.info? 84).map (λi=>(i.zero,i.size,i.bytes))=some (some (.agg #[.int .i64 0,.int .i64 0,.int .i64 0,.int .i64 0,.int .i64 0]),5,40):=by kernel_rfl
theorem b0i (n:Nat)(hn:n<=32)(w:World):∃ C:Array Value,C.size=n*5/\(Instr.makeSlice 43 (.int .i64 n) (.int .i64 n)).run Tryd.prog w=.ok (.slice (some ⟨w.heap.size,0,none⟩) n n) (w.alloc (.cells C 84)):=by
 have hinfo:=b6M
 cases hq:Tryd.prog.info? 84 with
 | none=>rw [hq] at hinfo;cases hinfo
 | some i =>
  rw [hq] at hinfo;simp only [Option.map_some,Option.some.injEq,Prod.mk.injEq] at hinfo;obtain ⟨hz,hs,hb⟩:=hinfo;have:=run_make (P:=Tryd.prog) w 43 84 i _ Tryd.underlying43 hq hz .i64 .i64 n n (by omega) (by omega) (by rw [hb];omega) (by omega);rw [hs] at this;exact ⟨_,size_madeCells _ _,this⟩
theorem a6w (n:Nat)(hn:n<=32)(vs:List Value)(hlen:vs.length=5)(h1:vs.toArray.all (·.oneCell')=true)(w:World) :
  Calls Tryd.prog 28 #[.int .i64 n,.agg vs.toArray] w λe w'=>e=.returned (.slice (some ⟨w.heap.size+1,0,none⟩) n n)/\Below w.heap.size w w'/\w'.heap.size=w.heap.size+2/\w'.rowIs (w.heap.size+1) 84 (n*5) (λj=>vs.getD (j % 5) (.bool false)):=by
 have Hl:Hid (vs.length=5):=hlen;have Hi:Hid ((Tryd.prog.info? 84).map (·.size)=some vs.length):=by unfold Hid;rw [hlen];kernel_rfl
 have Hi2:Hid ((Tryd.prog.info? 84).map (·.size)=some vs.toArray.size):=by unfold Hid;rw [List.size_toArray,hlen];kernel_rfl
 have H1:Hid (vs.toArray.all (·.oneCell')=true):=h1;obtain ⟨C,hC,hmk⟩:=b0i n hn (w.alloc (.cells vs.toArray 84));have hsz:(w.alloc (.cells vs.toArray 84)).heap.size=w.heap.size+1:=by simp
 rw [hsz] at hmk;have HC:Hid (C.size=n*5):=hC;clear hlen h1 hC hsz
 go_enter Tryd.func28,Tryd.ntmps28
 go_wp2
 go_loopw [11] (λi w'=>∃ k:Nat,k<=n/\i=.int .i64 k/\Below w.heap.size w w'/\w'.heap.size=w.heap.size+2/\w'.heap[w.heap.size]?=some (.cells vs.toArray 84 (0,0))/\∃ f,w'.rowIs (w.heap.size+1) 84 (n*5) f/\∀ j,j<k*5->f j=vs.getD (j % 5) (.bool false)) (λi _=>n - (intOf i).toNat)
 case atStart =>
  refine ⟨0,by omega,rfl,((Below.refl _ _).alloc (Nat.le_refl _) _).alloc (by simp) _,by simp,?_,(λj=>C.getD j (.bool false)),?_,λj hj=>by omega⟩
  ·rw [Below.heap_alloc _ _ _ (by simp)];exact heap_alloc_new w _
  ·have:=Y0 w (.cells vs.toArray 84) C 84;rw [HC.out] at this;exact this
 case round =>
  obtain ⟨k,hk,rfl,hb,hz,hx,f,hr,hf⟩:=hrel;have Hb:Hid (Below w.heap.size w wr):=hb;have Hz:Hid (wr.heap.size=w.heap.size+2):=hz;have Hx:Hid (wr.heap[w.heap.size]?=some (.cells vs.toArray 84 (0,0))):=hx;have Hr:Hid (wr.rowIs (w.heap.size+1) 84 (n*5) f):=hr;have Hf:Hid (∀ j,j<k*5->f j=vs.getD (j % 5) (.bool false)):=hf;clear hb hz hx hr hf
  by_cases hlt:k<n
  ·have HL:Hid (wr.rangeAt w.heap.size 0 vs):=P4 Hx.out;have HT:Hid (wr.there (w.heap.size+1) (k*5) vs.toArray.size):=B5 Hr.out (by rw [List.size_toArray,Hl.out];omega)
   go_wp2_with (first|(refine wpList_load_mid rfl 84 _ rfl w.heap.size 0 rfl vs _ HL.out Tryd.underlying84 rfl Hi.out ?_)|(refine wpList_store_mid rfl 84 _ _ rfl (w.heap.size+1) (k*5) vs.toArray rfl rfl HT.out Hi2.out H1.out ?_))
   refine ⟨⟨k+1,by omega,by go_num,A0 (by omega) _ _ Hb.out,by rw [u9];exact Hz.out,by rw [E7 (by omega)];exact Hx.out,_,B8 _ _ Hr.out,λj hj=>?_⟩,by simp [intOf];omega⟩;have hl:=Hl.out
   by_cases e:k*5<=j/\j<k*5+vs.length
   ·rw [if_pos (by simpa using e),show j - k*5=j % 5 by omega]
   ·rw [if_neg (by simpa using e)];exact Hf.out j (by omega)
  ·obtain rfl:k=n:=by omega
   go_wp2
   go_ret
   exact ⟨rfl,Hb.out,Hz.out,Hr.out.congr λj hj=>Hf.out j hj⟩
attribute [local go_sem ↓] Go.wp_at_zero Go.wp_at_succ
theorem b6N {w:World}{bk bf bs bd tk tf ts td nF nS nD:Nat}(hk:w.heap[bk]?=some (.cells #[.slice (some ⟨bf,0,none⟩) nF nF,.slice (some ⟨bs,0,none⟩) nS nS,.slice (some ⟨bd,0,none⟩) nD nD] tk (0,0)))
  (rf:w.rowIs bf tf (nF*6) (λj=>([.int .i64 0,.int .i64 (-1),.int .i64 0,.int .i64 0,.int .i64 0,.int .i64 0]:List Value).getD (j % 6) (.bool false)))
  (rs:w.rowIs bs ts (nS*20) (λj=>X6.getD (j % 20) (.bool false)))
  (rd:w.rowIs bd td (nD*5) (λj=>([.int .i64 (-1),.int .i64 0,.int .i64 0,.int .i64 0,.int .i64 0]:List Value).getD (j % 5) (.bool false)))
  (kf:bk≠bf)(ks:bk≠bs)(kd:bk≠bd)(fs:bf≠bs)(fd:bf≠bd)(sd:bs≠bd)(hF:nF<=32)(hS:nS<=6)(hD:nD<=4):Rep w bk bf bs bd (W5 nF nS nD):=by
 have lk:bk<w.heap.size:=(Array.getElem?_eq_some_iff.1 hk).1;refine ⟨?_,?_,?_,?_,?_,?_,?_,rf.frozen,rs.frozen,rd.frozen,lk,rf.lt,rs.lt,rd.lt,kf,ks,kd,fs,fd,sd,hF,hS,hD⟩
 ·rw [cell_of_row w bk 0 _ _ _ hk];rfl
 ·rw [cell_of_row w bk 1 _ _ _ hk];rfl
 ·rw [cell_of_row w bk 2 _ _ _ hk];rfl
 ·intro i c hi hc;have hi':i<nF:=hi;rw [rf.cell (by omega),show (i*6+c) % 6=c by omega];obtain rfl|rfl|rfl|rfl|rfl|rfl:c=0\/c=1\/c=2\/c=3\/c=4\/c=5:=by omega
  all_goals rfl
 ·intro i c hi hc hb;have hi':i<nS:=hi;rw [rs.cell (by omega),show (i*20+c) % 20=c by omega];obtain rfl|rfl|rfl|rfl|rfl|rfl|rfl|rfl|rfl|rfl|rfl|rfl:c=0\/c=1\/c=2\/c=3\/c=5\/c=7\/c=9\/c=11\/c=13\/c=15\/c=17\/c=19:=by unfold isB at hb;omega
  all_goals rfl
 ·intro i c hi hb;have hi':i<nS:=hi;have hc:c<20:=by unfold isB at hb;omega
  rw [rs.cell (by omega),show (i*20+c) % 20=c by omega];obtain rfl|rfl|rfl|rfl|rfl|rfl|rfl|rfl:c=4\/c=6\/c=8\/c=10\/c=12\/c=14\/c=16\/c=18:=by unfold isB at hb;omega
  all_goals rfl
 ·intro i c hi hc;have hi':i<nD:=hi;rw [rd.cell (by omega),show (i*5+c) % 5=c by omega];obtain rfl|rfl|rfl|rfl|rfl:c=0\/c=1\/c=2\/c=3\/c=4:=by omega
  all_goals rfl
theorem b4e {w:World}{bk bf bs bd:Nat}{K:Ker}(R:Rep w bk bf bs bd K){i:Nat}{q:Int}(kd ow:Int)(hq:q=i)(hi:i<K.nF) :
  Calls Tryd.prog 29 #[.pointer (some ⟨bk,0,none⟩),.int .i64 q,.int .i64 kd,.int .i64 ow] w λe w'=>e=.returned (.tuple #[])/\Rep w' bk bf bs bd (K.become i kd ow)/\Keeps bf bs bd w w':=by
 subst hq;exact P1 R kd ow hi
theorem b2V (nF nS nD:Nat)(h1:2<=nF)(h2:nF<=32)(h3:1<=nS)(h4:nS<=6)(h5:nD<=4)(w:World) :
  Calls Tryd.prog 10 #[.agg #[.int .i64 nF,.int .i64 nS,.int .i64 nD]] w λe w'=>∃ bk bf bs bd,e=.returned (.tuple #[.pointer (some ⟨bk,0,none⟩),.int .i64 0])/\Rep w' bk bf bs bd (D7 nF nS nD)/\Below w.heap.size w w'/\w.heap.size<=bk/\w.heap.size<=bf/\w.heap.size<=bs/\w.heap.size<=bd:=by
 have e1:P7 nF 2 32=true:=by unfold P7;simp;omega
 have e2:P7 nS 1 6=true:=by unfold P7;simp;omega
 have e3:P7 nD 0 4=true:=by unfold P7;simp;omega
 go_enter Tryd.func10,Tryd.ntmps10
 go_wp2_with fail
 refine (a3t _ _ _ _).mono ?_;rintro e w1 ⟨rfl,rfl⟩
 go_wp2_with fail
 refine (a3t _ _ _ _).mono ?_;rintro e w1 ⟨rfl,rfl⟩
 go_wp2_with fail
 refine (a3t _ _ _ _).mono ?_;rintro e w1 ⟨rfl,rfl⟩
 go_wp2_with fail
 go_region_held3 (λw'=>w'.cell? ⟨w.heap.size,0,none⟩=some (.int .i64 nF)/\w'.cell? ⟨w.heap.size,1,none⟩=some (.int .i64 nS)/\w'.cell? ⟨w.heap.size,2,none⟩=some (.int .i64 nD)) (go_keep)
  (first|(go_at_call 25;go_must (refine (a5w nF h2 [.int .i64 0,.int .i64 (-1),.int .i64 0,.int .i64 0,.int .i64 0,.int .i64 0] rfl (by kernel_rfl) _).mono ?_);rintro e w1 ⟨rfl,b1,z1,r1⟩;go_must (have q1:=λo=>b1.cell (p:=⟨w.heap.size,o,none⟩) (by simp)))|(go_at_call 27;refine (a3d _).mono ?_;rintro e w2 ⟨rfl,b2⟩;have q2:=λo=>b2.cell (p:=⟨w.heap.size,o,none⟩) (by rw [z1];simp;omega);have z2:=b2.size)|(go_at_call 26;refine (a6v nS (by omega) X6 J7 a3c _).mono ?_;rintro e w3 ⟨rfl,b3,z3,r3⟩;have q3:=λo=>b3.cell (p:=⟨w.heap.size,o,none⟩) (by rw [z1] at z2;simp at z2;show w.heap.size<_;omega))|(go_at_call 28;refine (a6w nD (by omega) [.int .i64 (-1),.int .i64 0,.int .i64 0,.int .i64 0,.int .i64 0] rfl (by kernel_rfl) _).mono ?_;rintro e w4 ⟨rfl,b4,z4,r4⟩;have q4:=λo=>b4.cell (p:=⟨w.heap.size,o,none⟩) (by rw [z1] at z2;simp at z2;show w.heap.size<_;omega)))
 have y1:w1.heap.size=w.heap.size+3:=by rw [z1];show (w.alloc _).heap.size+2=_;simp
 have y2:w.heap.size+3<=w2.heap.size:=by omega
 have r1':=r1;rw [show ((w.alloc (.cells #[.int .i64 nF,.int .i64 nS,.int .i64 nD] 30)).drew.heap.size+1)=w.heap.size+2 from by show (w.alloc _).heap.size+1=_;simp] at r1';have x1:=((r1'.of_block (b2.block _ (by omega))).of_block (b3.block _ (by omega))).of_block (b4.block _ (by omega));have x3:=r3.of_block (b4.block _ (by omega));have HB:Hid (Below w.heap.size w w4):=by
  have b0:Below w.heap.size w (w.alloc (.cells #[.int .i64 nF,.int .i64 nS,.int .i64 nD] 30)).drew:=((Below.refl _ _).alloc (Nat.le_refl _) _).drew;exact (((b0.trans (b1.mono (by show _<=(w.alloc _).heap.size;simp))).trans (b2.mono (by omega))).trans (b3.mono (by omega))).trans (b4.mono (by omega))
 have y4:w4.heap.size=w2.heap.size+2+2:=by omega
 have r4':=r4;rw [show w3.heap.size+1=w2.heap.size+2+1 by omega] at r4';have hk4:=heap_alloc_new w4 (.cells #[.slice (some ⟨w.heap.size+1+1,0,none⟩) nF nF,.slice (some ⟨w2.heap.size+1,0,none⟩) nS nS,.slice (some ⟨w2.heap.size+2+1,0,none⟩) nD nD] 86);rw [y4] at hk4;have HR:Hid (Rep (w4.alloc (.cells #[.slice (some ⟨w.heap.size+1+1,0,none⟩) nF nF,.slice (some ⟨w2.heap.size+1,0,none⟩) nS nS,.slice (some ⟨w2.heap.size+2+1,0,none⟩) nD nD] 86)) (w2.heap.size+2+2) (w.heap.size+1+1) (w2.heap.size+1) (w2.heap.size+2+1) (W5 nF nS nD)) :=
  b6N hk4 (x1.alloc _) (x3.alloc _) (r4'.alloc _) (by omega) (by omega) (by omega) (by omega) (by omega) (by omega) h2 h4 h5
 have HB':Hid (Below w.heap.size w (w4.alloc (.cells #[.slice (some ⟨w.heap.size+1+1,0,none⟩) nF nF,.slice (some ⟨w2.heap.size+1,0,none⟩) nS nS,.slice (some ⟨w2.heap.size+2+1,0,none⟩) nD nD] 86))):=HB.out.alloc (by omega) _;have Hz:Hid (w.heap.size+1+1<w4.heap.size):=by unfold Hid;omega
 have Hy:Hid (w.heap.size+3<=w2.heap.size):=y2;clear b1 z1 r1 q1 b2 q2 z2 b3 z3 r3 q3 b4 z4 r4 q4 y1 y2 r1' x1 x3 y4 r4' hk4
 go_wp2_with fail
 refine (b4e (i:=0) HR.out 1 0 rfl (show 0<nF by omega)).mono ?_;rintro e w5 ⟨rfl,R5,k5⟩;have s0:0<((W5 nF nS nD).become 0 1 0).nS:=by show 0<nS;omega
 have s1:((W5 nF nS nD).become 0 1 0).nS<=6:=h4;have p1:=R5.k1;have p2:=R5.sk s0;have p3:=R5.st s0;simp only [Nat.zero_mul,Nat.zero_add] at p2 p3;have p4:=R5.zs;have HR5:Hid _:=R5;have Hk5:Hid _:=k5;clear R5 k5;generalize hK1:(W5 nF nS nD).become 0 1 0=K1 at *;have HK1:Hid (_=K1):=hK1;clear hK1
 go_wp2
 go_ret2
 have h:=Hy.out;have h':=Hz.out;refine ⟨w2.heap.size+2+2,w.heap.size+1+1,w2.heap.size+1,w2.heap.size+2+1,rfl,?_,?_,?_,?_,?_,?_⟩
 ·unfold D7;rw [HK1.out];exact (HR5.out.setS (c:=0) s0 (by omega) a2g rfl 2).setS (c:=2) s0 (by omega) a6e rfl 0
 ·exact ((HB'.out.trans (Hk5.out.below (by simp;omega) (by omega) (by omega) (by omega))).setCell (by show w.heap.size<=w2.heap.size+1;omega) _).setCell (by show w.heap.size<=w2.heap.size+1;omega) _
 all_goals omega
section
variable {bk bf bs bd:Nat} {K:Ker} {w:World}
theorem v7 {K:Ker}{t a:Int}(h:y9 K t a=true)(ht:t≠0):∃ n:Nat,a=n/\(n:Int)<q9 K t:=by
 unfold y9 at h;simp [ht] at h;exact ⟨a.toNat,by omega,by omega⟩
def Six (n:Int):Prop:=n=2\/n=13\/n=16\/n=17\/n=18\/n=19
theorem b6O (R:Rep w bk bf bs bd K)(G:Good K)(slot call a b c:Int)(h6:Six call)(s n:Nat)(h1:slot=s)(h2:call=n)(hs:s<K.nS)
  (hf:y9 K ((i9 n).getD 0 0) a=true/\y9 K ((i9 n).getD 1 0) b=true/\y9 K ((i9 n).getD 2 0) c=true) :
  Calls Tryd.prog 32 #[.pointer (some ⟨bk,0,none⟩),.int .i64 slot,.int .i64 call,.agg #[.int .i64 a,.int .i64 b,.int .i64 c]] w (Ends bk bf bs bd w (kDo K s n a b c)):=by
 obtain ⟨f0,f1,f2⟩:=hf;subst h1;rcases h6 with h|h|h|h|h|h
 ·obtain rfl:n=2:=by omega
  subst h2;obtain ⟨a',rfl,ha⟩:=v7 (t:=4) f0 (by decide);obtain ⟨b',rfl,hb⟩:=v7 (t:=1) f1 (by decide);exact c0U R c hs (by have h4:q9 K 4=4:=rfl;omega) (by have h4:q9 K 1=K.nF:=rfl;omega)
 ·obtain rfl:n=13:=by omega
  subst h2;obtain ⟨a',rfl,ha⟩:=v7 (t:=3) f0 (by decide);obtain ⟨b',rfl,hb⟩:=v7 (t:=1) f1 (by decide);obtain ⟨c',rfl,hc⟩:=v7 (t:=5) f2 (by decide);exact b9L R G hs (by have h4:q9 K 3=K.nD:=rfl;omega) (by have h4:q9 K 1=K.nF:=rfl;omega) (by have h4:q9 K 5=4:=rfl;omega)
 ·obtain rfl:n=16:=by omega
  subst h2;obtain ⟨a',rfl,ha⟩:=v7 (t:=5) f0 (by decide);obtain ⟨b',rfl,hb⟩:=v7 (t:=4) f1 (by decide);obtain ⟨c',rfl,hc⟩:=v7 (t:=6) f2 (by decide);exact b8d R G hs (by have h4:q9 K 5=4:=rfl;omega) (by have h4:q9 K 4=4:=rfl;omega) (by have h4:q9 K 6=4:=rfl;omega)
 ·obtain rfl:n=17:=by omega
  subst h2;obtain ⟨a',rfl,ha⟩:=v7 (t:=5) f0 (by decide);obtain ⟨b',rfl,hb⟩:=v7 (t:=4) f1 (by decide);obtain ⟨c',rfl,hc⟩:=v7 (t:=6) f2 (by decide);exact b9M R G hs (by have h4:q9 K 5=4:=rfl;omega) (by have h4:q9 K 4=4:=rfl;omega) (by have h4:q9 K 6=4:=rfl;omega)
 ·obtain rfl:n=18:=by omega
  subst h2;obtain ⟨a',rfl,ha⟩:=v7 (t:=4) f0 (by decide);obtain ⟨b',rfl,hb⟩:=v7 (t:=6) f1 (by decide);exact b9N R G c hs (by have h4:q9 K 4=4:=rfl;omega) (by have h4:q9 K 6=4:=rfl;omega)
 ·obtain rfl:n=19:=by omega
  subst h2;obtain ⟨a',rfl,ha⟩:=v7 (t:=4) f0 (by decide);obtain ⟨b',rfl,hb⟩:=v7 (t:=6) f1 (by decide);exact b8e R G c hs (by have h4:q9 K 4=4:=rfl;omega) (by have h4:q9 K 6=4:=rfl;omega)
theorem a4e (R:Rep w bk bf bs bd K)(T:Tab w)(G:Good K)(slot call a b c:Int)(h6:Six call){r:Out}(hr:o8 K slot call a b c=r) :
  Calls Tryd.prog 11 #[.pointer (some ⟨bk,0,none⟩),.int .i64 slot,.int .i64 call,.agg #[.int .i64 a,.int .i64 b,.int .i64 c]] w (Ends bk bf bs bd w r):=by
 subst hr;exact a9p R T slot call a b c (λs n h1 h2 hs _ hf w1 R1=>b6O R1 G slot call a b c h6 s n h1 h2 hs hf)
end
section
variable {bk bf bs bd:Nat} {K:Ker} {w:World}
theorem B2 (R:Rep w bk bf bs bd K){s c:Nat}(hc:c<K.nS) :
  Calls Tryd.prog 67 #[.pointer (some ⟨bk,0,none⟩),.int .i64 s,.int .i64 c] w λe w'=>e=.returned (.bool (K.embryo s c))/\w'=w:=by
 have HR:Hid (Rep w bk bf bs bd K):=R;have k1:=R.k1;have hn:=R.hS;have c0:=R.sk hc;clear R
 by_cases h1:K.S c 1=s
 ·have e1:(K.S c 1 == (s:Int))=true:=by simpa using h1
  have E:Hid (K.embryo s c=(K.S c 0 == 1)):=by unfold Ker.embryo Hid;rw [e1];simp
  go_enter Tryd.func67,Tryd.ntmps67
  go_wp2_with fail
  refine (P0 HR.out s hc).mono ?_;rintro e w1 ⟨rfl,rfl⟩
  go_wp2
  go_ret
  rw [E.out];exact ⟨rfl,rfl⟩
 ·have e1:(K.S c 1 == (s:Int))=false:=by simpa using h1
  have E:Hid (K.embryo s c=false):=by unfold Ker.embryo Hid;rw [e1];simp
  go_enter Tryd.func67,Tryd.ntmps67
  go_wp2_with fail
  refine (P0 HR.out s hc).mono ?_;rintro e w1 ⟨rfl,rfl⟩
  go_wp2
  go_ret
  rw [E.out];exact ⟨rfl,rfl⟩
theorem G0 (R:Rep w bk bf bs bd K){s c:Nat}(hc:c<K.nS) :
  Calls Tryd.prog 73 #[.pointer (some ⟨bk,0,none⟩),.int .i64 s,.int .i64 c] w λe w'=>e=.returned (.bool (K.still s c))/\w'=w:=by
 have HR:Hid (Rep w bk bf bs bd K):=R;have k1:=R.k1;have hn:=R.hS;have c0:=R.sk hc;clear R
 by_cases h1:K.S c 1=s
 ·have e1:(K.S c 1 == (s:Int))=true:=by simpa using h1
  by_cases h2:K.S c 0=1
  ·have e2:(K.S c 0 == 1)=true:=by simpa using h2
   have E:Hid (K.still s c=true):=by unfold Ker.still Hid;rw [e1,e2];simp
   clear h1 h2
   go_enter Tryd.func73,Tryd.ntmps73
   go_wp2_with fail
   refine (P0 HR.out s hc).mono ?_;rintro e w1 ⟨rfl,rfl⟩
   go_wp2
   go_ret
   rw [E.out];exact ⟨rfl,rfl⟩
  ·have e2:(K.S c 0 == 1)=false:=by simpa using h2
   have E:Hid (K.still s c=(K.S c 0 == 3)):=by unfold Ker.still Hid;rw [e1,e2];simp
   clear h1 h2
   go_enter Tryd.func73,Tryd.ntmps73
   go_wp2_with fail
   refine (P0 HR.out s hc).mono ?_;rintro e w1 ⟨rfl,rfl⟩
   go_wp2
   go_ret
   rw [E.out];exact ⟨rfl,rfl⟩
 ·have e1:(K.S c 1 == (s:Int))=false:=by simpa using h1
  have E:Hid (K.still s c=false):=by unfold Ker.still Hid;rw [e1];simp
  clear h1
  go_enter Tryd.func73,Tryd.ntmps73
  go_wp2_with fail
  refine (P0 HR.out s hc).mono ?_;rintro e w1 ⟨rfl,rfl⟩
  go_wp2
  go_ret
  rw [E.out];exact ⟨rfl,rfl⟩
theorem a4f (R:Rep w bk bf bs bd K){s p g:Nat}(hs:s<K.nS)(hp:p<4)(hg:K.page s p=g)(hl:g<K.nF) :
  Calls Tryd.prog 66 #[.pointer (some ⟨bk,0,none⟩),.int .i64 s,.int .i64 p] w λe w'=>e=.returned (.tuple #[])/\Rep w' bk bf bs bd (K.freePage s p)/\Keeps bf bs bd w w':=by
 have E:Hid (K.freePage s p=(K.become g 0 (-1)).setPage s p (-1) false):=by unfold Ker.freePage Hid;rw [hg,Int.toNat_natCast]
 have HR:Hid (Rep w bk bf bs bd K):=R;have k1:=R.k1;have hn:=R.hS;have c0:=R.pf hs hp;have hm:=R.hF;have hg':K.S s (3+p*2)=g:=hg;rw [hg'] at c0;clear R hg hg'
 go_enter Tryd.func66,Tryd.ntmps66
 go_wp2_with fail
 refine (P1 HR.out 0 (-1) hl).mono ?_;rintro e w1 ⟨rfl,R1,q1⟩;have r0:=R1.k1;have r1:=R1.pf hs hp;have r2:=R1.pw hs hp;have r3:=R1.zs;have r4:s<(K.become g 0 (-1)).nS:=hs;have r5:=R1.hS;have HR1:Hid _:=R1;have Hq1:Hid _:=q1;clear R1 q1;generalize K.become g 0 (-1)=K1 at *
 go_wp2
 go_end0
 refine ⟨rfl,?_,((Hq1.out.setS _ _).setS _ _)⟩;rw [E.out];exact (HR1.out.setS r4 (by omega) (a3U p) (by omega) _).setB r4 (b6j p hp) (by omega) _
theorem b4f (R:Rep w bk bf bs bd K)(G:Good K){s p:Nat}(y z:Int)(hs:s<K.nS)(hp:p<4) :
  Calls Tryd.prog 46 #[.pointer (some ⟨bk,0,none⟩),.int .i64 s,.agg #[.int .i64 p,.int .i64 y,.int .i64 z]] w (Ends bk bf bs bd w (S6 K s p)):=by
 have HR:Hid (Rep w bk bf bs bd K):=R;clear R
 by_cases h1:K.page s p=-1
 ·have e1:(K.S s (3+p*2) != -1)=false:=by simpa [Ker.page] using h1
  have E:Hid (S6 K s p=⟨K,0,6⟩):=by unfold S6;simp [h1,Hid]
  clear h1
  go_enter Tryd.func46,Tryd.ntmps46
  go_wp2_with fail
  refine (s8 (HR.out.alloc _) hs hp).mono ?_;rintro e w1 ⟨rfl,rfl⟩
  go_wp2
  go_ret2
  exact Ends.mk E (HR.out.alloc _) ((Keeps.refl w).alloc _)
 ·have e1:(K.S s (3+p*2) != -1)=true:=by simpa [Ker.page] using h1
  obtain ⟨g,hg⟩:∃ g:Nat,K.page s p=g:=by rcases G.page s p hs hp with h|h;exact absurd h h1;exact ⟨(K.page s p).toNat,by omega⟩
  have hl:g<K.nF:=by rcases G.page s p hs hp with h|h;exact absurd h h1;omega
  have E:Hid (S6 K s p=⟨K.freePage s p,0,0⟩):=by unfold S6;simp [h1,Hid]
  have Hg:Hid (K.page s p=g):=hg;clear h1 hg
  go_enter Tryd.func46,Tryd.ntmps46
  go_wp2_with fail
  refine (s8 (HR.out.alloc _) hs hp).mono ?_;rintro e w1 ⟨rfl,rfl⟩
  go_wp2_with fail
  refine (a4f (HR.out.alloc _) hs hp Hg.out hl).mono ?_;rintro e w1 ⟨rfl,R1,q1⟩
  go_wp2
  go_ret2
  exact Ends.mk E R1 (((Keeps.refl w).alloc _).trans q1)
theorem b0j (R:Rep w bk bf bs bd K){s p:Nat}(y z:Int)(hs:s<K.nS)(hp:p<4) :
  Calls Tryd.prog 47 #[.pointer (some ⟨bk,0,none⟩),.int .i64 s,.agg #[.int .i64 p,.int .i64 y,.int .i64 z]] w (Ends bk bf bs bd w (D8 K s p y)):=by
 have HR:Hid (Rep w bk bf bs bd K):=R;have hn:=R.hS;have k1:=λo=>(HR.out.alloc o).k1;have c0:=λo=>(HR.out.alloc o).pw hs hp;have z0:=λo=>(HR.out.alloc o).zs;clear R
 by_cases h1:K.page s p=-1
 ·have e1:(K.S s (3+p*2) != -1)=false:=by simpa [Ker.page] using h1
  have E:Hid (D8 K s p y=⟨K,0,6⟩):=by unfold D8;simp [h1,Hid]
  clear h1
  go_enter Tryd.func47,Tryd.ntmps47
  go_wp2_with fail
  refine (s8 (HR.out.alloc _) hs hp).mono ?_;rintro e w1 ⟨rfl,rfl⟩
  go_wp2
  go_ret2
  exact Ends.mk E (HR.out.alloc _) ((Keeps.refl w).alloc _)
 ·have e1:(K.S s (3+p*2) != -1)=true:=by simpa [Ker.page] using h1
  have E:Hid (D8 K s p y=⟨K.setB s (4+p*2) (y != 0),0,0⟩):=by unfold D8;simp [h1,Hid]
  clear h1
  go_enter Tryd.func47,Tryd.ntmps47
  go_wp2_with fail
  refine (s8 (HR.out.alloc _) hs hp).mono ?_;rintro e w1 ⟨rfl,rfl⟩
  go_wp2
  all_goals (try go_region)
  all_goals (try go_wp2)
  all_goals
   go_ret2
   exact Ends.mk E ((HR.out.alloc _).drew.setB hs (b6j p hp) (by omega) _) ((((Keeps.refl w).alloc _).drew).setS _ _)
theorem b4g (R:Rep w bk bf bs bd K){s c:Nat}(y z:Int)(hs:s<K.nS)(hc:c<K.nS) :
  Calls Tryd.prog 51 #[.pointer (some ⟨bk,0,none⟩),.int .i64 s,.agg #[.int .i64 c,.int .i64 y,.int .i64 z]] w (Ends bk bf bs bd w (O9 K s c)):=by
 have HR:Hid (Rep w bk bf bs bd K):=R;have hn:=R.hS;have k1:=λo=>(HR.out.alloc o).k1;have c0:=λo=>(HR.out.alloc o).sk hc;have z0:=λo=>(HR.out.alloc o).zs;clear R
 by_cases h1:K.embryo s c=true
 ·have E:Hid (O9 K s c=⟨K.setS c 0 2,0,0⟩):=by unfold O9;simp [h1,Hid]
  go_enter Tryd.func51,Tryd.ntmps51
  go_wp2_with fail
  refine (B2 (HR.out.alloc _) hc).mono ?_;rintro e w1 ⟨rfl,rfl⟩
  go_wp2
  go_ret2
  exact Ends.mk E ((HR.out.alloc _).setS hc (by omega) a2g rfl _) (((Keeps.refl w).alloc _).setS _ _)
 ·have h1':K.embryo s c=false:=by simpa using h1
  have E:Hid (O9 K s c=⟨K,0,7⟩):=by unfold O9;simp [h1',Hid]
  clear h1
  go_enter Tryd.func51,Tryd.ntmps51
  go_wp2_with fail
  refine (B2 (HR.out.alloc _) hc).mono ?_;rintro e w1 ⟨rfl,rfl⟩
  go_wp2
  go_ret2
  exact Ends.mk E (HR.out.alloc _) ((Keeps.refl w).alloc _)
end
end Go.Proofs.YtcgabodkegcpgaaDoor
